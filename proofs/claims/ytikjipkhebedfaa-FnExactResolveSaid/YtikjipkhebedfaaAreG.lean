/-
  Valid lists of bindings: a map from texts to rows of sets of scopes, of the call's own.
-/
import Derived.Test.YtikjipkhebedfaaAreF
import Derived.Test.YtikjipkhebedfaaSSame
import Derived.Maps.Own
import Derived.Maps.Keyed
import Derived.Maps.Views
import Derived.Deep.AppendLies
namespace Go.Proofs.Ytikjipkhebedfaa
open Go.RowKit Go.Maps Go.WideMaps Go.ChangeMaps

theorem toL_beq (a b : ByteArray) : (a.toList == b.toList) = decide (a = b) := by
  by_cases h : a = b
  · subst h; simp
  · have : (a.toList == b.toList) = false := by
      cases hq : (a.toList == b.toList)
      · rfl
      · exact absurd (toList_inj hq) h
    rw [this]; simp [h]

namespace Bd
/-- A binding's scopes, where they lie. -/
def iv (b : Bd) : Iv := ⟨b.sa, b.sc, b.s⟩
/-- The sets of scopes of the bindings of this text. -/
def grp (l : List Bd) (t : ByteArray) : List Iv := (l.filter fun b => decide (b.t = t)).map iv
theorem grp_has (l : List Bd) (b : Bd) : Iv.has (grp l b.t) b.s = clash l b := by
  unfold Iv.has grp clash
  rw [List.any_map, List.any_filter]
  congr 1
  funext x
  simp only [Function.comp, iv, toL_beq]
theorem grp_in {w : World} {B : Nat} {l : List Bd} (h : ∀ x ∈ l, x.In w B) (t : ByteArray) : ∀ x ∈ grp l t, x.In w B := by
  intro x hx
  obtain ⟨b, hb, rfl⟩ := List.mem_map.1 hx
  exact (h b (List.mem_filter.1 hb).1).2
theorem grp_len (l : List Bd) (t : ByteArray) : (grp l t).length ≤ l.length := by
  unfold grp
  rw [List.length_map]
  exact List.length_filter_le _ _
end Bd
/-- A function changed at a place. -/
def updAt {α : Type} (f : ByteArray → α) (t : ByteArray) (x : α) : ByteArray → α := fun u => if u = t then x else f u
theorem updAt_same {α : Type} (f : ByteArray → α) (t : ByteArray) (x : α) : updAt f t x t = x := by simp [updAt]
theorem updAt_other {α : Type} (f : ByteArray → α) {t u : ByteArray} (x : α) (h : u ≠ t) : updAt f t x u = f u := by simp [updAt, h]
theorem Bd.grp_step {l : List Bd} {j : Nat} (h : j < l.length) : Bd.grp (l.take (j + 1)) = updAt (Bd.grp (l.take j)) l[j].t (Bd.grp (l.take j) l[j].t ++ [l[j].iv]) := by
  funext u
  unfold updAt
  split
  · rename_i e
    subst e
    unfold Bd.grp
    rw [List.take_succ_eq_append_getElem h, List.filter_append]
    simp
  · rename_i e
    unfold Bd.grp
    rw [List.take_succ_eq_append_getElem h, List.filter_append]
    simp [Ne.symm e]

/-- What a map's element reads as: itself. -/
def readV (v : Value) : Option (DataW Value × List MemPlace) := some (.held v, [])
def nilV : Value := .slice none 0 0
/-- Block M is a map; at each text lies a row of the sets of this text; the rows lie above it, no two in one block. -/
structure Grp (w : World) (M n : Nat) (G : ByteArray → List Iv) (V : ByteArray → Value) (D : DataW Value) : Prop where
  map : w.ownsMap Try.prog 9 readV M n D
  isMap : IsMap D
  at_ : ∀ t : ByteArray, D.atKey (.string t.data.toList) (.held nilV) = .held (V t)
  row : ∀ t, w.ownsRow (M + 1) 34 1 (V t) (G t).length (Iv.E.cellsL (G t))
  apart : ∀ t u g, t ≠ u → (V t).ownBlock = some g → (V u).ownBlock ≠ some g

theorem keyedS : Keyed Try.prog 9 := string_keyed Try.underlying9
theorem zeroI (w : World) : (zeroValue 148).run Try.prog w = .ok nilV w := by kernel_rfl

theorem Grp.new (w : World) : Grp (w.alloc (.map #[] 0)) w.heap.size 0 (Bd.grp []) (fun _ => nilV) (.map []) :=
  ⟨World.ownsMap_made _ _ _ _, isMap_empty, fun _ => rfl, fun _ => ⟨rfl, .inl ⟨rfl, rfl⟩⟩, fun _ _ _ _ h => by simp [nilV, Value.ownBlock] at h⟩
theorem Grp.below {w w' : World} {M n : Nat} {G V D} (h : Grp w M n G V D) (hb : Below w.heap.size w w') : Grp w' M n G V D := by
  have hg : w.grownBy w' none := ⟨hb.os, hb.tape, hb.output, hb.size, fun k hk _ => hb.block k hk⟩
  exact ⟨h.map.kept hg (by simp), h.isMap, h.at_, fun t => (h.row t).kept hg (by cases (V t).ownBlock <;> simp), h.apart⟩
theorem Grp.drew {w : World} {M n : Nat} {G V D} (h : Grp w M n G V D) : Grp w.drew M n G V D := ⟨h.map, h.isMap, h.at_, fun t => (h.row t).drew, h.apart⟩
theorem Grp.alloc {w : World} {M n : Nat} {G V D} (h : Grp w M n G V D) (o : Obj) : Grp (w.alloc o) M n G V D := h.below ((Below.refl _ _).alloc (Nat.le_refl _) _)
theorem Grp.look {w : World} {M n : Nat} {G V D} (h : Grp w M n G V D) (t : ByteArray) (ht : t.size ≤ maxLen) : (Instr.lookup 146 (.map (some M)) (.string t) false).run Try.prog w = .ok (V t) w := by
  obtain ⟨v, ps, hrun, hv⟩ := h.map.lookup keyedS Try.underlying146 (zeroI w) (zd := .held nilV) (zp := []) rfl (keyOf_string_mk Try.underlying9 ht)
  rw [h.at_ t] at hv
  simp only [readV, Option.some.injEq, Prod.mk.injEq, DataW.held.injEq] at hv
  rw [hrun, hv.1]
theorem Grp.form {w : World} {M n : Nat} {G V D} (h : Grp w M n G V D) (t : ByteArray) : ∃ A c, V t = .slice A (G t).length c := by
  obtain ⟨h1, h2 | ⟨g, cap, cur, e, _⟩⟩ := h.row t
  · exact ⟨none, 0, by rw [h2.1, h2.2]⟩
  · exact ⟨_, _, e⟩
theorem Grp.lin {w : World} {M n B : Nat} {G V D} (h : Grp w M n G V D) (t : ByteArray) {A : Option Addr} {c : Nat} (hv : V t = .slice A (G t).length c) (hB : w.heap.size ≤ B) (hin : ∀ x ∈ G t, x.In w B) : Iv.E.LIn w B A c (G t) := by
  obtain ⟨h1, h2 | ⟨g, cap, cur, e, hg, hb, hn, hc, hs, ht⟩⟩ := h.row t
  · obtain ⟨e1, e2⟩ := h2
    rw [hv] at e1
    injection e1 with ea _ ec
    subst ea ec
    have : G t = [] := List.length_eq_zero_iff.1 e2
    exact ⟨⟨by omega, by omega⟩, fun _ => rfl, fun hne => absurd this hne, hin⟩
  · have hcells := (h.row t).cells (g := g) (by rw [e]; rfl)
    rw [hv] at e
    injection e with ea _ ec
    subst ea ec
    refine ⟨⟨hn, by unfold maxLen at hc; omega⟩, fun hh => by simp at hh, fun _ => ⟨g, 0, rfl, ?_, fun j u hu => ?_⟩, hin⟩
    · have := (Array.getElem?_eq_some_iff.1 hb).1; omega
    · have := hcells j u hu
      have hadd : (⟨g, 0, none⟩ : Addr).add j = ⟨g, j, none⟩ := by unfold Addr.add; split <;> simp_all
      rw [hadd] at this
      simpa using this
theorem Grp.put {w w1 : World} {M n : Nat} {G V D} (h : Grp w M n G V D) (t : ByteArray) (ht : t.size ≤ maxLen) (hn : n < maxLen) {o : Obj} {x : Iv} {g cap : Nat}
    (hown : w1.ownsRow (M + 1) 34 1 (.slice (some ⟨g, 0, none⟩) ((G t).length + 1) cap) ((G t).length + 1) (Iv.E.cellsL (G t) ++ x.cells))
    (hgr : (w.alloc o).drew.grownBy w1 (V t).ownBlock) (hat : (V t).ownBlock = some g ∨ g = w.heap.size + 1) :
    ∃ w2, (Instr.mapUpdate 146 (.map (some M)) (.string t) (.slice (some ⟨g, 0, none⟩) ((G t).length + 1) cap)).run Try.prog w1 = .ok () w2 ∧ Below M w w2 ∧
      ∃ V' D', Grp w2 M (n + 1) (updAt G t (G t ++ [x])) V' D' := by
  have hM := h.map.lt
  have hneM : some M ≠ (V t).ownBlock := fun e => by have := (h.row t).lt M e.symm; omega
  have ha : w.grownBy (w.alloc o) (V t).ownBlock := World.grownBy_alloc _ _ _
  have hgr0 : w.drew.grownBy (w.alloc o).drew (V t).ownBlock := ⟨ha.os, ha.tape, ha.output, ha.size, ha.block⟩
  have hgr1 := hgr0.trans hgr
  have hm1 := h.map.drew.kept hgr1 hneM
  obtain ⟨w2, hrun, hm2, hg2⟩ := hm1.update keyedS Try.underlying146 hn (keyOf_string_mk Try.underlying9 ht) (val := .slice (some ⟨g, 0, none⟩) ((G t).length + 1) cap) (d := .held (.slice (some ⟨g, 0, none⟩) ((G t).length + 1) cap)) (ps := []) rfl
  have hMg : M < g := by
    have := hown.lt g rfl
    omega
  refine ⟨w2, hrun, ⟨?_, ?_, ?_, ?_, fun k hk => ?_⟩, updAt V t (.slice (some ⟨g, 0, none⟩) ((G t).length + 1) cap), _, ⟨hm2, h.isMap.put _ _, fun u => ?_, fun u => ?_, fun u v g' huv hu hv => ?_⟩⟩
  · exact hg2.os.trans hgr1.os
  · exact hg2.tape.trans hgr1.tape
  · exact hg2.output.trans hgr1.output
  · exact Nat.le_trans hgr1.size hg2.size
  · have h1 : w1.heap.size ≥ w.heap.size := hgr1.size
    refine (hg2.block k (by omega) (by simp; omega)).trans (hgr1.block k (show k < w.heap.size by omega) fun e => ?_)
    have := (h.row t).lt k e.symm
    omega
  · by_cases e : u = t
    · subst e
      rw [updAt_same]
      exact atKey_put_same h.isMap (show WideAt.IsKeyLit (Lit.string u.data.toList) from True.intro) _ _
    · rw [updAt_other _ _ e]
      have hne : Lit.string u.data.toList ≠ Lit.string t.data.toList := fun hh => e (Go.WideShapes.bytes_inj (Lit.string.inj hh))
      exact (atKey_put_other hne _ _).trans (h.at_ u)
  · by_cases e : u = t
    · subst e
      rw [updAt_same, updAt_same, List.length_append, Elem.cellsL_append, Elem.cellsL_one]
      exact hown.kept hg2 (.inr (by simp [Value.ownBlock]; omega))
    · rw [updAt_other _ _ e, updAt_other _ _ e]
      have k1 : w1.ownsRow (M + 1) 34 1 (V u) (G u).length (Iv.E.cellsL (G u)) := (h.row u).drew.kept hgr1 (by
        cases hq : (V u).ownBlock with
        | none => exact .inl rfl
        | some q => exact .inr fun hh => h.apart u t q e hq hh.symm)
      refine k1.kept hg2 (.inr fun hh => ?_)
      have := (h.row u).lt M hh
      omega
  · by_cases eu : u = t
    · subst eu
      rw [updAt_same] at hu
      rw [updAt_other _ _ (Ne.symm huv)] at hv
      simp only [Value.ownBlock, Option.some.injEq] at hu
      subst hu
      rcases hat with e | e
      · exact h.apart u v g huv e hv
      · have := (h.row v).lt g hv
        omega
    · rw [updAt_other _ _ eu] at hu
      by_cases ev : v = t
      · subst ev
        rw [updAt_same] at hv
        simp only [Value.ownBlock, Option.some.injEq] at hv
        subst hv
        rcases hat with e | e
        · exact h.apart u v g huv hu e
        · have := (h.row u).lt g hu
          omega
      · rw [updAt_other _ _ ev] at hv
        exact h.apart u v g' huv hu hv
end Go.Proofs.Ytikjipkhebedfaa
