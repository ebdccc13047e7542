/-
  Valid lists of bindings: a map from texts to rows of sets of scopes, of the call's own.
-/
import Derived.Test.YtndckeodpoommaaAreF
import Derived.Test.YtndckeodpoommaaSSame
import Derived.Maps.Own
import Derived.Maps.Keyed
import Derived.Maps.Views
import Derived.Deep.AppendLies
namespace Go.Proofs.Ytndckeodpoommaa
open Go.RowKit Go.Maps Go.WideMaps Go.ChangeMaps

theorem toL_beq (a b : ByteArray) : (a.toList == b.toList) = decide (a = b) := by
  by_cases h : a = b
  · subst h; simp
  · have : (a.toList == b.toList) = false := by
      cases hq : (a.toList == b.toList)
      · rfl
      · exact absurd (toList_inj hq) h
    rw [this]; simp [h]

namespace Bd
/-- A binding's scopes, where they lie. -/
def iv (b : Bd) : Iv := ⟨b.sa, b.sc, b.s⟩
/-- The sets of scopes of the bindings of this text. -/
def grp (l : List Bd) (t : ByteArray) : List Iv := (l.filter fun b => decide (b.t = t)).map iv
theorem grp_has (l : List Bd) (b : Bd) : Iv.has (grp l b.t) b.s = clash l b := by
  unfold Iv.has grp clash
  rw [List.any_map, List.any_filter]
  congr 1
  funext x
  simp only [Function.comp, iv, toL_beq]
theorem grp_in {w : World} {B : Nat} {l : List Bd} (h : ∀ x ∈ l, x.In w B) (t : ByteArray) : ∀ x ∈ grp l t, x.In w B := by
  intro x hx
  obtain ⟨b, hb, rfl⟩ := List.mem_map.1 hx
  exact (h b (List.mem_filter.1 hb).1).2
theorem grp_len (l : List Bd) (t : ByteArray) : (grp l t).length ≤ l.length := by
  unfold grp
  rw [List.length_map]
  exact List.length_filter_le _ _
end Bd
/-- A function changed at a place. -/
def updAt {α : Type} (f : ByteArray → α) (t : ByteArray) (x : α) : ByteArray → α := fun u => if u = t then x else f u
theorem updAt_same {α : Type} (f : ByteArray → α) (t : ByteArray) (x : α) : updAt f t x t = x := by simp [updAt]
theorem updAt_other {α : Type} (f : ByteArray → α) {t u : ByteArray} (x : α) (h : u ≠ t) : updAt f t x u = f u := by simp [updAt, h]
theorem Bd.grp_step {l : List Bd} {j : Nat} (h : j < l.length) : Bd.grp (l.take (j + 1)) = updAt (Bd.grp (l.take j)) l[j].t (Bd.grp (l.take j) l[j].t ++ [l[j].iv]) := by
  funext u
  unfold updAt
  split
  · rename_i e
    subst e
    unfold Bd.grp
    rw [List.take_succ_eq_append_getElem h, List.filter_append]
    simp
  · rename_i e
    unfold Bd.grp
    rw [List.take_succ_eq_append_getElem h, List.filter_append]
    simp [Ne.symm e]

/-- What a map's element reads as: itself. -/
def readV (v : Value) : Option (DataW Value × List MemPlace) := some (.held v, [])
def nilV : Value := .slice none 0 0
/-- Block M is a map; at each text lies a row of the sets of this text; the rows lie above it, no two in one block. -/
structure Grp (w : World) (M n : Nat) (G : ByteArray → List Iv) (V : ByteArray → Value) (D : DataW Value) : Prop where
  map : w.ownsMap Try.prog 9 readV M n D
  isMap : IsMap D
  at_ : ∀ t : ByteArray, D.atKey (.string t.data.toList) (.held nilV) = .held (V t)
  row : ∀ t, w.ownsRow (M + 1) 28 1 (V t) (G t).length (Iv.E.cellsL (G t))
  apart : ∀ t u g, t ≠ u → (V t).ownBlock = some g → (V u).ownBlock ≠ some g

theorem keyedS : Keyed Try.prog 9 := string_keyed Try.underlying9
theorem zeroI (w : World) : (zeroValue 160).run Try.prog w = .ok nilV w := by kernel_rfl

theorem Grp.new (w : World) : Grp (w.alloc (.map #[] 0)) w.heap.size 0 (Bd.grp []) (fun _ => nilV) (.map []) :=
  ⟨World.ownsMap_made _ _ _ _, isMap_empty, fun _ => rfl, fun _ => ⟨rfl, .inl ⟨rfl, rfl⟩⟩, fun _ _ _ _ h => by simp [nilV, Value.ownBlock] at h⟩
theorem Grp.below {w w' : World} {M n : Nat} {G V D} (h : Grp w M n G V D) (hb : Below w.heap.size w w') : Grp w' M n G V D := by
  have hg : w.grownBy w' none := ⟨hb.os, hb.tape, hb.output, hb.size, fun k hk _ => hb.block k hk⟩
  exact ⟨h.map.kept hg (by simp), h.isMap, h.at_, fun t => (h.row t).kept hg (by cases (V t).ownBlock <;> simp), h.apart⟩
theorem Grp.drew {w : World} {M n : Nat} {G V D} (h : Grp w M n G V D) : Grp w.drew M n G V D := ⟨h.map, h.isMap, h.at_, fun t => (h.row t).drew, h.apart⟩
theorem Grp.alloc {w : World} {M n : Nat} {G V D} (h : Grp w M n G V D) (o : Obj) : Grp (w.alloc o) M n G V D := h.below ((Below.refl _ _).alloc (Nat.le_refl _) _)
theorem Grp.form {w : World} {M n : Nat} {G V D} (h : Grp w M n G V D) (t : ByteArray) : ∃ A c, V t = .slice A (G t).length c := by
  obtain ⟨h1, h2 | ⟨g, cap, cur, e, _⟩⟩ := h.row t
  · exact ⟨none, 0, by rw [h2.1, h2.2]⟩
  · exact ⟨_, _, e⟩
theorem Grp.lin {w : World} {M n B : Nat} {G V D} (h : Grp w M n G V D) (t : ByteArray) {A : Option Addr} {c : Nat} (hv : V t = .slice A (G t).length c) (hB : w.heap.size ≤ B) (hin : ∀ x ∈ G t, x.In w B) : Iv.E.LIn w B A c (G t) := by
  obtain ⟨h1, h2 | ⟨g, cap, cur, e, hg, hb, hn, hc, hs, ht⟩⟩ := h.row t
  · obtain ⟨e1, e2⟩ := h2
    rw [hv] at e1
    injection e1 with ea _ ec
    subst ea ec
    have : G t = [] := List.length_eq_zero_iff.1 e2
    exact ⟨⟨by omega, by omega⟩, fun _ => rfl, fun hne => absurd this hne, hin⟩
  · have hcells := (h.row t).cells (g := g) (by rw [e]; rfl)
    rw [hv] at e
    injection e with ea _ ec
    subst ea ec
    refine ⟨⟨hn, by unfold maxLen at hc; omega⟩, fun hh => by simp at hh, fun _ => ⟨g, 0, rfl, ?_, fun j u hu => ?_⟩, hin⟩
    · have := (Array.getElem?_eq_some_iff.1 hb).1; omega
    · have := hcells j u hu
      have hadd : (⟨g, 0, none⟩ : Addr).add j = ⟨g, j, none⟩ := by unfold Addr.add; split <;> simp_all
      rw [hadd] at this
      simpa using this
end Go.Proofs.Ytndckeodpoommaa
