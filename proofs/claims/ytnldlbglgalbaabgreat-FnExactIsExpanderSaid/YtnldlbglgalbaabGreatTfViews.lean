/-
  Maps from texts to rows of indices, of the call's own (written by gen/tfv.py).
-/
import Derived.Test.YtnldlbglgalbaabGreatGBnd
import Derived.Test.YtnldlbglgalbaabGreatTfModel
import Derived.Test.YtnldlbglgalbaabGreatCopy
import Derived.Deep.RegionLaw
import Derived.Deep.RegionHeld3
import Derived.Deep.DeepCutAuto
import Derived.Test.YtnldlbglgalbaabGreatNear
import Derived.Test.YtnldlbglgalbaabGreatGElT
namespace Go.Proofs.YtnldlbglgalbaabGreat
open Go.RowKit Go.Maps Go.WideMaps Go.ChangeMaps

namespace Jx
def cells (x : Int) : List Value := [.int .i64 x]
/-- Ints as elements. -/
def E : Elem Int where
  cells := cells
  n := 1
  pos := by decide
  len := fun _ => rfl
  one := by
    intro b u hu
    simp only [cells, List.mem_cons, List.not_mem_nil, or_false] at hu
    subst hu
    rfl
  In := fun _ _ _ => True
  blks := fun _ => []
  lt := fun _ _ hb => by cases hb
  keepB := fun _ _ => trivial
  more := fun _ _ => trivial
theorem at_ {w : World} {B : Nat} {A : Option Addr} {c : Nat} {l : List Int} (h : E.LIn w B A c l) {i : Nat} {x : Int} (hi : l[i]? = some x) :
    ∃ b o : Nat, A = some ⟨b, o, none⟩ ∧ b < B ∧ w.cell? ⟨b, o + i, none⟩ = some (.int .i64 x) := by
  obtain ⟨b, o, e, hb, hc, _⟩ := h.at_ hi
  have h0 := hc 0 _ rfl
  refine ⟨b, o, e, hb, ?_⟩
  simpa [E] using h0
end Jx
/-- What a map's element reads as: itself. -/
def readJ (v : Value) : Option (DataW Value × List MemPlace) := some (.held v, [])
def nilJ : Value := .slice none 0 0
/-- Block M is a map; at each text lies a row of the sets of this text; the rows lie above it, no two in one block. -/
structure Gri (w : World) (M n : Nat) (G : ByteArray → List Int) (V : ByteArray → Value) (D : DataW Value) : Prop where
  map : w.ownsMap Tryz.prog 9 readJ M n D
  isMap : IsMap D
  at_ : ∀ t : ByteArray, D.atKey (.string t.data.toList) (.held nilJ) = .held (V t)
  row : ∀ t, w.ownsRow (M + 1) 3 1 (V t) (G t).length (Jx.E.cellsL (G t))
  apart : ∀ t u g, t ≠ u → (V t).ownBlock = some g → (V u).ownBlock ≠ some g

theorem zeroJ (w : World) : (zeroValue 33).run Tryz.prog w = .ok nilJ w := by kernel_rfl

theorem Gri.new (w : World) : Gri (w.alloc (.map #[] 0)) w.heap.size 0 (fun _ => []) (fun _ => nilJ) (.map []) :=
  ⟨World.ownsMap_made _ _ _ _, isMap_empty, fun _ => rfl, fun _ => ⟨rfl, .inl ⟨rfl, rfl⟩⟩, fun _ _ _ _ h => by simp [nilJ, Value.ownBlock] at h⟩
theorem Gri.below {w w' : World} {M n : Nat} {G V D} (h : Gri w M n G V D) (hb : Below w.heap.size w w') : Gri w' M n G V D := by
  have hg : w.grownBy w' none := ⟨hb.os, hb.tape, hb.output, hb.size, fun k hk _ => hb.block k hk⟩
  exact ⟨h.map.kept hg (by simp), h.isMap, h.at_, fun t => (h.row t).kept hg (by cases (V t).ownBlock <;> simp), h.apart⟩
theorem Gri.drew {w : World} {M n : Nat} {G V D} (h : Gri w M n G V D) : Gri w.drew M n G V D := ⟨h.map, h.isMap, h.at_, fun t => (h.row t).drew, h.apart⟩
theorem Gri.alloc {w : World} {M n : Nat} {G V D} (h : Gri w M n G V D) (o : Obj) : Gri (w.alloc o) M n G V D := h.below ((Below.refl _ _).alloc (Nat.le_refl _) _)
theorem Gri.look {w : World} {M n : Nat} {G V D} (h : Gri w M n G V D) (t : ByteArray) (ht : t.size ≤ maxLen) : (Instr.lookup 132 (.map (some M)) (.string t) false).run Tryz.prog w = .ok (V t) w := by
  obtain ⟨v, ps, hrun, hv⟩ := h.map.lookup keyedS Tryz.underlying132 (zeroJ w) (zd := .held nilJ) (zp := []) rfl (keyOf_string_mk Tryz.underlying9 ht)
  rw [h.at_ t] at hv
  simp only [readJ, Option.some.injEq, Prod.mk.injEq, DataW.held.injEq] at hv
  rw [hrun, hv.1]
theorem Gri.form {w : World} {M n : Nat} {G V D} (h : Gri w M n G V D) (t : ByteArray) : ∃ A c, V t = .slice A (G t).length c := by
  obtain ⟨h1, h2 | ⟨g, cap, cur, e, _⟩⟩ := h.row t
  · exact ⟨none, 0, by rw [h2.1, h2.2]⟩
  · exact ⟨_, _, e⟩
theorem Gri.lin {w : World} {M n B : Nat} {G V D} (h : Gri w M n G V D) (t : ByteArray) {A : Option Addr} {c : Nat} (hv : V t = .slice A (G t).length c) (hB : w.heap.size ≤ B) : Jx.E.LIn w B A c (G t) := by
  obtain ⟨h1, h2 | ⟨g, cap, cur, e, hg, hb, hn, hc, hs, ht⟩⟩ := h.row t
  · obtain ⟨e1, e2⟩ := h2
    rw [hv] at e1
    injection e1 with ea _ ec
    subst ea ec
    have : G t = [] := List.length_eq_zero_iff.1 e2
    exact ⟨⟨by omega, by omega⟩, fun _ => rfl, fun hne => absurd this hne, fun _ _ => trivial⟩
  · have hcells := (h.row t).cells (g := g) (by rw [e]; rfl)
    rw [hv] at e
    injection e with ea _ ec
    subst ea ec
    refine ⟨⟨hn, by unfold maxLen at hc; omega⟩, fun hh => by simp at hh, fun _ => ⟨g, 0, rfl, ?_, fun j u hu => ?_⟩, fun _ _ => trivial⟩
    · have := (Array.getElem?_eq_some_iff.1 hb).1; omega
    · have := hcells j u hu
      have hadd : (⟨g, 0, none⟩ : Addr).add j = ⟨g, j, none⟩ := by unfold Addr.add; split <;> simp_all
      rw [hadd] at this
      simpa using this
theorem Gri.put {w w1 : World} {M n : Nat} {G V D} (h : Gri w M n G V D) (t : ByteArray) (ht : t.size ≤ maxLen) (hn : n < maxLen) {o : Obj} {x : Int} {g cap : Nat}
    (hown : w1.ownsRow (M + 1) 3 1 (.slice (some ⟨g, 0, none⟩) ((G t).length + 1) cap) ((G t).length + 1) (Jx.E.cellsL (G t) ++ Jx.cells x))
    (hgr : (w.alloc o).drew.grownBy w1 (V t).ownBlock) (hat : (V t).ownBlock = some g ∨ g = w.heap.size + 1) :
    ∃ w2, (Instr.mapUpdate 132 (.map (some M)) (.string t) (.slice (some ⟨g, 0, none⟩) ((G t).length + 1) cap)).run Tryz.prog w1 = .ok () w2 ∧ Below M w w2 ∧
      ∃ V' D', Gri w2 M (n + 1) (updAt G t (G t ++ [x])) V' D' := by
  have hM := h.map.lt
  have hneM : some M ≠ (V t).ownBlock := fun e => by have := (h.row t).lt M e.symm; omega
  have ha : w.grownBy (w.alloc o) (V t).ownBlock := World.grownBy_alloc _ _ _
  have hgr0 : w.drew.grownBy (w.alloc o).drew (V t).ownBlock := ⟨ha.os, ha.tape, ha.output, ha.size, ha.block⟩
  have hgr1 := hgr0.trans hgr
  have hm1 := h.map.drew.kept hgr1 hneM
  obtain ⟨w2, hrun, hm2, hg2⟩ := hm1.update keyedS Tryz.underlying132 hn (keyOf_string_mk Tryz.underlying9 ht) (val := .slice (some ⟨g, 0, none⟩) ((G t).length + 1) cap) (d := .held (.slice (some ⟨g, 0, none⟩) ((G t).length + 1) cap)) (ps := []) rfl
  have hMg : M < g := by
    have := hown.lt g rfl
    omega
  refine ⟨w2, hrun, ⟨?_, ?_, ?_, ?_, fun k hk => ?_⟩, updAt V t (.slice (some ⟨g, 0, none⟩) ((G t).length + 1) cap), _, ⟨hm2, h.isMap.put _ _, fun u => ?_, fun u => ?_, fun u v g' huv hu hv => ?_⟩⟩
  · exact hg2.os.trans hgr1.os
  · exact hg2.tape.trans hgr1.tape
  · exact hg2.output.trans hgr1.output
  · exact Nat.le_trans hgr1.size hg2.size
  · have h1 : w1.heap.size ≥ w.heap.size := hgr1.size
    refine (hg2.block k (by omega) (by simp; omega)).trans (hgr1.block k (show k < w.heap.size by omega) fun e => ?_)
    have := (h.row t).lt k e.symm
    omega
  · by_cases e : u = t
    · subst e
      rw [updAt_same]
      exact atKey_put_same h.isMap (show WideAt.IsKeyLit (Lit.string u.data.toList) from True.intro) _ _
    · rw [updAt_other _ _ e]
      have hne : Lit.string u.data.toList ≠ Lit.string t.data.toList := fun hh => e (Go.WideShapes.bytes_inj (Lit.string.inj hh))
      exact (atKey_put_other hne _ _).trans (h.at_ u)
  · by_cases e : u = t
    · subst e
      rw [updAt_same, updAt_same, List.length_append, Elem.cellsL_append, Elem.cellsL_one]
      exact hown.kept hg2 (.inr (by simp [Value.ownBlock]; omega))
    · rw [updAt_other _ _ e, updAt_other _ _ e]
      have k1 : w1.ownsRow (M + 1) 3 1 (V u) (G u).length (Jx.E.cellsL (G u)) := (h.row u).drew.kept hgr1 (by
        cases hq : (V u).ownBlock with
        | none => exact .inl rfl
        | some q => exact .inr fun hh => h.apart u t q e hq hh.symm)
      refine k1.kept hg2 (.inr fun hh => ?_)
      have := (h.row u).lt M hh
      omega
  · by_cases eu : u = t
    · subst eu
      rw [updAt_same] at hu
      rw [updAt_other _ _ (Ne.symm huv)] at hv
      simp only [Value.ownBlock, Option.some.injEq] at hu
      subst hu
      rcases hat with e | e
      · exact h.apart u v g huv e hv
      · have := (h.row v).lt g hv
        omega
    · rw [updAt_other _ _ eu] at hu
      by_cases ev : v = t
      · subst ev
        rw [updAt_same] at hv
        simp only [Value.ownBlock, Option.some.injEq] at hv
        subst hv
        rcases hat with e | e
        · exact h.apart u v g huv hu e
        · have := (h.row u).lt g hu
          omega
      · rw [updAt_other _ _ ev] at hv
        exact h.apart u v g' huv hu hv
end Go.Proofs.YtnldlbglgalbaabGreat

namespace Go.Proofs.YtnldlbglgalbaabGreat
open Go.RowKit

/-- A pointer to a capture, and what lies there. -/
structure Vw where
  b : Nat
  o : Nat
  x : Tr Ka
namespace Vw
def cells (v : Vw) : List Value := [.pointer (some ⟨v.b, v.o, none⟩)]
def In (w : World) (B : Nat) (v : Vw) : Prop := (v.b < B ∧ ∀ j u, (Ka.E.cells v.x)[j]? = some u → w.cell? ⟨v.b, v.o + j, none⟩ = some u) ∧ Ka.E.In w B v.x
def blks (v : Vw) : List Nat := v.b :: Ka.E.blks v.x
def E : Elem Vw where
  cells := cells
  n := 1
  pos := by decide
  len := fun _ => rfl
  one := by
    intro b u hu
    simp only [cells, List.mem_cons, List.not_mem_nil, or_false] at hu
    subst hu
    rfl
  In := In
  blks := blks
  lt := by
    intro w B v h b hb
    rcases List.mem_cons.1 hb with rfl | hb
    · exact h.1.1
    · exact Elem.In.blk_lt h.2 b hb
  keepB := by
    intro w w' B v h hk
    exact ⟨⟨h.1.1, fun j u hu => (World.cell?_of_block (a := ⟨v.b, v.o + j, none⟩) (hk v.b (List.mem_cons_self ..))).trans (h.1.2 j u hu)⟩, Elem.In.keepB h.2 fun k hm => hk k (List.mem_cons_of_mem _ hm)⟩
  more := fun h hB => ⟨⟨Nat.lt_of_lt_of_le h.1.1 hB, h.1.2⟩, Elem.In.more h.2 hB⟩
theorem at_ {w : World} {B : Nat} {A : Option Addr} {c : Nat} {l : List Vw} (h : E.LIn w B A c l) {i : Nat} {v : Vw} (hi : l[i]? = some v) :
    ∃ b o : Nat, A = some ⟨b, o, none⟩ ∧ b < B ∧ w.cell? ⟨b, o + i, none⟩ = some (.pointer (some ⟨v.b, v.o, none⟩)) ∧ In w B v := by
  obtain ⟨b, o, e, hb, hc, hx⟩ := h.at_ hi
  have h0 := hc 0 _ rfl
  refine ⟨b, o, e, hb, ?_, hx⟩
  simpa [E] using h0
/-- The cells of the capture. -/
theorem In.c {w : World} {B : Nat} {v : Vw} (h : In w B v) : w.cell? ⟨v.b, v.o, none⟩ = some (.int .i64 v.x.a.N.k) ∧ w.cell? ⟨v.b, v.o + 1, none⟩ = some (.int .i64 v.x.a.N.n) ∧ w.cell? ⟨v.b, v.o + 2, none⟩ = some (.string v.x.a.N.t) ∧ w.cell? ⟨v.b, v.o + 3, none⟩ = some (.slice v.x.a.N.sa v.x.a.N.s.length v.x.a.N.sc) ∧ w.cell? ⟨v.b, v.o + 4, none⟩ = some (.slice v.x.a.N.A v.x.a.N.l.length v.x.a.N.c) ∧ w.cell? ⟨v.b, v.o + 5, none⟩ = some (.int .i64 v.x.a.dep) ∧ w.cell? ⟨v.b, v.o + 6, none⟩ = some (.int .i64 v.x.a.F.k) ∧ w.cell? ⟨v.b, v.o + 7, none⟩ = some (.int .i64 v.x.a.F.n) ∧ w.cell? ⟨v.b, v.o + 8, none⟩ = some (.string v.x.a.F.t) ∧ w.cell? ⟨v.b, v.o + 9, none⟩ = some (.slice v.x.a.F.sa v.x.a.F.s.length v.x.a.F.sc) ∧ w.cell? ⟨v.b, v.o + 10, none⟩ = some (.slice v.x.a.F.A v.x.a.F.l.length v.x.a.F.c) ∧ w.cell? ⟨v.b, v.o + 11, none⟩ = some (.slice v.x.A v.x.l.length v.x.c) := ⟨h.1.2 0 _ rfl, h.1.2 1 _ rfl, h.1.2 2 _ rfl, h.1.2 3 _ rfl, h.1.2 4 _ rfl, h.1.2 5 _ rfl, h.1.2 6 _ rfl, h.1.2 7 _ rfl, h.1.2 8 _ rfl, h.1.2 9 _ rfl, h.1.2 10 _ rfl, h.1.2 11 _ rfl⟩
/-- Pointers into a row. -/
def of (b o : Nat) (l : List (Tr Ka)) : List Vw := l.mapIdx fun j x => ⟨b, o + j * 12, x⟩
theorem of_len (b o : Nat) (l : List (Tr Ka)) : (of b o l).length = l.length := by simp [of]
theorem of_get (b o : Nat) (l : List (Tr Ka)) {j : Nat} (h : j < l.length) : (of b o l)[j]'(by rw [of_len]; exact h) = ⟨b, o + j * 12, l[j]⟩ := by simp [of]
theorem of_map (b o : Nat) (l : List (Tr Ka)) : (of b o l).map (·.x) = l := by
  apply List.ext_getElem
  · simp [of]
  · intro i h1 h2
    simp [of]
/-- At which places names of this text are. -/
def idx : Nat → List Vw → ByteArray → List Int
  | _, [], _ => []
  | k, v :: r, t => (if v.x.a.N.t = t then [(k : Int)] else []) ++ idx (k + 1) r t
theorem idx_snoc : ∀ (k : Nat) (a : List Vw) (v : Vw) (t : ByteArray), idx k (a ++ [v]) t = idx k a t ++ (if v.x.a.N.t = t then [((k + a.length : Nat) : Int)] else [])
  | k, [], v, t => by simp [idx]
  | k, x :: r, v, t => by
    rw [List.cons_append, idx, idx_snoc (k + 1) r v t, idx, List.append_assoc, List.length_cons, show k + 1 + r.length = k + (r.length + 1) by omega]
theorem idx_step {l : List Vw} {j : Nat} (h : j < l.length) : idx 0 (l.take (j + 1)) = updAt (idx 0 (l.take j)) l[j].x.a.N.t (idx 0 (l.take j) l[j].x.a.N.t ++ [(j : Int)]) := by
  funext u
  rw [List.take_succ_eq_append_getElem h, idx_snoc]
  unfold updAt
  rw [List.length_take, Nat.min_eq_left (by omega)]
  by_cases e : u = l[j].x.a.N.t
  · subst e; simp
  · rw [if_neg e, if_neg (Ne.symm e)]; simp
theorem idx_len : ∀ (k : Nat) (l : List Vw) (t : ByteArray), (idx k l t).length ≤ l.length
  | _, [], _ => by simp [idx]
  | k, v :: r, t => by
    rw [idx, List.length_append, List.length_cons]
    have := idx_len (k + 1) r t
    split <;> simp <;> omega
theorem idx_mem : ∀ (k : Nat) (l : List Vw) (t : ByteArray) (i : Int), i ∈ idx k l t → ∃ j : Nat, i = ((k + j : Nat) : Int) ∧ ∃ h : j < l.length, l[j].x.a.N.t = t
  | _, [], _, _, h => by simp [idx] at h
  | k, v :: r, t, i, h => by
    rw [idx, List.mem_append] at h
    rcases h with h | h
    · split at h
      · rename_i e
        simp at h
        exact ⟨0, by simpa using h, by simp, by simpa using e⟩
      · simp at h
    · obtain ⟨j, e, hj, ht⟩ := idx_mem (k + 1) r t i h
      exact ⟨j + 1, by rw [e]; congr 1; omega, by simp; omega, by simpa using ht⟩
end Vw

theorem infoP : (Tryz.prog.info? 160).map (fun i => (i.zero, i.size, i.bytes)) = some (some (.pointer none), 1, 8) := by kernel_rfl

set_option maxRecDepth 100000 in
set_option maxHeartbeats 2000000 in
theorem ptrs_any (A : Option Addr) (c : Nat) (l : List (Tr Ka)) (B : Nat) (w : World) (hin : Ka.E.LIn w B A c l) (hB : B ≤ w.heap.size) (hl : l.length ≤ 2000000) :
    Calls Tryz.prog 108 #[.slice A l.length c] w fun e w' => ∃ (A' : Option Addr) (c' : Nat) (vs : List Vw), e = .returned (.slice A' vs.length c') ∧ vs.map (·.x) = l ∧ Vw.E.LIn w' w'.heap.size A' c' vs ∧ Below w.heap.size w w' := by
  have hcap := hin.cap
  obtain ⟨i0, hi0, hz0, hz1, hz2⟩ := info_parts infoP
  have hmk := fun W => run_make_rowN (P := Tryz.prog) 131 160 i0 _ Tryz.underlying131 hi0 hz0 .i64 .i64 l.length l.length (Nat.le_refl _) (by rw [hz2]; omega) (by omega) W
  rw [hz1] at hmk
  have hb0 : ∃ b o : Nat, (l ≠ [] → A = some ⟨b, o, none⟩) := by
    by_cases h : l = []
    · exact ⟨0, 0, fun hn => absurd h hn⟩
    · obtain ⟨b, o, e, _⟩ := hin.mem h
      exact ⟨b, o, fun _ => e⟩
  obtain ⟨b, o, hbo⟩ := hb0
  have HBO := Lib.hid hbo
  clear hbo
  obtain ⟨vs, hvs⟩ : ∃ vs, vs = Vw.of b o l := ⟨_, rfl⟩
  have hvl : vs.length = l.length := by rw [hvs, Vw.of_len]
  have HVL := Lib.hid hvl
  have HVG : Hid (∀ (j : Nat) (h : j < l.length), ∃ h' : j < vs.length, vs[j] = ⟨b, o + j * 12, l[j]⟩) := fun j h => ⟨by rw [hvl]; exact h, by subst hvs; exact Vw.of_get b o l h⟩
  have HVM : Hid (vs.map (·.x) = l) := by show _ = _; rw [hvs, Vw.of_map]
  clear hvs hvl
  go_enter Tryz.func108, Tryz.ntmps108
  go_wp2_with fail
  go_loopw [4, 10] (fun _ i wr => ∃ j : Nat, j ≤ l.length ∧ i = .int .i64 j ∧ Vw.E.RowTo wr w.heap.size 160 l.length (vs.take j) ∧ Below w.heap.size w wr) (fun _ i _ => l.length - (intOf i).toNat)
  case atStart => exact ⟨0, Nat.zero_le _, rfl, (Elem.Fill.new w _ (by rw [size_madeCells]; have e1 : Vw.E.n = 1 := rfl; rw [e1]; omega)).row, (Below.refl _ _).alloc (Nat.le_refl _) _⟩
  case round =>
    obtain ⟨j, hj, rfl, hR, hb⟩ := hrel
    have hs2 := hb.size
    by_cases hlt : j < l.length
    · have hA := HBO.out (by intro h; rw [h] at hlt; simp at hlt)
      have g1 : (j : Int) < (l.length : Int) := by omega
      obtain ⟨hj', hv⟩ := HVG.out j hlt
      have hlen : (vs.take j).length = j := by rw [List.length_take]; omega
      have e1 : Vw.E.n = 1 := rfl
      obtain ⟨u0, hu0⟩ := hR.old (i := j) (by rw [e1]; omega)
      have f0 := hR.frozen j
      have hst := hR.step (d := vs[j]) (by omega)
      rw [hlen, e1, Nat.one_mul, ← List.take_succ_eq_append_getElem hj', hv] at hst
      have HST := Lib.hid hst
      clear hst hlen hR
      rw [hA]
      clear hA
      go_wp2_with fail
      go_roundw
      case rel => exact ⟨j + 1, by omega, by go_num, HST.out, hb.setCell (by simp) _⟩
      case measure => simp [intOf]; omega
    · have hj' : j = l.length := by omega
      subst hj'
      have hR2 : Vw.E.RowTo wr w.heap.size 160 l.length vs := by have h := hR; rwa [List.take_of_length_le (by rw [HVL.out]; exact Nat.le_refl _)] at h
      have HR := Lib.hid hR2
      clear hR hR2
      go_wp2_with fail
      go_ret
      refine ⟨some ⟨w.heap.size, 0, none⟩, l.length, vs, ret_sl HVL.out.symm, HVM.out, ⟨⟨by rw [HVL.out]; exact Nat.le_refl _, by omega⟩, by simp, fun _ => ⟨w.heap.size, 0, rfl, HR.out.lt, fun j u hu => ?_⟩, fun x hx => ?_⟩, hb⟩
      · rw [Nat.zero_add]; exact HR.out.cellsOf j u hu
      · obtain ⟨i, hi, rfl⟩ := List.mem_iff_getElem.1 hx
        have hi2 : i < l.length := by rw [← HVL.out]; exact hi
        obtain ⟨_, hv⟩ := HVG.out i hi2
        rw [hv]
        obtain ⟨b', o', e, hblk, hc, hix⟩ := (hin.below (hb.mono hB)).at_ (List.getElem?_eq_getElem hi2)
        rw [HBO.out (by intro h; rw [h] at hi2; simp at hi2)] at e
        obtain ⟨rfl, rfl, _⟩ := Addr.mk.inj (Option.some.inj e)
        exact ⟨⟨by show b < wr.heap.size; omega, hc⟩, Elem.In.more hix (by omega)⟩
end Go.Proofs.YtnldlbglgalbaabGreat

namespace Go.Proofs.YtnldlbglgalbaabGreat
open Go.RowKit

theorem Gri.far {w : World} {M n : Nat} {G V D} (h : Gri w M n G V D) {p : Addr} (hp : p.block < M) (u : Value) : Gri (w.setCell p u) M n G V D := by
  have hg : w.grownBy (w.setCell p u) (some p.block) := ⟨rfl, rfl, rfl, by simp, fun k hk hn => Below.heap_setCell _ _ _ _ (fun e => hn (by rw [e]))⟩
  exact ⟨h.map.kept hg (by simp; omega), h.isMap, h.at_, fun t => (h.row t).kept hg (by
    cases hq : (V t).ownBlock with
    | none => exact .inl rfl
    | some q => exact .inr fun hh => by have h1 := (h.row t).lt q hq; have h2 := Option.some.inj hh; omega), h.apart⟩

set_option maxRecDepth 100000 in
set_option maxHeartbeats 8000000 in
theorem viewOf_any (A : Option Addr) (c : Nat) (vs : List Vw) (B : Nat) (w : World) (hin : Vw.E.LIn w B A c vs) (hB : B ≤ w.heap.size) (hl : vs.length ≤ 2000000) :
    Calls Tryz.prog 107 #[.slice A vs.length c] w fun e w' => ∃ (M n : Nat) (V : ByteArray → Value) (D : DataW Value), e = .returned (.agg #[.slice A vs.length c, .map (some M)]) ∧ Gri w' M n (Vw.idx 0 vs) V D ∧ Below w.heap.size w w' := by
  have hcap := hin.cap
  obtain ⟨i0, hi, hz0, hz1, hz2⟩ := info_parts infoI
  have hmm := @run_makeMap Tryz.prog
  obtain ⟨W1, hW1⟩ : ∃ W1, W1 = w.alloc (.cells #[.slice none 0 0, .map none] 134) := ⟨_, rfl⟩
  have z1 : W1.heap.size = w.heap.size + 1 := by rw [hW1]; simp
  have B1 : Below w.heap.size w W1 := by rw [hW1]; exact (Below.refl _ _).alloc (Nat.le_refl _) _
  have R1 : D.Blk W1 w.heap.size 134 #[.slice none 0 0, .map none] := by rw [hW1]; exact D.Blk.new _ _ _
  obtain ⟨W2, hW2⟩ : ∃ W2, W2 = W1.alloc (.map #[] 0) := ⟨_, rfl⟩
  have z2 : W2.heap.size = w.heap.size + 1 + 1 := by rw [hW2]; simp [z1]
  have B2 : Below W1.heap.size W1 W2 := by rw [hW2]; exact (Below.refl _ _).alloc (Nat.le_refl _) _
  have G2 : Gri W2 (w.heap.size + 1) 0 (Vw.idx 0 []) (fun _ => nilJ) (.map []) := by rw [hW2, ← z1]; exact Gri.new W1
  have b2 : Below w.heap.size w W2 := B1.trans (B2.mono (by omega))
  go_enter Tryz.func107, Tryz.ntmps107
  go_upto_region 1 with fail
  rw [← hW1]
  clear hW1
  go_upto_region 2 with fail
  rw [← hW2]
  clear hW2
  go_wp2_with fail
  go_loopw [4, 5, 9] (fun _ _ i wr => ∃ j : Nat, j ≤ vs.length ∧ i = .int .i64 j ∧ (∃ V D, Gri wr (w.heap.size + 1) j (Vw.idx 0 (vs.take j)) V D) ∧ Below (w.heap.size + 1) W2 wr) (fun _ _ i _ => vs.length - (intOf i).toNat)
  case atStart => exact ⟨0, Nat.zero_le _, rfl, ⟨_, _, G2⟩, Below.refl _ _⟩
  case round =>
    obtain ⟨j, hj, rfl, ⟨V, D, hG⟩, hb⟩ := hrel
    have hz := hb.size
    have bw := b2.trans (hb.mono (by omega))
    by_cases hlt : j < vs.length
    · obtain ⟨b, o, rfl, hblk, p0, hvin⟩ := Vw.at_ (hin.below (bw.mono hB)) (i := j) (v := vs[j]) (List.getElem?_eq_getElem hlt)
      obtain ⟨_, _, d0, _⟩ := hvin.c
      have hpl : vs[j].b < wr.heap.size := by have := hvin.1.1; omega
      have g2 : (j : Int) < (vs.length : Int) := by omega
      have HST := Lib.hid (Vw.idx_step hlt)
      have htl : vs[j].x.a.N.t.size ≤ maxLen := ((Ka.E_in hvin.2).1.N).cap.2.2
      have hjm : j < maxLen := by unfold maxLen; omega
      have hgl := Vw.idx_len 0 (vs.take j) vs[j].x.a.N.t
      have htk : (vs.take j).length ≤ j := by rw [List.length_take]; omega
      obtain ⟨Av, cv, hv⟩ := hG.form vs[j].x.a.N.t
      have hneb : some vs[j].b ≠ (V vs[j].x.a.N.t).ownBlock := fun e => by have := (hG.row vs[j].x.a.N.t).lt _ e.symm; have := hvin.1.1; omega
      rw [hv] at hneb
      have hrw := hG.row vs[j].x.a.N.t
      have hl1 := hG.drew.look vs[j].x.a.N.t htl
      have hl2 := (hG.alloc (.cells #[.int .i64 (j : Int)] 3)).drew.look vs[j].x.a.N.t htl
      rw [hv] at hl1 hl2 hrw
      go_wp2_with fail
      all_goals go_region_law (refine step_append_lies _ rfl (.tmp 26) (.tmp 28) 33 rfl (w.heap.size + 1 + 1) 3 i0 (.int .i64 0) 1 8 Tryz.underlying33 hi hz0 hz1 hz2 rfl (by decide) (.slice Av (Vw.idx 0 (vs.take j) vs[j].x.a.N.t).length cv) (Vw.idx 0 (vs.take j) vs[j].x.a.N.t).length (Jx.E.cellsL (Vw.idx 0 (vs.take j) vs[j].x.a.N.t)) rfl (hrw.alloc _).drew ⟨wr.heap.size, 0, none⟩ 1 1 (Jx.cells (j : Int)) rfl rfl (World.news_of_block (w := (wr.alloc (.cells #[.int .i64 (j : Int)] 3)).drew) (heap_alloc_new wr (.cells #[.int .i64 (j : Int)] 3))) (Jx.E.one (j : Int)) (by decide) (by unfold maxLen; omega) (by omega) (by simp; omega) (wr.heap.size + 1) (by simp) ?_; intro g cap w4 hown4 hgr4 hat4 hlt4; obtain ⟨w5, hrun5, hb5, V5, D5, hG5⟩ := Gri.put hG vs[j].x.a.N.t htl hjm hown4 (by rw [hv]; exact hgr4) (by rw [hv]; exact hat4); have d0 := hgr4.cell ((World.cell?_alloc_lt wr _ ⟨vs[j].b, vs[j].o + 2, none⟩ hpl).trans d0) hneb)
      all_goals go_wp2_with fail
      all_goals refine ⟨⟨j + 1, by omega, by go_num, ⟨V5, D5, by rw [HST.out]; exact hG5⟩, hb.trans hb5⟩, by simp [intOf]; omega⟩
    · have hj' : j = vs.length := by omega
      subst hj'
      rw [List.take_length] at hG
      have R2 := (R1.below B2 (by omega)).below hb (by omega)
      have r0 : World.cell? wr ⟨w.heap.size, 0, none⟩ = some (.slice none 0 0) := R2.cell 0
      have r1 : World.cell? wr ⟨w.heap.size, 1, none⟩ = some (.map none) := R2.cell 1
      have q0 := R2.frozen 0
      have q1 := R2.frozen 1
      have HG := Lib.hid hG
      clear hG
      go_wp2_with fail
      refine bodyPost_ret (v := .agg #[.slice A vs.length c, .map (some (w.heap.size + 1))]) (by simp [results, Tryz.results107, go_sem, r0, r1]) rfl ⟨w.heap.size + 1, vs.length, V, D, rfl, ?_, ?_⟩
      · exact (HG.out.far (by simp) _).far (by simp) _
      · exact (bw.setCell (by simp) _).setCell (by simp) _
end Go.Proofs.YtnldlbglgalbaabGreat

namespace Go.Proofs.YtnldlbglgalbaabGreat
open Go.RowKit

namespace Vw
/-- Whether this capture has the name d. -/
def samP (d : S) (v : Vw) : Bool := S.eqB v.x.a.N d
/-- What indexOf answers. -/
def ix (vs : List Vw) (d : S) : Int := if d.k = 1 ∧ d.isDots = false then fidx (samP d) vs else -1
theorem samP_t {d : S} {v : Vw} (h : samP d v = true) : v.x.a.N.t = d.t := S.t_of_er (S.er_of_eqB _ _ h)
theorem idx_find (t : ByteArray) (p : Vw → Bool) (hp : ∀ v, p v = true → v.x.a.N.t = t) : ∀ (k : Nat) (vs : List Vw) (P : Int → Bool), (∀ (j : Nat) (h : j < vs.length), P ((k + j : Nat) : Int) = p vs[j]) →
    (idx k vs t).find? P = (vs.findIdx? p).map fun j => ((k + j : Nat) : Int)
  | k, [], P, _ => by simp [idx]
  | k, v :: r, P, hP => by
    have h0 : P (k : Int) = p v := by have := hP 0 (by simp); simpa using this
    have ih := idx_find t p hp (k + 1) r P (fun j h => by
      have := hP (j + 1) (by simp; omega)
      rw [show k + 1 + j = k + (j + 1) by omega, this]
      rfl)
    rw [idx, List.findIdx?_cons, List.find?_append, ih]
    cases hv : p v
    · rw [hv] at h0
      have e1 : (if v.x.a.N.t = t then [(k : Int)] else []).find? P = none := by split <;> simp [h0]
      rw [e1]
      simp only [Option.none_or, Bool.false_eq_true, if_false, Option.map_map]
      congr 1
      funext j
      show ((k + 1 + j : Nat) : Int) = ((k + (j + 1) : Nat) : Int)
      rw [show k + 1 + j = k + (j + 1) by omega]
    · rw [hv] at h0
      rw [if_pos (hp v hv)]
      simp [h0]
/-- The same, asked of an index. -/
def atP (vs : List Vw) (d : S) (i : Int) : Bool := if h : i.toNat < vs.length then samP d vs[i.toNat] else false
theorem idx_fidx (vs : List Vw) (d : S) : fidx (samP d) vs = match (idx 0 vs d.t).find? (atP vs d) with | some i => i | none => -1 := by
  have h := idx_find d.t (samP d) (fun v hv => samP_t hv) 0 vs (atP vs d) (fun j h => by
    unfold atP
    rw [dif_pos (by simpa using h)]
    congr 1
    simp)
  rw [h]
  unfold fidx
  cases vs.findIdx? (samP d) with
  | none => rfl
  | some i => simp
end Vw

set_option maxRecDepth 100000 in
set_option maxHeartbeats 8000000 in
theorem indexOf_any (A : Option Addr) (c : Nat) (vs : List Vw) (M n : Nat) (V : ByteArray → Value) (DD : DataW Value) (d : S) (B : Nat) (w : World) (hin : Vw.E.LIn w B A c vs) (hd : d.In w B) (hB : B ≤ w.heap.size) (hl : vs.length ≤ 2000000) (hG : Gri w M n (Vw.idx 0 vs) V DD) :
    Calls Tryz.prog 117 #[.agg #[.slice A vs.length c, .map (some M)], d.val] w fun e w' => e = .returned (.int .i64 (Vw.ix vs d)) ∧ Below w.heap.size w w' := by
  have hcap := hin.cap
  have hcd := hd.cap
  obtain ⟨W1, hW1⟩ : ∃ W1, W1 = w.alloc (.cells #[.slice A vs.length c, .map (some M)] 134) := ⟨_, rfl⟩
  obtain ⟨W2, hW2⟩ : ∃ W2, W2 = W1.alloc (.cells #[.int .i64 d.k, .int .i64 d.n, .string d.t, .slice d.sa d.s.length d.sc, .slice d.A d.l.length d.c] 43) := ⟨_, rfl⟩
  have z1 : W1.heap.size = w.heap.size + 1 := by rw [hW1]; simp
  have z2 : W2.heap.size = w.heap.size + 1 + 1 := by rw [hW2]; simp [z1]
  have B1 : Below w.heap.size w W1 := by rw [hW1]; exact (Below.refl _ _).alloc (Nat.le_refl _) _
  have B2 : Below W1.heap.size W1 W2 := by rw [hW2]; exact (Below.refl _ _).alloc (Nat.le_refl _) _
  have R1 : D.Blk W1 w.heap.size 134 #[.slice A vs.length c, .map (some M)] := by rw [hW1]; exact D.Blk.new _ _ _
  have R2 := R1.below B2 (by omega)
  have X2 : S.Box W2 (w.heap.size + 1) d := by rw [hW2, ← z1]; exact S.Box.new _ _ _
  have b2 : Below w.heap.size w W2 := B1.trans (B2.mono (by omega))
  have G2 := hG.below b2
  have htl : d.t.size ≤ maxLen := hd.cap.2.2
  have v0 : World.cell? W2 ⟨w.heap.size, 0, none⟩ = some (.slice A vs.length c) := R2.cell 0
  have v1 : World.cell? W2 ⟨w.heap.size, 1, none⟩ = some (.map (some M)) := R2.cell 1
  unfold S.val
  by_cases hk : d.k = 1
  · have ek : (d.k != 1) = false := by simp [hk]
    have ek2 : (d.k == 1) = true := by simp [hk]
    have HK := Lib.hid hk
    clear hk
    have hc := implDots_any d W2
    unfold S.val at hc
    go_enter Tryz.func117, Tryz.ntmps117
    go_upto_region 1 with fail
    rw [← hW1, ← hW2]
    clear hW1 hW2 B1 B2 z1
    have X2q := X2
    obtain ⟨x0, x1, x2, x3, x4⟩ := X2q
    go_wp2_with fail
    clear x0 x1 x2 x3 x4
    cases q : d.isDots
    · rw [q] at hc
      have HF : Hid (Vw.ix vs d = fidx (Vw.samP d) vs) := by show _ = _; unfold Vw.ix; rw [if_pos ⟨HK.out, q⟩]
      have HFX := Lib.hid (Vw.idx_fidx vs d)
      clear q
      (with_reducible refine hc.mono ?_)
      clear hc
      rintro e w3 ⟨rfl, hb3⟩
      have z3 := hb3.size
      have b3 := b2.trans (hb3.mono (by omega))
      have G3 := G2.below hb3
      have X3 := X2.below hb3 (by omega)
      have v0 := (hb3.cell (p := ⟨w.heap.size, 0, none⟩) (show w.heap.size < W2.heap.size by omega)).trans v0
      have v1 := (hb3.cell (p := ⟨w.heap.size, 1, none⟩) (show w.heap.size < W2.heap.size by omega)).trans v1
      obtain ⟨Av, cv, hv⟩ := G3.form d.t
      have hlk := G3.look d.t htl
      rw [hv] at hlk
      have hil := Vw.idx_len 0 vs d.t
      have hLI := G3.lin d.t hv (Nat.le_refl _)
      have hLc := hLI.cap
      have HLM : Hid (∀ i ∈ Vw.idx 0 vs d.t, ∃ j : Nat, i = ((0 + j : Nat) : Int) ∧ ∃ h : j < vs.length, vs[j].x.a.N.t = d.t) := Vw.idx_mem 0 vs d.t
      obtain ⟨L, hL⟩ : ∃ L, L = Vw.idx 0 vs d.t := ⟨_, rfl⟩
      rw [← hL] at hlk hil hLI hLc HLM HFX
      clear hL hv
      have X3q := X3
      obtain ⟨x0, x1, x2, x3, x4⟩ := X3q
      go_wp2_with fail
      clear x0 x1 x2 x3 x4 hlk
      go_loopw [6, 20] (fun _ i wr => ∃ m : Nat, m ≤ L.length ∧ i = .int .i64 m ∧ (∀ x ∈ L.take m, Vw.atP vs d x = false) ∧ Below w3.heap.size w3 wr) (fun _ i _ => L.length - (intOf i).toNat)
      case atStart => exact ⟨0, Nat.zero_le _, rfl, by simp, Below.refl _ _⟩
      case round =>
        obtain ⟨m, hm, rfl, hn, hb⟩ := hrel
        have HN := Lib.hid hn
        clear hn
        have hs2 := hb.size
        have bw := b3.trans (hb.mono (by omega))
        by_cases hlt : m < L.length
        · obtain ⟨b', o', hA', hblk', p0⟩ := Jx.at_ (hLI.below hb) (i := m) (x := L[m]) (List.getElem?_eq_getElem hlt)
          obtain ⟨i, hi, hij, htx⟩ := HLM.out L[m] (List.getElem_mem hlt)
          clear htx
          rw [Nat.zero_add] at hi
          have HI := Lib.hid hi
          rw [hi] at p0
          have g1 : (m : Int) < (L.length : Int) := by omega
          have g2 : (i : Int) < (vs.length : Int) := by omega
          rw [hA']
          clear hA' hi
          obtain ⟨b, o, hA, hblk, q0, hvin⟩ := Vw.at_ (hin.below (bw.mono hB)) (i := i) (v := vs[i]) (List.getElem?_eq_getElem hij)
          have hcell := hvin.c
          obtain ⟨n0, n1, n2, n3, n4, _⟩ := hcell
          have hpl : vs[i].b < wr.heap.size := by have := hvin.1.1; omega
          have hbl : b < wr.heap.size := by omega
          have la : w.heap.size < wr.heap.size := by omega
          have lb : w.heap.size + 1 < wr.heap.size := by omega
          have v0r := (hb.cell (p := ⟨w.heap.size, 0, none⟩) (show w.heap.size < w3.heap.size by omega)).trans v0
          have Xr := X3.below hb (by omega)
          obtain ⟨x0, x1, x2, x3, x4⟩ := Xr
          rw [hA] at v0r
          clear hA
          have d0 : ∀ z : Near wr, z.at_.cell? ⟨w.heap.size, 0, none⟩ = some (.slice (some ⟨b, o, none⟩) vs.length c) := fun z => z.cell 0 v0r la
          have d1 : ∀ z : Near wr, z.at_.cell? ⟨b, o + i, none⟩ = some (.pointer (some ⟨vs[i].b, vs[i].o, none⟩)) := fun z => z.cell _ q0 hbl
          have dn0 : ∀ z : Near wr, z.at_.cell? ⟨vs[i].b, vs[i].o, none⟩ = some (.int .i64 vs[i].x.a.N.k) := fun z => z.cell _ n0 hpl
          have dn1 : ∀ z : Near wr, z.at_.cell? ⟨vs[i].b, vs[i].o + 1, none⟩ = some (.int .i64 vs[i].x.a.N.n) := fun z => z.cell _ n1 hpl
          have dn2 : ∀ z : Near wr, z.at_.cell? ⟨vs[i].b, vs[i].o + 2, none⟩ = some (.string vs[i].x.a.N.t) := fun z => z.cell _ n2 hpl
          have dn3 : ∀ z : Near wr, z.at_.cell? ⟨vs[i].b, vs[i].o + 3, none⟩ = some (.slice vs[i].x.a.N.sa vs[i].x.a.N.s.length vs[i].x.a.N.sc) := fun z => z.cell _ n3 hpl
          have dn4 : ∀ z : Near wr, z.at_.cell? ⟨vs[i].b, vs[i].o + 4, none⟩ = some (.slice vs[i].x.a.N.A vs[i].x.a.N.l.length vs[i].x.a.N.c) := fun z => z.cell _ n4 hpl
          have dx0 : ∀ z : Near wr, z.at_.cell? ⟨w.heap.size + 1, 0, none⟩ = some (.int .i64 d.k) := fun z => z.cell _ x0 lb
          have dx1 : ∀ z : Near wr, z.at_.cell? ⟨w.heap.size + 1, 1, none⟩ = some (.int .i64 d.n) := fun z => z.cell _ x1 lb
          have dx2 : ∀ z : Near wr, z.at_.cell? ⟨w.heap.size + 1, 2, none⟩ = some (.string d.t) := fun z => z.cell _ x2 lb
          have dx3 : ∀ z : Near wr, z.at_.cell? ⟨w.heap.size + 1, 3, none⟩ = some (.slice d.sa d.s.length d.sc) := fun z => z.cell _ x3 lb
          have dx4 : ∀ z : Near wr, z.at_.cell? ⟨w.heap.size + 1, 4, none⟩ = some (.slice d.A d.l.length d.c) := fun z => z.cell _ x4 lb
          have hc1 : ∀ z : Near wr, Calls Tryz.prog 114 #[S.val vs[i].x.a.N, S.val d] z.at_ fun e w' => e = .returned (.bool (Vw.samP d vs[i])) ∧ Below z.at_.heap.size z.at_ w' :=
            fun z => implSEqual_any _ vs[i].x.a.N d B z.at_ (Nat.le_refl _) (((Ka.E_in hvin.2).1.N).below (z.below.mono (by omega))) (hd.below ((bw.trans (z.below.mono (by omega))).mono hB)) (by have := z.size; omega)
          unfold S.val at hc1
          have HP : Hid (Vw.atP vs d L[m] = Vw.samP d vs[i]) := by
            show _ = _
            rw [HI.out]
            unfold Vw.atP
            rw [dif_pos (by simpa using hij)]
            congr 1
          clear x0 x1 x2 x3 x4 n0 n1 n2 n3 n4 q0 v0r
          cases q : Vw.samP d vs[i]
          · simp only [q] at hc1
            have HQ : Hid (Vw.atP vs d L[m] = false) := by show _ = _; rw [HP.out, q]
            have HC := Lib.hid hc1
            clear q hc1
            go_wp2_with fail
            refine wp_region_near (by kernel_rfl) (by kernel_rfl) ?_
            repeat (go_big_quiet_step (first | (go_at_call 114; with_reducible exact Calls.near (HC.out _))))
            refine wpQuiet_nil ?_
            intro _ hw1
            obtain ⟨nx, hw2⟩ := hw1
            subst hw2
            go_wp2_with fail
            go_roundw
            case rel => exact ⟨m + 1, by omega, by go_num, none_succ hlt HN.out HQ.out, hb.trans (nx.below.mono hs2)⟩
            case measure => simp [intOf]; omega
          · simp only [q] at hc1
            have HQ : Hid (Vw.atP vs d L[m] = true) := by show _ = _; rw [HP.out, q]
            have HC := Lib.hid hc1
            clear q hc1
            go_wp2_with fail
            refine wp_region_near (by kernel_rfl) (by kernel_rfl) ?_
            repeat (go_big_quiet_step (first | (go_at_call 114; with_reducible exact Calls.near (HC.out _))))
            refine wpQuiet_nil ?_
            intro _ hw1
            obtain ⟨nx, hw2⟩ := hw1
            subst hw2
            go_wp2_with fail
            go_ret
            exact ⟨ret_int (by rw [HF.out, HFX.out, find_take hlt HN.out HQ.out]; exact HI.out.symm), bw.trans (nx.below.mono (by omega))⟩
        · have hm' : m = L.length := by omega
          subst hm'
          have HE : Hid (L.find? (Vw.atP vs d) = none) := find_none (by have := HN.out; rwa [List.take_length] at this)
          go_wp2_with fail
          go_ret
          exact ⟨ret_int (by rw [HF.out, HFX.out, HE.out]), bw⟩
    · rw [q] at hc
      have HF : Hid (Vw.ix vs d = -1) := by show _ = _; unfold Vw.ix; rw [if_neg (by rw [q]; simp)]
      clear q
      (with_reducible refine hc.mono ?_)
      clear hc
      rintro e w3 ⟨rfl, hb3⟩
      go_wp2_with fail
      go_ret
      exact ⟨ret_int HF.out.symm, b2.trans (hb3.mono (by omega))⟩
  · have ek : (d.k != 1) = true := by simpa using hk
    have ek2 : (d.k == 1) = false := by simpa using hk
    have HF : Hid (Vw.ix vs d = -1) := by show _ = _; unfold Vw.ix; rw [if_neg (fun h => hk h.1)]
    clear hk
    go_enter Tryz.func117, Tryz.ntmps117
    go_upto_region 1 with fail
    rw [← hW1, ← hW2]
    clear hW1 hW2 B1 B2 z1
    obtain ⟨x0, x1, x2, x3, x4⟩ := X2
    go_wp2_with fail
    go_ret
    exact ⟨ret_int HF.out.symm, b2⟩
end Go.Proofs.YtnldlbglgalbaabGreat
