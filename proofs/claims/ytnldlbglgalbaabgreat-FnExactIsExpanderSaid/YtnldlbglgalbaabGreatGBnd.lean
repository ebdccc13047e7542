/-
  Bindings: where they lie; the laws' own functions on one of them.
-/
import Derived.Test.YtnldlbglgalbaabGreatGElT
import Derived.Test.YtnldlbglgalbaabGreatInts
import Derived.Test.YtnldlbglgalbaabGreatTrees
import Derived.Test.YtnldlbglgalbaabGreatSBase
import Derived.Test.YtnldlbglgalbaabGreatMarks
import Derived.Lib.Hide
import Derived.Test.YtnldlbglgalbaabGreatNames
import Derived.Test.YtnldlbglgalbaabGreatScSets
import Derived.Test.YtnldlbglgalbaabGreatWords
import Derived.Deep.RegionHeld3
import Derived.Deep.RegionLaw
import Derived.Deep.RegionWith
import Derived.Deep.DeepCutAuto
import Derived.Test.YtnldlbglgalbaabGreatSEqs
import Derived.Test.YtnldlbglgalbaabGreatSEqi
import Derived.Test.YtnldlbglgalbaabGreatSSame
import Derived.Maps.Own
import Derived.Maps.Keyed
import Derived.Maps.Views
import Derived.Deep.AppendLies
namespace Go.Proofs.YtnldlbglgalbaabGreat
open Go.RowKit

structure Bd where
  t : ByteArray
  sa : Option Addr
  sc : Nat
  s : List Int
  k : Int
  n : Int
namespace Bd
def cells (b : Bd) : List Value := [.string b.t, .slice b.sa b.s.length b.sc, .int .i64 b.k, .int .i64 b.n]
def val (b : Bd) : Value := .agg #[.string b.t, .slice b.sa b.s.length b.sc, .int .i64 b.k, .int .i64 b.n]
def er (b : Bd) : Bd := ⟨b.t, none, 0, b.s, b.k, b.n⟩
def bulk (b : Bd) : Nat := b.t.size + b.s.length
def In (w : World) (B : Nat) (b : Bd) : Prop := b.t.size ≤ 9223372036854775807 ∧ IIn w B b.sa b.sc b.s
def blks (b : Bd) : List Nat := iblk b.sa b.s
theorem In.keepB {w w' : World} {B : Nat} {b : Bd} (h : In w B b) (hk : ∀ k, k ∈ blks b → w'.heap[k]? = w.heap[k]?) : In w' B b := ⟨h.1, h.2.keep hk⟩
theorem In.below {w w' : World} {B : Nat} {b : Bd} (h : In w B b) (hb : Below B w w') : In w' B b := ⟨h.1, h.2.below hb⟩
theorem In.more {w : World} {B B' : Nat} {b : Bd} (h : In w B b) (hB : B ≤ B') : In w B' b := ⟨h.1, h.2.more hB⟩
theorem In.alloc {w : World} {B : Nat} {b : Bd} (h : In w B b) (hB : B ≤ w.heap.size) (o : Obj) : In (w.alloc o) B b := ⟨h.1, h.2.alloc hB o⟩
theorem In.drew {w : World} {B : Nat} {b : Bd} (h : In w B b) : In w.drew B b := ⟨h.1, h.2.drew⟩
theorem In.blk_lt {w : World} {B : Nat} {b : Bd} (h : In w B b) : ∀ k ∈ blks b, k < B := h.2.blk_lt
def E : Elem Bd where
  cells := cells
  n := 4
  pos := by decide
  len := fun _ => rfl
  one := by
    intro b u hu
    simp only [cells, List.mem_cons, List.not_mem_nil, or_false] at hu
    rcases hu with rfl | rfl | rfl | rfl <;> rfl
  In := In
  blks := blks
  lt := fun h => h.2.blk_lt
  keepB := fun h hk => h.keepB hk
  more := fun h hB => h.more hB
theorem er_er (b : Bd) : er (er b) = er b := rfl
theorem fields_of_er {a b : Bd} (h : er a = er b) : a.t = b.t ∧ a.s = b.s ∧ a.k = b.k ∧ a.n = b.n := by
  unfold er at h
  injection h with h1 _ _ h4 h5 h6
  exact ⟨h1, h4, h5, h6⟩
theorem bulk_of_er {a b : Bd} (h : er a = er b) : bulk a = bulk b := by
  obtain ⟨h1, h2, _, _⟩ := fields_of_er h
  unfold bulk; rw [h1, h2]
/-- A variable that holds a binding. -/
structure Box (w : World) (g : Nat) (b : Bd) : Prop where
  c0 : w.cell? ⟨g, 0, none⟩ = some (.string b.t)
  c1 : w.cell? ⟨g, 1, none⟩ = some (.slice b.sa b.s.length b.sc)
  c2 : w.cell? ⟨g, 2, none⟩ = some (.int .i64 b.k)
  c3 : w.cell? ⟨g, 3, none⟩ = some (.int .i64 b.n)
theorem Box.keep {w w' : World} {g : Nat} {b : Bd} (h : Box w g b) (e : w'.heap[g]? = w.heap[g]?) : Box w' g b := by
  have e : ∀ q, w'.cell? ⟨g, q, none⟩ = w.cell? ⟨g, q, none⟩ := fun q => World.cell?_of_block (a := ⟨g, q, none⟩) e
  exact ⟨(e 0).trans h.c0, (e 1).trans h.c1, (e 2).trans h.c2, (e 3).trans h.c3⟩
theorem Box.below {w w' : World} {g B : Nat} {b : Bd} (h : Box w g b) (hb : Below B w w') (hB : g < B) : Box w' g b := h.keep (hb.block g hB)
theorem Box.chg {w w' : World} {g : Nat} {b : Bd} {T : List Nat} (h : Box w g b) (hb : Chg T w w') (hlt : g < w.heap.size) (hn : g ∉ T) : Box w' g b := h.keep (hb.block g hlt hn)
theorem Box.new (w : World) (b : Bd) (t : TypeId) : Box (w.alloc (.cells #[.string b.t, .slice b.sa b.s.length b.sc, .int .i64 b.k, .int .i64 b.n] t)) w.heap.size b :=
  ⟨by rw [cell_of_row _ _ _ _ _ _ (heap_alloc_new w _)]; rfl, by rw [cell_of_row _ _ _ _ _ _ (heap_alloc_new w _)]; rfl, by rw [cell_of_row _ _ _ _ _ _ (heap_alloc_new w _)]; rfl, by rw [cell_of_row _ _ _ _ _ _ (heap_alloc_new w _)]; rfl⟩
/-- With the marks of its scopes. -/
def marked (b : Bd) (q : Int) : Bd := { b with s := markI b.s q }
theorem blks_marked (b : Bd) (q : Int) : blks (marked b q) = blks b := by unfold blks marked; exact iblk_mark _ _ _
end Bd

/-- Returned: a binding of the call's own. -/
def RetBd (x : Bd) (w : World) (e : Ending) (w' : World) : Prop := ∃ b : Bd, e = .returned b.val ∧ b.er = x ∧ Bd.E.Own w.heap.size w'.heap.size w' b ∧ Below w.heap.size w w'

theorem bd_own {lo hi : Nat} {w : World} {b : Bd} (ht : b.t.size ≤ 9223372036854775807) (h : IOwn lo hi w b.sa b.sc b.s) : Bd.E.Own lo hi w b :=
  ⟨⟨ht, h.inn⟩, h.lo_, by
    show (iblk b.sa b.s).Nodup
    unfold iblk
    split
    · simp
    · cases b.sa <;> simp, h.fr⟩
theorem bd_iown {lo hi : Nat} {w : World} {b : Bd} (h : Bd.E.Own lo hi w b) : IOwn lo hi w b.sa b.sc b.s := by
  refine ⟨h.inn.2, fun hl bb o e => ?_⟩
  have hm : bb ∈ Bd.E.blks b := by
    show bb ∈ iblk b.sa b.s
    rw [e, iblk_some hl]; simp
  exact ⟨h.lo_ bb hm, h.fr bb hm⟩

set_option maxHeartbeats 800000 in
theorem szBd_any (b : Bd) (B : Nat) (w : World) (left : Int) (h0 : 0 ≤ left) (h1 : left ≤ 1048576) (hin : b.In w B) (_hB : B ≤ w.heap.size) :
    Calls Tryz.prog 83 #[b.val, .int .i64 left] w fun e w' => e = .returned (.int .i64 (szR b.bulk left)) ∧ Below w.heap.size w w' := by
  have hcap := hin.2.cap
  have ht := hin.1
  have bA : Below w.heap.size w (w.alloc (.cells #[.string b.t, .slice b.sa b.s.length b.sc, .int .i64 b.k, .int .i64 b.n] 112)) := (Below.refl _ _).alloc (Nat.le_refl _) _
  have hbu : (b.bulk : Int) = b.t.size + b.s.length := by unfold Bd.bulk; omega
  unfold Bd.val
  by_cases hq : (b.t.size : Int) ≤ left
  · have q1 : ¬ (left - (b.t.size : Int) < 0) := by omega
    by_cases hr : (b.s.length : Int) ≤ left - b.t.size
    · have q2 : ¬ (left - (b.t.size : Int) - (b.s.length : Int) < 0) := by omega
      have HR : Hid (szR b.bulk left = left - b.t.size - b.s.length) := by show _ = _; rw [szR_yes (by omega)]; omega
      clear hbu
      go_enter Tryz.func83, Tryz.ntmps83
      go_wp2_with fail
      refine (szI_any _ _ _ _ _ hcap (by omega) (by omega)).mono ?_
      rintro e w1 ⟨rfl, hw⟩
      obtain rfl := hw.symm
      rw [if_pos hr]
      go_wp2_with fail
      go_ret
      exact ⟨ret_int HR.out.symm, bA⟩
    · have HR : Hid (szR b.bulk left = -1) := szR_no (by omega)
      clear hbu
      go_enter Tryz.func83, Tryz.ntmps83
      go_wp2_with fail
      refine (szI_any _ _ _ _ _ hcap (by omega) (by omega)).mono ?_
      rintro e w1 ⟨rfl, hw⟩
      obtain rfl := hw.symm
      rw [if_neg (by omega)]
      go_wp2_with fail
      go_ret
      exact ⟨ret_int HR.out.symm, bA⟩
  · have q1 : left - (b.t.size : Int) < 0 := by omega
    have HR : Hid (szR b.bulk left = -1) := szR_no (by omega)
    clear hbu
    go_enter Tryz.func83, Tryz.ntmps83
    go_wp2_with fail
    go_ret
    exact ⟨ret_int HR.out.symm, bA⟩

set_option maxRecDepth 100000 in
set_option maxHeartbeats 1000000 in
theorem toBd_any (b : Bd) (B : Nat) (w : World) (hs : b.s.length ≤ 2000000) (hin : b.In w B) (hB : B ≤ w.heap.size) : Calls Tryz.prog 87 #[b.val] w (RetBd b.er w) := by
  obtain ⟨t, sa, sc, s, k, n⟩ := b
  have hcap := hin.2.cap
  have ht := hin.1
  simp only at hcap ht hs
  obtain ⟨W1, hW1⟩ : ∃ W1, W1 = w.alloc (.cells #[.string t, .slice sa s.length sc, .int .i64 k, .int .i64 n] 112) := ⟨_, rfl⟩
  obtain ⟨W2, hW2⟩ : ∃ W2, W2 = W1.alloc (.cells #[.string ⟨#[]⟩, .slice none 0 0, .int .i64 0, .int .i64 0] 90) := ⟨_, rfl⟩
  obtain ⟨W3, hW3⟩ : ∃ W3, W3 = W2.alloc (.cells #[.string t, .slice none 0 0, .int .i64 0, .int .i64 0] 90) := ⟨_, rfl⟩
  have z1 : W1.heap.size = w.heap.size + 1 := by rw [hW1]; simp
  have B1 : Below w.heap.size w W1 := by rw [hW1]; exact (Below.refl _ _).alloc (Nat.le_refl _) _
  have z2 : W2.heap.size = w.heap.size + 1 + 1 := by rw [hW2]; simp [z1]
  have B2 : Below W1.heap.size W1 W2 := by rw [hW2]; exact (Below.refl _ _).alloc (Nat.le_refl _) _
  have z3 : W3.heap.size = w.heap.size + 1 + 1 + 1 := by rw [hW3]; simp [z2]
  have B3 : Below W2.heap.size W2 W3 := by rw [hW3]; exact (Below.refl _ _).alloc (Nat.le_refl _) _
  have x0 : Bd.Box W1 w.heap.size ⟨t, sa, sc, s, k, n⟩ := by rw [hW1]; exact Bd.Box.new w ⟨t, sa, sc, s, k, n⟩ _
  have x0 := (x0.below B2 (by omega)).below B3 (by omega)
  have r0 : Bd.Box W2 (w.heap.size + 1) ⟨⟨#[]⟩, none, 0, [], 0, 0⟩ := by rw [hW2, ← z1]; exact Bd.Box.new W1 ⟨⟨#[]⟩, none, 0, [], 0, 0⟩ _
  have r0 := r0.below B3 (by omega)
  have rf : Free W2 (w.heap.size + 1) := by rw [hW2, ← z1]; exact Free.new _ _ _
  have rf := rf.below B3 (by omega)
  have o0 : Bd.Box W3 (w.heap.size + 1 + 1) ⟨t, none, 0, [], 0, 0⟩ := by rw [hW3, ← z2]; exact Bd.Box.new W2 ⟨t, none, 0, [], 0, 0⟩ _
  have of : Free W3 (w.heap.size + 1 + 1) := by rw [hW3, ← z2]; exact Free.new _ _ _
  have bb : Below w.heap.size w W3 := (B1.trans (B2.mono (by omega))).trans (B3.mono (by omega))
  have hi3 := hin.below (bb.mono hB)
  have x0q := x0
  obtain ⟨a0, a1, a2, a3⟩ := x0q
  simp only [Bd.val]
  go_enter Tryz.func87, Tryz.ntmps87
  go_wp2_with fail
  rw [← hW1, ← hW2, ← hW3]
  clear hW1 hW2 hW3 B1 B2 B3 a0 a1 a2 a3
  refine (toI_any sa sc s B _ hs hi3.2 (by omega)).mono ?_
  rintro e w1 ⟨A', c', rfl, ho, hb1⟩
  have zz := hb1.size
  obtain ⟨a0, a1, a2, a3⟩ := x0.below hb1 (by omega)
  obtain ⟨s0, s1, s2, s3⟩ := r0.below hb1 (by omega)
  have rf1 := rf.below hb1 (by omega)
  have h0 := rf1.fr 0
  have h1 := rf1.fr 1
  have h2 := rf1.fr 2
  have h3 := rf1.fr 3
  obtain ⟨u0, u1, u2, u3⟩ := o0.below hb1 (by omega)
  have of1 := of.below hb1 (by omega)
  have g1 := of1.fr 1
  have g2 := of1.fr 2
  have g3 := of1.fr 3
  have b1 := bb.trans (hb1.mono (by omega))
  have ho := ho.wide (lo' := w.heap.size + 1 + 1 + 1) (by omega) (Nat.le_refl _)
  clear hb1 x0 r0 o0 rf of hi3 bb
  simp only [List.length_nil] at s1 u1
  go_wp2_with fail
  refine bodyPost_ret (v := .agg #[.string t, .slice A' s.length c', .int .i64 k, .int .i64 n]) (by simp [results, Tryz.results87, go_sem, s0, s1, s2, s3]) rfl ⟨⟨t, A', c', s, k, n⟩, rfl, rfl, ?_, ?_⟩
  · have hown := bd_own (b := ⟨t, A', c', s, k, n⟩) ht ho
    simp only [World.size_setCell]
    exact (((((((hown.far (by simp <;> omega) _).far (by simp <;> omega) _).far (by simp <;> omega) _).far (by simp <;> omega) _).far (by simp <;> omega) _).far (by simp <;> omega) _).far (by simp <;> omega) _).wide (by omega) (Nat.le_refl _)
  · exact ((((((b1.setCell (by simp <;> omega) _).setCell (by simp <;> omega) _).setCell (by simp <;> omega) _).setCell (by simp <;> omega) _).setCell (by simp <;> omega) _).setCell (by simp <;> omega) _).setCell (by simp <;> omega) _

set_option maxHeartbeats 800000 in
theorem eqBd_any (x y : Bd) (B : Nat) (w : World) (he : x.er = y.er) (hx : x.In w B) (hy : y.In w B) (hB : B ≤ w.heap.size) :
    Calls Tryz.prog 95 #[x.val, y.val] w fun e w' => e = .returned (.bool true) ∧ Below w.heap.size w w' := by
  obtain ⟨t, sa, sc, s, k, n⟩ := x
  obtain ⟨t', sa', sc', s', k', n'⟩ := y
  obtain ⟨h1, h2, h3, h4⟩ := Bd.fields_of_er he
  simp only at h1 h2 h3 h4
  subst h1 h2 h3 h4
  clear he
  have bA : Below w.heap.size w ((w.alloc (.cells #[.string t, .slice sa s.length sc, .int .i64 k, .int .i64 n] 90)).alloc (.cells #[.string t, .slice sa' s.length sc', .int .i64 k, .int .i64 n] 90)) := ((Below.refl _ _).alloc (Nat.le_refl _) _).alloc (by simp) _
  have x0 := (Bd.Box.new w ⟨t, sa, sc, s, k, n⟩ 90).below (w' := (w.alloc (.cells #[.string t, .slice sa s.length sc, .int .i64 k, .int .i64 n] 90)).alloc (.cells #[.string t, .slice sa' s.length sc', .int .i64 k, .int .i64 n] 90)) (B := w.heap.size + 1) ((Below.refl _ _).alloc (by simp) _) (by omega)
  have y0 := Bd.Box.new (w.alloc (.cells #[.string t, .slice sa s.length sc, .int .i64 k, .int .i64 n] 90)) ⟨t, sa', sc', s, k, n⟩ 90
  simp only [World.size_alloc] at y0
  have q1 : (t.toList != t.toList) = false := by simp
  have q2 : (k != k) = false := by simp
  have q3 : (n != n) = false := by simp
  simp only [Bd.val]
  go_enter Tryz.func95, Tryz.ntmps95
  go_wp2_with fail
  refine (eqI_any sa sc s sa' sc' s B _ (hx.2.below (bA.mono hB)) (hy.2.below (bA.mono hB)) (by simp; omega)).mono ?_
  rintro e w1 ⟨rfl, hb1⟩
  have E1 : (s == s) = true := by simp
  rw [E1]
  have b1 := bA.trans (hb1.mono (by simp; omega))
  obtain ⟨a0, a1, a2, a3⟩ := x0.below hb1 (by simp; omega)
  obtain ⟨c0, c1, c2, c3⟩ := y0.below hb1 (by simp)
  clear hb1 x0 y0 bA
  go_wp2_with fail
  go_ret
  exact ⟨rfl, b1⟩

end Go.Proofs.YtnldlbglgalbaabGreat

namespace Go.Proofs.YtnldlbglgalbaabGreat
open Go.RowKit

/-- How many numbers a kind of binding has. -/
def countI (k : Int) : Int := if k = 1 then 12 else if k = 2 then 14 else if k = 3 then 100000 else if k = 4 then 100000 else 0
namespace Bd
def okN (b : Bd) : Bool := decide (0 ≤ b.n) && decide (b.n < countI b.k)
def isB (b : Bd) : Bool := symB b.t && (isSetI b.s && okN b)
theorem isB_of_er {a b : Bd} (h : er a = er b) : isB a = isB b := by
  obtain ⟨h1, h2, h3, h4⟩ := fields_of_er h
  unfold isB okN; rw [h1, h2, h3, h4]
end Bd

set_option maxHeartbeats 800000 in
theorem count_any (k : Int) (w : World) : Calls Tryz.prog 124 #[.int .i64 k] w fun e w' => e = .returned (.int .i64 (countI k)) ∧ Below w.heap.size w w' := by
  by_cases h1 : k = 1
  · subst h1
    go_enter Tryz.func124, Tryz.ntmps124
    go_wp2_with fail
    refine (iformN_any _).mono ?_
    rintro e w1 ⟨A, c, rfl, _, hb⟩
    have hl : formN.length = 12 := rfl
    rw [hl]
    go_wp2_with fail
    go_ret
    exact ⟨rfl, hb⟩
  · have k1 : (k == 1) = false := by simpa using h1
    by_cases h2 : k = 2
    · subst h2
      go_enter Tryz.func124, Tryz.ntmps124
      go_wp2_with fail
      refine (iprimN_any _).mono ?_
      rintro e w1 ⟨A, c, rfl, _, hb⟩
      have hl : primN.length = 14 := rfl
      rw [hl]
      go_wp2_with fail
      go_ret
      exact ⟨rfl, hb⟩
    · have k2 : (k == 2) = false := by simpa using h2
      by_cases h3 : k = 3
      · subst h3
        go_enter Tryz.func124, Tryz.ntmps124
        go_wp2_with fail
        go_ret
        exact ⟨rfl, Below.refl _ _⟩
      · have k3 : (k == 3) = false := by simpa using h3
        by_cases h4 : k = 4
        · subst h4
          go_enter Tryz.func124, Tryz.ntmps124
          go_wp2_with fail
          go_ret
          exact ⟨rfl, Below.refl _ _⟩
        · have k4 : (k == 4) = false := by simpa using h4
          have hc : countI k = 0 := by unfold countI; rw [if_neg h1, if_neg h2, if_neg h3, if_neg h4]
          have HC := Lib.hid hc
          clear hc h1 h2 h3 h4
          go_enter Tryz.func124, Tryz.ntmps124
          go_wp2_with fail
          go_ret
          exact ⟨ret_int HC.out.symm, Below.refl _ _⟩

set_option maxRecDepth 100000 in
set_option maxHeartbeats 4000000 in
theorem implIsB_any (b : Bd) (B : Nat) (w : World) (hin : b.In w B) (hB : B ≤ w.heap.size) : Calls Tryz.prog 90 #[b.val] w fun e w' => e = .returned (.bool b.isB) ∧ Below w.heap.size w w' := by
  obtain ⟨W1, hW1⟩ : ∃ W1, W1 = w.alloc (.cells #[.string b.t, .slice b.sa b.s.length b.sc, .int .i64 b.k, .int .i64 b.n] 90) := ⟨_, rfl⟩
  have z1 : W1.heap.size = w.heap.size + 1 := by rw [hW1]; simp
  have B1 : Below w.heap.size w W1 := by rw [hW1]; exact (Below.refl _ _).alloc (Nat.le_refl _) _
  have x0 : Bd.Box W1 w.heap.size b := by rw [hW1]; exact Bd.Box.new w b _
  have hi1 := hin.below (B1.mono hB)
  obtain ⟨a0, a1, a2, a3⟩ := x0
  have lt1 : w.heap.size < W1.heap.size := by omega
  have K : Hid (b.isB = (symB b.t && (isSetI b.s && b.okN))) := rfl
  have KN : Hid (b.okN = (decide (0 ≤ b.n) && decide (b.n < countI b.k))) := rfl
  unfold Bd.val
  go_enter Tryz.func90, Tryz.ntmps90
  go_wp2_with fail
  rw [← hW1]
  clear hW1
  go_cut [2] (fun s2 wx => s2 = .bool b.isB ∧ Below w.heap.size w wx)
  case first =>
    cases hA : symB b.t
    · have HA := Lib.hid hA
      clear hA
      first | go_region_law (first | (go_simp; go_at_call 122; refine (implSymbol_any _ _).mono ?_; rintro e w1 ⟨rfl, hb1⟩; have hb1 : Below W1.heap.size W1 w1 := below_undrew hb1; rw [HA.out]; have a0 := (hb1.cell (p := ⟨w.heap.size, 0, none⟩) lt1).trans a0; have a1 := (hb1.cell (p := ⟨w.heap.size, 1, none⟩) lt1).trans a1; have a2 := (hb1.cell (p := ⟨w.heap.size, 2, none⟩) lt1).trans a2; have a3 := (hb1.cell (p := ⟨w.heap.size, 3, none⟩) lt1).trans a3)) | fail
      all_goals (go_wp2_with fail; go_meet; exact ⟨by rw [K.out, HA.out]; rfl, B1.trans (hb1.mono (by omega))⟩)
    · have HA := Lib.hid hA
      clear hA
      cases hS : isSetI b.s
      · have HS := Lib.hid hS
        clear hS
        first | go_region_law (first | (go_simp; go_at_call 122; refine (implSymbol_any _ _).mono ?_; rintro e w1 ⟨rfl, hb1⟩; have hb1 : Below W1.heap.size W1 w1 := below_undrew hb1; rw [HA.out]; have z2 := hb1.size; have hi2 := hi1.below (hb1.mono (show B ≤ W1.heap.size by omega)); have a0 := (hb1.cell (p := ⟨w.heap.size, 0, none⟩) lt1).trans a0; have a1 := (hb1.cell (p := ⟨w.heap.size, 1, none⟩) lt1).trans a1; have a2 := (hb1.cell (p := ⟨w.heap.size, 2, none⟩) lt1).trans a2; have a3 := (hb1.cell (p := ⟨w.heap.size, 3, none⟩) lt1).trans a3) | (go_simp; go_at_call 123; refine (implIsSet_any _ _ _ B _ hi2.2).mono ?_; rintro e w' ⟨rfl, hw⟩; obtain rfl := hw.symm; rw [HS.out])) | fail
        all_goals (go_wp2_with fail; go_meet; exact ⟨by rw [K.out, HA.out, HS.out]; rfl, B1.trans (hb1.mono (by omega))⟩)
      · have HS := Lib.hid hS
        clear hS
        by_cases hn : 0 ≤ b.n
        · have hn1 : decide (0 ≤ b.n) = true := by simp [hn]
          have HN := Lib.hid hn1
          first | go_region_law (first | (go_simp; go_at_call 122; refine (implSymbol_any _ _).mono ?_; rintro e w1 ⟨rfl, hb1⟩; have hb1 : Below W1.heap.size W1 w1 := below_undrew hb1; rw [HA.out]; have z2 := hb1.size; have hi2 := hi1.below (hb1.mono (show B ≤ W1.heap.size by omega)); have a0 := (hb1.cell (p := ⟨w.heap.size, 0, none⟩) lt1).trans a0; have a1 := (hb1.cell (p := ⟨w.heap.size, 1, none⟩) lt1).trans a1; have a2 := (hb1.cell (p := ⟨w.heap.size, 2, none⟩) lt1).trans a2; have a3 := (hb1.cell (p := ⟨w.heap.size, 3, none⟩) lt1).trans a3) | (go_simp; go_at_call 123; refine (implIsSet_any _ _ _ B _ hi2.2).mono ?_; rintro e w' ⟨rfl, hw⟩; obtain rfl := hw.symm; rw [HS.out]) | (go_simp; go_at_call 124; refine (count_any _ _).mono ?_; rintro e w3 ⟨rfl, hb3⟩; have lt2 : w.heap.size < w1.heap.size := (by omega); have a0 := (hb3.cell (p := ⟨w.heap.size, 0, none⟩) lt2).trans a0; have a1 := (hb3.cell (p := ⟨w.heap.size, 1, none⟩) lt2).trans a1; have a2 := (hb3.cell (p := ⟨w.heap.size, 2, none⟩) lt2).trans a2; have a3 := (hb3.cell (p := ⟨w.heap.size, 3, none⟩) lt2).trans a3)) | fail
          all_goals (go_wp2_with fail; go_meet; exact ⟨by rw [K.out, KN.out, HA.out, HS.out, HN.out]; rfl, (B1.trans (hb1.mono (by omega))).trans (hb3.mono (by omega))⟩)
        · have hn1 : decide (0 ≤ b.n) = false := by simpa using hn
          have HN := Lib.hid hn1
          clear hn
          first | go_region_law (first | (go_simp; go_at_call 122; refine (implSymbol_any _ _).mono ?_; rintro e w1 ⟨rfl, hb1⟩; have hb1 : Below W1.heap.size W1 w1 := below_undrew hb1; rw [HA.out]; have z2 := hb1.size; have hi2 := hi1.below (hb1.mono (show B ≤ W1.heap.size by omega)); have a0 := (hb1.cell (p := ⟨w.heap.size, 0, none⟩) lt1).trans a0; have a1 := (hb1.cell (p := ⟨w.heap.size, 1, none⟩) lt1).trans a1; have a2 := (hb1.cell (p := ⟨w.heap.size, 2, none⟩) lt1).trans a2; have a3 := (hb1.cell (p := ⟨w.heap.size, 3, none⟩) lt1).trans a3) | (go_simp; go_at_call 123; refine (implIsSet_any _ _ _ B _ hi2.2).mono ?_; rintro e w' ⟨rfl, hw⟩; obtain rfl := hw.symm; rw [HS.out])) | fail
          all_goals (go_wp2_with fail; go_meet; exact ⟨by rw [K.out, KN.out, HA.out, HS.out, HN.out]; rfl, B1.trans (hb1.mono (by omega))⟩)
  case rest =>
    obtain ⟨rfl, hb⟩ := hcut
    go_wp2_with fail
    go_ret
    exact ⟨rfl, hb⟩

set_option maxRecDepth 100000 in
set_option maxHeartbeats 4000000 in
theorem specIsB_any (b : Bd) (B : Nat) (w : World) (hin : b.In w B) (hB : B ≤ w.heap.size) : Calls Tryz.prog 84 #[b.val] w fun e w' => e = .returned (.bool b.isB) ∧ Below w.heap.size w w' := by
  obtain ⟨W1, hW1⟩ : ∃ W1, W1 = w.alloc (.cells #[.string b.t, .slice b.sa b.s.length b.sc, .int .i64 b.k, .int .i64 b.n] 90) := ⟨_, rfl⟩
  have z1 : W1.heap.size = w.heap.size + 1 := by rw [hW1]; simp
  have B1 : Below w.heap.size w W1 := by rw [hW1]; exact (Below.refl _ _).alloc (Nat.le_refl _) _
  have x0 : Bd.Box W1 w.heap.size b := by rw [hW1]; exact Bd.Box.new w b _
  have hi1 := hin.below (B1.mono hB)
  obtain ⟨a0, a1, a2, a3⟩ := x0
  have lt1 : w.heap.size < W1.heap.size := by omega
  have K : Hid (b.isB = (symB b.t && (isSetI b.s && b.okN))) := rfl
  have KN : Hid (b.okN = (decide (0 ≤ b.n) && decide (b.n < countI b.k))) := rfl
  unfold Bd.val
  have hcI : ∀ q : Int, decide (0 ≤ b.n ∧ b.n ≤ countI b.k - 1) = b.okN := fun _ => by
    unfold Bd.okN
    rw [Bool.eq_iff_iff]
    simp only [decide_eq_true_eq, Bool.and_eq_true]
    omega
  have HcI := Lib.hid hcI
  clear hcI KN
  by_cases h1 : b.k = 1
  · have hk := h1
    clear h1
    have hK : countI b.k = 12 := by unfold countI; simp [hk]
    have HK := Lib.hid hK
    clear hK
    rw [hk] at a2
    rw [hk] at hW1
    rw [hk]
    have HKK := Lib.hid hk
    clear hk
    go_enter Tryz.func84, Tryz.ntmps84
    go_wp2_with fail
    rw [← hW1]
    clear hW1
    refine (sformN_any _).mono ?_
    rintro e w1 ⟨A, c, rfl, _, hb1⟩
    have hl : formN.length = 12 := rfl
    rw [hl]
    have z2 := hb1.size
    have bb := B1.trans (hb1.mono (by omega))
    have hi2 := hin.below (bb.mono hB)
    have lt2 : w.heap.size < w1.heap.size := by omega
    have a0 := (hb1.cell (p := ⟨w.heap.size, 0, none⟩) lt1).trans a0
    have a1 := (hb1.cell (p := ⟨w.heap.size, 1, none⟩) lt1).trans a1
    have a2 := (hb1.cell (p := ⟨w.heap.size, 2, none⟩) lt1).trans a2
    have a3 := (hb1.cell (p := ⟨w.heap.size, 3, none⟩) lt1).trans a3
    clear hb1 hl
    cases hA : symB b.t
    · have HA := Lib.hid hA
      clear hA
      go_wp2_with fail
      refine (specSymbol_any _ _).mono ?_
      rintro e w' ⟨rfl, rfl⟩
      rw [HA.out]
      go_wp2_with fail
      go_ret
      exact ⟨ret_bool (by rw [K.out, HA.out]; rfl), bb⟩
    · have HA := Lib.hid hA
      clear hA
      go_wp2_with fail
      refine (specSymbol_any _ _).mono ?_
      rintro e w' ⟨rfl, rfl⟩
      rw [HA.out]
      go_wp2_with fail
      refine (specIsSet_any _ _ _ B _ hi2.2 (by omega)).mono ?_
      rintro e w5 ⟨rfl, hb5⟩
      have b5 := bb.trans (hb5.mono (by omega))
      have a3 := (hb5.cell (p := ⟨w.heap.size, 3, none⟩) lt2).trans a3
      clear hb5 bb
      cases hS : isSetI b.s
      · have HS := Lib.hid hS
        clear hS
        go_wp2_with fail
        go_ret
        exact ⟨ret_bool (by rw [K.out, HA.out, HS.out]; rfl), b5⟩
      · have HS := Lib.hid hS
        clear hS
        go_wp2_with fail
        refine (l1In_any _ _ _ _).mono ?_
        rintro e w' ⟨rfl, rfl⟩
        go_wp2_with fail
        go_ret
        exact ⟨ret_bool (by rw [K.out, HA.out, HS.out, ← HcI.out 0, HK.out, Bool.eq_iff_iff]; simp only [Bool.true_and, Bool.and_eq_true, decide_eq_true_eq]; omega), b5⟩
  · have k1 : (b.k == 1) = false := by simpa using h1
    by_cases h2 : b.k = 2
    · have hk := h2
      clear h1 h2 k1
      have hK : countI b.k = 14 := by unfold countI; simp [hk]
      have HK := Lib.hid hK
      clear hK
      rw [hk] at a2
      rw [hk] at hW1
      rw [hk]
      have HKK := Lib.hid hk
      clear hk
      go_enter Tryz.func84, Tryz.ntmps84
      go_wp2_with fail
      rw [← hW1]
      clear hW1
      refine (sprimN_any _).mono ?_
      rintro e w1 ⟨A, c, rfl, _, hb1⟩
      have hl : primN.length = 14 := rfl
      rw [hl]
      have z2 := hb1.size
      have bb := B1.trans (hb1.mono (by omega))
      have hi2 := hin.below (bb.mono hB)
      have lt2 : w.heap.size < w1.heap.size := by omega
      have a0 := (hb1.cell (p := ⟨w.heap.size, 0, none⟩) lt1).trans a0
      have a1 := (hb1.cell (p := ⟨w.heap.size, 1, none⟩) lt1).trans a1
      have a2 := (hb1.cell (p := ⟨w.heap.size, 2, none⟩) lt1).trans a2
      have a3 := (hb1.cell (p := ⟨w.heap.size, 3, none⟩) lt1).trans a3
      clear hb1 hl
      cases hA : symB b.t
      · have HA := Lib.hid hA
        clear hA
        go_wp2_with fail
        refine (specSymbol_any _ _).mono ?_
        rintro e w' ⟨rfl, rfl⟩
        rw [HA.out]
        go_wp2_with fail
        go_ret
        exact ⟨ret_bool (by rw [K.out, HA.out]; rfl), bb⟩
      · have HA := Lib.hid hA
        clear hA
        go_wp2_with fail
        refine (specSymbol_any _ _).mono ?_
        rintro e w' ⟨rfl, rfl⟩
        rw [HA.out]
        go_wp2_with fail
        refine (specIsSet_any _ _ _ B _ hi2.2 (by omega)).mono ?_
        rintro e w5 ⟨rfl, hb5⟩
        have b5 := bb.trans (hb5.mono (by omega))
        have a3 := (hb5.cell (p := ⟨w.heap.size, 3, none⟩) lt2).trans a3
        clear hb5 bb
        cases hS : isSetI b.s
        · have HS := Lib.hid hS
          clear hS
          go_wp2_with fail
          go_ret
          exact ⟨ret_bool (by rw [K.out, HA.out, HS.out]; rfl), b5⟩
        · have HS := Lib.hid hS
          clear hS
          go_wp2_with fail
          refine (l1In_any _ _ _ _).mono ?_
          rintro e w' ⟨rfl, rfl⟩
          go_wp2_with fail
          go_ret
          exact ⟨ret_bool (by rw [K.out, HA.out, HS.out, ← HcI.out 0, HK.out, Bool.eq_iff_iff]; simp only [Bool.true_and, Bool.and_eq_true, decide_eq_true_eq]; omega), b5⟩
    · have k2 : (b.k == 2) = false := by simpa using h2
      by_cases h3 : b.k = 3
      · have hk := h3
        clear h1 h2 h3 k1 k2
        have hK : countI b.k = 100000 := by unfold countI; simp [hk]
        have HK := Lib.hid hK
        clear hK
        rw [hk] at a2
        rw [hk] at hW1
        rw [hk]
        have HKK := Lib.hid hk
        clear hk
        go_enter Tryz.func84, Tryz.ntmps84
        go_wp2_with fail
        rw [← hW1]
        clear hW1
        have bb := B1
        have hi2 := hi1
        have lt2 := lt1
        cases hA : symB b.t
        · have HA := Lib.hid hA
          clear hA
          go_wp2_with fail
          refine (specSymbol_any _ _).mono ?_
          rintro e w' ⟨rfl, rfl⟩
          rw [HA.out]
          go_wp2_with fail
          go_ret
          exact ⟨ret_bool (by rw [K.out, HA.out]; rfl), bb⟩
        · have HA := Lib.hid hA
          clear hA
          go_wp2_with fail
          refine (specSymbol_any _ _).mono ?_
          rintro e w' ⟨rfl, rfl⟩
          rw [HA.out]
          go_wp2_with fail
          refine (specIsSet_any _ _ _ B _ hi2.2 (by omega)).mono ?_
          rintro e w5 ⟨rfl, hb5⟩
          have b5 := bb.trans (hb5.mono (by omega))
          have a3 := (hb5.cell (p := ⟨w.heap.size, 3, none⟩) lt2).trans a3
          clear hb5 bb
          cases hS : isSetI b.s
          · have HS := Lib.hid hS
            clear hS
            go_wp2_with fail
            go_ret
            exact ⟨ret_bool (by rw [K.out, HA.out, HS.out]; rfl), b5⟩
          · have HS := Lib.hid hS
            clear hS
            go_wp2_with fail
            refine (l1In_any _ _ _ _).mono ?_
            rintro e w' ⟨rfl, rfl⟩
            go_wp2_with fail
            go_ret
            exact ⟨ret_bool (by rw [K.out, HA.out, HS.out, ← HcI.out 0, HK.out, Bool.eq_iff_iff]; simp only [Bool.true_and, Bool.and_eq_true, decide_eq_true_eq]; omega), b5⟩
      · have k3 : (b.k == 3) = false := by simpa using h3
        by_cases h4 : b.k = 4
        · have hk := h4
          clear h1 h2 h3 h4 k1 k2 k3
          have hK : countI b.k = 100000 := by unfold countI; simp [hk]
          have HK := Lib.hid hK
          clear hK
          rw [hk] at a2
          rw [hk] at hW1
          rw [hk]
          have HKK := Lib.hid hk
          clear hk
          go_enter Tryz.func84, Tryz.ntmps84
          go_wp2_with fail
          rw [← hW1]
          clear hW1
          have bb := B1
          have hi2 := hi1
          have lt2 := lt1
          cases hA : symB b.t
          · have HA := Lib.hid hA
            clear hA
            go_wp2_with fail
            refine (specSymbol_any _ _).mono ?_
            rintro e w' ⟨rfl, rfl⟩
            rw [HA.out]
            go_wp2_with fail
            go_ret
            exact ⟨ret_bool (by rw [K.out, HA.out]; rfl), bb⟩
          · have HA := Lib.hid hA
            clear hA
            go_wp2_with fail
            refine (specSymbol_any _ _).mono ?_
            rintro e w' ⟨rfl, rfl⟩
            rw [HA.out]
            go_wp2_with fail
            refine (specIsSet_any _ _ _ B _ hi2.2 (by omega)).mono ?_
            rintro e w5 ⟨rfl, hb5⟩
            have b5 := bb.trans (hb5.mono (by omega))
            have a3 := (hb5.cell (p := ⟨w.heap.size, 3, none⟩) lt2).trans a3
            clear hb5 bb
            cases hS : isSetI b.s
            · have HS := Lib.hid hS
              clear hS
              go_wp2_with fail
              go_ret
              exact ⟨ret_bool (by rw [K.out, HA.out, HS.out]; rfl), b5⟩
            · have HS := Lib.hid hS
              clear hS
              go_wp2_with fail
              refine (l1In_any _ _ _ _).mono ?_
              rintro e w' ⟨rfl, rfl⟩
              go_wp2_with fail
              go_ret
              exact ⟨ret_bool (by rw [K.out, HA.out, HS.out, ← HcI.out 0, HK.out, Bool.eq_iff_iff]; simp only [Bool.true_and, Bool.and_eq_true, decide_eq_true_eq]; omega), b5⟩
        · have k4 : (b.k == 4) = false := by simpa using h4
          have hK : countI b.k = 0 := by unfold countI; simp [h1, h2, h3, h4]
          have HK := Lib.hid hK
          clear hK h1 h2 h3 h4
          go_enter Tryz.func84, Tryz.ntmps84
          go_wp2_with fail
          rw [← hW1]
          clear hW1
          have bb := B1
          have hi2 := hi1
          have lt2 := lt1
          cases hA : symB b.t
          · have HA := Lib.hid hA
            clear hA
            go_wp2_with fail
            refine (specSymbol_any _ _).mono ?_
            rintro e w' ⟨rfl, rfl⟩
            rw [HA.out]
            go_wp2_with fail
            go_ret
            exact ⟨ret_bool (by rw [K.out, HA.out]; rfl), bb⟩
          · have HA := Lib.hid hA
            clear hA
            go_wp2_with fail
            refine (specSymbol_any _ _).mono ?_
            rintro e w' ⟨rfl, rfl⟩
            rw [HA.out]
            go_wp2_with fail
            refine (specIsSet_any _ _ _ B _ hi2.2 (by omega)).mono ?_
            rintro e w5 ⟨rfl, hb5⟩
            have b5 := bb.trans (hb5.mono (by omega))
            have a3 := (hb5.cell (p := ⟨w.heap.size, 3, none⟩) lt2).trans a3
            clear hb5 bb
            cases hS : isSetI b.s
            · have HS := Lib.hid hS
              clear hS
              go_wp2_with fail
              go_ret
              exact ⟨ret_bool (by rw [K.out, HA.out, HS.out]; rfl), b5⟩
            · have HS := Lib.hid hS
              clear hS
              go_wp2_with fail
              refine (l1In_any _ _ _ _).mono ?_
              rintro e w' ⟨rfl, rfl⟩
              go_wp2_with fail
              go_ret
              exact ⟨ret_bool (by rw [K.out, HA.out, HS.out, ← HcI.out 0, HK.out, Bool.eq_iff_iff]; simp only [Bool.true_and, Bool.and_eq_true, decide_eq_true_eq]; omega), b5⟩
end Go.Proofs.YtnldlbglgalbaabGreat

namespace Go.Proofs.YtnldlbglgalbaabGreat
open Go.RowKit

namespace Bd
def erL (l : List Bd) : List Bd := l.map er
def bulkL : List Bd → Nat | [] => 0 | b :: r => 1 + bulk b + bulkL r
theorem erL_append (a b : List Bd) : erL (a ++ b) = erL a ++ erL b := by simp [erL]
theorem erL_length (a : List Bd) : (erL a).length = a.length := by simp [erL]
theorem bulkL_mem {l : List Bd} {b : Bd} (h : b ∈ l) : 1 + bulk b ≤ bulkL l := by
  induction l with
  | nil => cases h
  | cons e r ih =>
    simp only [bulkL]
    rcases List.mem_cons.1 h with rfl | h
    · omega
    · have := ih h; omega
theorem bulkL_len (l : List Bd) : l.length ≤ bulkL l := by
  induction l with
  | nil => simp
  | cons e r ih => simp only [bulkL, List.length_cons]; omega
theorem bulkL_append (a b : List Bd) : bulkL (a ++ b) = bulkL a + bulkL b := by
  induction a with
  | nil => simp [bulkL]
  | cons e r ih => simp only [List.cons_append, bulkL, ih]; omega
theorem bulkL_er (l : List Bd) : bulkL (erL l) = bulkL l := by
  induction l with
  | nil => rfl
  | cons e r ih => simp only [erL, List.map_cons, bulkL] at ih ⊢; rw [ih]; rfl
theorem erL_get {a b : List Bd} (h : erL a = erL b) {j : Nat} (ha : j < a.length) (hb : j < b.length) : er a[j] = er b[j] := by
  have h1 : (erL a)[j]? = (erL b)[j]? := by rw [h]
  simp only [erL, List.getElem?_map, List.getElem?_eq_getElem ha, List.getElem?_eq_getElem hb, Option.map_some, Option.some.injEq] at h1
  exact h1
/-- The cells of element i. -/
theorem at_ {w : World} {B : Nat} {A : Option Addr} {c : Nat} {l : List Bd} (h : E.LIn w B A c l) {i : Nat} {x : Bd} (hi : l[i]? = some x) :
    ∃ b o : Nat, A = some ⟨b, o, none⟩ ∧ b < B ∧ w.cell? ⟨b, o + i * 4, none⟩ = some (.string x.t) ∧ w.cell? ⟨b, o + i * 4 + 1, none⟩ = some (.slice x.sa x.s.length x.sc) ∧ w.cell? ⟨b, o + i * 4 + 2, none⟩ = some (.int .i64 x.k) ∧ w.cell? ⟨b, o + i * 4 + 3, none⟩ = some (.int .i64 x.n) ∧ In w B x := by
  obtain ⟨b, o, e, hb, hc, hx⟩ := h.at_ hi
  exact ⟨b, o, e, hb, hc 0 _ rfl, hc 1 _ rfl, hc 2 _ rfl, hc 3 _ rfl, hx⟩
end Bd

theorem infoB : (Tryz.prog.info? 90).map (fun i => (i.zero, i.size, i.bytes)) = some (some (.agg #[.string ⟨#[]⟩, .slice none 0 0, .int .i64 0, .int .i64 0]), 4, 56) := by kernel_rfl

/-- Returned: a list of bindings of the call's own. -/
def RetBL (x : List Bd) (w : World) (e : Ending) (w' : World) : Prop := ∃ (A : Option Addr) (c : Nat) (l : List Bd), e = .returned (.slice A l.length c) ∧ Bd.erL l = x ∧ Bd.E.LOwn w.heap.size w'.heap.size w' A c l ∧ Below w.heap.size w w'

set_option maxRecDepth 100000 in
set_option maxHeartbeats 1000000 in
theorem toBdL_any (A : Option Addr) (c : Nat) (l : List Bd) (B : Nat) (w : World) (hbk : Bd.bulkL l ≤ 2000000) (hin : Bd.E.LIn w B A c l) (hB : B ≤ w.heap.size) : Calls Tryz.prog 52 #[.slice A l.length c] w (RetBL (Bd.erL l) w) := by
  have hcap := hin.cap
  have hll := Bd.bulkL_len l
  obtain ⟨i0, hi0, hz0, hz1, hz2⟩ := info_parts infoB
  have hmk := fun W => run_make_rowN (P := Tryz.prog) 58 90 i0 _ Tryz.underlying58 hi0 hz0 .i64 .i64 l.length l.length (Nat.le_refl _) (by rw [hz2]; omega) (by omega) W
  rw [hz1] at hmk
  go_enter Tryz.func52, Tryz.ntmps52
  go_wp2_with fail
  go_loopw [4] (fun i wr => ∃ j : Nat, j ≤ l.length ∧ i = .int .i64 j ∧ ∃ ds : List Bd, Hid (Bd.erL ds = Bd.erL (l.take j)) ∧ ds.length ≤ j ∧ j ≤ ds.length ∧ Bd.E.Fill wr w.heap.size 90 l.length ds ∧ Below w.heap.size w wr) (fun i _ => l.length - (intOf i).toNat)
  case atStart => exact ⟨0, Nat.zero_le _, rfl, [], by simp [Bd.erL, Hid], Nat.le_refl _, Nat.le_refl _, Elem.Fill.new w _ (by rw [size_madeCells]; show l.length * 4 = 4 * l.length; omega), (Below.refl _ _).alloc (Nat.le_refl _) _⟩
  case round =>
    obtain ⟨j, hj, rfl, ds, HE, hd1, hd2, hF, hb⟩ := hrel
    by_cases hlt : j < l.length
    · obtain ⟨b, o, rfl, hblk, c0, c1, c2, c3, hix⟩ := Bd.at_ (hin.below (hb.mono hB)) (i := j) (x := l[j]) (List.getElem?_eq_getElem hlt)
      have hs2 := hb.size
      have hbk1 := Bd.bulkL_mem (l := l) (List.getElem_mem hlt)
      have hglt : w.heap.size < wr.heap.size := hF.row.lt
      have hs1 : l[j].s.length ≤ 2000000 := by unfold Bd.bulk at hbk1; omega
      go_wp2_with fail
      refine (toBd_any l[j] B _ hs1 hix (by omega)).mono ?_
      rintro e w1 ⟨d, rfl, hde, hod, hb1⟩
      have hrow1 := hF.row.below hb1 hglt
      have e4 : Bd.E.n = 4 := rfl
      obtain ⟨v0, hc0⟩ := hrow1.old (i := j * 4) (by rw [e4]; omega)
      obtain ⟨v1, hc1⟩ := hrow1.old (i := j * 4 + 1) (by rw [e4]; omega)
      obtain ⟨v2, hc2⟩ := hrow1.old (i := j * 4 + 2) (by rw [e4]; omega)
      obtain ⟨v3, hc3⟩ := hrow1.old (i := j * 4 + 3) (by rw [e4]; omega)
      have f0 := hrow1.frozen (j * 4)
      have f1 := hrow1.frozen (j * 4 + 1)
      have f2 := hrow1.frozen (j * 4 + 2)
      have f3 := hrow1.frozen (j * 4 + 3)
      have hst := hF.step hb1 hod (by omega)
      have ej : Bd.E.n * ds.length = j * 4 := by rw [e4]; omega
      rw [ej] at hst
      have Hst := Lib.hid hst
      have Hde := Lib.hid hde
      clear hde hst e4 ej hrow1
      simp only [Bd.val]
      go_wp2_with fail
      refine ⟨⟨j + 1, by omega, by go_num, ds ++ [d], ?_, by simp; omega, by simp; omega, Hst.out, ?_⟩, by simp [intOf]; omega⟩
      · show _ = _
        rw [List.take_succ_eq_append_getElem hlt, Bd.erL_append, Bd.erL_append, HE.out]
        simp [Bd.erL, Hde.out]
      · exact ((((hb.trans (hb1.mono (by omega))).setCell (by simp) _).setCell (by simp) _).setCell (by simp) _).setCell (by simp) _
    · have hj' : j = l.length := by omega
      have hj'' : ds.length = l.length := by omega
      subst hj'
      have hdone := hF.done hj'' (by omega)
      have HE' := HE.out
      rw [List.take_length] at HE'
      have HR := Lib.hid HE'
      have HL := Lib.hid hj''
      clear hj'' HE'
      go_wp2_with fail
      go_ret
      exact ⟨some ⟨w.heap.size, 0, none⟩, l.length, ds, ret_sl HL.out.symm, HR.out, hdone, hb⟩

set_option maxRecDepth 100000 in
set_option maxHeartbeats 1000000 in
theorem szBdL_any (A : Option Addr) (c : Nat) (l : List Bd) (B : Nat) (w : World) (left : Int) (hcap : l.length ≤ c ∧ c ≤ 9223372036854775807) (h0 : 0 ≤ left) (h1 : left ≤ 1048576) (hin : Bd.E.LIn w B A c l) (hB : B ≤ w.heap.size) :
    Calls Tryz.prog 48 #[.slice A l.length c, .int .i64 left] w fun e w' => e = .returned (.int .i64 (szR (Bd.bulkL l) left)) ∧ Below w.heap.size w w' := by
  have hll := Bd.bulkL_len l
  by_cases hq : (l.length : Int) ≤ left
  · have q1 : ¬ (left - (l.length : Int) < 0) := by omega
    go_enter Tryz.func48, Tryz.ntmps48
    go_wp2_with fail
    go_loopw [1, 5] (fun v i wr => ∃ j : Nat, j ≤ l.length ∧ i = .int .i64 j ∧ v = .int .i64 (left - l.length - (Bd.bulkL (l.take j) - j)) ∧ (Bd.bulkL (l.take j) : Int) - j ≤ left - l.length ∧ j ≤ Bd.bulkL (l.take j) ∧ Below w.heap.size w wr) (fun _ i _ => l.length - (intOf i).toNat)
    case atStart => exact ⟨0, Nat.zero_le _, rfl, by simp [Bd.bulkL], by simp [Bd.bulkL]; omega, by simp, Below.refl _ _⟩
    case round =>
      obtain ⟨j, hj, rfl, rfl, hle, hjb, hb⟩ := hrel
      have hs2 := hb.size
      by_cases hlt : j < l.length
      · obtain ⟨b, o, rfl, hblk, c0, c1, c2, c3, hix⟩ := Bd.at_ (hin.below (hb.mono hB)) (i := j) (x := l[j]) (List.getElem?_eq_getElem hlt)
        have hstep : Bd.bulkL (l.take (j + 1)) = Bd.bulkL (l.take j) + (1 + l[j].bulk) := by
          rw [List.take_succ_eq_append_getElem hlt, Bd.bulkL_append]; simp only [Bd.bulkL]; omega
        have htot : Bd.bulkL l = Bd.bulkL (l.take (j + 1)) + Bd.bulkL (l.drop (j + 1)) := by rw [← Bd.bulkL_append, List.take_append_drop]
        have hlen := Bd.bulkL_len (l.drop (j + 1))
        rw [List.length_drop] at hlen
        have HS := Lib.hid hstep
        have HT := Lib.hid htot
        clear hstep htot
        by_cases hr : (l[j].bulk : Int) ≤ left - l.length - (Bd.bulkL (l.take j) - j)
        · have q2 : ¬ (left - (l.length : Int) - ((Bd.bulkL (l.take j) : Int) - j) - (l[j].bulk : Int) < 0) := by omega
          go_wp2_with fail
          refine (szBd_any l[j] B _ _ (by omega) (by omega) hix (by omega)).mono ?_
          rintro e w1 ⟨rfl, hb1⟩
          rw [szR_yes hr]
          have hb2 := hb.trans (hb1.mono (by omega))
          clear hb1
          go_wp2_with fail
          refine ⟨⟨j + 1, by omega, by go_num, ?_, by have := HS.out; omega, by have := HS.out; omega, hb2⟩, by simp [intOf]; omega⟩
          have := HS.out
          congr 1
          omega
        · have HF : Hid (szR (Bd.bulkL l) left = -1) := szR_no (by have := HS.out; have := HT.out; omega)
          go_wp2_with fail
          refine (szBd_any l[j] B _ _ (by omega) (by omega) hix (by omega)).mono ?_
          rintro e w1 ⟨rfl, hb1⟩
          rw [szR_no (by omega)]
          have hb2 := hb.trans (hb1.mono (by omega))
          clear hb1
          go_wp2_with fail
          go_ret
          exact ⟨ret_int HF.out.symm, hb2⟩
      · have hj' : j = l.length := by omega
        subst hj'
        rw [List.take_length] at hle
        have HF : Hid (szR (Bd.bulkL l) left = left - Bd.bulkL l) := szR_yes (by omega)
        go_wp2_with fail
        go_ret
        refine ⟨ret_int ?_, hb⟩
        rw [HF.out, List.take_length]; omega
  · have q1 : left - (l.length : Int) < 0 := by omega
    have HF : Hid (szR (Bd.bulkL l) left = -1) := szR_no (by omega)
    go_enter Tryz.func48, Tryz.ntmps48
    go_wp2_with fail
    go_ret
    exact ⟨ret_int HF.out.symm, Below.refl _ _⟩

set_option maxRecDepth 100000 in
set_option maxHeartbeats 1000000 in
theorem eqBdL_any (A : Option Addr) (c : Nat) (l : List Bd) (A' : Option Addr) (c' : Nat) (l' : List Bd) (B : Nat) (w : World) (he : Bd.erL l = Bd.erL l') (hin : Bd.E.LIn w B A c l) (hin' : Bd.E.LIn w B A' c' l') (hB : B ≤ w.heap.size) :
    Calls Tryz.prog 63 #[.slice A l.length c, .slice A' l'.length c'] w fun e w' => e = .returned (.bool true) ∧ Below w.heap.size w w' := by
  have hcap := hin.cap
  have hcap' := hin'.cap
  have hlen : l.length = l'.length := by rw [← Bd.erL_length l, he, Bd.erL_length]
  have hn1 : ((l.length : Int) != (l'.length : Int)) = false := by simp [hlen]
  have hlen1 : l'.length ≤ l.length := by omega
  have hlen2 : l.length ≤ l'.length := by omega
  clear hlen
  have HE := Lib.hid he
  clear he
  go_enter Tryz.func63, Tryz.ntmps63
  go_wp2_with fail
  go_loopw [5] (fun i wr => ∃ j : Nat, j ≤ l.length ∧ i = .int .i64 j ∧ Below w.heap.size w wr) (fun i _ => l.length - (intOf i).toNat)
  case atStart => exact ⟨0, Nat.zero_le _, rfl, Below.refl _ _⟩
  case round =>
    obtain ⟨j, hj, rfl, hb⟩ := hrel
    by_cases hlt : j < l.length
    · have hlt' : j < l'.length := by omega
      have hs2 := hb.size
      obtain ⟨b, o, rfl, hblk, c0, c1, c2, c3, hix⟩ := Bd.at_ (hin.below (hb.mono hB)) (i := j) (x := l[j]) (List.getElem?_eq_getElem hlt)
      obtain ⟨b', o', rfl, hblk', d0, d1, d2, d3, hix'⟩ := Bd.at_ (hin'.below (hb.mono hB)) (i := j) (x := l'[j]) (List.getElem?_eq_getElem hlt')
      have g2 : (j : Int) < (l.length : Int) := by omega
      have g3 : (j : Int) < (l'.length : Int) := by omega
      have heq := Bd.erL_get HE.out hlt hlt'
      have Heq := Lib.hid heq
      clear heq
      have lc : b < wr.heap.size := by omega
      have ld : b' < wr.heap.size := by omega
      go_wp2_with fail
      first
      | go_region_held3 (fun w' => w'.cell? ⟨b, o + j * 4, none⟩ = some (.string l[j].t) ∧ w'.cell? ⟨b, o + j * 4 + 1, none⟩ = some (.slice l[j].sa l[j].s.length l[j].sc) ∧ w'.cell? ⟨b, o + j * 4 + 2, none⟩ = some (.int .i64 l[j].k) ∧ w'.cell? ⟨b, o + j * 4 + 3, none⟩ = some (.int .i64 l[j].n) ∧ w'.cell? ⟨b', o' + j * 4, none⟩ = some (.string l'[j].t) ∧ w'.cell? ⟨b', o' + j * 4 + 1, none⟩ = some (.slice l'[j].sa l'[j].s.length l'[j].sc) ∧ w'.cell? ⟨b', o' + j * 4 + 2, none⟩ = some (.int .i64 l'[j].k) ∧ w'.cell? ⟨b', o' + j * 4 + 3, none⟩ = some (.int .i64 l'[j].n)) (go_keep)
          ((go_at_call 95; refine (eqBd_any l[j] l'[j] B _ Heq.out ?_ ?_ ?_).mono ?_; exact hix.drew; exact hix'.drew; (show B ≤ wr.heap.size); omega; rintro e w1 ⟨rfl, hb1⟩; have hb1 : Below wr.heap.size wr w1 := below_undrew hb1; have c0' := (hb1.cell (p := ⟨b, o + j * 4, none⟩) lc).trans c0; have c1' := (hb1.cell (p := ⟨b, o + j * 4 + 1, none⟩) lc).trans c1; have c2' := (hb1.cell (p := ⟨b, o + j * 4 + 2, none⟩) lc).trans c2; have c3' := (hb1.cell (p := ⟨b, o + j * 4 + 3, none⟩) lc).trans c3; have d0' := (hb1.cell (p := ⟨b', o' + j * 4, none⟩) ld).trans d0; have d1' := (hb1.cell (p := ⟨b', o' + j * 4 + 1, none⟩) ld).trans d1; have d2' := (hb1.cell (p := ⟨b', o' + j * 4 + 2, none⟩) ld).trans d2; have d3' := (hb1.cell (p := ⟨b', o' + j * 4 + 3, none⟩) ld).trans d3))
      | fail
      all_goals go_wp2_with fail
      all_goals refine ⟨⟨j + 1, by omega, by go_num, hb.trans (hb1.mono (by omega))⟩, by simp [intOf]; omega⟩
    · have hj' : j = l.length := by omega
      subst hj'
      go_wp2_with fail
      go_ret
      exact ⟨rfl, hb⟩
end Go.Proofs.YtnldlbglgalbaabGreat

namespace Go.Proofs.YtnldlbglgalbaabGreat
open Go.RowKit

namespace Bd
/-- Whether a binding with this text and these scopes is there. -/
def clash (l : List Bd) (b : Bd) : Bool := l.any fun x => x.t.toList == b.t.toList && x.s == b.s
/-- Each is valid, and clashes with none before it. -/
def goodL : List Bd → List Bd → Bool | _, [] => true | p, b :: r => isB b && (!clash p b && goodL (p ++ [b]) r)
def areB (l : List Bd) : Bool := goodL [] l && decide (l.length ≤ 1000)
theorem goodL_append (a b : List Bd) : ∀ p, goodL p (a ++ b) = (goodL p a && goodL (p ++ a) b) := by
  induction a with
  | nil => intro p; simp [goodL]
  | cons x r ih => intro p; simp only [List.cons_append, goodL, ih, List.append_assoc, Bool.and_assoc, List.nil_append]
theorem goodL_step {l : List Bd} {j : Nat} (h : j < l.length) : goodL [] (l.take (j + 1)) = (goodL [] (l.take j) && (isB l[j] && !clash (l.take j) l[j])) := by
  rw [List.take_succ_eq_append_getElem h, goodL_append]
  simp [goodL]
theorem goodL_no {l : List Bd} {j : Nat} (h : j < l.length) (hb : (isB l[j] && !clash (l.take j) l[j]) = false) : goodL [] l = false := by
  rw [← List.take_append_drop (j + 1) l, goodL_append, goodL_step h, hb]
  simp
theorem clash_er {a b : List Bd} {x y : Bd} (h : erL a = erL b) (hx : er x = er y) : clash a x = clash b y := by
  have e : ∀ l : List Bd, ∀ z : Bd, clash l z = clash (erL l) (er z) := by
    intro l z
    induction l with
    | nil => rfl
    | cons q r ih => simp only [clash, erL, List.map_cons, List.any_cons] at ih ⊢; rw [ih]; rfl
  rw [e a x, e b y, h, hx]
theorem goodL_er : ∀ (a b p q : List Bd), erL a = erL b → erL p = erL q → goodL p a = goodL q b
  | [], [], _, _, _, _ => rfl
  | [], _ :: _, _, _, h, _ => by simp [erL] at h
  | _ :: _, [], _, _, h, _ => by simp [erL] at h
  | x :: r, y :: s, p, q, h, hp => by
    have hh : er x = er y ∧ erL r = erL s := by simpa [erL] using h
    simp only [goodL, isB_of_er hh.1, clash_er hp hh.1]
    rw [goodL_er r s (p ++ [x]) (q ++ [y]) hh.2 (by rw [erL_append, erL_append, hp]; simp [erL, hh.1])]
theorem areB_er {a b : List Bd} (h : erL a = erL b) : areB a = areB b := by
  unfold areB
  rw [goodL_er a b [] [] h rfl, ← erL_length a, h, erL_length]
theorem clash_step {l : List Bd} {j : Nat} (h : j < l.length) (b : Bd) : clash (l.take (j + 1)) b = (clash (l.take j) b || (l[j].t.toList == b.t.toList && l[j].s == b.s)) := by
  unfold clash
  rw [List.take_succ_eq_append_getElem h, List.any_append]
  simp
theorem clash_yes {l : List Bd} {j : Nat} (h : j < l.length) {b : Bd} (he : (l[j].t.toList == b.t.toList && l[j].s == b.s) = true) : clash l b = true := by
  unfold clash
  rw [List.any_eq_true]
  exact ⟨l[j], List.getElem_mem h, he⟩
/-- The head of a row. -/
theorem lin_take {w : World} {B : Nat} {A : Option Addr} {c : Nat} {l : List Bd} (h : E.LIn w B A c l) {j : Nat} (hj : j ≤ l.length) : E.LIn w B A c (l.take j) := by
  refine ⟨⟨by rw [List.length_take]; have := h.cap; omega, h.cap.2⟩, h.nil, fun hne => ?_, fun x hx => h.all x (List.mem_of_mem_take hx)⟩
  obtain ⟨b, o, e, hb, hc⟩ := h.mem (by rintro rfl; simp at hne)
  refine ⟨b, o, e, hb, fun i u hu => hc i u ?_⟩
  have e2 : E.cellsL l = E.cellsL (l.take j) ++ E.cellsL (l.drop j) := by rw [← Elem.cellsL_append, List.take_append_drop]
  rw [e2, List.getElem?_append_left (List.getElem?_eq_some_iff.1 hu).1]
  exact hu
end Bd

set_option maxRecDepth 100000 in
set_option maxHeartbeats 1000000 in
theorem clash_any (A : Option Addr) (c : Nat) (l : List Bd) (b0 : Bd) (B : Nat) (w : World) (hin : Bd.E.LIn w B A c l) (hb0 : b0.In w B) (hB : B ≤ w.heap.size) :
    Calls Tryz.prog 85 #[.slice A l.length c, b0.val] w fun e w' => e = .returned (.bool (Bd.clash l b0)) ∧ Below w.heap.size w w' := by
  have hcap := hin.cap
  obtain ⟨W1, hW1⟩ : ∃ W1, W1 = w.alloc (.cells #[.string b0.t, .slice b0.sa b0.s.length b0.sc, .int .i64 b0.k, .int .i64 b0.n] 90) := ⟨_, rfl⟩
  have z1 : W1.heap.size = w.heap.size + 1 := by rw [hW1]; simp
  have B1 : Below w.heap.size w W1 := by rw [hW1]; exact (Below.refl _ _).alloc (Nat.le_refl _) _
  have x0 : Bd.Box W1 w.heap.size b0 := by rw [hW1]; exact Bd.Box.new w b0 _
  unfold Bd.val
  go_enter Tryz.func85, Tryz.ntmps85
  go_wp2_with fail
  rw [← hW1]
  clear hW1
  go_loopw [9] (fun i wr => ∃ j : Nat, j ≤ l.length ∧ i = .int .i64 j ∧ Hid (Bd.clash (l.take j) b0 = false) ∧ Bd.Box wr w.heap.size b0 ∧ w.heap.size < wr.heap.size ∧ Below w.heap.size w wr) (fun i _ => l.length - (intOf i).toNat)
  case atStart => exact ⟨0, Nat.zero_le _, rfl, by simp [Hid, Bd.clash], x0, by omega, B1⟩
  case round =>
    obtain ⟨j, hj, rfl, HN, hx, hsz, hb⟩ := hrel
    by_cases hlt : j < l.length
    · obtain ⟨b, o, rfl, hblk, c0, c1, c2, c3, hix⟩ := Bd.at_ (hin.below (hb.mono hB)) (i := j) (x := l[j]) (List.getElem?_eq_getElem hlt)
      have g2 : (j : Int) < (l.length : Int) := by omega
      have HS := Lib.hid (Bd.clash_step hlt b0)
      have bA : Below wr.heap.size wr (wr.alloc (.cells #[.string l[j].t, .slice l[j].sa l[j].s.length l[j].sc, .int .i64 l[j].k, .int .i64 l[j].n] 90)) := (Below.refl _ _).alloc (Nat.le_refl _) _
      have y0 := Bd.Box.new wr l[j] 90
      have xA := hx.below (w' := wr.alloc (.cells #[.string l[j].t, .slice l[j].sa l[j].s.length l[j].sc, .int .i64 l[j].k, .int .i64 l[j].n] 90)) bA hsz
      obtain ⟨a0, a1, a2, a3⟩ := xA
      obtain ⟨d0, d1, d2, d3⟩ := y0
      cases ht : (l[j].t.toList == b0.t.toList)
      · have HN2 : Hid (Bd.clash (l.take (j + 1)) b0 = false) := by show _ = _; rw [HS.out, HN.out, ht]; rfl
        have hxA := hx.below (w' := wr.alloc (.cells #[.string l[j].t, .slice l[j].sa l[j].s.length l[j].sc, .int .i64 l[j].k, .int .i64 l[j].n] 90)) bA hsz
        go_wp2_with fail
        refine ⟨⟨j + 1, by omega, by go_num, HN2, hxA, by simp; omega, hb.trans (bA.mono (by omega))⟩, by simp [intOf]; omega⟩
      · have HT := Lib.hid ht
        go_wp2_with fail
        refine (sameInts_any _ _ _ _ _ _ B _ (hix.2.below (bA.mono (by omega))) ((hb0.2.below (hb.mono hB)).below (bA.mono (by omega))) (by simp; omega)).mono ?_
        rintro e w1 ⟨rfl, hb1⟩
        have hb2 : Below wr.heap.size wr w1 := bA.trans (hb1.mono (by simp))
        have hx1 := hx.below hb2 hsz
        have zz := hb2.size
        have hb3 := hb.trans (hb2.mono (by omega))
        clear a0 a1 a2 a3 d0 d1 d2 d3 c0 c1 c2 c3 hb1 hb2 bA hx
        cases hs : (l[j].s == b0.s)
        · have HN2 : Hid (Bd.clash (l.take (j + 1)) b0 = false) := by show _ = _; rw [HS.out, HN.out, HT.out, hs]; rfl
          clear hs
          go_wp2_with fail
          refine ⟨⟨j + 1, by omega, by go_num, HN2, hx1, by omega, hb3⟩, by simp [intOf]; omega⟩
        · have HY := Lib.hid (Bd.clash_yes hlt (b := b0) (by rw [HT.out, hs]; rfl))
          clear hs
          go_wp2_with fail
          go_ret
          exact ⟨ret_bool HY.out.symm, hb3⟩
    · have hj' : j = l.length := by omega
      subst hj'
      have HF : Hid (Bd.clash l b0 = false) := by have := HN.out; rwa [List.take_length] at this
      go_wp2_with fail
      go_ret
      exact ⟨ret_bool HF.out.symm, hb⟩

set_option maxRecDepth 100000 in
set_option maxHeartbeats 2000000 in
theorem specAreB_any (A : Option Addr) (c : Nat) (l : List Bd) (B : Nat) (w : World) (hin : Bd.E.LIn w B A c l) (hB : B ≤ w.heap.size) :
    Calls Tryz.prog 50 #[.slice A l.length c] w fun e w' => e = .returned (.bool (Bd.areB l)) ∧ Below w.heap.size w w' := by
  have hcap := hin.cap
  have K : Hid (Bd.areB l = (Bd.goodL [] l && decide (l.length ≤ 1000))) := rfl
  go_enter Tryz.func50, Tryz.ntmps50
  go_wp2_with fail
  go_loopw [3, 7] (fun _ i wr => ∃ j : Nat, j ≤ l.length ∧ i = .int .i64 j ∧ Hid (Bd.goodL [] (l.take j) = true) ∧ Below w.heap.size w wr) (fun _ i _ => l.length - (intOf i).toNat)
  case atStart => exact ⟨0, Nat.zero_le _, rfl, by simp [Hid, Bd.goodL], Below.refl _ _⟩
  case round =>
    obtain ⟨j, hj, rfl, HG, hb⟩ := hrel
    have hz := hb.size
    by_cases hlt : j < l.length
    · obtain ⟨b, o, rfl, hblk, c0, c1, c2, c3, hix⟩ := Bd.at_ (hin.below (hb.mono hB)) (i := j) (x := l[j]) (List.getElem?_eq_getElem hlt)
      have g1 : (0 : Int) ≤ (j : Int) := by omega
      have g2 : (j : Int) < (l.length : Int) := by omega
      have g3 : (j : Int) ≤ (c : Int) := by omega
      have HS := Lib.hid (Bd.goodL_step hlt)
      obtain ⟨W2, hW2⟩ : ∃ W2, W2 = wr.alloc (.cells #[.string l[j].t, .slice l[j].sa l[j].s.length l[j].sc, .int .i64 l[j].k, .int .i64 l[j].n] 90) := ⟨_, rfl⟩
      have bA : Below wr.heap.size wr W2 := by rw [hW2]; exact (Below.refl _ _).alloc (Nat.le_refl _) _
      have z2 : W2.heap.size = wr.heap.size + 1 := by rw [hW2]; simp
      have y0 : Bd.Box W2 wr.heap.size l[j] := by rw [hW2]; exact Bd.Box.new wr l[j] _
      obtain ⟨d0, d1, d2, d3⟩ := y0
      have lt2 : wr.heap.size < W2.heap.size := by omega
      have hi2 := hix.below (bA.mono (by omega))
      have hl2 := (Bd.lin_take (hin.below (hb.mono hB)) (j := j) (by omega)).below (bA.mono (by omega))
      have hlj : (l.take j).length = j := by rw [List.length_take]; omega
      have hcl := fun w' => clash_any (some ⟨b, o, none⟩) c (l.take j) l[j] B w'
      rw [hlj] at hcl
      cases hA : Bd.isB l[j]
      · have HA := Lib.hid hA
        have HN := Lib.hid (Bd.goodL_no hlt (by rw [hA]; rfl))
        clear hA hlj
        go_wp2_with fail
        rw [← hW2]
        clear hW2
        first | go_region_law (first | (go_simp; go_at_call 84; refine (specIsB_any l[j] B _ ?_ ?_).mono ?_; exact hi2.drew; (show B ≤ W2.heap.size); omega; rintro e w1 ⟨rfl, hb1⟩; have hb1 : Below W2.heap.size W2 w1 := below_undrew hb1; rw [HA.out]; have zz1 := hb1.size; have lt3 : wr.heap.size < w1.heap.size := (by omega); have d0 := (hb1.cell (p := ⟨wr.heap.size, 0, none⟩) lt2).trans d0; have d1 := (hb1.cell (p := ⟨wr.heap.size, 1, none⟩) lt2).trans d1; have d2 := (hb1.cell (p := ⟨wr.heap.size, 2, none⟩) lt2).trans d2; have d3 := (hb1.cell (p := ⟨wr.heap.size, 3, none⟩) lt2).trans d3)) | fail
        all_goals go_wp2_with fail
        all_goals go_ret
        all_goals exact ⟨ret_bool (by rw [K.out, HN.out]; rfl), (hb.trans (bA.mono hz)).trans (hb1.mono (by omega))⟩
      · have HA := Lib.hid hA
        clear hA hlj
        cases hC : Bd.clash (l.take j) l[j]
        · have HC := Lib.hid hC
          have HG2 : Hid (Bd.goodL [] (l.take (j + 1)) = true) := by show _ = _; rw [HS.out, HG.out, HA.out, hC]; rfl
          clear hC
          go_wp2_with fail
          rw [← hW2]
          clear hW2
          first | go_region_law (first | (go_simp; go_at_call 84; refine (specIsB_any l[j] B _ ?_ ?_).mono ?_; exact hi2.drew; (show B ≤ W2.heap.size); omega; rintro e w1 ⟨rfl, hb1⟩; have hb1 : Below W2.heap.size W2 w1 := below_undrew hb1; rw [HA.out]; have zz1 := hb1.size; have lt3 : wr.heap.size < w1.heap.size := (by omega); have d0 := (hb1.cell (p := ⟨wr.heap.size, 0, none⟩) lt2).trans d0; have d1 := (hb1.cell (p := ⟨wr.heap.size, 1, none⟩) lt2).trans d1; have d2 := (hb1.cell (p := ⟨wr.heap.size, 2, none⟩) lt2).trans d2; have d3 := (hb1.cell (p := ⟨wr.heap.size, 3, none⟩) lt2).trans d3) | (go_simp; go_at_call 85; refine (hcl _ ?_ ?_ ?_).mono ?_; exact hl2.below (hb1.mono (by omega)); exact hi2.below (hb1.mono (by omega)); omega; rintro e w3 ⟨rfl, hb3⟩; rw [HC.out]; have d0 := (hb3.cell (p := ⟨wr.heap.size, 0, none⟩) lt3).trans d0; have d1 := (hb3.cell (p := ⟨wr.heap.size, 1, none⟩) lt3).trans d1; have d2 := (hb3.cell (p := ⟨wr.heap.size, 2, none⟩) lt3).trans d2; have d3 := (hb3.cell (p := ⟨wr.heap.size, 3, none⟩) lt3).trans d3)) | fail
          all_goals go_wp2_with fail
          all_goals refine ⟨⟨j + 1, by omega, by go_num, HG2, ((hb.trans (bA.mono hz)).trans (hb1.mono (by omega))).trans (hb3.mono (by omega))⟩, by simp [intOf]; omega⟩
        · have HC := Lib.hid hC
          have HN := Lib.hid (Bd.goodL_no hlt (by rw [HA.out, hC]; rfl))
          clear hC
          go_wp2_with fail
          rw [← hW2]
          clear hW2
          first | go_region_law (first | (go_simp; go_at_call 84; refine (specIsB_any l[j] B _ ?_ ?_).mono ?_; exact hi2.drew; (show B ≤ W2.heap.size); omega; rintro e w1 ⟨rfl, hb1⟩; have hb1 : Below W2.heap.size W2 w1 := below_undrew hb1; rw [HA.out]; have zz1 := hb1.size; have lt3 : wr.heap.size < w1.heap.size := (by omega); have d0 := (hb1.cell (p := ⟨wr.heap.size, 0, none⟩) lt2).trans d0; have d1 := (hb1.cell (p := ⟨wr.heap.size, 1, none⟩) lt2).trans d1; have d2 := (hb1.cell (p := ⟨wr.heap.size, 2, none⟩) lt2).trans d2; have d3 := (hb1.cell (p := ⟨wr.heap.size, 3, none⟩) lt2).trans d3) | (go_simp; go_at_call 85; refine (hcl _ ?_ ?_ ?_).mono ?_; exact hl2.below (hb1.mono (by omega)); exact hi2.below (hb1.mono (by omega)); omega; rintro e w3 ⟨rfl, hb3⟩; rw [HC.out]; have d0 := (hb3.cell (p := ⟨wr.heap.size, 0, none⟩) lt3).trans d0; have d1 := (hb3.cell (p := ⟨wr.heap.size, 1, none⟩) lt3).trans d1; have d2 := (hb3.cell (p := ⟨wr.heap.size, 2, none⟩) lt3).trans d2; have d3 := (hb3.cell (p := ⟨wr.heap.size, 3, none⟩) lt3).trans d3)) | fail
          all_goals go_wp2_with fail
          all_goals go_ret
          all_goals exact ⟨ret_bool (by rw [K.out, HN.out]; rfl), ((hb.trans (bA.mono hz)).trans (hb1.mono (by omega))).trans (hb3.mono (by omega))⟩
    · have hj' : j = l.length := by omega
      subst hj'
      have HF : Hid (Bd.areB l = decide (l.length ≤ 1000)) := by show _ = _; have := HG.out; rw [List.take_length] at this; rw [K.out, this]; rfl
      go_wp2_with fail
      go_ret
      exact ⟨ret_bool (by rw [HF.out, Bool.eq_iff_iff]; simp only [decide_eq_true_eq]; omega), hb⟩
end Go.Proofs.YtnldlbglgalbaabGreat

namespace Go.Proofs.YtnldlbglgalbaabGreat
open Go.RowKit

/-- A list of ints, where it lies. -/
structure Iv where
  a : Option Addr
  c : Nat
  s : List Int
namespace Iv
def cells (x : Iv) : List Value := [.slice x.a x.s.length x.c]
def In (w : World) (B : Nat) (x : Iv) : Prop := IIn w B x.a x.c x.s
/-- Rows of them. -/
def E : Elem Iv where
  cells := cells
  n := 1
  pos := by decide
  len := fun _ => rfl
  one := by
    intro b u hu
    simp only [cells, List.mem_cons, List.not_mem_nil, or_false] at hu
    subst hu
    rfl
  In := In
  blks := fun x => iblk x.a x.s
  lt := fun h => h.blk_lt
  keepB := fun h hk => h.keep hk
  more := fun h hB => h.more hB
/-- Whether these ints are among them. -/
def has (l : List Iv) (s : List Int) : Bool := l.any fun x => x.s == s
theorem has_step {l : List Iv} {j : Nat} (h : j < l.length) (s : List Int) : has (l.take (j + 1)) s = (has (l.take j) s || (l[j].s == s)) := by
  unfold has
  rw [List.take_succ_eq_append_getElem h, List.any_append]
  simp
theorem has_yes {l : List Iv} {j : Nat} (h : j < l.length) {s : List Int} (he : (l[j].s == s) = true) : has l s = true := by
  unfold has
  rw [List.any_eq_true]
  exact ⟨l[j], List.getElem_mem h, he⟩
/-- The cell of element i. -/
theorem at_ {w : World} {B : Nat} {A : Option Addr} {c : Nat} {l : List Iv} (h : E.LIn w B A c l) {i : Nat} {x : Iv} (hi : l[i]? = some x) :
    ∃ b o : Nat, A = some ⟨b, o, none⟩ ∧ b < B ∧ w.cell? ⟨b, o + i, none⟩ = some (.slice x.a x.s.length x.c) ∧ In w B x := by
  obtain ⟨b, o, e, hb, hc, hx⟩ := h.at_ hi
  have h0 := hc 0 _ rfl
  refine ⟨b, o, e, hb, ?_, hx⟩
  simpa [E] using h0
end Iv

set_option maxRecDepth 100000 in
set_option maxHeartbeats 1000000 in
theorem isThisB_any (x : Iv) (b0 : Bd) (g B : Nat) (w : World) (hx : x.In w B) (hd : b0.In w B) (hbx : Bd.Box w g b0) :
    Calls Tryz.prog 88 #[.slice x.a x.s.length x.c, .pointer (some ⟨g, 0, none⟩)] w fun e w' => e = .returned (.bool (x.s == b0.s)) ∧ Below w.heap.size w w' := by
  obtain ⟨a0, a1, a2, a3⟩ := hbx
  go_enter Tryz.func88, Tryz.ntmps88
  go_wp2_with fail
  refine (implSameInts_any _ _ _ _ _ _ B _ hx hd.2).mono ?_
  rintro e w1 ⟨rfl, hb1⟩
  clear a0 a1 a2 a3
  go_wp2_with fail
  go_ret
  exact ⟨rfl, hb1⟩

set_option maxRecDepth 100000 in
set_option maxHeartbeats 1000000 in
theorem containsS_any (A : Option Addr) (c : Nat) (l : List Iv) (b0 : Bd) (g B : Nat) (w : World) (hin : Iv.E.LIn w B A c l) (hd : b0.In w B) (hB : B ≤ w.heap.size) (hbx : Bd.Box w g b0) (hg : g < w.heap.size) :
    Calls Tryz.prog 91 #[.slice A l.length c, .func (.func 88) #[] #[.pointer (some ⟨g, 0, none⟩)]] w fun e w' => e = .returned (.bool (Iv.has l b0.s)) ∧ Below w.heap.size w w' := by
  have hcap := hin.cap
  have key : Calls Tryz.prog 125 #[.slice A l.length c, .func (.func 88) #[] #[.pointer (some ⟨g, 0, none⟩)]] w fun e w' => (∃ r : Int, e = .returned (.int .i64 r) ∧ decide (0 ≤ r) = Iv.has l b0.s) ∧ Below w.heap.size w w' := by
    go_enter Tryz.func125, Tryz.ntmps125
    go_wp2_with fail
    go_loopw [5, 8] (fun _ i wr => ∃ j : Nat, j ≤ l.length ∧ i = .int .i64 j ∧ Hid (Iv.has (l.take j) b0.s = false) ∧ Below w.heap.size w wr) (fun _ i _ => l.length - (intOf i).toNat)
    case atStart => exact ⟨0, Nat.zero_le _, rfl, by simp [Hid, Iv.has], Below.refl _ _⟩
    case round =>
      obtain ⟨j, hj, rfl, HN, hb⟩ := hrel
      by_cases hlt : j < l.length
      · have hsz := hb.size
        obtain ⟨b, o, rfl, hblk, c0, hix⟩ := Iv.at_ (hin.below (hb.mono hB)) (i := j) (x := l[j]) (List.getElem?_eq_getElem hlt)
        have g2 : (j : Int) < (l.length : Int) := by omega
        have HS := Lib.hid (Iv.has_step hlt b0.s)
        go_wp2_with fail
        refine (isThisB_any l[j] b0 g B _ hix (hd.below (hb.mono hB)) (hbx.below hb hg)).mono ?_
        rintro e w1 ⟨rfl, hb1⟩
        have hb3 := hb.trans (hb1.mono (by omega))
        clear c0 hb1
        cases hq : (l[j].s == b0.s)
        · have HN2 : Hid (Iv.has (l.take (j + 1)) b0.s = false) := by show _ = _; rw [HS.out, HN.out, hq]; rfl
          clear hq
          go_wp2_with fail
          refine ⟨⟨j + 1, by omega, by go_num, HN2, hb3⟩, by simp [intOf]; omega⟩
        · have HY := Lib.hid (Iv.has_yes hlt hq)
          clear hq
          go_wp2_with fail
          go_ret
          exact ⟨⟨j, rfl, by rw [HY.out]; simp⟩, hb3⟩
      · have hj' : j = l.length := by omega
        subst hj'
        have HF : Hid (Iv.has l b0.s = false) := by have := HN.out; rwa [List.take_length] at this
        go_wp2_with fail
        go_ret
        exact ⟨⟨-1, rfl, by rw [HF.out]; rfl⟩, hb⟩
  go_enter Tryz.func91, Tryz.ntmps91
  go_wp2_with fail
  refine key.mono ?_
  rintro e w1 ⟨⟨r, rfl, hr⟩, hb1⟩
  have HR := Lib.hid hr
  clear hr key
  go_wp2_with fail
  go_ret
  exact ⟨ret_bool HR.out, hb1⟩
end Go.Proofs.YtnldlbglgalbaabGreat

namespace Go.Proofs.YtnldlbglgalbaabGreat
open Go.RowKit Go.Maps Go.WideMaps Go.ChangeMaps

theorem toL_beq (a b : ByteArray) : (a.toList == b.toList) = decide (a = b) := by
  by_cases h : a = b
  · subst h; simp
  · have : (a.toList == b.toList) = false := by
      cases hq : (a.toList == b.toList)
      · rfl
      · exact absurd (toList_inj hq) h
    rw [this]; simp [h]

namespace Bd
/-- A binding's scopes, where they lie. -/
def iv (b : Bd) : Iv := ⟨b.sa, b.sc, b.s⟩
/-- The sets of scopes of the bindings of this text. -/
def grp (l : List Bd) (t : ByteArray) : List Iv := (l.filter fun b => decide (b.t = t)).map iv
theorem grp_has (l : List Bd) (b : Bd) : Iv.has (grp l b.t) b.s = clash l b := by
  unfold Iv.has grp clash
  rw [List.any_map, List.any_filter]
  congr 1
  funext x
  simp only [Function.comp, iv, toL_beq]
theorem grp_in {w : World} {B : Nat} {l : List Bd} (h : ∀ x ∈ l, x.In w B) (t : ByteArray) : ∀ x ∈ grp l t, x.In w B := by
  intro x hx
  obtain ⟨b, hb, rfl⟩ := List.mem_map.1 hx
  exact (h b (List.mem_filter.1 hb).1).2
theorem grp_len (l : List Bd) (t : ByteArray) : (grp l t).length ≤ l.length := by
  unfold grp
  rw [List.length_map]
  exact List.length_filter_le _ _
end Bd
/-- A function changed at a place. -/
def updAt {α : Type} (f : ByteArray → α) (t : ByteArray) (x : α) : ByteArray → α := fun u => if u = t then x else f u
theorem updAt_same {α : Type} (f : ByteArray → α) (t : ByteArray) (x : α) : updAt f t x t = x := by simp [updAt]
theorem updAt_other {α : Type} (f : ByteArray → α) {t u : ByteArray} (x : α) (h : u ≠ t) : updAt f t x u = f u := by simp [updAt, h]
theorem Bd.grp_step {l : List Bd} {j : Nat} (h : j < l.length) : Bd.grp (l.take (j + 1)) = updAt (Bd.grp (l.take j)) l[j].t (Bd.grp (l.take j) l[j].t ++ [l[j].iv]) := by
  funext u
  unfold updAt
  split
  · rename_i e
    subst e
    unfold Bd.grp
    rw [List.take_succ_eq_append_getElem h, List.filter_append]
    simp
  · rename_i e
    unfold Bd.grp
    rw [List.take_succ_eq_append_getElem h, List.filter_append]
    simp [Ne.symm e]

/-- What a map's element reads as: itself. -/
def readV (v : Value) : Option (DataW Value × List MemPlace) := some (.held v, [])
def nilV : Value := .slice none 0 0
/-- Block M is a map; at each text lies a row of the sets of this text; the rows lie above it, no two in one block. -/
structure Grp (w : World) (M n : Nat) (G : ByteArray → List Iv) (V : ByteArray → Value) (D : DataW Value) : Prop where
  map : w.ownsMap Tryz.prog 9 readV M n D
  isMap : IsMap D
  at_ : ∀ t : ByteArray, D.atKey (.string t.data.toList) (.held nilV) = .held (V t)
  row : ∀ t, w.ownsRow (M + 1) 33 1 (V t) (G t).length (Iv.E.cellsL (G t))
  apart : ∀ t u g, t ≠ u → (V t).ownBlock = some g → (V u).ownBlock ≠ some g

theorem keyedS : Keyed Tryz.prog 9 := string_keyed Tryz.underlying9
theorem zeroI (w : World) : (zeroValue 120).run Tryz.prog w = .ok nilV w := by kernel_rfl

theorem Grp.new (w : World) : Grp (w.alloc (.map #[] 0)) w.heap.size 0 (Bd.grp []) (fun _ => nilV) (.map []) :=
  ⟨World.ownsMap_made _ _ _ _, isMap_empty, fun _ => rfl, fun _ => ⟨rfl, .inl ⟨rfl, rfl⟩⟩, fun _ _ _ _ h => by simp [nilV, Value.ownBlock] at h⟩
theorem Grp.below {w w' : World} {M n : Nat} {G V D} (h : Grp w M n G V D) (hb : Below w.heap.size w w') : Grp w' M n G V D := by
  have hg : w.grownBy w' none := ⟨hb.os, hb.tape, hb.output, hb.size, fun k hk _ => hb.block k hk⟩
  exact ⟨h.map.kept hg (by simp), h.isMap, h.at_, fun t => (h.row t).kept hg (by cases (V t).ownBlock <;> simp), h.apart⟩
theorem Grp.drew {w : World} {M n : Nat} {G V D} (h : Grp w M n G V D) : Grp w.drew M n G V D := ⟨h.map, h.isMap, h.at_, fun t => (h.row t).drew, h.apart⟩
theorem Grp.alloc {w : World} {M n : Nat} {G V D} (h : Grp w M n G V D) (o : Obj) : Grp (w.alloc o) M n G V D := h.below ((Below.refl _ _).alloc (Nat.le_refl _) _)
theorem Grp.look {w : World} {M n : Nat} {G V D} (h : Grp w M n G V D) (t : ByteArray) (ht : t.size ≤ maxLen) : (Instr.lookup 117 (.map (some M)) (.string t) false).run Tryz.prog w = .ok (V t) w := by
  obtain ⟨v, ps, hrun, hv⟩ := h.map.lookup keyedS Tryz.underlying117 (zeroI w) (zd := .held nilV) (zp := []) rfl (keyOf_string_mk Tryz.underlying9 ht)
  rw [h.at_ t] at hv
  simp only [readV, Option.some.injEq, Prod.mk.injEq, DataW.held.injEq] at hv
  rw [hrun, hv.1]
theorem Grp.form {w : World} {M n : Nat} {G V D} (h : Grp w M n G V D) (t : ByteArray) : ∃ A c, V t = .slice A (G t).length c := by
  obtain ⟨h1, h2 | ⟨g, cap, cur, e, _⟩⟩ := h.row t
  · exact ⟨none, 0, by rw [h2.1, h2.2]⟩
  · exact ⟨_, _, e⟩
theorem Grp.lin {w : World} {M n B : Nat} {G V D} (h : Grp w M n G V D) (t : ByteArray) {A : Option Addr} {c : Nat} (hv : V t = .slice A (G t).length c) (hB : w.heap.size ≤ B) (hin : ∀ x ∈ G t, x.In w B) : Iv.E.LIn w B A c (G t) := by
  obtain ⟨h1, h2 | ⟨g, cap, cur, e, hg, hb, hn, hc, hs, ht⟩⟩ := h.row t
  · obtain ⟨e1, e2⟩ := h2
    rw [hv] at e1
    injection e1 with ea _ ec
    subst ea ec
    have : G t = [] := List.length_eq_zero_iff.1 e2
    exact ⟨⟨by omega, by omega⟩, fun _ => rfl, fun hne => absurd this hne, hin⟩
  · have hcells := (h.row t).cells (g := g) (by rw [e]; rfl)
    rw [hv] at e
    injection e with ea _ ec
    subst ea ec
    refine ⟨⟨hn, by unfold maxLen at hc; omega⟩, fun hh => by simp at hh, fun _ => ⟨g, 0, rfl, ?_, fun j u hu => ?_⟩, hin⟩
    · have := (Array.getElem?_eq_some_iff.1 hb).1; omega
    · have := hcells j u hu
      have hadd : (⟨g, 0, none⟩ : Addr).add j = ⟨g, j, none⟩ := by unfold Addr.add; split <;> simp_all
      rw [hadd] at this
      simpa using this
theorem Grp.put {w w1 : World} {M n : Nat} {G V D} (h : Grp w M n G V D) (t : ByteArray) (ht : t.size ≤ maxLen) (hn : n < maxLen) {o : Obj} {x : Iv} {g cap : Nat}
    (hown : w1.ownsRow (M + 1) 33 1 (.slice (some ⟨g, 0, none⟩) ((G t).length + 1) cap) ((G t).length + 1) (Iv.E.cellsL (G t) ++ x.cells))
    (hgr : (w.alloc o).drew.grownBy w1 (V t).ownBlock) (hat : (V t).ownBlock = some g ∨ g = w.heap.size + 1) :
    ∃ w2, (Instr.mapUpdate 117 (.map (some M)) (.string t) (.slice (some ⟨g, 0, none⟩) ((G t).length + 1) cap)).run Tryz.prog w1 = .ok () w2 ∧ Below M w w2 ∧
      ∃ V' D', Grp w2 M (n + 1) (updAt G t (G t ++ [x])) V' D' := by
  have hM := h.map.lt
  have hneM : some M ≠ (V t).ownBlock := fun e => by have := (h.row t).lt M e.symm; omega
  have ha : w.grownBy (w.alloc o) (V t).ownBlock := World.grownBy_alloc _ _ _
  have hgr0 : w.drew.grownBy (w.alloc o).drew (V t).ownBlock := ⟨ha.os, ha.tape, ha.output, ha.size, ha.block⟩
  have hgr1 := hgr0.trans hgr
  have hm1 := h.map.drew.kept hgr1 hneM
  obtain ⟨w2, hrun, hm2, hg2⟩ := hm1.update keyedS Tryz.underlying117 hn (keyOf_string_mk Tryz.underlying9 ht) (val := .slice (some ⟨g, 0, none⟩) ((G t).length + 1) cap) (d := .held (.slice (some ⟨g, 0, none⟩) ((G t).length + 1) cap)) (ps := []) rfl
  have hMg : M < g := by
    have := hown.lt g rfl
    omega
  refine ⟨w2, hrun, ⟨?_, ?_, ?_, ?_, fun k hk => ?_⟩, updAt V t (.slice (some ⟨g, 0, none⟩) ((G t).length + 1) cap), _, ⟨hm2, h.isMap.put _ _, fun u => ?_, fun u => ?_, fun u v g' huv hu hv => ?_⟩⟩
  · exact hg2.os.trans hgr1.os
  · exact hg2.tape.trans hgr1.tape
  · exact hg2.output.trans hgr1.output
  · exact Nat.le_trans hgr1.size hg2.size
  · have h1 : w1.heap.size ≥ w.heap.size := hgr1.size
    refine (hg2.block k (by omega) (by simp; omega)).trans (hgr1.block k (show k < w.heap.size by omega) fun e => ?_)
    have := (h.row t).lt k e.symm
    omega
  · by_cases e : u = t
    · subst e
      rw [updAt_same]
      exact atKey_put_same h.isMap (show WideAt.IsKeyLit (Lit.string u.data.toList) from True.intro) _ _
    · rw [updAt_other _ _ e]
      have hne : Lit.string u.data.toList ≠ Lit.string t.data.toList := fun hh => e (Go.WideShapes.bytes_inj (Lit.string.inj hh))
      exact (atKey_put_other hne _ _).trans (h.at_ u)
  · by_cases e : u = t
    · subst e
      rw [updAt_same, updAt_same, List.length_append, Elem.cellsL_append, Elem.cellsL_one]
      exact hown.kept hg2 (.inr (by simp [Value.ownBlock]; omega))
    · rw [updAt_other _ _ e, updAt_other _ _ e]
      have k1 : w1.ownsRow (M + 1) 33 1 (V u) (G u).length (Iv.E.cellsL (G u)) := (h.row u).drew.kept hgr1 (by
        cases hq : (V u).ownBlock with
        | none => exact .inl rfl
        | some q => exact .inr fun hh => h.apart u t q e hq hh.symm)
      refine k1.kept hg2 (.inr fun hh => ?_)
      have := (h.row u).lt M hh
      omega
  · by_cases eu : u = t
    · subst eu
      rw [updAt_same] at hu
      rw [updAt_other _ _ (Ne.symm huv)] at hv
      simp only [Value.ownBlock, Option.some.injEq] at hu
      subst hu
      rcases hat with e | e
      · exact h.apart u v g huv e hv
      · have := (h.row v).lt g hv
        omega
    · rw [updAt_other _ _ eu] at hu
      by_cases ev : v = t
      · subst ev
        rw [updAt_same] at hv
        simp only [Value.ownBlock, Option.some.injEq] at hv
        subst hv
        rcases hat with e | e
        · exact h.apart u v g huv hu e
        · have := (h.row u).lt g hu
          omega
      · rw [updAt_other _ _ ev] at hv
        exact h.apart u v g' huv hu hv
end Go.Proofs.YtnldlbglgalbaabGreat
