/-
  Bindings: where they lie; the laws' own functions on one of them.
-/
import Derived.Test.YtndckeodpoommaaElem
import Derived.Test.YtndckeodpoommaaInts
import Derived.Test.YtndckeodpoommaaTrees
import Derived.Test.YtndckeodpoommaaSBase
import Derived.Test.YtndckeodpoommaaMarks
import Derived.Lib.Hide
namespace Go.Proofs.Ytndckeodpoommaa
open Go.RowKit

structure Bd where
  t : ByteArray
  sa : Option Addr
  sc : Nat
  s : List Int
  k : Int
  n : Int
namespace Bd
def cells (b : Bd) : List Value := [.string b.t, .slice b.sa b.s.length b.sc, .int .i64 b.k, .int .i64 b.n]
def val (b : Bd) : Value := .agg #[.string b.t, .slice b.sa b.s.length b.sc, .int .i64 b.k, .int .i64 b.n]
def er (b : Bd) : Bd := ⟨b.t, none, 0, b.s, b.k, b.n⟩
def bulk (b : Bd) : Nat := b.t.size + b.s.length
def In (w : World) (B : Nat) (b : Bd) : Prop := b.t.size ≤ 9223372036854775807 ∧ IIn w B b.sa b.sc b.s
def blks (b : Bd) : List Nat := iblk b.sa b.s
theorem In.keepB {w w' : World} {B : Nat} {b : Bd} (h : In w B b) (hk : ∀ k, k ∈ blks b → w'.heap[k]? = w.heap[k]?) : In w' B b := ⟨h.1, h.2.keep hk⟩
theorem In.below {w w' : World} {B : Nat} {b : Bd} (h : In w B b) (hb : Below B w w') : In w' B b := ⟨h.1, h.2.below hb⟩
theorem In.more {w : World} {B B' : Nat} {b : Bd} (h : In w B b) (hB : B ≤ B') : In w B' b := ⟨h.1, h.2.more hB⟩
theorem In.alloc {w : World} {B : Nat} {b : Bd} (h : In w B b) (hB : B ≤ w.heap.size) (o : Obj) : In (w.alloc o) B b := ⟨h.1, h.2.alloc hB o⟩
theorem In.drew {w : World} {B : Nat} {b : Bd} (h : In w B b) : In w.drew B b := ⟨h.1, h.2.drew⟩
theorem In.blk_lt {w : World} {B : Nat} {b : Bd} (h : In w B b) : ∀ k ∈ blks b, k < B := h.2.blk_lt
def E : Elem Bd where
  cells := cells
  n := 4
  pos := by decide
  len := fun _ => rfl
  one := by
    intro b u hu
    simp only [cells, List.mem_cons, List.not_mem_nil, or_false] at hu
    rcases hu with rfl | rfl | rfl | rfl <;> rfl
  In := In
  blks := blks
  lt := fun h => h.2.blk_lt
  keepB := fun h hk => h.keepB hk
  more := fun h hB => h.more hB
theorem er_er (b : Bd) : er (er b) = er b := rfl
theorem fields_of_er {a b : Bd} (h : er a = er b) : a.t = b.t ∧ a.s = b.s ∧ a.k = b.k ∧ a.n = b.n := by
  unfold er at h
  injection h with h1 _ _ h4 h5 h6
  exact ⟨h1, h4, h5, h6⟩
theorem bulk_of_er {a b : Bd} (h : er a = er b) : bulk a = bulk b := by
  obtain ⟨h1, h2, _, _⟩ := fields_of_er h
  unfold bulk; rw [h1, h2]
/-- A variable that holds a binding. -/
structure Box (w : World) (g : Nat) (b : Bd) : Prop where
  c0 : w.cell? ⟨g, 0, none⟩ = some (.string b.t)
  c1 : w.cell? ⟨g, 1, none⟩ = some (.slice b.sa b.s.length b.sc)
  c2 : w.cell? ⟨g, 2, none⟩ = some (.int .i64 b.k)
  c3 : w.cell? ⟨g, 3, none⟩ = some (.int .i64 b.n)
theorem Box.keep {w w' : World} {g : Nat} {b : Bd} (h : Box w g b) (e : w'.heap[g]? = w.heap[g]?) : Box w' g b := by
  have e : ∀ q, w'.cell? ⟨g, q, none⟩ = w.cell? ⟨g, q, none⟩ := fun q => World.cell?_of_block (a := ⟨g, q, none⟩) e
  exact ⟨(e 0).trans h.c0, (e 1).trans h.c1, (e 2).trans h.c2, (e 3).trans h.c3⟩
theorem Box.below {w w' : World} {g B : Nat} {b : Bd} (h : Box w g b) (hb : Below B w w') (hB : g < B) : Box w' g b := h.keep (hb.block g hB)
theorem Box.chg {w w' : World} {g : Nat} {b : Bd} {T : List Nat} (h : Box w g b) (hb : Chg T w w') (hlt : g < w.heap.size) (hn : g ∉ T) : Box w' g b := h.keep (hb.block g hlt hn)
theorem Box.new (w : World) (b : Bd) (t : TypeId) : Box (w.alloc (.cells #[.string b.t, .slice b.sa b.s.length b.sc, .int .i64 b.k, .int .i64 b.n] t)) w.heap.size b :=
  ⟨by rw [cell_of_row _ _ _ _ _ _ (heap_alloc_new w _)]; rfl, by rw [cell_of_row _ _ _ _ _ _ (heap_alloc_new w _)]; rfl, by rw [cell_of_row _ _ _ _ _ _ (heap_alloc_new w _)]; rfl, by rw [cell_of_row _ _ _ _ _ _ (heap_alloc_new w _)]; rfl⟩
/-- With the marks of its scopes. -/
def marked (b : Bd) (q : Int) : Bd := { b with s := markI b.s q }
theorem blks_marked (b : Bd) (q : Int) : blks (marked b q) = blks b := by unfold blks marked; exact iblk_mark _ _ _
end Bd

/-- Returned: a binding of the call's own. -/
def RetBd (x : Bd) (w : World) (e : Ending) (w' : World) : Prop := ∃ b : Bd, e = .returned b.val ∧ b.er = x ∧ Bd.E.Own w.heap.size w'.heap.size w' b ∧ Below w.heap.size w w'

theorem bd_own {lo hi : Nat} {w : World} {b : Bd} (ht : b.t.size ≤ 9223372036854775807) (h : IOwn lo hi w b.sa b.sc b.s) : Bd.E.Own lo hi w b :=
  ⟨⟨ht, h.inn⟩, h.lo_, by
    show (iblk b.sa b.s).Nodup
    unfold iblk
    split
    · simp
    · cases b.sa <;> simp, h.fr⟩
theorem bd_iown {lo hi : Nat} {w : World} {b : Bd} (h : Bd.E.Own lo hi w b) : IOwn lo hi w b.sa b.sc b.s := by
  refine ⟨h.inn.2, fun hl bb o e => ?_⟩
  have hm : bb ∈ Bd.E.blks b := by
    show bb ∈ iblk b.sa b.s
    rw [e, iblk_some hl]; simp
  exact ⟨h.lo_ bb hm, h.fr bb hm⟩

set_option maxHeartbeats 800000 in
theorem szBd_any (b : Bd) (B : Nat) (w : World) (left : Int) (h0 : 0 ≤ left) (h1 : left ≤ 1048576) (hin : b.In w B) (_hB : B ≤ w.heap.size) :
    Calls Try.prog 121 #[b.val, .int .i64 left] w fun e w' => e = .returned (.int .i64 (szR b.bulk left)) ∧ Below w.heap.size w w' := by
  have hcap := hin.2.cap
  have ht := hin.1
  have bA : Below w.heap.size w (w.alloc (.cells #[.string b.t, .slice b.sa b.s.length b.sc, .int .i64 b.k, .int .i64 b.n] 174)) := (Below.refl _ _).alloc (Nat.le_refl _) _
  have hbu : (b.bulk : Int) = b.t.size + b.s.length := by unfold Bd.bulk; omega
  unfold Bd.val
  by_cases hq : (b.t.size : Int) ≤ left
  · have q1 : ¬ (left - (b.t.size : Int) < 0) := by omega
    by_cases hr : (b.s.length : Int) ≤ left - b.t.size
    · have q2 : ¬ (left - (b.t.size : Int) - (b.s.length : Int) < 0) := by omega
      have HR : Hid (szR b.bulk left = left - b.t.size - b.s.length) := by show _ = _; rw [szR_yes (by omega)]; omega
      clear hbu
      go_enter Try.func121, Try.ntmps121
      go_wp2_with fail
      refine (szI_any _ _ _ _ _ hcap (by omega) (by omega)).mono ?_
      rintro e w1 ⟨rfl, hw⟩
      obtain rfl := hw.symm
      rw [if_pos hr]
      go_wp2_with fail
      go_ret
      exact ⟨ret_int HR.out.symm, bA⟩
    · have HR : Hid (szR b.bulk left = -1) := szR_no (by omega)
      clear hbu
      go_enter Try.func121, Try.ntmps121
      go_wp2_with fail
      refine (szI_any _ _ _ _ _ hcap (by omega) (by omega)).mono ?_
      rintro e w1 ⟨rfl, hw⟩
      obtain rfl := hw.symm
      rw [if_neg (by omega)]
      go_wp2_with fail
      go_ret
      exact ⟨ret_int HR.out.symm, bA⟩
  · have q1 : left - (b.t.size : Int) < 0 := by omega
    have HR : Hid (szR b.bulk left = -1) := szR_no (by omega)
    clear hbu
    go_enter Try.func121, Try.ntmps121
    go_wp2_with fail
    go_ret
    exact ⟨ret_int HR.out.symm, bA⟩

set_option maxRecDepth 100000 in
set_option maxHeartbeats 1000000 in
theorem toBd_any (b : Bd) (B : Nat) (w : World) (hs : b.s.length ≤ 2000000) (hin : b.In w B) (hB : B ≤ w.heap.size) : Calls Try.prog 123 #[b.val] w (RetBd b.er w) := by
  obtain ⟨t, sa, sc, s, k, n⟩ := b
  have hcap := hin.2.cap
  have ht := hin.1
  simp only at hcap ht hs
  obtain ⟨W1, hW1⟩ : ∃ W1, W1 = w.alloc (.cells #[.string t, .slice sa s.length sc, .int .i64 k, .int .i64 n] 174) := ⟨_, rfl⟩
  obtain ⟨W2, hW2⟩ : ∃ W2, W2 = W1.alloc (.cells #[.string ⟨#[]⟩, .slice none 0 0, .int .i64 0, .int .i64 0] 178) := ⟨_, rfl⟩
  obtain ⟨W3, hW3⟩ : ∃ W3, W3 = W2.alloc (.cells #[.string t, .slice none 0 0, .int .i64 0, .int .i64 0] 178) := ⟨_, rfl⟩
  have z1 : W1.heap.size = w.heap.size + 1 := by rw [hW1]; simp
  have B1 : Below w.heap.size w W1 := by rw [hW1]; exact (Below.refl _ _).alloc (Nat.le_refl _) _
  have z2 : W2.heap.size = w.heap.size + 1 + 1 := by rw [hW2]; simp [z1]
  have B2 : Below W1.heap.size W1 W2 := by rw [hW2]; exact (Below.refl _ _).alloc (Nat.le_refl _) _
  have z3 : W3.heap.size = w.heap.size + 1 + 1 + 1 := by rw [hW3]; simp [z2]
  have B3 : Below W2.heap.size W2 W3 := by rw [hW3]; exact (Below.refl _ _).alloc (Nat.le_refl _) _
  have x0 : Bd.Box W1 w.heap.size ⟨t, sa, sc, s, k, n⟩ := by rw [hW1]; exact Bd.Box.new w ⟨t, sa, sc, s, k, n⟩ _
  have x0 := (x0.below B2 (by omega)).below B3 (by omega)
  have r0 : Bd.Box W2 (w.heap.size + 1) ⟨⟨#[]⟩, none, 0, [], 0, 0⟩ := by rw [hW2, ← z1]; exact Bd.Box.new W1 ⟨⟨#[]⟩, none, 0, [], 0, 0⟩ _
  have r0 := r0.below B3 (by omega)
  have rf : Free W2 (w.heap.size + 1) := by rw [hW2, ← z1]; exact Free.new _ _ _
  have rf := rf.below B3 (by omega)
  have o0 : Bd.Box W3 (w.heap.size + 1 + 1) ⟨t, none, 0, [], 0, 0⟩ := by rw [hW3, ← z2]; exact Bd.Box.new W2 ⟨t, none, 0, [], 0, 0⟩ _
  have of : Free W3 (w.heap.size + 1 + 1) := by rw [hW3, ← z2]; exact Free.new _ _ _
  have bb : Below w.heap.size w W3 := (B1.trans (B2.mono (by omega))).trans (B3.mono (by omega))
  have hi3 := hin.below (bb.mono hB)
  have x0q := x0
  obtain ⟨a0, a1, a2, a3⟩ := x0q
  simp only [Bd.val]
  go_enter Try.func123, Try.ntmps123
  go_wp2_with fail
  rw [← hW1, ← hW2, ← hW3]
  clear hW1 hW2 hW3 B1 B2 B3 a0 a1 a2 a3
  refine (toI_any sa sc s B _ hs hi3.2 (by omega)).mono ?_
  rintro e w1 ⟨A', c', rfl, ho, hb1⟩
  have zz := hb1.size
  obtain ⟨a0, a1, a2, a3⟩ := x0.below hb1 (by omega)
  obtain ⟨s0, s1, s2, s3⟩ := r0.below hb1 (by omega)
  have rf1 := rf.below hb1 (by omega)
  have h0 := rf1.fr 0
  have h1 := rf1.fr 1
  have h2 := rf1.fr 2
  have h3 := rf1.fr 3
  obtain ⟨u0, u1, u2, u3⟩ := o0.below hb1 (by omega)
  have of1 := of.below hb1 (by omega)
  have g1 := of1.fr 1
  have g2 := of1.fr 2
  have g3 := of1.fr 3
  have b1 := bb.trans (hb1.mono (by omega))
  have ho := ho.wide (lo' := w.heap.size + 1 + 1 + 1) (by omega) (Nat.le_refl _)
  clear hb1 x0 r0 o0 rf of hi3 bb
  simp only [List.length_nil] at s1 u1
  go_wp2_with fail
  refine bodyPost_ret (v := .agg #[.string t, .slice A' s.length c', .int .i64 k, .int .i64 n]) (by simp [results, Try.results123, go_sem, s0, s1, s2, s3]) rfl ⟨⟨t, A', c', s, k, n⟩, rfl, rfl, ?_, ?_⟩
  · have hown := bd_own (b := ⟨t, A', c', s, k, n⟩) ht ho
    simp only [World.size_setCell]
    exact (((((((hown.far (by simp <;> omega) _).far (by simp <;> omega) _).far (by simp <;> omega) _).far (by simp <;> omega) _).far (by simp <;> omega) _).far (by simp <;> omega) _).far (by simp <;> omega) _).wide (by omega) (Nat.le_refl _)
  · exact ((((((b1.setCell (by simp <;> omega) _).setCell (by simp <;> omega) _).setCell (by simp <;> omega) _).setCell (by simp <;> omega) _).setCell (by simp <;> omega) _).setCell (by simp <;> omega) _).setCell (by simp <;> omega) _

set_option maxHeartbeats 800000 in
theorem eqBd_any (x y : Bd) (B : Nat) (w : World) (he : x.er = y.er) (hx : x.In w B) (hy : y.In w B) (hB : B ≤ w.heap.size) :
    Calls Try.prog 125 #[x.val, y.val] w fun e w' => e = .returned (.bool true) ∧ Below w.heap.size w w' := by
  obtain ⟨t, sa, sc, s, k, n⟩ := x
  obtain ⟨t', sa', sc', s', k', n'⟩ := y
  obtain ⟨h1, h2, h3, h4⟩ := Bd.fields_of_er he
  simp only at h1 h2 h3 h4
  subst h1 h2 h3 h4
  clear he
  have bA : Below w.heap.size w ((w.alloc (.cells #[.string t, .slice sa s.length sc, .int .i64 k, .int .i64 n] 178)).alloc (.cells #[.string t, .slice sa' s.length sc', .int .i64 k, .int .i64 n] 178)) := ((Below.refl _ _).alloc (Nat.le_refl _) _).alloc (by simp) _
  have x0 := (Bd.Box.new w ⟨t, sa, sc, s, k, n⟩ 178).below (w' := (w.alloc (.cells #[.string t, .slice sa s.length sc, .int .i64 k, .int .i64 n] 178)).alloc (.cells #[.string t, .slice sa' s.length sc', .int .i64 k, .int .i64 n] 178)) (B := w.heap.size + 1) ((Below.refl _ _).alloc (by simp) _) (by omega)
  have y0 := Bd.Box.new (w.alloc (.cells #[.string t, .slice sa s.length sc, .int .i64 k, .int .i64 n] 178)) ⟨t, sa', sc', s, k, n⟩ 178
  simp only [World.size_alloc] at y0
  have q1 : (t.toList != t.toList) = false := by simp
  have q2 : (k != k) = false := by simp
  have q3 : (n != n) = false := by simp
  simp only [Bd.val]
  go_enter Try.func125, Try.ntmps125
  go_wp2_with fail
  refine (eqI_any sa sc s sa' sc' s B _ (hx.2.below (bA.mono hB)) (hy.2.below (bA.mono hB)) (by simp; omega)).mono ?_
  rintro e w1 ⟨rfl, hb1⟩
  have E1 : (s == s) = true := by simp
  rw [E1]
  have b1 := bA.trans (hb1.mono (by simp; omega))
  obtain ⟨a0, a1, a2, a3⟩ := x0.below hb1 (by simp; omega)
  obtain ⟨c0, c1, c2, c3⟩ := y0.below hb1 (by simp)
  clear hb1 x0 y0 bA
  go_wp2_with fail
  go_ret
  exact ⟨rfl, b1⟩

end Go.Proofs.Ytndckeodpoommaa
