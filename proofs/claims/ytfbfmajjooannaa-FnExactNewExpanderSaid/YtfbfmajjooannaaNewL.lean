/-
  The law on NewExpander, walked (written by gen/newe.py).
-/
import Derived.Test.YtfbfmajjooannaaNewE
namespace Go.Proofs.Ytfbfmajjooannaa
open Go.RowKit

set_option maxRecDepth 100000 in
set_option maxHeartbeats 4000000 in
theorem law_newe (w : World) : Calls Try.prog 4 #[] w fun e w' => e = .returned (.bool true) ∧ Below w.heap.size w w' := by
  have hcb := core_bulk
  go_enter Try.func4, Try.ntmps4
  go_wp2_with fail
  refine (snewE_any _).mono ?_
  rintro e w1 ⟨E1, rfl, he1, o1, hb⟩
  obtain ⟨A1, c1, l1, D1, d1, rfl, hl1⟩ := new_parts he1
  have Q1 := Lib.hid he1
  clear he1
  have qw1 := hb.size
  simp only [Ex.val, List.length_nil]
  have b1 := hb
  clear hb
  go_wp2_with fail
  obtain ⟨w2, hw⟩ : ∃ W, W = w1.alloc (.cells #[.slice A1 l1.length c1, .slice D1 0 d1, .int .i64 0, .int .i64 0, .int .i64 200] 27) := ⟨_, rfl⟩
  rw [← hw]
  have X1 : Ex.Box w2 w1.heap.size (⟨A1, c1, l1, D1, d1, [], 0, 0, 200⟩ : Ex) := by rw [hw]; exact Ex.Box.new w1 (⟨A1, c1, l1, D1, d1, [], 0, 0, 200⟩ : Ex) _
  have hbb : Below w1.heap.size w1 w2 := by rw [hw]; exact (Below.refl _ _).alloc (Nat.le_refl _) _
  have qw2 : w1.heap.size + 1 ≤ w2.heap.size := by rw [hw]; simp
  clear hw
  have b2 := b1.trans (hbb.mono (by omega))
  have o1 := o1.below hbb
  clear hbb b1
  refine (inewE_any _).mono ?_
  rintro e w3 ⟨E2, rfl, he2, o2, hb⟩
  obtain ⟨A2, c2, l2, D2, d2, rfl, hl2⟩ := new_parts he2
  have Q2 := Lib.hid he2
  clear he2
  have qw3 := hb.size
  simp only [Ex.val, List.length_nil]
  have k2 : Bd.bulkL l2 ≤ 2000000 := by rw [← Bd.bulkL_er, hl2]; omega
  clear hl2 hl1
  have b3 := b2.trans (hb.mono (by omega))
  have X1 := X1.below hb (by omega)
  have i1 := o1.inn.below (hb.mono (by omega))
  clear hb b2 o1
  have Xq := X1
  obtain ⟨x10, x11, x12, x13, x14⟩ := Xq
  dsimp only [List.length_nil] at x10 x11 x12 x13 x14
  have lt1 : w1.heap.size < w3.heap.size := by omega
  go_wp2_with fail
  obtain ⟨w4, hw⟩ : ∃ W, W = w3.alloc (.cells #[.slice A2 l2.length c2, .slice D2 0 d2, .int .i64 0, .int .i64 0, .int .i64 200] 27) := ⟨_, rfl⟩
  rw [← hw]
  have X2 : Ex.Box w4 w3.heap.size (⟨A2, c2, l2, D2, d2, [], 0, 0, 200⟩ : Ex) := by rw [hw]; exact Ex.Box.new w3 (⟨A2, c2, l2, D2, d2, [], 0, 0, 200⟩ : Ex) _
  have hbb : Below w3.heap.size w3 w4 := by rw [hw]; exact (Below.refl _ _).alloc (Nat.le_refl _) _
  have qw4 : w3.heap.size + 1 ≤ w4.heap.size := by rw [hw]; simp
  clear hw
  clear x10 x11 x12 x13 x14
  have b4 := b3.trans (hbb.mono (by omega))
  have o2 := o2.below hbb
  have X1 := X1.below hbb (by omega)
  have i1 := i1.below (hbb.mono (by omega))
  clear hbb b3
  have hcon := eqEx_any (⟨A2, c2, l2, D2, d2, [], 0, 0, 200⟩ : Ex) (⟨A1, c1, l1, D1, d1, [], 0, 0, 200⟩ : Ex) w4.heap.size w4 (Q2.out.trans Q1.out.symm) (o2.inn.more (by omega)) (i1.more (by omega)) (Nat.le_refl _)
  simp only [Ex.val, List.length_nil] at hcon
  (with_reducible refine hcon.mono ?_)
  clear hcon
  rintro e w5 ⟨rfl, hb⟩
  have qw5 := hb.size
  have b5 := b4.trans (hb.mono (by omega))
  have X1 := X1.below hb (by omega)
  have X2 := X2.below hb (by omega)
  have o2 := o2.below (hb.mono (by omega))
  have i1 := i1.below (hb.mono (by omega))
  clear hb b4
  have Xq := X1
  obtain ⟨x10, x11, x12, x13, x14⟩ := Xq
  dsimp only [List.length_nil] at x10 x11 x12 x13 x14
  have Xq := X2
  obtain ⟨x20, x21, x22, x23, x24⟩ := Xq
  dsimp only [List.length_nil] at x20 x21 x22 x23 x24
  go_wp2_with fail
  clear x10 x11 x12 x13 x14
  clear x20 x21 x22 x23 x24
  have hcon := markEx0_any A2 c2 l2 D2 d2 0 0 200 w2.heap.size w3.heap.size w5 1 k2 (by omega) (by omega) o2.a (by omega)
  (with_reducible refine hcon.mono ?_)
  clear hcon
  rintro e w6 ⟨rfl, wm, hbm, m2, hc⟩
  have qwm := hbm.size
  have qw6 := hc.size
  have b6 : Below w.heap.size w w6 := (b5.trans (hbm.mono (by omega))).trans (hc.below (fun k hk => by have := o2.a.lo_ k hk; omega) (by omega))
  have X1 : Ex.Box w6 w1.heap.size (⟨A1, c1, l1, D1, d1, [], 0, 0, 200⟩ : Ex) := (X1.below hbm (by omega)).keep (hc.block _ (by omega) (fun hm => by have := o2.a.lo_ _ hm; omega))
  have X2 : Ex.Box w6 w3.heap.size (⟨A2, c2, l2, D2, d2, [], 0, 0, 200⟩ : Ex) := (X2.below hbm (by omega)).keep (hc.block _ (by omega) (fun hm => by have := o2.a.inn.blk_lt _ hm; omega))
  have i1a : Bd.E.LIn w6 w1.heap.size A1 c1 l1 := (i1.a.below (hbm.mono (by omega))).keepB fun k hk => hc.block k (by have := i1.a.blk_lt k hk; omega) (fun hm => by have := i1.a.blk_lt k hk; have := o2.a.lo_ k hm; omega)
  have i1b : Ru.E.LIn w6 w1.heap.size D1 d1 [] := Elem.LIn.nil_ i1.b.cap.2 i1.b.nil
  have i1 : Ex.In w6 w1.heap.size (⟨A1, c1, l1, D1, d1, [], 0, 0, 200⟩ : Ex) := ⟨i1a, i1b⟩
  clear hc hbm b5 o2 i1a i1b
  have hw := Bd.wtL_le l2
  have n1 : ¬ (1 + ((Bd.wtL l2 : Nat) : Int) < 0) := by omega
  have Xq := X1
  obtain ⟨x10, x11, x12, x13, x14⟩ := Xq
  dsimp only [List.length_nil] at x10 x11 x12 x13 x14
  have Xq := X2
  obtain ⟨x20, x21, x22, x23, x24⟩ := Xq
  dsimp only [List.length_nil] at x20 x21 x22 x23 x24
  go_wp2_with fail
  clear x10 x11 x12 x13 x14
  clear x20 x21 x22 x23 x24
  refine (heldEx0_any A2 c2 l2 D2 d2 0 0 200 w3.heap.size _ 1 k2 (by omega) (by omega) m2.inn (by omega)).mono ?_
  rintro e w7 ⟨rfl, hb⟩
  have qw7 := hb.size
  have b7 := b6.trans (hb.mono (by omega))
  have m2 := m2.below (hb.mono (by omega))
  have X1 := X1.below hb (by omega)
  have X2 := X2.below hb (by omega)
  have i1 := i1.below (hb.mono (by omega))
  clear hb b6
  have Xq := X1
  obtain ⟨x10, x11, x12, x13, x14⟩ := Xq
  dsimp only [List.length_nil] at x10 x11 x12 x13 x14
  have Xq := X2
  obtain ⟨x20, x21, x22, x23, x24⟩ := Xq
  dsimp only [List.length_nil] at x20 x21 x22 x23 x24
  go_wp2_with fail
  clear x10 x11 x12 x13 x14
  clear x20 x21 x22 x23 x24
  refine (inewE_any _).mono ?_
  rintro e w8 ⟨E3, rfl, he3, o3, hb⟩
  obtain ⟨A3, c3, l3, D3, d3, rfl, hl3⟩ := new_parts he3
  have Q3 := Lib.hid he3
  clear he3
  have qw8 := hb.size
  simp only [Ex.val, List.length_nil]
  clear hl3
  have b8 := b7.trans (hb.mono (by omega))
  have m2 := m2.below (hb.mono (by omega))
  have X1 := X1.below hb (by omega)
  have X2 := X2.below hb (by omega)
  have i1 := i1.below (hb.mono (by omega))
  clear hb b7
  have Xq := X1
  obtain ⟨x10, x11, x12, x13, x14⟩ := Xq
  dsimp only [List.length_nil] at x10 x11 x12 x13 x14
  have lt1 : w1.heap.size < w8.heap.size := by omega
  go_wp2_with fail
  obtain ⟨w9, hw⟩ : ∃ W, W = w8.alloc (.cells #[.slice A3 l3.length c3, .slice D3 0 d3, .int .i64 0, .int .i64 0, .int .i64 200] 27) := ⟨_, rfl⟩
  rw [← hw]
  have X3 : Ex.Box w9 w8.heap.size (⟨A3, c3, l3, D3, d3, [], 0, 0, 200⟩ : Ex) := by rw [hw]; exact Ex.Box.new w8 (⟨A3, c3, l3, D3, d3, [], 0, 0, 200⟩ : Ex) _
  have hbb : Below w8.heap.size w8 w9 := by rw [hw]; exact (Below.refl _ _).alloc (Nat.le_refl _) _
  have qw9 : w8.heap.size + 1 ≤ w9.heap.size := by rw [hw]; simp
  clear hw
  clear x10 x11 x12 x13 x14
  have b9 := b8.trans (hbb.mono (by omega))
  have o3 := o3.below hbb
  have m2 := m2.below (hbb.mono (by omega))
  have X1 := X1.below hbb (by omega)
  have X2 := X2.below hbb (by omega)
  have i1 := i1.below (hbb.mono (by omega))
  clear hbb b8
  have hcon := eqEx_any (⟨A3, c3, l3, D3, d3, [], 0, 0, 200⟩ : Ex) (⟨A1, c1, l1, D1, d1, [], 0, 0, 200⟩ : Ex) w9.heap.size w9 (Q3.out.trans Q1.out.symm) (o3.inn.more (by omega)) (i1.more (by omega)) (Nat.le_refl _)
  simp only [Ex.val, List.length_nil] at hcon
  (with_reducible refine hcon.mono ?_)
  clear hcon
  rintro e w10 ⟨rfl, hb⟩
  have qw10 := hb.size
  have b10 := b9.trans (hb.mono (by omega))
  have m2 := m2.below (hb.mono (by omega))
  have X1 := X1.below hb (by omega)
  have X2 := X2.below hb (by omega)
  have i1 := i1.below (hb.mono (by omega))
  clear hb b9 o3
  have Xq := X2
  obtain ⟨x20, x21, x22, x23, x24⟩ := Xq
  dsimp only [List.length_nil] at x20 x21 x22 x23 x24
  go_wp2_with fail
  clear x20 x21 x22 x23 x24
  refine (heldEx0_any A2 c2 l2 D2 d2 0 0 200 w3.heap.size _ 1 k2 (by omega) (by omega) m2.inn (by omega)).mono ?_
  rintro e w11 ⟨rfl, hb⟩
  have qw11 := hb.size
  have b11 := b10.trans (hb.mono (by omega))
  have m2 := m2.below (hb.mono (by omega))
  have X1 := X1.below hb (by omega)
  have X2 := X2.below hb (by omega)
  have i1 := i1.below (hb.mono (by omega))
  clear hb b10
  go_wp2_with fail
  go_ret
  exact ⟨rfl, b11⟩
end Go.Proofs.Ytfbfmajjooannaa
