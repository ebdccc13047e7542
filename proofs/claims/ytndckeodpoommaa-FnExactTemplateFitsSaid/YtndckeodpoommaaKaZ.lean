/-
  Capture: the laws' own size (written by gen/tree.py).
-/
import Derived.Test.YtndckeodpoommaaKaB
namespace Go.Proofs.Ytndckeodpoommaa
open Go.RowKit

def KaSzOk (m : Nat) : Prop := ∀ (d : Tr Ka) (B : Nat) (w : World) (left : Int), d.size ≤ m → 0 ≤ left → left ≤ 1048576 → Ka.E.In w B d → B ≤ w.heap.size →
    Calls Try.prog 67 #[Ka.val d, .int .i64 left] w fun e w' => e = .returned (.int .i64 (szR (d.bulk Ka.bulk) left)) ∧ Below w.heap.size w w'
def KaSzLOk (m : Nat) : Prop := ∀ (A : Option Addr) (c : Nat) (l : List (Tr Ka)) (B : Nat) (w : World) (left : Int), Tr.sizeL l ≤ m → 0 ≤ left → left ≤ 1048576 → Ka.E.LIn w B A c l → B ≤ w.heap.size →
    Calls Try.prog 34 #[.slice A l.length c, .int .i64 left] w fun e w' => e = .returned (.int .i64 (szR (Tr.bulkL Ka.bulk l) left)) ∧ Below w.heap.size w w'

set_option maxRecDepth 100000 in
set_option maxHeartbeats 1000000 in
theorem Ka_szL_step (m : Nat) (ih : KaSzOk m) : KaSzLOk m := by
  intro A c l B w left hm h0 hl hin hB
  have hcap := hin.cap
  by_cases hfit : (l.length : Int) ≤ left
  · have hn : ¬ (left - (l.length : Int) < 0) := by omega
    have hb0 := Tr.bulkL_take_le Ka.bulk l 0
    go_enter Try.func34, Try.ntmps34
    go_wp2_with fail
    go_loopw [1, 5] (fun lf i wr => ∃ j : Nat, j ≤ l.length ∧ i = .int .i64 j ∧ (Tr.bulkL Ka.bulk (l.take j) : Int) + (l.length - j : Nat) ≤ left ∧ lf = .int .i64 (left - Tr.bulkL Ka.bulk (l.take j) - (l.length - j : Nat)) ∧ Below w.heap.size w wr) (fun _ i _ => l.length - (intOf i).toNat)
    case atStart => exact ⟨0, Nat.zero_le _, rfl, by simp [Tr.bulkL]; omega, by simp [Tr.bulkL], Below.refl _ _⟩
    case round =>
      obtain ⟨j, hj, rfl, hf, rfl, hb⟩ := hrel
      by_cases hlt : j < l.length
      · obtain ⟨b, o, rfl, hblk, c0, c1, c2, c3, c4, c5, c6, c7, c8, c9, c10, c11, hix⟩ := Ka.at_ (hin.below (hb.mono hB)) (i := j) (x := l[j]) (List.getElem?_eq_getElem hlt)
        have hs2 := hb.size
        have hsz := Tr.sizeL_mem (l := l) (List.getElem_mem hlt)
        have HS : Hid (Tr.bulkL Ka.bulk (l.take (j + 1)) = Tr.bulkL Ka.bulk (l.take j) + 1 + (l[j]).bulk Ka.bulk) := Tr.bulkL_take_succ _ l j hlt
        have hle := Tr.bulkL_take_le Ka.bulk l (j + 1)
        rw [HS.out] at hle
        go_wp2_with fail
        refine (ih l[j] B _ _ (by omega) (by omega) (by omega) hix (by omega)).mono ?_
        rintro e w1 ⟨rfl, hb1⟩
        by_cases hy : ((l[j]).bulk Ka.bulk : Int) ≤ left - Tr.bulkL Ka.bulk (l.take j) - (l.length - j : Nat)
        · rw [szR_yes hy]
          have hy2 : ¬ (left - (Tr.bulkL Ka.bulk (l.take j) : Int) - (l.length - j : Nat) - ((l[j]).bulk Ka.bulk : Int) < 0) := by omega
          go_wp2_with fail
          go_roundw
          case rel => exact ⟨j + 1, by omega, by go_num, by rw [HS.out]; omega, by rw [HS.out]; go_num, hb.trans (hb1.mono (by omega))⟩
          case measure => simp [intOf]; omega
        · rw [szR_no hy]
          go_wp2_with fail
          go_ret
          exact ⟨ret_int (by rw [szR_no (by omega)]), hb.trans (hb1.mono (by omega))⟩
      · have hj' : j = l.length := by omega
        subst hj'
        go_wp2_with fail
        go_ret
        rw [List.take_length] at *
        exact ⟨ret_int (by rw [szR_yes (by omega)]; omega), hb⟩
  · have hn : left - (l.length : Int) < 0 := by omega
    go_enter Try.func34, Try.ntmps34
    go_wp2_with fail
    go_ret
    have := Tr.bulkL_take_le Ka.bulk l 0
    exact ⟨ret_int (by rw [szR_no (by omega)]), Below.refl _ _⟩

set_option maxRecDepth 100000 in
set_option maxHeartbeats 4000000 in
theorem Ka_sz_step (m : Nat) (ihL : KaSzLOk m) : KaSzOk (m + 1) := by
  intro d B w left hm h0 h1 hin hB
  have h_d := Elem.In.more hin hB
  have hmm : Tr.sizeL d.l ≤ m := by rw [Tr.size_eq] at hm; omega
  have hbu : (d.bulk Ka.bulk : Int) = (d.a.N.bulk : Int) + (d.a.F.bulk : Int) + (Tr.bulkL Ka.bulk d.l : Int) := by rw [Tr.bulk_eq]; unfold Ka.bulk; omega
  unfold Ka.val
  by_cases hz0 : (d.a.N.bulk : Int) ≤ left
  · skip
    by_cases hz1 : (d.a.F.bulk : Int) ≤ left - (d.a.N.bulk : Int)
    · skip
      by_cases hz2 : (Tr.bulkL Ka.bulk d.l : Int) ≤ left - (d.a.N.bulk : Int) - (d.a.F.bulk : Int)
      · skip
        have HR : Hid (szR (d.bulk Ka.bulk) left = left - (d.a.N.bulk : Int) - (d.a.F.bulk : Int) - (Tr.bulkL Ka.bulk d.l : Int)) := by show _ = _; rw [szR_yes (by omega)]; omega
        clear hbu
        have b0 : Below w.heap.size w w := Below.refl _ _
        have i_d := h_d
        go_enter Try.func67, Try.ntmps67
        go_wp2_with fail
        obtain ⟨w1, hw1⟩ : ∃ W, W = w.alloc (.cells #[.int .i64 d.a.N.k, .int .i64 d.a.N.n, .string d.a.N.t, .slice d.a.N.sa d.a.N.s.length d.a.N.sc, .slice d.a.N.A d.a.N.l.length d.a.N.c, .int .i64 d.a.dep, .int .i64 d.a.F.k, .int .i64 d.a.F.n, .string d.a.F.t, .slice d.a.F.sa d.a.F.s.length d.a.F.sc, .slice d.a.F.A d.a.F.l.length d.a.F.c, .slice d.A d.l.length d.c] 119) := ⟨_, rfl⟩
        rw [← hw1]
        have hb1 : Below w.heap.size w w1 := by rw [hw1]; exact (Below.refl _ _).alloc (Nat.le_refl _) _
        have z1 : w.heap.size + 1 ≤ w1.heap.size := by rw [hw1]; simp
        have y1 : w1.heap.size ≤ w.heap.size + 1 := by rw [hw1]; simp
        have xb : Ka.Box w1 w.heap.size d := by rw [hw1]; exact Ka.Box.new _ _ _
        clear hw1
        have b1 := b0.trans (hb1.mono (by omega))
        have i_d := h_d.below b1
        clear hb1
        have xbq := xb
        obtain ⟨xb_0, xb_1, xb_2, xb_3, xb_4, xb_5, xb_6, xb_7, xb_8, xb_9, xb_10, xb_11⟩ := xbq
        have xblt : w.heap.size < w1.heap.size := (by omega)
        go_wp2_with fail
        clear xb_0 xb_1 xb_2 xb_3 xb_4 xb_5 xb_6 xb_7 xb_8 xb_9 xb_10 xb_11 xblt
        refine (ssz_any _ d.a.N w.heap.size _ (left) (Nat.le_refl _) (by omega) (by omega) (Ka.E_in i_d).1.N (by omega)).mono ?_
        rintro e w2 ⟨rfl, hb2⟩
        have z2 := hb2.size
        have xb := xb.below hb2 (by omega)
        have b2 := b1.trans (hb2.mono (by omega))
        have i_d := h_d.below b2
        clear hb2
        rw [szR_yes (by omega)]
        have n0 : ¬ (left - (d.a.N.bulk : Int) < 0) := by omega
        have xbq := xb
        obtain ⟨xb_0, xb_1, xb_2, xb_3, xb_4, xb_5, xb_6, xb_7, xb_8, xb_9, xb_10, xb_11⟩ := xbq
        have xblt : w.heap.size < w2.heap.size := (by omega)
        go_wp2_with fail
        clear xb_0 xb_1 xb_2 xb_3 xb_4 xb_5 xb_6 xb_7 xb_8 xb_9 xb_10 xb_11 xblt
        refine (ssz_any _ d.a.F w.heap.size _ (left - (d.a.N.bulk : Int)) (Nat.le_refl _) (by omega) (by omega) (Ka.E_in i_d).1.F (by omega)).mono ?_
        rintro e w3 ⟨rfl, hb3⟩
        have z3 := hb3.size
        have xb := xb.below hb3 (by omega)
        have b3 := b2.trans (hb3.mono (by omega))
        have i_d := h_d.below b3
        clear hb3
        rw [szR_yes (by omega)]
        have n1 : ¬ (left - (d.a.N.bulk : Int) - (d.a.F.bulk : Int) < 0) := by omega
        have xbq := xb
        obtain ⟨xb_0, xb_1, xb_2, xb_3, xb_4, xb_5, xb_6, xb_7, xb_8, xb_9, xb_10, xb_11⟩ := xbq
        have xblt : w.heap.size < w3.heap.size := (by omega)
        go_wp2_with fail
        clear xb_0 xb_1 xb_2 xb_3 xb_4 xb_5 xb_6 xb_7 xb_8 xb_9 xb_10 xb_11 xblt
        refine (ihL d.A d.c d.l w.heap.size _ (left - (d.a.N.bulk : Int) - (d.a.F.bulk : Int)) hmm (by omega) (by omega) (Ka.E_in i_d).2 (by omega)).mono ?_
        rintro e w4 ⟨rfl, hb4⟩
        have z4 := hb4.size
        have xb := xb.below hb4 (by omega)
        have b4 := b3.trans (hb4.mono (by omega))
        have i_d := h_d.below b4
        clear hb4
        rw [szR_yes (by omega)]
        have n2 : ¬ (left - (d.a.N.bulk : Int) - (d.a.F.bulk : Int) - (Tr.bulkL Ka.bulk d.l : Int) < 0) := by omega
        have xbq := xb
        obtain ⟨xb_0, xb_1, xb_2, xb_3, xb_4, xb_5, xb_6, xb_7, xb_8, xb_9, xb_10, xb_11⟩ := xbq
        have xblt : w.heap.size < w4.heap.size := (by omega)
        go_wp2_with fail
        clear xb_0 xb_1 xb_2 xb_3 xb_4 xb_5 xb_6 xb_7 xb_8 xb_9 xb_10 xb_11 xblt
        go_ret
        exact ⟨ret_int HR.out.symm, b4⟩
      · skip
        have HR : Hid (szR (d.bulk Ka.bulk) left = -1) := szR_no (by omega)
        clear hbu
        have b0 : Below w.heap.size w w := Below.refl _ _
        have i_d := h_d
        go_enter Try.func67, Try.ntmps67
        go_wp2_with fail
        obtain ⟨w1, hw1⟩ : ∃ W, W = w.alloc (.cells #[.int .i64 d.a.N.k, .int .i64 d.a.N.n, .string d.a.N.t, .slice d.a.N.sa d.a.N.s.length d.a.N.sc, .slice d.a.N.A d.a.N.l.length d.a.N.c, .int .i64 d.a.dep, .int .i64 d.a.F.k, .int .i64 d.a.F.n, .string d.a.F.t, .slice d.a.F.sa d.a.F.s.length d.a.F.sc, .slice d.a.F.A d.a.F.l.length d.a.F.c, .slice d.A d.l.length d.c] 119) := ⟨_, rfl⟩
        rw [← hw1]
        have hb1 : Below w.heap.size w w1 := by rw [hw1]; exact (Below.refl _ _).alloc (Nat.le_refl _) _
        have z1 : w.heap.size + 1 ≤ w1.heap.size := by rw [hw1]; simp
        have y1 : w1.heap.size ≤ w.heap.size + 1 := by rw [hw1]; simp
        have xb : Ka.Box w1 w.heap.size d := by rw [hw1]; exact Ka.Box.new _ _ _
        clear hw1
        have b1 := b0.trans (hb1.mono (by omega))
        have i_d := h_d.below b1
        clear hb1
        have xbq := xb
        obtain ⟨xb_0, xb_1, xb_2, xb_3, xb_4, xb_5, xb_6, xb_7, xb_8, xb_9, xb_10, xb_11⟩ := xbq
        have xblt : w.heap.size < w1.heap.size := (by omega)
        go_wp2_with fail
        clear xb_0 xb_1 xb_2 xb_3 xb_4 xb_5 xb_6 xb_7 xb_8 xb_9 xb_10 xb_11 xblt
        refine (ssz_any _ d.a.N w.heap.size _ (left) (Nat.le_refl _) (by omega) (by omega) (Ka.E_in i_d).1.N (by omega)).mono ?_
        rintro e w2 ⟨rfl, hb2⟩
        have z2 := hb2.size
        have xb := xb.below hb2 (by omega)
        have b2 := b1.trans (hb2.mono (by omega))
        have i_d := h_d.below b2
        clear hb2
        rw [szR_yes (by omega)]
        have n0 : ¬ (left - (d.a.N.bulk : Int) < 0) := by omega
        have xbq := xb
        obtain ⟨xb_0, xb_1, xb_2, xb_3, xb_4, xb_5, xb_6, xb_7, xb_8, xb_9, xb_10, xb_11⟩ := xbq
        have xblt : w.heap.size < w2.heap.size := (by omega)
        go_wp2_with fail
        clear xb_0 xb_1 xb_2 xb_3 xb_4 xb_5 xb_6 xb_7 xb_8 xb_9 xb_10 xb_11 xblt
        refine (ssz_any _ d.a.F w.heap.size _ (left - (d.a.N.bulk : Int)) (Nat.le_refl _) (by omega) (by omega) (Ka.E_in i_d).1.F (by omega)).mono ?_
        rintro e w3 ⟨rfl, hb3⟩
        have z3 := hb3.size
        have xb := xb.below hb3 (by omega)
        have b3 := b2.trans (hb3.mono (by omega))
        have i_d := h_d.below b3
        clear hb3
        rw [szR_yes (by omega)]
        have n1 : ¬ (left - (d.a.N.bulk : Int) - (d.a.F.bulk : Int) < 0) := by omega
        have xbq := xb
        obtain ⟨xb_0, xb_1, xb_2, xb_3, xb_4, xb_5, xb_6, xb_7, xb_8, xb_9, xb_10, xb_11⟩ := xbq
        have xblt : w.heap.size < w3.heap.size := (by omega)
        go_wp2_with fail
        clear xb_0 xb_1 xb_2 xb_3 xb_4 xb_5 xb_6 xb_7 xb_8 xb_9 xb_10 xb_11 xblt
        refine (ihL d.A d.c d.l w.heap.size _ (left - (d.a.N.bulk : Int) - (d.a.F.bulk : Int)) hmm (by omega) (by omega) (Ka.E_in i_d).2 (by omega)).mono ?_
        rintro e w4 ⟨rfl, hb4⟩
        have z4 := hb4.size
        have xb := xb.below hb4 (by omega)
        have b4 := b3.trans (hb4.mono (by omega))
        have i_d := h_d.below b4
        clear hb4
        rw [szR_no (by omega)]
        have xbq := xb
        obtain ⟨xb_0, xb_1, xb_2, xb_3, xb_4, xb_5, xb_6, xb_7, xb_8, xb_9, xb_10, xb_11⟩ := xbq
        have xblt : w.heap.size < w4.heap.size := (by omega)
        go_wp2_with fail
        clear xb_0 xb_1 xb_2 xb_3 xb_4 xb_5 xb_6 xb_7 xb_8 xb_9 xb_10 xb_11 xblt
        go_ret
        exact ⟨ret_int HR.out.symm, b4⟩
    · skip
      have HR : Hid (szR (d.bulk Ka.bulk) left = -1) := szR_no (by omega)
      clear hbu
      have b0 : Below w.heap.size w w := Below.refl _ _
      have i_d := h_d
      go_enter Try.func67, Try.ntmps67
      go_wp2_with fail
      obtain ⟨w1, hw1⟩ : ∃ W, W = w.alloc (.cells #[.int .i64 d.a.N.k, .int .i64 d.a.N.n, .string d.a.N.t, .slice d.a.N.sa d.a.N.s.length d.a.N.sc, .slice d.a.N.A d.a.N.l.length d.a.N.c, .int .i64 d.a.dep, .int .i64 d.a.F.k, .int .i64 d.a.F.n, .string d.a.F.t, .slice d.a.F.sa d.a.F.s.length d.a.F.sc, .slice d.a.F.A d.a.F.l.length d.a.F.c, .slice d.A d.l.length d.c] 119) := ⟨_, rfl⟩
      rw [← hw1]
      have hb1 : Below w.heap.size w w1 := by rw [hw1]; exact (Below.refl _ _).alloc (Nat.le_refl _) _
      have z1 : w.heap.size + 1 ≤ w1.heap.size := by rw [hw1]; simp
      have y1 : w1.heap.size ≤ w.heap.size + 1 := by rw [hw1]; simp
      have xb : Ka.Box w1 w.heap.size d := by rw [hw1]; exact Ka.Box.new _ _ _
      clear hw1
      have b1 := b0.trans (hb1.mono (by omega))
      have i_d := h_d.below b1
      clear hb1
      have xbq := xb
      obtain ⟨xb_0, xb_1, xb_2, xb_3, xb_4, xb_5, xb_6, xb_7, xb_8, xb_9, xb_10, xb_11⟩ := xbq
      have xblt : w.heap.size < w1.heap.size := (by omega)
      go_wp2_with fail
      clear xb_0 xb_1 xb_2 xb_3 xb_4 xb_5 xb_6 xb_7 xb_8 xb_9 xb_10 xb_11 xblt
      refine (ssz_any _ d.a.N w.heap.size _ (left) (Nat.le_refl _) (by omega) (by omega) (Ka.E_in i_d).1.N (by omega)).mono ?_
      rintro e w2 ⟨rfl, hb2⟩
      have z2 := hb2.size
      have xb := xb.below hb2 (by omega)
      have b2 := b1.trans (hb2.mono (by omega))
      have i_d := h_d.below b2
      clear hb2
      rw [szR_yes (by omega)]
      have n0 : ¬ (left - (d.a.N.bulk : Int) < 0) := by omega
      have xbq := xb
      obtain ⟨xb_0, xb_1, xb_2, xb_3, xb_4, xb_5, xb_6, xb_7, xb_8, xb_9, xb_10, xb_11⟩ := xbq
      have xblt : w.heap.size < w2.heap.size := (by omega)
      go_wp2_with fail
      clear xb_0 xb_1 xb_2 xb_3 xb_4 xb_5 xb_6 xb_7 xb_8 xb_9 xb_10 xb_11 xblt
      refine (ssz_any _ d.a.F w.heap.size _ (left - (d.a.N.bulk : Int)) (Nat.le_refl _) (by omega) (by omega) (Ka.E_in i_d).1.F (by omega)).mono ?_
      rintro e w3 ⟨rfl, hb3⟩
      have z3 := hb3.size
      have xb := xb.below hb3 (by omega)
      have b3 := b2.trans (hb3.mono (by omega))
      have i_d := h_d.below b3
      clear hb3
      rw [szR_no (by omega)]
      have xbq := xb
      obtain ⟨xb_0, xb_1, xb_2, xb_3, xb_4, xb_5, xb_6, xb_7, xb_8, xb_9, xb_10, xb_11⟩ := xbq
      have xblt : w.heap.size < w3.heap.size := (by omega)
      go_wp2_with fail
      clear xb_0 xb_1 xb_2 xb_3 xb_4 xb_5 xb_6 xb_7 xb_8 xb_9 xb_10 xb_11 xblt
      go_ret
      exact ⟨ret_int HR.out.symm, b3⟩
  · skip
    have HR : Hid (szR (d.bulk Ka.bulk) left = -1) := szR_no (by omega)
    clear hbu
    have b0 : Below w.heap.size w w := Below.refl _ _
    have i_d := h_d
    go_enter Try.func67, Try.ntmps67
    go_wp2_with fail
    obtain ⟨w1, hw1⟩ : ∃ W, W = w.alloc (.cells #[.int .i64 d.a.N.k, .int .i64 d.a.N.n, .string d.a.N.t, .slice d.a.N.sa d.a.N.s.length d.a.N.sc, .slice d.a.N.A d.a.N.l.length d.a.N.c, .int .i64 d.a.dep, .int .i64 d.a.F.k, .int .i64 d.a.F.n, .string d.a.F.t, .slice d.a.F.sa d.a.F.s.length d.a.F.sc, .slice d.a.F.A d.a.F.l.length d.a.F.c, .slice d.A d.l.length d.c] 119) := ⟨_, rfl⟩
    rw [← hw1]
    have hb1 : Below w.heap.size w w1 := by rw [hw1]; exact (Below.refl _ _).alloc (Nat.le_refl _) _
    have z1 : w.heap.size + 1 ≤ w1.heap.size := by rw [hw1]; simp
    have y1 : w1.heap.size ≤ w.heap.size + 1 := by rw [hw1]; simp
    have xb : Ka.Box w1 w.heap.size d := by rw [hw1]; exact Ka.Box.new _ _ _
    clear hw1
    have b1 := b0.trans (hb1.mono (by omega))
    have i_d := h_d.below b1
    clear hb1
    have xbq := xb
    obtain ⟨xb_0, xb_1, xb_2, xb_3, xb_4, xb_5, xb_6, xb_7, xb_8, xb_9, xb_10, xb_11⟩ := xbq
    have xblt : w.heap.size < w1.heap.size := (by omega)
    go_wp2_with fail
    clear xb_0 xb_1 xb_2 xb_3 xb_4 xb_5 xb_6 xb_7 xb_8 xb_9 xb_10 xb_11 xblt
    refine (ssz_any _ d.a.N w.heap.size _ (left) (Nat.le_refl _) (by omega) (by omega) (Ka.E_in i_d).1.N (by omega)).mono ?_
    rintro e w2 ⟨rfl, hb2⟩
    have z2 := hb2.size
    have xb := xb.below hb2 (by omega)
    have b2 := b1.trans (hb2.mono (by omega))
    have i_d := h_d.below b2
    clear hb2
    rw [szR_no (by omega)]
    have xbq := xb
    obtain ⟨xb_0, xb_1, xb_2, xb_3, xb_4, xb_5, xb_6, xb_7, xb_8, xb_9, xb_10, xb_11⟩ := xbq
    have xblt : w.heap.size < w2.heap.size := (by omega)
    go_wp2_with fail
    clear xb_0 xb_1 xb_2 xb_3 xb_4 xb_5 xb_6 xb_7 xb_8 xb_9 xb_10 xb_11 xblt
    go_ret
    exact ⟨ret_int HR.out.symm, b2⟩
theorem Ka_sz_any : ∀ m, KaSzOk m := by
  intro m
  induction m with
  | zero => intro d B w left h; have := d.size_pos; omega
  | succ m ih => exact Ka_sz_step m (Ka_szL_step m ih)
theorem Ka_szL_any (A : Option Addr) (c : Nat) (l : List (Tr Ka)) (B : Nat) (w : World) (left : Int) (h0 : 0 ≤ left) (h1 : left ≤ 1048576) (hin : Ka.E.LIn w B A c l) (hB : B ≤ w.heap.size) :
    Calls Try.prog 34 #[.slice A l.length c, .int .i64 left] w fun e w' => e = .returned (.int .i64 (szR (Tr.bulkL Ka.bulk l) left)) ∧ Below w.heap.size w w' :=
  Ka_szL_step _ (Ka_sz_any _) A c l B w left (Nat.le_refl _) h0 h1 hin hB
end Go.Proofs.Ytndckeodpoommaa
