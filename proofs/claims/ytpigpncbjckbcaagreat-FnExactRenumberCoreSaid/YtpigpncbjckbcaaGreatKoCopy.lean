/-
  Core: the laws' own size (written by gen/tree.py).
-/
import Derived.Test.YtpigpncbjckbcaaGreatKoBase
import Derived.Deep.RegionHeld3
namespace Go.Proofs.YtpigpncbjckbcaaGreat
open Go.RowKit
def KoSzOk (m : Nat) : Prop := ∀ (d : Tr Ko) (B : Nat) (w : World) (left : Int), d.size ≤ m → 0 ≤ left → left ≤ 1048576 → Ko.E.In w B d → B ≤ w.heap.size →
    Calls Tryz.prog 8 #[Ko.val d, .int .i64 left] w fun e w' => e = .returned (.int .i64 (szR (d.bulk Ko.bulk) left)) ∧ Below w.heap.size w w'
def KoSzLOk (m : Nat) : Prop := ∀ (A : Option Addr) (c : Nat) (l : List (Tr Ko)) (B : Nat) (w : World) (left : Int), Tr.sizeL l ≤ m → 0 ≤ left → left ≤ 1048576 → Ko.E.LIn w B A c l → B ≤ w.heap.size →
    Calls Tryz.prog 41 #[.slice A l.length c, .int .i64 left] w fun e w' => e = .returned (.int .i64 (szR (Tr.bulkL Ko.bulk l) left)) ∧ Below w.heap.size w w'
set_option maxRecDepth 100000 in
set_option maxHeartbeats 1000000 in
theorem Ko_szL_step (m : Nat) (ih : KoSzOk m) : KoSzLOk m := by
  intro A c l B w left hm h0 hl hin hB
  have hcap := hin.cap
  by_cases hfit : (l.length : Int) ≤ left
  · have hn : ¬ (left - (l.length : Int) < 0) := by omega
    have hb0 := Tr.bulkL_take_le Ko.bulk l 0
    go_enter Tryz.func41, Tryz.ntmps41
    go_wp2_with fail
    go_loopw [1, 5] (fun lf i wr => ∃ j : Nat, j ≤ l.length ∧ i = .int .i64 j ∧ (Tr.bulkL Ko.bulk (l.take j) : Int) + (l.length - j : Nat) ≤ left ∧ lf = .int .i64 (left - Tr.bulkL Ko.bulk (l.take j) - (l.length - j : Nat)) ∧ Below w.heap.size w wr) (fun _ i _ => l.length - (intOf i).toNat)
    case atStart => exact ⟨0, Nat.zero_le _, rfl, by simp [Tr.bulkL]; omega, by simp [Tr.bulkL], Below.refl _ _⟩
    case round =>
      obtain ⟨j, hj, rfl, hf, rfl, hb⟩ := hrel
      by_cases hlt : j < l.length
      · obtain ⟨b, o, rfl, hblk, c0, c1, c2, c3, c4, c5, c6, c7, hix⟩ := Ko.at_ (hin.below (hb.mono hB)) (i := j) (x := l[j]) (List.getElem?_eq_getElem hlt)
        have hs2 := hb.size
        have hsz := Tr.sizeL_mem (l := l) (List.getElem_mem hlt)
        have HS : Hid (Tr.bulkL Ko.bulk (l.take (j + 1)) = Tr.bulkL Ko.bulk (l.take j) + 1 + (l[j]).bulk Ko.bulk) := Tr.bulkL_take_succ _ l j hlt
        have hle := Tr.bulkL_take_le Ko.bulk l (j + 1)
        rw [HS.out] at hle
        go_wp2_with fail
        refine (ih l[j] B _ _ (by omega) (by omega) (by omega) hix (by omega)).mono ?_
        rintro e w1 ⟨rfl, hb1⟩
        by_cases hy : ((l[j]).bulk Ko.bulk : Int) ≤ left - Tr.bulkL Ko.bulk (l.take j) - (l.length - j : Nat)
        · rw [szR_yes hy]
          have hy2 : ¬ (left - (Tr.bulkL Ko.bulk (l.take j) : Int) - (l.length - j : Nat) - ((l[j]).bulk Ko.bulk : Int) < 0) := by omega
          go_wp2_with fail
          go_roundw
          case rel => exact ⟨j + 1, by omega, by go_num, by rw [HS.out]; omega, by rw [HS.out]; go_num, hb.trans (hb1.mono (by omega))⟩
          case measure => simp [intOf]; omega
        · rw [szR_no hy]
          go_wp2_with fail
          go_ret
          exact ⟨ret_int (by rw [szR_no (by omega)]), hb.trans (hb1.mono (by omega))⟩
      · have hj' : j = l.length := by omega
        subst hj'
        go_wp2_with fail
        go_ret
        rw [List.take_length] at *
        exact ⟨ret_int (by rw [szR_yes (by omega)]; omega), hb⟩
  · have hn : left - (l.length : Int) < 0 := by omega
    go_enter Tryz.func41, Tryz.ntmps41
    go_wp2_with fail
    go_ret
    have := Tr.bulkL_take_le Ko.bulk l 0
    exact ⟨ret_int (by rw [szR_no (by omega)]), Below.refl _ _⟩
set_option maxRecDepth 100000 in
set_option maxHeartbeats 4000000 in
theorem Ko_sz_step (m : Nat) (ihL : KoSzLOk m) : KoSzOk (m + 1) := by
  intro d B w left hm h0 h1 hin hB
  have h_d := Elem.In.more hin hB
  have hmm : Tr.sizeL d.l ≤ m := by rw [Tr.size_eq] at hm; omega
  have hbu : (d.bulk Ko.bulk : Int) = (d.a.s.length : Int) + (d.a.d.bulk : Int) + (Tr.bulkL Ko.bulk d.l : Int) := by rw [Tr.bulk_eq]; unfold Ko.bulk; omega
  unfold Ko.val
  by_cases hz0 : (d.a.s.length : Int) ≤ left
  · skip
    by_cases hz1 : (d.a.d.bulk : Int) ≤ left - (d.a.s.length : Int)
    · skip
      by_cases hz2 : (Tr.bulkL Ko.bulk d.l : Int) ≤ left - (d.a.s.length : Int) - (d.a.d.bulk : Int)
      · skip
        have HR : Hid (szR (d.bulk Ko.bulk) left = left - (d.a.s.length : Int) - (d.a.d.bulk : Int) - (Tr.bulkL Ko.bulk d.l : Int)) := by show _ = _; rw [szR_yes (by omega)]; omega
        clear hbu
        have b0 : Below w.heap.size w w := Below.refl _ _
        have i_d := h_d
        go_enter Tryz.func8, Tryz.ntmps8
        go_wp2_with fail
        obtain ⟨w1, hw1⟩ : ∃ W, W = w.alloc (.cells #[.int .i64 d.a.k, .int .i64 d.a.n, .slice d.a.sA d.a.s.length d.a.sC, .int .i64 d.a.d.k, .int .i64 d.a.d.n, .string d.a.d.t, .slice d.a.d.A d.a.d.l.length d.a.d.c, .slice d.A d.l.length d.c] 28) := ⟨_, rfl⟩
        rw [← hw1]
        have hb1 : Below w.heap.size w w1 := by rw [hw1]; exact (Below.refl _ _).alloc (Nat.le_refl _) _
        have z1 : w.heap.size + 1 ≤ w1.heap.size := by rw [hw1]; simp
        have y1 : w1.heap.size ≤ w.heap.size + 1 := by rw [hw1]; simp
        have xb : Ko.Box w1 w.heap.size d := by rw [hw1]; exact Ko.Box.new _ _ _
        clear hw1
        have b1 := b0.trans (hb1.mono (by omega))
        have i_d := h_d.below b1
        clear hb1
        have xbq := xb
        obtain ⟨xb_0, xb_1, xb_2, xb_3, xb_4, xb_5, xb_6, xb_7⟩ := xbq
        have xblt : w.heap.size < w1.heap.size := (by omega)
        go_wp2_with fail
        clear xb_0 xb_1 xb_2 xb_3 xb_4 xb_5 xb_6 xb_7 xblt
        refine (szIK_any d.a.sA d.a.sC d.a.s _ (left) ((Ko.E_in i_d).1.s.cap) (by omega) (by omega)).mono ?_
        rintro e w0 ⟨rfl, hw0⟩
        obtain rfl := hw0.symm
        rw [szR_yes (by omega)]
        have n0 : ¬ (left - (d.a.s.length : Int) < 0) := by omega
        have xbq := xb
        obtain ⟨xb_0, xb_1, xb_2, xb_3, xb_4, xb_5, xb_6, xb_7⟩ := xbq
        have xblt : w.heap.size < w1.heap.size := (by omega)
        go_wp2_with fail
        clear xb_0 xb_1 xb_2 xb_3 xb_4 xb_5 xb_6 xb_7 xblt
        refine (sz_any _ d.a.d w.heap.size _ (left - (d.a.s.length : Int)) (Nat.le_refl _) (by omega) (by omega) (Ko.E_in i_d).1.d (by omega)).mono ?_
        rintro e w2 ⟨rfl, hb2⟩
        have z2 := hb2.size
        have xb := xb.below hb2 (by omega)
        have b2 := b1.trans (hb2.mono (by omega))
        have i_d := h_d.below b2
        clear hb2
        rw [szR_yes (by omega)]
        have n1 : ¬ (left - (d.a.s.length : Int) - (d.a.d.bulk : Int) < 0) := by omega
        have xbq := xb
        obtain ⟨xb_0, xb_1, xb_2, xb_3, xb_4, xb_5, xb_6, xb_7⟩ := xbq
        have xblt : w.heap.size < w2.heap.size := (by omega)
        go_wp2_with fail
        clear xb_0 xb_1 xb_2 xb_3 xb_4 xb_5 xb_6 xb_7 xblt
        refine (ihL d.A d.c d.l w.heap.size _ (left - (d.a.s.length : Int) - (d.a.d.bulk : Int)) hmm (by omega) (by omega) (Ko.E_in i_d).2 (by omega)).mono ?_
        rintro e w3 ⟨rfl, hb3⟩
        have z3 := hb3.size
        have xb := xb.below hb3 (by omega)
        have b3 := b2.trans (hb3.mono (by omega))
        have i_d := h_d.below b3
        clear hb3
        rw [szR_yes (by omega)]
        have n2 : ¬ (left - (d.a.s.length : Int) - (d.a.d.bulk : Int) - (Tr.bulkL Ko.bulk d.l : Int) < 0) := by omega
        have xbq := xb
        obtain ⟨xb_0, xb_1, xb_2, xb_3, xb_4, xb_5, xb_6, xb_7⟩ := xbq
        have xblt : w.heap.size < w3.heap.size := (by omega)
        go_wp2_with fail
        clear xb_0 xb_1 xb_2 xb_3 xb_4 xb_5 xb_6 xb_7 xblt
        go_ret
        exact ⟨ret_int HR.out.symm, b3⟩
      · skip
        have HR : Hid (szR (d.bulk Ko.bulk) left = -1) := szR_no (by omega)
        clear hbu
        have b0 : Below w.heap.size w w := Below.refl _ _
        have i_d := h_d
        go_enter Tryz.func8, Tryz.ntmps8
        go_wp2_with fail
        obtain ⟨w1, hw1⟩ : ∃ W, W = w.alloc (.cells #[.int .i64 d.a.k, .int .i64 d.a.n, .slice d.a.sA d.a.s.length d.a.sC, .int .i64 d.a.d.k, .int .i64 d.a.d.n, .string d.a.d.t, .slice d.a.d.A d.a.d.l.length d.a.d.c, .slice d.A d.l.length d.c] 28) := ⟨_, rfl⟩
        rw [← hw1]
        have hb1 : Below w.heap.size w w1 := by rw [hw1]; exact (Below.refl _ _).alloc (Nat.le_refl _) _
        have z1 : w.heap.size + 1 ≤ w1.heap.size := by rw [hw1]; simp
        have y1 : w1.heap.size ≤ w.heap.size + 1 := by rw [hw1]; simp
        have xb : Ko.Box w1 w.heap.size d := by rw [hw1]; exact Ko.Box.new _ _ _
        clear hw1
        have b1 := b0.trans (hb1.mono (by omega))
        have i_d := h_d.below b1
        clear hb1
        have xbq := xb
        obtain ⟨xb_0, xb_1, xb_2, xb_3, xb_4, xb_5, xb_6, xb_7⟩ := xbq
        have xblt : w.heap.size < w1.heap.size := (by omega)
        go_wp2_with fail
        clear xb_0 xb_1 xb_2 xb_3 xb_4 xb_5 xb_6 xb_7 xblt
        refine (szIK_any d.a.sA d.a.sC d.a.s _ (left) ((Ko.E_in i_d).1.s.cap) (by omega) (by omega)).mono ?_
        rintro e w0 ⟨rfl, hw0⟩
        obtain rfl := hw0.symm
        rw [szR_yes (by omega)]
        have n0 : ¬ (left - (d.a.s.length : Int) < 0) := by omega
        have xbq := xb
        obtain ⟨xb_0, xb_1, xb_2, xb_3, xb_4, xb_5, xb_6, xb_7⟩ := xbq
        have xblt : w.heap.size < w1.heap.size := (by omega)
        go_wp2_with fail
        clear xb_0 xb_1 xb_2 xb_3 xb_4 xb_5 xb_6 xb_7 xblt
        refine (sz_any _ d.a.d w.heap.size _ (left - (d.a.s.length : Int)) (Nat.le_refl _) (by omega) (by omega) (Ko.E_in i_d).1.d (by omega)).mono ?_
        rintro e w2 ⟨rfl, hb2⟩
        have z2 := hb2.size
        have xb := xb.below hb2 (by omega)
        have b2 := b1.trans (hb2.mono (by omega))
        have i_d := h_d.below b2
        clear hb2
        rw [szR_yes (by omega)]
        have n1 : ¬ (left - (d.a.s.length : Int) - (d.a.d.bulk : Int) < 0) := by omega
        have xbq := xb
        obtain ⟨xb_0, xb_1, xb_2, xb_3, xb_4, xb_5, xb_6, xb_7⟩ := xbq
        have xblt : w.heap.size < w2.heap.size := (by omega)
        go_wp2_with fail
        clear xb_0 xb_1 xb_2 xb_3 xb_4 xb_5 xb_6 xb_7 xblt
        refine (ihL d.A d.c d.l w.heap.size _ (left - (d.a.s.length : Int) - (d.a.d.bulk : Int)) hmm (by omega) (by omega) (Ko.E_in i_d).2 (by omega)).mono ?_
        rintro e w3 ⟨rfl, hb3⟩
        have z3 := hb3.size
        have xb := xb.below hb3 (by omega)
        have b3 := b2.trans (hb3.mono (by omega))
        have i_d := h_d.below b3
        clear hb3
        rw [szR_no (by omega)]
        have xbq := xb
        obtain ⟨xb_0, xb_1, xb_2, xb_3, xb_4, xb_5, xb_6, xb_7⟩ := xbq
        have xblt : w.heap.size < w3.heap.size := (by omega)
        go_wp2_with fail
        clear xb_0 xb_1 xb_2 xb_3 xb_4 xb_5 xb_6 xb_7 xblt
        go_ret
        exact ⟨ret_int HR.out.symm, b3⟩
    · skip
      have HR : Hid (szR (d.bulk Ko.bulk) left = -1) := szR_no (by omega)
      clear hbu
      have b0 : Below w.heap.size w w := Below.refl _ _
      have i_d := h_d
      go_enter Tryz.func8, Tryz.ntmps8
      go_wp2_with fail
      obtain ⟨w1, hw1⟩ : ∃ W, W = w.alloc (.cells #[.int .i64 d.a.k, .int .i64 d.a.n, .slice d.a.sA d.a.s.length d.a.sC, .int .i64 d.a.d.k, .int .i64 d.a.d.n, .string d.a.d.t, .slice d.a.d.A d.a.d.l.length d.a.d.c, .slice d.A d.l.length d.c] 28) := ⟨_, rfl⟩
      rw [← hw1]
      have hb1 : Below w.heap.size w w1 := by rw [hw1]; exact (Below.refl _ _).alloc (Nat.le_refl _) _
      have z1 : w.heap.size + 1 ≤ w1.heap.size := by rw [hw1]; simp
      have y1 : w1.heap.size ≤ w.heap.size + 1 := by rw [hw1]; simp
      have xb : Ko.Box w1 w.heap.size d := by rw [hw1]; exact Ko.Box.new _ _ _
      clear hw1
      have b1 := b0.trans (hb1.mono (by omega))
      have i_d := h_d.below b1
      clear hb1
      have xbq := xb
      obtain ⟨xb_0, xb_1, xb_2, xb_3, xb_4, xb_5, xb_6, xb_7⟩ := xbq
      have xblt : w.heap.size < w1.heap.size := (by omega)
      go_wp2_with fail
      clear xb_0 xb_1 xb_2 xb_3 xb_4 xb_5 xb_6 xb_7 xblt
      refine (szIK_any d.a.sA d.a.sC d.a.s _ (left) ((Ko.E_in i_d).1.s.cap) (by omega) (by omega)).mono ?_
      rintro e w0 ⟨rfl, hw0⟩
      obtain rfl := hw0.symm
      rw [szR_yes (by omega)]
      have n0 : ¬ (left - (d.a.s.length : Int) < 0) := by omega
      have xbq := xb
      obtain ⟨xb_0, xb_1, xb_2, xb_3, xb_4, xb_5, xb_6, xb_7⟩ := xbq
      have xblt : w.heap.size < w1.heap.size := (by omega)
      go_wp2_with fail
      clear xb_0 xb_1 xb_2 xb_3 xb_4 xb_5 xb_6 xb_7 xblt
      refine (sz_any _ d.a.d w.heap.size _ (left - (d.a.s.length : Int)) (Nat.le_refl _) (by omega) (by omega) (Ko.E_in i_d).1.d (by omega)).mono ?_
      rintro e w2 ⟨rfl, hb2⟩
      have z2 := hb2.size
      have xb := xb.below hb2 (by omega)
      have b2 := b1.trans (hb2.mono (by omega))
      have i_d := h_d.below b2
      clear hb2
      rw [szR_no (by omega)]
      have xbq := xb
      obtain ⟨xb_0, xb_1, xb_2, xb_3, xb_4, xb_5, xb_6, xb_7⟩ := xbq
      have xblt : w.heap.size < w2.heap.size := (by omega)
      go_wp2_with fail
      clear xb_0 xb_1 xb_2 xb_3 xb_4 xb_5 xb_6 xb_7 xblt
      go_ret
      exact ⟨ret_int HR.out.symm, b2⟩
  · skip
    have HR : Hid (szR (d.bulk Ko.bulk) left = -1) := szR_no (by omega)
    clear hbu
    have b0 : Below w.heap.size w w := Below.refl _ _
    have i_d := h_d
    go_enter Tryz.func8, Tryz.ntmps8
    go_wp2_with fail
    obtain ⟨w1, hw1⟩ : ∃ W, W = w.alloc (.cells #[.int .i64 d.a.k, .int .i64 d.a.n, .slice d.a.sA d.a.s.length d.a.sC, .int .i64 d.a.d.k, .int .i64 d.a.d.n, .string d.a.d.t, .slice d.a.d.A d.a.d.l.length d.a.d.c, .slice d.A d.l.length d.c] 28) := ⟨_, rfl⟩
    rw [← hw1]
    have hb1 : Below w.heap.size w w1 := by rw [hw1]; exact (Below.refl _ _).alloc (Nat.le_refl _) _
    have z1 : w.heap.size + 1 ≤ w1.heap.size := by rw [hw1]; simp
    have y1 : w1.heap.size ≤ w.heap.size + 1 := by rw [hw1]; simp
    have xb : Ko.Box w1 w.heap.size d := by rw [hw1]; exact Ko.Box.new _ _ _
    clear hw1
    have b1 := b0.trans (hb1.mono (by omega))
    have i_d := h_d.below b1
    clear hb1
    have xbq := xb
    obtain ⟨xb_0, xb_1, xb_2, xb_3, xb_4, xb_5, xb_6, xb_7⟩ := xbq
    have xblt : w.heap.size < w1.heap.size := (by omega)
    go_wp2_with fail
    clear xb_0 xb_1 xb_2 xb_3 xb_4 xb_5 xb_6 xb_7 xblt
    refine (szIK_any d.a.sA d.a.sC d.a.s _ (left) ((Ko.E_in i_d).1.s.cap) (by omega) (by omega)).mono ?_
    rintro e w0 ⟨rfl, hw0⟩
    obtain rfl := hw0.symm
    rw [szR_no (by omega)]
    have xbq := xb
    obtain ⟨xb_0, xb_1, xb_2, xb_3, xb_4, xb_5, xb_6, xb_7⟩ := xbq
    have xblt : w.heap.size < w1.heap.size := (by omega)
    go_wp2_with fail
    clear xb_0 xb_1 xb_2 xb_3 xb_4 xb_5 xb_6 xb_7 xblt
    go_ret
    exact ⟨ret_int HR.out.symm, b1⟩
theorem Ko_sz_any : ∀ m, KoSzOk m := by
  intro m
  induction m with
  | zero => intro d B w left h; have := d.size_pos; omega
  | succ m ih => exact Ko_sz_step m (Ko_szL_step m ih)
end Go.Proofs.YtpigpncbjckbcaaGreat
namespace Go.Proofs.YtpigpncbjckbcaaGreat
open Go.RowKit
def KoToOk (m : Nat) : Prop := ∀ (d : Tr Ko) (B : Nat) (w : World), d.bulk Ko.bulk ≤ 1500000 → d.size ≤ m → Ko.E.In w B d → B ≤ w.heap.size → Calls Tryz.prog 10 #[Ko.val d] w (RetKo (d.er Ko.er) w)
def KoToLOk (m : Nat) : Prop := ∀ (A : Option Addr) (c : Nat) (l : List (Tr Ko)) (B : Nat) (w : World), Tr.bulkL Ko.bulk l ≤ 1500000 → Tr.sizeL l ≤ m → Ko.E.LIn w B A c l → B ≤ w.heap.size → Calls Tryz.prog 50 #[.slice A l.length c] w (RetKoL (Tr.erL Ko.er l) w)
theorem Ko_info : (Tryz.prog.info? 35).map (fun i => (i.zero, i.size, i.bytes)) = some (some (.agg #[.int .i64 0, .int .i64 0, .slice none 0 0, .int .i64 0, .int .i64 0, .string ⟨#[]⟩, .slice none 0 0, .slice none 0 0]), 8, 120) := by kernel_rfl
theorem Ko_far {w : World} {g : Nat} {T : TypeId} {cs : Array Value} (h : D.Blk w g T cs) {p : Addr} (hp : g ≠ p.block) (u : Value) : D.Blk (w.setCell p u) g T cs := (Below.heap_setCell _ _ _ _ hp).trans h
theorem Ko.own_head {l0 l1 l2 : Nat} {w : World} {x : Ko} (h_s : IOwn l0 l1 w x.sA x.sC x.s) (h_d : x.d.Own l1 l2 w) (h0 : l0 ≤ l1) (h1 : l1 ≤ l2) (hw : Ko.wfp x) : Ko.H.Own l0 l2 w x := by
  refine ⟨⟨h_s.inn.more h1, h_d.inn, hw⟩, fun k hk => ?_, ?_, fun k hk o => ?_⟩
  · rcases List.mem_append.1 hk with hk | hk
    · exact h_s.lo_ k hk
    · have := h_d.lo_ k hk; omega
  · refine List.nodup_append.2 ⟨iblk_nodupK _ _, h_d.nd, fun p hp q hq e => ?_⟩
    have := h_s.inn.blk_lt p hp
    have := h_d.lo_ q hq
    omega
  · rcases List.mem_append.1 hk with hk | hk
    · exact h_s.fr k hk o
    · exact h_d.fr k hk o
set_option maxRecDepth 100000 in
set_option maxHeartbeats 2000000 in
theorem Ko_toL_step (m : Nat) (ih : KoToOk m) : KoToLOk m := by
  intro A c l B w hbk hm hin hB
  have hcap := hin.cap
  have hll := Tr.length_le_sizeL l
  have hlb := Tr.sizeL_le_bulkL Ko.bulk l
  obtain ⟨i0, hi0, hz0, hz1, hz2⟩ := info_parts Ko_info
  have hmk := fun W => run_make_rowN (P := Tryz.prog) 33 35 i0 _ Tryz.underlying33 hi0 hz0 .i64 .i64 l.length l.length (Nat.le_refl _) (by rw [hz2]; omega) (by omega) W
  rw [hz1] at hmk
  go_enter Tryz.func50, Tryz.ntmps50
  go_wp2_with fail
  go_loopw [4] (fun i wr => ∃ j : Nat, j ≤ l.length ∧ i = .int .i64 j ∧ ∃ ds : List (Tr Ko), Hid (Tr.erL Ko.er ds = Tr.erL Ko.er (l.take j)) ∧ ds.length ≤ j ∧ j ≤ ds.length ∧ Ko.E.Fill wr w.heap.size 35 l.length ds ∧ Below w.heap.size w wr) (fun i _ => l.length - (intOf i).toNat)
  case atStart => exact ⟨0, Nat.zero_le _, rfl, [], by simp [Tr.erL, Hid], Nat.le_refl _, Nat.le_refl _, Elem.Fill.new w _ (by rw [size_madeCells]; show l.length * 8 = 8 * l.length; omega), (Below.refl _ _).alloc (Nat.le_refl _) _⟩
  case round =>
    obtain ⟨j, hj, rfl, ds, HE, hd1, hd2, hF, hb⟩ := hrel
    by_cases hlt : j < l.length
    · obtain ⟨b, o, rfl, hblk, c0, c1, c2, c3, c4, c5, c6, c7, hix⟩ := Ko.at_ (hin.below (hb.mono hB)) (i := j) (x := l[j]) (List.getElem?_eq_getElem hlt)
      have hs2 := hb.size
      have hsz := Tr.sizeL_mem (l := l) (List.getElem_mem hlt)
      have hbk1 := Tr.bulkL_mem (f := Ko.bulk) (l := l) (List.getElem_mem hlt)
      have hglt : w.heap.size < wr.heap.size := hF.row.lt
      go_wp2_with fail
      refine (ih l[j] B _ (by omega) (by omega) hix (by omega)).mono ?_
      rintro e w1 ⟨d, rfl, hde, hod, hb1⟩
      have hrow1 := hF.row.below hb1 hglt
      have e4 : Ko.E.n = 8 := rfl
      obtain ⟨v0, hc0⟩ := hrow1.old (i := j * 8) (by rw [e4]; omega)
      have f0 := hrow1.frozen (j * 8)
      obtain ⟨v1, hc1⟩ := hrow1.old (i := j * 8 + 1) (by rw [e4]; omega)
      have f1 := hrow1.frozen (j * 8 + 1)
      obtain ⟨v2, hc2⟩ := hrow1.old (i := j * 8 + 2) (by rw [e4]; omega)
      have f2 := hrow1.frozen (j * 8 + 2)
      obtain ⟨v3, hc3⟩ := hrow1.old (i := j * 8 + 3) (by rw [e4]; omega)
      have f3 := hrow1.frozen (j * 8 + 3)
      obtain ⟨v4, hc4⟩ := hrow1.old (i := j * 8 + 4) (by rw [e4]; omega)
      have f4 := hrow1.frozen (j * 8 + 4)
      obtain ⟨v5, hc5⟩ := hrow1.old (i := j * 8 + 5) (by rw [e4]; omega)
      have f5 := hrow1.frozen (j * 8 + 5)
      obtain ⟨v6, hc6⟩ := hrow1.old (i := j * 8 + 6) (by rw [e4]; omega)
      have f6 := hrow1.frozen (j * 8 + 6)
      obtain ⟨v7, hc7⟩ := hrow1.old (i := j * 8 + 7) (by rw [e4]; omega)
      have f7 := hrow1.frozen (j * 8 + 7)
      have hst := hF.step hb1 hod (by omega)
      have ej : Ko.E.n * ds.length = j * 8 := by rw [e4]; omega
      rw [ej] at hst
      have Hst := Lib.hid hst
      have Hde := Lib.hid hde
      clear hde hst e4 ej hrow1
      simp only [Ko.val]
      go_wp2_with fail
      refine ⟨⟨j + 1, by omega, by go_num, ds ++ [d], ?_, by simp; omega, by simp; omega, Hst.out, ?_⟩, by simp [intOf]; omega⟩
      · show _ = _
        rw [List.take_succ_eq_append_getElem hlt, Tr.erL_append, Tr.erL_append, HE.out]
        simp [Tr.erL, Hde.out]
      · exact ((((((((hb.trans (hb1.mono (by omega))).setCell (by simp) _).setCell (by simp) _).setCell (by simp) _).setCell (by simp) _).setCell (by simp) _).setCell (by simp) _).setCell (by simp) _).setCell (by simp) _
    · have hj' : j = l.length := by omega
      have hj'' : ds.length = l.length := by omega
      subst hj'
      have hdone := hF.done hj'' (by omega)
      have HE' := HE.out
      rw [List.take_length] at HE'
      have HR := Lib.hid HE'
      have HL := Lib.hid hj''
      clear hj'' HE'
      go_wp2_with fail
      go_ret
      exact ⟨some ⟨w.heap.size, 0, none⟩, l.length, ds, ret_sl HL.out.symm, HR.out, hdone, hb⟩
set_option maxRecDepth 100000 in
set_option maxHeartbeats 8000000 in
theorem Ko_to_step (m : Nat) (ihL : KoToLOk m) : KoToOk (m + 1) := by
  intro x B w hbk hm hin hB
  have hmm : Tr.sizeL x.l ≤ m := by rw [Tr.size_eq] at hm; omega
  rw [Tr.bulk_eq] at hbk
  have hbk0 : x.a.s.length + x.a.d.bulk + Tr.bulkL Ko.bulk x.l ≤ 1500000 := hbk
  clear hbk
  have hz_d : x.a.d.size ≤ 2000000 := by have := D.bulk_size x.a.d; omega
  obtain ⟨W1, hW1⟩ : ∃ W1, W1 = w.alloc (.cells #[.int .i64 x.a.k, .int .i64 x.a.n, .slice x.a.sA x.a.s.length x.a.sC, .int .i64 x.a.d.k, .int .i64 x.a.d.n, .string x.a.d.t, .slice x.a.d.A x.a.d.l.length x.a.d.c, .slice x.A x.l.length x.c] 28) := ⟨_, rfl⟩
  obtain ⟨W2, hW2⟩ : ∃ W2, W2 = W1.alloc (.cells #[.int .i64 0, .int .i64 0, .slice none 0 0, .int .i64 0, .int .i64 0, .string ⟨#[]⟩, .slice none 0 0, .slice none 0 0] 35) := ⟨_, rfl⟩
  obtain ⟨W3, hW3⟩ : ∃ W3, W3 = W2.alloc (.cells #[.int .i64 x.a.k, .int .i64 x.a.n, .slice none 0 0, .int .i64 0, .int .i64 0, .string ⟨#[]⟩, .slice none 0 0, .slice none 0 0] 35) := ⟨_, rfl⟩
  have z1 : W1.heap.size = w.heap.size + 1 := by rw [hW1]; simp
  have z2 : W2.heap.size = w.heap.size + 1 + 1 := by rw [hW2]; simp [z1]
  have z3 : W3.heap.size = w.heap.size + 1 + 1 + 1 := by rw [hW3]; simp [z2]
  have B1 : Below w.heap.size w W1 := by rw [hW1]; exact (Below.refl _ _).alloc (Nat.le_refl _) _
  have B2 : Below W1.heap.size W1 W2 := by rw [hW2]; exact (Below.refl _ _).alloc (Nat.le_refl _) _
  have B3 : Below W2.heap.size W2 W3 := by rw [hW3]; exact (Below.refl _ _).alloc (Nat.le_refl _) _
  have X0 : Ko.Box W1 w.heap.size x := by rw [hW1]; exact Ko.Box.new _ _ _
  have X0 := (X0.below B2 (by omega)).below B3 (by omega)
  have R0 : D.Blk W2 (w.heap.size + 1) 35 #[.int .i64 0, .int .i64 0, .slice none 0 0, .int .i64 0, .int .i64 0, .string ⟨#[]⟩, .slice none 0 0, .slice none 0 0] := by rw [hW2, ← z1]; exact D.Blk.new _ _ _
  have R0 := R0.below B3 (by omega)
  have O0 : D.Blk W3 (w.heap.size + 1 + 1) 35 #[.int .i64 x.a.k, .int .i64 x.a.n, .slice none 0 0, .int .i64 0, .int .i64 0, .string ⟨#[]⟩, .slice none 0 0, .slice none 0 0] := by rw [hW3, ← z2]; exact D.Blk.new _ _ _
  have b0 : Below w.heap.size w W3 := (B1.trans (B2.mono (by omega))).trans (B3.mono (by omega))
  have y3 : w.heap.size + 3 ≤ W3.heap.size := by omega
  have i0 := hin.below (b0.mono hB)
  unfold Ko.val
  have X0q := X0
  obtain ⟨a0, a1, a2, a3, a4, a5, a6, a7⟩ := X0q
  go_enter Tryz.func10, Tryz.ntmps10
  go_wp2_with fail
  rw [← hW1, ← hW2, ← hW3]
  clear hW1 hW2 hW3 B1 B2 B3 z1 z2 z3 a0 a1 a2 a3 a4 a5 a6 a7
  refine (toI_any x.a.sA x.a.sC x.a.s B _ (by omega) (Ko.E_in i0).1.s (by omega)).mono ?_
  rintro e v0 ⟨D0A, D0C, rfl, hod0, hq0⟩
  have zv0 := hq0.size
  have X0v := X0.below hq0 (by omega)
  have R0v := R0.below hq0 (by omega)
  have O0v := O0.below hq0 (by omega)
  have bv0 := b0.trans (hq0.mono (by omega))
  have P0 := hod0.wide (lo' := w.heap.size + 3) (by omega) (Nat.le_refl v0.heap.size)
  clear hod0
  clear hq0 X0 R0 O0 b0 i0
  have c0 : World.cell? v0 ⟨w.heap.size + 1 + 1, 0, none⟩ = some (.int .i64 x.a.k) := O0v.cell 0
  have f0 := O0v.frozen 0
  have c1 : World.cell? v0 ⟨w.heap.size + 1 + 1, 1, none⟩ = some (.int .i64 x.a.n) := O0v.cell 1
  have f1 := O0v.frozen 1
  have c2 : World.cell? v0 ⟨w.heap.size + 1 + 1, 2, none⟩ = some (.slice none 0 0) := O0v.cell 2
  have f2 := O0v.frozen 2
  have c3 : World.cell? v0 ⟨w.heap.size + 1 + 1, 3, none⟩ = some (.int .i64 0) := O0v.cell 3
  have f3 := O0v.frozen 3
  have c4 : World.cell? v0 ⟨w.heap.size + 1 + 1, 4, none⟩ = some (.int .i64 0) := O0v.cell 4
  have f4 := O0v.frozen 4
  have c5 : World.cell? v0 ⟨w.heap.size + 1 + 1, 5, none⟩ = some (.string ⟨#[]⟩) := O0v.cell 5
  have f5 := O0v.frozen 5
  have c6 : World.cell? v0 ⟨w.heap.size + 1 + 1, 6, none⟩ = some (.slice none 0 0) := O0v.cell 6
  have f6 := O0v.frozen 6
  have c7 : World.cell? v0 ⟨w.heap.size + 1 + 1, 7, none⟩ = some (.slice none 0 0) := O0v.cell 7
  have f7 := O0v.frozen 7
  have X0q := X0v
  obtain ⟨a0, a1, a2, a3, a4, a5, a6, a7⟩ := X0q
  go_wp2_with fail
  obtain ⟨U1, hU1⟩ : ∃ U, U = (v0.setCell ⟨w.heap.size + 1 + 1, 2, none⟩ (.slice D0A x.a.s.length D0C)) := ⟨_, rfl⟩
  rw [← hU1]
  have O1 : D.Blk U1 (w.heap.size + 1 + 1) 35 #[.int .i64 x.a.k, .int .i64 x.a.n, .slice D0A x.a.s.length D0C, .int .i64 0, .int .i64 0, .string ⟨#[]⟩, .slice none 0 0, .slice none 0 0] := by rw [hU1]; have := (O0v.set_ 2 (.slice D0A x.a.s.length D0C)); simpa using this
  have R1 : D.Blk U1 (w.heap.size + 1) 35 #[.int .i64 0, .int .i64 0, .slice none 0 0, .int .i64 0, .int .i64 0, .string ⟨#[]⟩, .slice none 0 0, .slice none 0 0] := by rw [hU1]; exact (Ko_far R0v (by simp) _)
  have X1 : Ko.Box U1 w.heap.size x := by rw [hU1]; exact (X0v.keep (Below.heap_setCell _ _ _ _ (by simp; omega)))
  have b1 : Below w.heap.size w U1 := by rw [hU1]; exact (bv0.setCell (by simp; omega) _)
  have y1 : U1.heap.size = v0.heap.size := by rw [hU1]; simp
  have P0 : IOwn (w.heap.size + 3) v0.heap.size U1 D0A D0C x.a.s := by rw [hU1]; exact (P0.far (by simp <;> omega) _)
  have i1 := hin.below (b1.mono hB)
  have yl1 : v0.heap.size ≤ U1.heap.size := by omega
  have yu1 : U1.heap.size ≤ v0.heap.size := by omega
  clear hU1 O0v R0v X0v bv0 y1 c0 f0 a0 c1 f1 a1 c2 f2 a2 c3 f3 a3 c4 f4 a4 c5 f5 a5 c6 f6 a6 c7 f7 a7
  refine (to_any 2000000 x.a.d B _ hz_d (by omega) (Ko.E_in i1).1.d (by omega)).mono ?_
  rintro e v1 ⟨D1, rfl, he1, hod1, hq1⟩
  have zv1 := hq1.size
  have HE1 := Lib.hid he1
  clear he1
  have P0 := P0.below (hq1.mono (by omega))
  have X1v := X1.below hq1 (by omega)
  have R1v := R1.below hq1 (by omega)
  have O1v := O1.below hq1 (by omega)
  have bv1 := b1.trans (hq1.mono (by omega))
  have P1 := hod1.wide (lo' := v0.heap.size) (by omega) (Nat.le_refl v1.heap.size)
  clear hod1
  clear hq1 X1 R1 O1 b1 i1
  have c0 : World.cell? v1 ⟨w.heap.size + 1 + 1, 0, none⟩ = some (.int .i64 x.a.k) := O1v.cell 0
  have f0 := O1v.frozen 0
  have c1 : World.cell? v1 ⟨w.heap.size + 1 + 1, 1, none⟩ = some (.int .i64 x.a.n) := O1v.cell 1
  have f1 := O1v.frozen 1
  have c2 : World.cell? v1 ⟨w.heap.size + 1 + 1, 2, none⟩ = some (.slice D0A x.a.s.length D0C) := O1v.cell 2
  have f2 := O1v.frozen 2
  have c3 : World.cell? v1 ⟨w.heap.size + 1 + 1, 3, none⟩ = some (.int .i64 0) := O1v.cell 3
  have f3 := O1v.frozen 3
  have c4 : World.cell? v1 ⟨w.heap.size + 1 + 1, 4, none⟩ = some (.int .i64 0) := O1v.cell 4
  have f4 := O1v.frozen 4
  have c5 : World.cell? v1 ⟨w.heap.size + 1 + 1, 5, none⟩ = some (.string ⟨#[]⟩) := O1v.cell 5
  have f5 := O1v.frozen 5
  have c6 : World.cell? v1 ⟨w.heap.size + 1 + 1, 6, none⟩ = some (.slice none 0 0) := O1v.cell 6
  have f6 := O1v.frozen 6
  have c7 : World.cell? v1 ⟨w.heap.size + 1 + 1, 7, none⟩ = some (.slice none 0 0) := O1v.cell 7
  have f7 := O1v.frozen 7
  have X1q := X1v
  obtain ⟨a0, a1, a2, a3, a4, a5, a6, a7⟩ := X1q
  simp only [D.val]
  go_wp2_with fail
  obtain ⟨U2, hU2⟩ : ∃ U, U = ((((v1.setCell ⟨w.heap.size + 1 + 1, 3, none⟩ (.int .i64 D1.k)).setCell ⟨w.heap.size + 1 + 1, 4, none⟩ (.int .i64 D1.n)).setCell ⟨w.heap.size + 1 + 1, 5, none⟩ (.string D1.t)).setCell ⟨w.heap.size + 1 + 1, 6, none⟩ (.slice D1.A D1.l.length D1.c)) := ⟨_, rfl⟩
  rw [← hU2]
  have O2 : D.Blk U2 (w.heap.size + 1 + 1) 35 #[.int .i64 x.a.k, .int .i64 x.a.n, .slice D0A x.a.s.length D0C, .int .i64 D1.k, .int .i64 D1.n, .string D1.t, .slice D1.A D1.l.length D1.c, .slice none 0 0] := by rw [hU2]; have := ((((O1v.set_ 3 (.int .i64 D1.k)).set_ 4 (.int .i64 D1.n)).set_ 5 (.string D1.t)).set_ 6 (.slice D1.A D1.l.length D1.c)); simpa using this
  have R2 : D.Blk U2 (w.heap.size + 1) 35 #[.int .i64 0, .int .i64 0, .slice none 0 0, .int .i64 0, .int .i64 0, .string ⟨#[]⟩, .slice none 0 0, .slice none 0 0] := by rw [hU2]; exact (Ko_far (Ko_far (Ko_far (Ko_far R1v (by simp) _) (by simp) _) (by simp) _) (by simp) _)
  have X2 : Ko.Box U2 w.heap.size x := by rw [hU2]; exact ((((X1v.keep (Below.heap_setCell _ _ _ _ (by simp; omega))).keep (Below.heap_setCell _ _ _ _ (by simp; omega))).keep (Below.heap_setCell _ _ _ _ (by simp; omega))).keep (Below.heap_setCell _ _ _ _ (by simp; omega)))
  have b2 : Below w.heap.size w U2 := by rw [hU2]; exact ((((bv1.setCell (by simp; omega) _).setCell (by simp; omega) _).setCell (by simp; omega) _).setCell (by simp; omega) _)
  have y2 : U2.heap.size = v1.heap.size := by rw [hU2]; simp
  have P0 : IOwn (w.heap.size + 3) v0.heap.size U2 D0A D0C x.a.s := by rw [hU2]; exact ((((P0.far (by simp <;> omega) _).far (by simp <;> omega) _).far (by simp <;> omega) _).far (by simp <;> omega) _)
  have P1 : D1.Own (v0.heap.size) v1.heap.size U2 := by rw [hU2]; exact ((((P1.far (by simp <;> omega) _).far (by simp <;> omega) _).far (by simp <;> omega) _).far (by simp <;> omega) _)
  have i2 := hin.below (b2.mono hB)
  have yl2 : v1.heap.size ≤ U2.heap.size := by omega
  have yu2 : U2.heap.size ≤ v1.heap.size := by omega
  clear hU2 O1v R1v X1v bv1 y2 c0 f0 a0 c1 f1 a1 c2 f2 a2 c3 f3 a3 c4 f4 a4 c5 f5 a5 c6 f6 a6 c7 f7 a7
  refine (ihL x.A x.c x.l B _ (by omega) hmm (Ko.E_in i2).2 (by omega)).mono ?_
  rintro e v2 ⟨KA, KC, KL, rfl, heK, hoK, hq2⟩
  have zv2 := hq2.size
  have HEK := Lib.hid heK
  clear heK
  have P0 := P0.below (hq2.mono (by omega))
  have P1 := P1.below (hq2.mono (by omega))
  have X2v := X2.below hq2 (by omega)
  have R2v := R2.below hq2 (by omega)
  have O2v := O2.below hq2 (by omega)
  have bv2 := b2.trans (hq2.mono (by omega))
  have PK := hoK.wide (lo' := v1.heap.size) (by omega) (Nat.le_refl v2.heap.size)
  clear hoK
  clear hq2 X2 R2 O2 b2 i2
  have c0 : World.cell? v2 ⟨w.heap.size + 1 + 1, 0, none⟩ = some (.int .i64 x.a.k) := O2v.cell 0
  have c1 : World.cell? v2 ⟨w.heap.size + 1 + 1, 1, none⟩ = some (.int .i64 x.a.n) := O2v.cell 1
  have c2 : World.cell? v2 ⟨w.heap.size + 1 + 1, 2, none⟩ = some (.slice D0A x.a.s.length D0C) := O2v.cell 2
  have c3 : World.cell? v2 ⟨w.heap.size + 1 + 1, 3, none⟩ = some (.int .i64 D1.k) := O2v.cell 3
  have c4 : World.cell? v2 ⟨w.heap.size + 1 + 1, 4, none⟩ = some (.int .i64 D1.n) := O2v.cell 4
  have c5 : World.cell? v2 ⟨w.heap.size + 1 + 1, 5, none⟩ = some (.string D1.t) := O2v.cell 5
  have c6 : World.cell? v2 ⟨w.heap.size + 1 + 1, 6, none⟩ = some (.slice D1.A D1.l.length D1.c) := O2v.cell 6
  have c7 : World.cell? v2 ⟨w.heap.size + 1 + 1, 7, none⟩ = some (.slice none 0 0) := O2v.cell 7
  have f7 := O2v.frozen 7
  have r0 : World.cell? v2 ⟨w.heap.size + 1, 0, none⟩ = some (.int .i64 0) := R2v.cell 0
  have g0 := R2v.frozen 0
  have r1 : World.cell? v2 ⟨w.heap.size + 1, 1, none⟩ = some (.int .i64 0) := R2v.cell 1
  have g1 := R2v.frozen 1
  have r2 : World.cell? v2 ⟨w.heap.size + 1, 2, none⟩ = some (.slice none 0 0) := R2v.cell 2
  have g2 := R2v.frozen 2
  have r3 : World.cell? v2 ⟨w.heap.size + 1, 3, none⟩ = some (.int .i64 0) := R2v.cell 3
  have g3 := R2v.frozen 3
  have r4 : World.cell? v2 ⟨w.heap.size + 1, 4, none⟩ = some (.int .i64 0) := R2v.cell 4
  have g4 := R2v.frozen 4
  have r5 : World.cell? v2 ⟨w.heap.size + 1, 5, none⟩ = some (.string ⟨#[]⟩) := R2v.cell 5
  have g5 := R2v.frozen 5
  have r6 : World.cell? v2 ⟨w.heap.size + 1, 6, none⟩ = some (.slice none 0 0) := R2v.cell 6
  have g6 := R2v.frozen 6
  have r7 : World.cell? v2 ⟨w.heap.size + 1, 7, none⟩ = some (.slice none 0 0) := R2v.cell 7
  have g7 := R2v.frozen 7
  have PP : Hid (Ko.E.Own (w.heap.size + 3) v2.heap.size v2 (Tr.mk (⟨x.a.k, x.a.n, D0A, D0C, x.a.s, D1⟩ : Ko) KA KC KL)) := Tr.own_of (Ko.own_head (x := ⟨x.a.k, x.a.n, D0A, D0C, x.a.s, D1⟩) P0 P1 (by omega) (by omega) ⟨(Ko.E_in hin).1.wf.1, (Ko.E_in hin).1.wf.2⟩) PK (by omega) (by omega)
  clear P0 P1 PK O2v R2v
  go_wp2_with fail
  refine bodyPost_ret (v := .agg #[.int .i64 x.a.k, .int .i64 x.a.n, .slice D0A x.a.s.length D0C, .int .i64 D1.k, .int .i64 D1.n, .string D1.t, .slice D1.A D1.l.length D1.c, .slice KA KL.length KC]) (by simp [results, Tryz.results10, go_sem, r0, r1, r2, r3, r4, r5, r6, r7]) rfl ⟨(Tr.mk (⟨x.a.k, x.a.n, D0A, D0C, x.a.s, D1⟩ : Ko) KA KC KL), rfl, ?_, ?_, ?_⟩
  · show Tr.mk _ _ _ _ = _
    rw [HEK.out]
    simp only [Ko.er, HE1.out]
    cases x; rfl
  · simp only [World.size_setCell]
    exact (((((((((PP.out.far (by simp <;> omega) _).far (by simp <;> omega) _).far (by simp <;> omega) _).far (by simp <;> omega) _).far (by simp <;> omega) _).far (by simp <;> omega) _).far (by simp <;> omega) _).far (by simp <;> omega) _).far (by simp <;> omega) _).wide (by omega) (Nat.le_refl _)
  · exact (((((((((bv2.setCell (by simp <;> omega) _).setCell (by simp <;> omega) _).setCell (by simp <;> omega) _).setCell (by simp <;> omega) _).setCell (by simp <;> omega) _).setCell (by simp <;> omega) _).setCell (by simp <;> omega) _).setCell (by simp <;> omega) _).setCell (by simp <;> omega) _)
theorem Ko_to_any : ∀ m, KoToOk m := by
  intro m
  induction m with
  | zero => intro d B w _ h; have := d.size_pos; omega
  | succ m ih => exact Ko_to_step m (Ko_toL_step m ih)
end Go.Proofs.YtpigpncbjckbcaaGreat
namespace Go.Proofs.YtpigpncbjckbcaaGreat
open Go.RowKit
def KoEqOk (m : Nat) : Prop := ∀ (x y : Tr Ko) (B : Nat) (w : World), x.size ≤ m → x.er Ko.er = y.er Ko.er → Ko.E.In w B x → Ko.E.In w B y → B ≤ w.heap.size →
    Calls Tryz.prog 12 #[Ko.val x, Ko.val y] w fun e w' => e = .returned (.bool true) ∧ Below w.heap.size w w'
def KoEqLOk (m : Nat) : Prop := ∀ (A : Option Addr) (c : Nat) (l : List (Tr Ko)) (A' : Option Addr) (c' : Nat) (l' : List (Tr Ko)) (B : Nat) (w : World), Tr.sizeL l ≤ m → Tr.erL Ko.er l = Tr.erL Ko.er l' → Ko.E.LIn w B A c l → Ko.E.LIn w B A' c' l' → B ≤ w.heap.size →
    Calls Tryz.prog 57 #[.slice A l.length c, .slice A' l'.length c'] w fun e w' => e = .returned (.bool true) ∧ Below w.heap.size w w'
theorem Ko.erL_get {a b : List (Tr Ko)} (h : Tr.erL Ko.er a = Tr.erL Ko.er b) {j : Nat} (ha : j < a.length) (hb : j < b.length) : (a[j]).er Ko.er = (b[j]).er Ko.er := by
  have h1 : (Tr.erL Ko.er a)[j]? = (Tr.erL Ko.er b)[j]? := by rw [h]
  simp only [Tr.erL_map, List.getElem?_map, List.getElem?_eq_getElem ha, List.getElem?_eq_getElem hb, Option.map_some, Option.some.injEq] at h1
  exact h1
theorem Ko.er_parts {x y : Tr Ko} (h : x.er Ko.er = y.er Ko.er) : Ko.er x.a = Ko.er y.a ∧ Tr.erL Ko.er x.l = Tr.erL Ko.er y.l := by
  cases x; cases y
  simp only [Tr.er, Tr.mk.injEq] at h
  exact ⟨h.1, h.2.2.2⟩
set_option maxRecDepth 100000 in
set_option maxHeartbeats 4000000 in
theorem Ko_eqL_step (m : Nat) (ih : KoEqOk m) : KoEqLOk m := by
  intro A c l A' c' l' B w hm he hin hin' hB
  have hcap := hin.cap
  have hcap' := hin'.cap
  have hlen : l.length = l'.length := by rw [← Tr.erL_length Ko.er l, he, Tr.erL_length]
  have hn1 : ((l.length : Int) != (l'.length : Int)) = false := by simp [hlen]
  have hlen1 : l'.length ≤ l.length := by omega
  have hlen2 : l.length ≤ l'.length := by omega
  clear hlen
  have HE := Lib.hid he
  clear he
  go_enter Tryz.func57, Tryz.ntmps57
  go_wp2_with fail
  go_loopw [5] (fun i wr => ∃ j : Nat, j ≤ l.length ∧ i = .int .i64 j ∧ Below w.heap.size w wr) (fun i _ => l.length - (intOf i).toNat)
  case atStart => exact ⟨0, Nat.zero_le _, rfl, Below.refl _ _⟩
  case round =>
    obtain ⟨j, hj, rfl, hb⟩ := hrel
    by_cases hlt : j < l.length
    · have hlt' : j < l'.length := by omega
      have hs2 := hb.size
      obtain ⟨b, o, rfl, hblk, c0, c1, c2, c3, c4, c5, c6, c7, hix⟩ := Ko.at_ (hin.below (hb.mono hB)) (i := j) (x := l[j]) (List.getElem?_eq_getElem hlt)
      obtain ⟨b', o', rfl, hblk', c0', c1', c2', c3', c4', c5', c6', c7', hix'⟩ := Ko.at_ (hin'.below (hb.mono hB)) (i := j) (x := l'[j]) (List.getElem?_eq_getElem hlt')
      have hsz := Tr.sizeL_mem (l := l) (List.getElem_mem hlt)
      have g1 : (0 : Int) ≤ (j : Int) := by omega
      have g2 : (j : Int) < (l.length : Int) := by omega
      have g3 : (j : Int) < (l'.length : Int) := by omega
      have heq := Ko.erL_get HE.out hlt hlt'
      have Heq := Lib.hid heq
      clear heq
      have lc : b < wr.heap.size := by omega
      have ld : b' < wr.heap.size := by omega
      go_wp2_with fail
      first
      | go_region_held3 (fun w' => w'.cell? ⟨b, o + j * 8, none⟩ = some (.int .i64 l[j].a.k) ∧ w'.cell? ⟨b, o + j * 8 + 1, none⟩ = some (.int .i64 l[j].a.n) ∧ w'.cell? ⟨b, o + j * 8 + 2, none⟩ = some (.slice l[j].a.sA l[j].a.s.length l[j].a.sC) ∧ w'.cell? ⟨b, o + j * 8 + 3, none⟩ = some (.int .i64 l[j].a.d.k) ∧ w'.cell? ⟨b, o + j * 8 + 4, none⟩ = some (.int .i64 l[j].a.d.n) ∧ w'.cell? ⟨b, o + j * 8 + 5, none⟩ = some (.string l[j].a.d.t) ∧ w'.cell? ⟨b, o + j * 8 + 6, none⟩ = some (.slice l[j].a.d.A l[j].a.d.l.length l[j].a.d.c) ∧ w'.cell? ⟨b, o + j * 8 + 7, none⟩ = some (.slice l[j].A l[j].l.length l[j].c) ∧ w'.cell? ⟨b', o' + j * 8, none⟩ = some (.int .i64 l'[j].a.k) ∧ w'.cell? ⟨b', o' + j * 8 + 1, none⟩ = some (.int .i64 l'[j].a.n) ∧ w'.cell? ⟨b', o' + j * 8 + 2, none⟩ = some (.slice l'[j].a.sA l'[j].a.s.length l'[j].a.sC) ∧ w'.cell? ⟨b', o' + j * 8 + 3, none⟩ = some (.int .i64 l'[j].a.d.k) ∧ w'.cell? ⟨b', o' + j * 8 + 4, none⟩ = some (.int .i64 l'[j].a.d.n) ∧ w'.cell? ⟨b', o' + j * 8 + 5, none⟩ = some (.string l'[j].a.d.t) ∧ w'.cell? ⟨b', o' + j * 8 + 6, none⟩ = some (.slice l'[j].a.d.A l'[j].a.d.l.length l'[j].a.d.c) ∧ w'.cell? ⟨b', o' + j * 8 + 7, none⟩ = some (.slice l'[j].A l'[j].l.length l'[j].c)) (go_keep)
          ((go_at_call 12; refine (ih l[j] l'[j] B _ ?_ Heq.out ?_ ?_ ?_).mono ?_; omega; exact hix.drew; exact hix'.drew; (show B ≤ wr.heap.size); omega; rintro e w1 ⟨rfl, hb1⟩; have hb1 : Below wr.heap.size wr w1 := below_undrew hb1; have a0 := (hb1.cell (p := ⟨b, o + j * 8, none⟩) lc).trans c0; have a1 := (hb1.cell (p := ⟨b, o + j * 8 + 1, none⟩) lc).trans c1; have a2 := (hb1.cell (p := ⟨b, o + j * 8 + 2, none⟩) lc).trans c2; have a3 := (hb1.cell (p := ⟨b, o + j * 8 + 3, none⟩) lc).trans c3; have a4 := (hb1.cell (p := ⟨b, o + j * 8 + 4, none⟩) lc).trans c4; have a5 := (hb1.cell (p := ⟨b, o + j * 8 + 5, none⟩) lc).trans c5; have a6 := (hb1.cell (p := ⟨b, o + j * 8 + 6, none⟩) lc).trans c6; have a7 := (hb1.cell (p := ⟨b, o + j * 8 + 7, none⟩) lc).trans c7; have d0 := (hb1.cell (p := ⟨b', o' + j * 8, none⟩) ld).trans c0'; have d1 := (hb1.cell (p := ⟨b', o' + j * 8 + 1, none⟩) ld).trans c1'; have d2 := (hb1.cell (p := ⟨b', o' + j * 8 + 2, none⟩) ld).trans c2'; have d3 := (hb1.cell (p := ⟨b', o' + j * 8 + 3, none⟩) ld).trans c3'; have d4 := (hb1.cell (p := ⟨b', o' + j * 8 + 4, none⟩) ld).trans c4'; have d5 := (hb1.cell (p := ⟨b', o' + j * 8 + 5, none⟩) ld).trans c5'; have d6 := (hb1.cell (p := ⟨b', o' + j * 8 + 6, none⟩) ld).trans c6'; have d7 := (hb1.cell (p := ⟨b', o' + j * 8 + 7, none⟩) ld).trans c7'))
      | fail
      all_goals go_wp2_with fail
      all_goals refine ⟨⟨j + 1, by omega, by go_num, hb.trans (hb1.mono (by omega))⟩, by simp [intOf]; omega⟩
    · have hj' : j = l.length := by omega
      subst hj'
      go_wp2_with fail
      go_ret
      exact ⟨rfl, hb⟩
set_option maxRecDepth 100000 in
set_option maxHeartbeats 4000000 in
theorem Ko_eq_step (m : Nat) (ihL : KoEqLOk m) : KoEqOk (m + 1) := by
  intro x y B w hm he hx hy hB
  have h_x := Elem.In.more hx hB
  have h_y := Elem.In.more hy hB
  have hmm : Tr.sizeL x.l ≤ m := by rw [Tr.size_eq] at hm; omega
  obtain ⟨he1, he2⟩ := Ko.er_parts he
  have HEL := Lib.hid he2
  have hq := Ko.eqB_of_er he1
  simp only [Ko.eqB, Bool.and_eq_true] at hq
  obtain ⟨q_k, q_n, q_s, q_d⟩ := hq
  have n_k : (x.a.k != y.a.k) = false := by rw [bne, q_k]; rfl
  clear q_k
  have n_n : (x.a.n != y.a.n) = false := by rw [bne, q_n]; rfl
  clear q_n
  have Q_s := Lib.hid q_s
  clear q_s
  have Q_d := Lib.hid q_d
  clear q_d
  clear he he1 he2
  unfold Ko.val
  have b0 : Below w.heap.size w w := Below.refl _ _
  have i_x := h_x
  have i_y := h_y
  go_enter Tryz.func12, Tryz.ntmps12
  go_wp2_with fail
  obtain ⟨w2, hw2⟩ : ∃ W, W = (w.alloc (.cells #[.int .i64 x.a.k, .int .i64 x.a.n, .slice x.a.sA x.a.s.length x.a.sC, .int .i64 x.a.d.k, .int .i64 x.a.d.n, .string x.a.d.t, .slice x.a.d.A x.a.d.l.length x.a.d.c, .slice x.A x.l.length x.c] 35)).alloc (.cells #[.int .i64 y.a.k, .int .i64 y.a.n, .slice y.a.sA y.a.s.length y.a.sC, .int .i64 y.a.d.k, .int .i64 y.a.d.n, .string y.a.d.t, .slice y.a.d.A y.a.d.l.length y.a.d.c, .slice y.A y.l.length y.c] 35) := ⟨_, rfl⟩
  rw [← hw2]
  have hb2 : Below w.heap.size w w2 := by rw [hw2]; exact ((Below.refl _ _).alloc (Nat.le_refl _) _).alloc (by simp) _
  have z2 : w.heap.size + 2 ≤ w2.heap.size := by rw [hw2]; simp
  have xa : Ko.Box w2 w.heap.size x := by rw [hw2]; exact (Ko.Box.new w x _).below ((Below.refl (w.heap.size + 1) _).alloc (by simp) _) (by omega)
  have xb : Ko.Box w2 (w.heap.size + 1) y := by rw [hw2]; have := Ko.Box.new (w.alloc (.cells #[.int .i64 x.a.k, .int .i64 x.a.n, .slice x.a.sA x.a.s.length x.a.sC, .int .i64 x.a.d.k, .int .i64 x.a.d.n, .string x.a.d.t, .slice x.a.d.A x.a.d.l.length x.a.d.c, .slice x.A x.l.length x.c] 35)) y 35; simpa using this
  clear hw2
  have b2 := b0.trans (hb2.mono (by omega))
  have i_x := h_x.below b2
  have i_y := h_y.below b2
  clear hb2 b0
  have xaq := xa
  obtain ⟨xa_0, xa_1, xa_2, xa_3, xa_4, xa_5, xa_6, xa_7⟩ := xaq
  have xalt : w.heap.size < w2.heap.size := (by omega)
  have xbq := xb
  obtain ⟨xb_0, xb_1, xb_2, xb_3, xb_4, xb_5, xb_6, xb_7⟩ := xbq
  have xblt : w.heap.size + 1 < w2.heap.size := (by omega)
  go_wp2_with fail
  clear xa_0 xa_1 xa_2 xa_3 xa_4 xa_5 xa_6 xa_7 xalt
  clear xb_0 xb_1 xb_2 xb_3 xb_4 xb_5 xb_6 xb_7 xblt
  refine (eqI_any x.a.sA x.a.sC x.a.s y.a.sA y.a.sC y.a.s w.heap.size _ (Ko.E_in i_x).1.s (Ko.E_in i_y).1.s (by omega)).mono ?_
  rintro e w3 ⟨rfl, hb3⟩
  have z3 := hb3.size
  have xa := xa.below hb3 (by omega)
  have xb := xb.below hb3 (by omega)
  have b3 := b2.trans (hb3.mono (by omega))
  have i_x := h_x.below b3
  have i_y := h_y.below b3
  clear hb3
  rw [Q_s.out]
  have xaq := xa
  obtain ⟨xa_0, xa_1, xa_2, xa_3, xa_4, xa_5, xa_6, xa_7⟩ := xaq
  have xalt : w.heap.size < w3.heap.size := (by omega)
  have xbq := xb
  obtain ⟨xb_0, xb_1, xb_2, xb_3, xb_4, xb_5, xb_6, xb_7⟩ := xbq
  have xblt : w.heap.size + 1 < w3.heap.size := (by omega)
  go_wp2_with fail
  clear xa_0 xa_1 xa_2 xa_3 xa_4 xa_5 xa_6 xa_7 xalt
  clear xb_0 xb_1 xb_2 xb_3 xb_4 xb_5 xb_6 xb_7 xblt
  refine (eq_all x.a.d.size x.a.d y.a.d w.heap.size _ (by omega) (Ko.E_in i_x).1.d (Ko.E_in i_y).1.d (by omega)).mono ?_
  rintro e w4 ⟨rfl, hb4⟩
  have z4 := hb4.size
  have xa := xa.below hb4 (by omega)
  have xb := xb.below hb4 (by omega)
  have b4 := b3.trans (hb4.mono (by omega))
  have i_x := h_x.below b4
  have i_y := h_y.below b4
  clear hb4
  rw [Q_d.out]
  have xaq := xa
  obtain ⟨xa_0, xa_1, xa_2, xa_3, xa_4, xa_5, xa_6, xa_7⟩ := xaq
  have xalt : w.heap.size < w4.heap.size := (by omega)
  have xbq := xb
  obtain ⟨xb_0, xb_1, xb_2, xb_3, xb_4, xb_5, xb_6, xb_7⟩ := xbq
  have xblt : w.heap.size + 1 < w4.heap.size := (by omega)
  go_wp2_with fail
  clear xa_0 xa_1 xa_2 xa_3 xa_4 xa_5 xa_6 xa_7 xalt
  clear xb_0 xb_1 xb_2 xb_3 xb_4 xb_5 xb_6 xb_7 xblt
  refine (ihL x.A x.c x.l y.A y.c y.l w.heap.size _ hmm HEL.out (Ko.E_in i_x).2 (Ko.E_in i_y).2 (by omega)).mono ?_
  rintro e w5 ⟨rfl, hb5⟩
  have z5 := hb5.size
  have xa := xa.below hb5 (by omega)
  have xb := xb.below hb5 (by omega)
  have b5 := b4.trans (hb5.mono (by omega))
  have i_x := h_x.below b5
  have i_y := h_y.below b5
  clear hb5
  have xaq := xa
  obtain ⟨xa_0, xa_1, xa_2, xa_3, xa_4, xa_5, xa_6, xa_7⟩ := xaq
  have xalt : w.heap.size < w5.heap.size := (by omega)
  have xbq := xb
  obtain ⟨xb_0, xb_1, xb_2, xb_3, xb_4, xb_5, xb_6, xb_7⟩ := xbq
  have xblt : w.heap.size + 1 < w5.heap.size := (by omega)
  go_wp2_with fail
  clear xa_0 xa_1 xa_2 xa_3 xa_4 xa_5 xa_6 xa_7 xalt
  clear xb_0 xb_1 xb_2 xb_3 xb_4 xb_5 xb_6 xb_7 xblt
  go_ret
  exact ⟨rfl, b5⟩
theorem Ko_eq_any : ∀ m, KoEqOk m := by
  intro m
  induction m with
  | zero => intro x y B w h; have := x.size_pos; omega
  | succ m ih => exact Ko_eq_step m (Ko_eqL_step m ih)
end Go.Proofs.YtpigpncbjckbcaaGreat
