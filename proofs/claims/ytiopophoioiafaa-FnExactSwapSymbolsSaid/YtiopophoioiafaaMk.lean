/-
  The laws' own functions on data: the marks' text.
-/
import Derived.Test.YtiopophoioiafaaOwn
import Derived.Test.YtiopophoioiafaaProg
import Derived.Handy
import Derived.WalkSpells
import Derived.WalkLawsBesides
import Derived.Lib.ItoaNum
namespace Go.Proofs.Ytiopophoioiafaa
open Go.RowKit

/-- The mark of a number. -/
def markB (k : Int) : ByteArray := if k ≤ 0 then ⟨#[109, 48]⟩ else ⟨(109 :: Lib.decDigits k.toNat).toArray⟩
/-- The digits still to come. -/
def digs (j : Nat) : List UInt8 := if j = 0 then [] else Lib.decDigits j
theorem nDigits_le : ∀ (k n : Nat), 1 ≤ k → n < 10 ^ k → Lib.nDigits n ≤ k
  | 0, n, h, _ => by omega
  | k + 1, n, _, h => by
    by_cases h10 : n < 10
    · rw [Lib.nDigits_small h10]; omega
    · rw [Lib.nDigits_big h10]
      rw [Nat.pow_succ] at h
      have hk : 1 ≤ k := by
        rcases Nat.eq_zero_or_pos k with rfl | hk
        · simp at h; omega
        · exact hk
      have := nDigits_le k (n / 10) hk (by omega)
      omega
theorem digs_step (j : Nat) (h : 0 < j) (out : List UInt8) : digs j ++ out = digs (j / 10) ++ (UInt8.ofNat (48 + j % 10) :: out) := by
  unfold digs
  rw [if_neg (by omega), Lib.decDigits]
  by_cases h10 : j < 10
  · rw [dif_pos h10, if_pos (by omega), Nat.mod_eq_of_lt h10]; rfl
  · rw [dif_neg h10, if_neg (by omega)]; simp
theorem markB_size (k : Int) (h : k ≤ 9223372036854775807) : (markB k).size ≤ 30 := by
  unfold markB
  split
  · decide
  · have := nDigits_le 19 k.toNat (by omega) (by omega)
    show (109 :: Lib.decDigits k.toNat).toArray.size ≤ 30
    simp [Lib.decDigits_length]
    omega

set_option maxRecDepth 100000 in
set_option maxHeartbeats 1000000 in
theorem markText_any (k : Int) (w : World) (h2 : k ≤ 9223372036854775807) :
    Calls Try.prog 104 #[.int .i64 k] w fun e w' => e = .returned (.string (markB k)) ∧ Below w.heap.size w w' := by
  by_cases h : k ≤ 0
  · go_enter Try.func104, Try.ntmps104
    go_wp2_with fail
    go_ret
    exact ⟨ret_str (by rw [markB, if_pos h]), Below.refl _ _⟩
  · obtain ⟨n, rfl⟩ := Int.eq_ofNat_of_zero_le (show 0 ≤ k by omega)
    have hdd := nDigits_le 19 n (by omega) (by omega)
    rw [← Lib.decDigits_length] at hdd
    go_enter Try.func104, Try.ntmps104
    go_wp2_with fail
    go_loopw [0, 3] (fun q o wr => ∃ (j : Nat) (out : List UInt8), q = .int .i64 j ∧ o = .string ⟨out.toArray⟩ ∧ j ≤ n ∧ Hid (Lib.decDigits n = digs j ++ out) ∧ out.length ≤ 19 ∧ Below w.heap.size w wr) (fun q _ _ => (intOf q).toNat)
    case atStart => exact ⟨n, [], rfl, rfl, Nat.le_refl _, by rw [Hid, digs, if_neg (by omega)]; simp, by simp, Below.refl _ _⟩
    case round =>
      obtain ⟨j, out, rfl, rfl, hj, HE, hol, hb⟩ := hrel
      have hs2 := hb.size
      by_cases hlt : 0 < j
      · have hcv := run_convert_bytes_arg (P := Try.prog) (wr.alloc (.cells #[.int .u8 (48 + (j : Int) % 10)] 5)) 22 5 Try.underlying22 Try.underlying5 wr.heap.size 0 1 1 [48 + (j : Int) % 10] rfl
          (fun i hi => by obtain rfl : i = 0 := by omega
                          rw [cell_of_row _ _ _ _ _ _ (heap_alloc_new wr _)]; rfl) 9 Try.underlying9
        have hne : (UInt8.ofNat (48 + (j : Int) % 10).toNat :: out).length ≤ 19 := by
          have h1 := HE.out
          rw [digs_step j hlt] at h1
          rw [h1] at hdd
          simp at hdd ⊢
          omega
        have HN := Lib.hid hne
        clear hne
        have hst : (strOfNums [48 + (j : Int) % 10]) = ⟨[UInt8.ofNat (48 + (j : Int) % 10).toNat].toArray⟩ := rfl
        rw [hst] at hcv
        clear hst
        go_wp2_with fail
        have e1 : (48 + UInt8.ofNat (j % 10)) = UInt8.ofNat (48 + (j : Int) % 10).toNat := by
          rw [show (48 + (j : Int) % 10).toNat = 48 + j % 10 by omega, UInt8.ofNat_add]; rfl
        refine ⟨⟨j / 10, UInt8.ofNat (48 + (j : Int) % 10).toNat :: out, by go_num, ?_, by omega, ?_, HN.out, hb.alloc hs2 _⟩, by simp [intOf]; omega⟩
        · rw [e1]; exact congrArg Value.string (ByteArray.mk_append_mk [_] out)
        · rw [Hid, HE.out, digs_step j hlt, show (48 + (j : Int) % 10).toNat = 48 + j % 10 by omega]
      · go_wp2_with fail
        obtain rfl : j = 0 := by omega
        go_ret
        refine ⟨ret_str ?_, hb⟩
        have := HE.out
        simp only [digs, if_true, List.nil_append] at this
        rw [markB, if_neg (by omega), Int.toNat_natCast, this]
        exact ByteArray.mk_append_mk [109] out
end Go.Proofs.Ytiopophoioiafaa
