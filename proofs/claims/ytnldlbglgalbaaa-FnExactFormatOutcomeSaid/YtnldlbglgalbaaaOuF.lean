/-
  FormatOutcome of the model and of the program (written by gen/fout.py).
-/
import Derived.Test.YtnldlbglgalbaaaOuQ
import Derived.Test.YtnldlbglgalbaaaJnB
import Derived.Test.YtnldlbglgalbaaaWords
import Derived.Deep.DeepCutAuto
namespace Go.Proofs.Ytnldlbglgalbaaa
open Go.RowKit

/-- The text of an outcome whose status has the text p. -/
def Ou.txt (p : ByteArray) (t : ByteArray) (o : List Sg) : ByteArray := if o.length = 0 then p ++ t else p ++ t ++ ⟨#[32, 97, 102, 116, 101, 114, 32]⟩ ++ Sg.join o
def Ou.fmt (x : Ou) : ByteArray := if x.s = 1 then Ou.txt ⟨#[118, 97, 108, 117, 101, 32]⟩ x.t x.o else if x.s = 2 then Ou.txt ⟨#[101, 114, 114, 111, 114, 58, 32]⟩ x.t x.o else if x.s = 3 then Ou.txt ⟨#[111, 117, 116, 32, 111, 102, 32, 116, 105, 99, 107, 115]⟩ x.t x.o else if x.s = 4 then Ou.txt ⟨#[111, 117, 116, 32, 111, 102, 32, 109, 101, 109, 111, 114, 121]⟩ x.t x.o else ⟨#[]⟩
theorem ba_assoc (a b c : ByteArray) : a ++ (b ++ c) = a ++ b ++ c := by
  have h : (a ++ (b ++ c)).data.toList = (a ++ b ++ c).data.toList := by simp [ja_app]
  rw [jaL_of h, ← jaL_of (b := a ++ b ++ c) rfl]
theorem ba_app_size {p t : ByteArray} (h : p.size ≤ 20) (ht : t.size ≤ 2000000) : (p ++ t).size ≤ 3000000 := by rw [ByteArray.size_append]; omega
theorem Ou.fmt_er {x y : Ou} (h : x.er = y.er) : Ou.fmt x = Ou.fmt y := by
  obtain ⟨e1, e2, e3, _, _⟩ := Ou.er_parts h
  rw [Sg.map_er, Sg.map_er] at e3
  unfold Ou.fmt
  rw [e1, e2, e3]
theorem Ou.fmt_other {x : Ou} (h : ¬ (1 ≤ x.s ∧ x.s ≤ 4)) : Ou.fmt x = ⟨#[]⟩ := by
  unfold Ou.fmt
  rw [if_neg (by omega), if_neg (by omega), if_neg (by omega), if_neg (by omega)]

set_option maxRecDepth 100000 in
set_option maxHeartbeats 1000000 in
def Ou.st (s : Int) : ByteArray := if s = 1 then ⟨#[118, 97, 108, 117, 101, 32]⟩ else if s = 2 then ⟨#[101, 114, 114, 111, 114, 58, 32]⟩ else if s = 3 then ⟨#[111, 117, 116, 32, 111, 102, 32, 116, 105, 99, 107, 115]⟩ else if s = 4 then ⟨#[111, 117, 116, 32, 111, 102, 32, 109, 101, 109, 111, 114, 121]⟩ else ⟨#[]⟩
set_option maxRecDepth 100000 in
theorem status1_any (w : World) : Calls Try.prog 50 #[.int .i64 1] w fun e w' => e = .returned (.string ⟨#[118, 97, 108, 117, 101, 32]⟩) ∧ w' = w := by
  go_enter Try.func50, Try.ntmps50
  go_wp2_with fail
  go_ret
  exact ⟨rfl, rfl⟩
set_option maxRecDepth 100000 in
theorem status2_any (w : World) : Calls Try.prog 50 #[.int .i64 2] w fun e w' => e = .returned (.string ⟨#[101, 114, 114, 111, 114, 58, 32]⟩) ∧ w' = w := by
  go_enter Try.func50, Try.ntmps50
  go_wp2_with fail
  go_ret
  exact ⟨rfl, rfl⟩
set_option maxRecDepth 100000 in
theorem status3_any (w : World) : Calls Try.prog 50 #[.int .i64 3] w fun e w' => e = .returned (.string ⟨#[111, 117, 116, 32, 111, 102, 32, 116, 105, 99, 107, 115]⟩) ∧ w' = w := by
  go_enter Try.func50, Try.ntmps50
  go_wp2_with fail
  go_ret
  exact ⟨rfl, rfl⟩
set_option maxRecDepth 100000 in
theorem status4_any (w : World) : Calls Try.prog 50 #[.int .i64 4] w fun e w' => e = .returned (.string ⟨#[111, 117, 116, 32, 111, 102, 32, 109, 101, 109, 111, 114, 121]⟩) ∧ w' = w := by
  go_enter Try.func50, Try.ntmps50
  go_wp2_with fail
  go_ret
  exact ⟨rfl, rfl⟩
set_option maxRecDepth 100000 in
theorem status0_any (s : Int) (w : World) (h : ¬ (1 ≤ s ∧ s ≤ 4)) : Calls Try.prog 50 #[.int .i64 s] w fun e w' => e = .returned (.string ⟨#[]⟩) ∧ w' = w := by
  have n1 : (s == 1) = false := by simp; omega
  have n2 : (s == 2) = false := by simp; omega
  have n3 : (s == 3) = false := by simp; omega
  have n4 : (s == 4) = false := by simp; omega
  clear h
  go_enter Try.func50, Try.ntmps50
  go_wp2_with fail
  go_ret
  exact ⟨rfl, rfl⟩
theorem st1_ne : ((⟨#[118, 97, 108, 117, 101, 32]⟩ : ByteArray).toList == []) = false := by kernel_rfl
theorem st2_ne : ((⟨#[101, 114, 114, 111, 114, 58, 32]⟩ : ByteArray).toList == []) = false := by kernel_rfl
theorem st3_ne : ((⟨#[111, 117, 116, 32, 111, 102, 32, 116, 105, 99, 107, 115]⟩ : ByteArray).toList == []) = false := by kernel_rfl
theorem st4_ne : ((⟨#[111, 117, 116, 32, 111, 102, 32, 109, 101, 109, 111, 114, 121]⟩ : ByteArray).toList == []) = false := by kernel_rfl

set_option maxRecDepth 100000 in
set_option maxHeartbeats 2000000 in
theorem specFo_any (x : Ou) (B : Nat) (w : World) (hx : Ou.E.In w B x) (hB : B ≤ w.heap.size) (hbk : x.bulk ≤ 1500000) :
    Calls Try.prog 25 #[Ou.val x] w fun e w' => e = .returned (.string (Ou.fmt x)) ∧ Below w.heap.size w w' := by
  have hb2 : x.t.size + Row.bulk Sg.bulk x.o ≤ 1500000 := hbk
  have hsj := Sg.join_size x.o
  obtain ⟨W1, hW1⟩ : ∃ W1, W1 = w.alloc (.cells #[.int .i64 x.s, .string x.t, .slice x.oA x.o.length x.oC, .int .i64 x.i, .int .i64 x.m] 43) := ⟨_, rfl⟩
  have b1 : Below w.heap.size w W1 := by rw [hW1]; exact (Below.refl _ _).alloc (Nat.le_refl _) _
  have z1 : w.heap.size < W1.heap.size := by rw [hW1]; simp
  have xa : Ou.Box W1 w.heap.size x := by rw [hW1]; exact Ou.Box.new w x _
  have ho := (Ou.E_in (hx.below (b1.mono hB))).o
  have hlc := ho.cap
  unfold Ou.val
  by_cases hs : 1 ≤ x.s ∧ x.s ≤ 4
  · have hcase : x.s = 1 ∨ x.s = 2 ∨ x.s = 3 ∨ x.s = 4 := by omega
    have HS : Hid (decide (1 ≤ x.s ∧ x.s ≤ 4) = true) := decide_eq_true hs
    clear hs
    by_cases hne : x.o.length = 0
    · have hg : ¬ (0 < (x.o.length : Int)) := by omega
      rcases hcase with hq | hq | hq | hq
      · have HQ : Hid (Ou.fmt x = Ou.txt ⟨#[118, 97, 108, 117, 101, 32]⟩ x.t x.o) := by show _ = _; unfold Ou.fmt; rw [if_pos hq]
        have HT : Hid (Ou.txt ⟨#[118, 97, 108, 117, 101, 32]⟩ x.t x.o = ⟨#[118, 97, 108, 117, 101, 32]⟩ ++ x.t) := if_pos hne
        have HS2 := Lib.hid hq
        rw [hq] at HS
        have XA := Lib.hid xa
        obtain ⟨a0, a1, a2, a3, a4⟩ := xa
        rw [hq] at a0
        have hsz : ((⟨#[118, 97, 108, 117, 101, 32]⟩ : ByteArray) ++ x.t).size ≤ 3000000 := ba_app_size (by decide) (by omega)
        clear hq hne
        go_enter Try.func25, Try.ntmps25
        go_upto_region 1 with fail
        rw [← hW1]
        clear hW1
        go_wp2_with fail
        (with_reducible refine (l1In_any _ _ _ _).mono ?_)
        rintro e w2 ⟨rfl, rfl⟩
        rw [HS.out]
        go_wp2_with fail
        first | go_region | fail
        all_goals go_wp2_with fail
        all_goals go_ret
        all_goals exact ⟨ret_str (by rw [HQ.out, HT.out]), by first | exact b1.drew.alloc (by simp; omega) _ | exact (b1.alloc (by omega) _).drew | exact b1.alloc (by omega) _⟩
      · have HQ : Hid (Ou.fmt x = Ou.txt ⟨#[101, 114, 114, 111, 114, 58, 32]⟩ x.t x.o) := by show _ = _; unfold Ou.fmt; rw [if_neg (by omega), if_pos hq]
        have HT : Hid (Ou.txt ⟨#[101, 114, 114, 111, 114, 58, 32]⟩ x.t x.o = ⟨#[101, 114, 114, 111, 114, 58, 32]⟩ ++ x.t) := if_pos hne
        have HS2 := Lib.hid hq
        rw [hq] at HS
        have XA := Lib.hid xa
        obtain ⟨a0, a1, a2, a3, a4⟩ := xa
        rw [hq] at a0
        have hsz : ((⟨#[101, 114, 114, 111, 114, 58, 32]⟩ : ByteArray) ++ x.t).size ≤ 3000000 := ba_app_size (by decide) (by omega)
        clear hq hne
        go_enter Try.func25, Try.ntmps25
        go_upto_region 1 with fail
        rw [← hW1]
        clear hW1
        go_wp2_with fail
        (with_reducible refine (l1In_any _ _ _ _).mono ?_)
        rintro e w2 ⟨rfl, rfl⟩
        rw [HS.out]
        go_wp2_with fail
        first | go_region | fail
        all_goals go_wp2_with fail
        all_goals go_ret
        all_goals exact ⟨ret_str (by rw [HQ.out, HT.out]), by first | exact b1.drew.alloc (by simp; omega) _ | exact (b1.alloc (by omega) _).drew | exact b1.alloc (by omega) _⟩
      · have HQ : Hid (Ou.fmt x = Ou.txt ⟨#[111, 117, 116, 32, 111, 102, 32, 116, 105, 99, 107, 115]⟩ x.t x.o) := by show _ = _; unfold Ou.fmt; rw [if_neg (by omega), if_neg (by omega), if_pos hq]
        have HT : Hid (Ou.txt ⟨#[111, 117, 116, 32, 111, 102, 32, 116, 105, 99, 107, 115]⟩ x.t x.o = ⟨#[111, 117, 116, 32, 111, 102, 32, 116, 105, 99, 107, 115]⟩ ++ x.t) := if_pos hne
        have HS2 := Lib.hid hq
        rw [hq] at HS
        have XA := Lib.hid xa
        obtain ⟨a0, a1, a2, a3, a4⟩ := xa
        rw [hq] at a0
        have hsz : ((⟨#[111, 117, 116, 32, 111, 102, 32, 116, 105, 99, 107, 115]⟩ : ByteArray) ++ x.t).size ≤ 3000000 := ba_app_size (by decide) (by omega)
        clear hq hne
        go_enter Try.func25, Try.ntmps25
        go_upto_region 1 with fail
        rw [← hW1]
        clear hW1
        go_wp2_with fail
        (with_reducible refine (l1In_any _ _ _ _).mono ?_)
        rintro e w2 ⟨rfl, rfl⟩
        rw [HS.out]
        go_wp2_with fail
        first | go_region | fail
        all_goals go_wp2_with fail
        all_goals go_ret
        all_goals exact ⟨ret_str (by rw [HQ.out, HT.out]), by first | exact b1.drew.alloc (by simp; omega) _ | exact (b1.alloc (by omega) _).drew | exact b1.alloc (by omega) _⟩
      · have HQ : Hid (Ou.fmt x = Ou.txt ⟨#[111, 117, 116, 32, 111, 102, 32, 109, 101, 109, 111, 114, 121]⟩ x.t x.o) := by show _ = _; unfold Ou.fmt; rw [if_neg (by omega), if_neg (by omega), if_neg (by omega), if_pos hq]
        have HT : Hid (Ou.txt ⟨#[111, 117, 116, 32, 111, 102, 32, 109, 101, 109, 111, 114, 121]⟩ x.t x.o = ⟨#[111, 117, 116, 32, 111, 102, 32, 109, 101, 109, 111, 114, 121]⟩ ++ x.t) := if_pos hne
        have HS2 := Lib.hid hq
        rw [hq] at HS
        have XA := Lib.hid xa
        obtain ⟨a0, a1, a2, a3, a4⟩ := xa
        rw [hq] at a0
        have hsz : ((⟨#[111, 117, 116, 32, 111, 102, 32, 109, 101, 109, 111, 114, 121]⟩ : ByteArray) ++ x.t).size ≤ 3000000 := ba_app_size (by decide) (by omega)
        clear hq hne
        go_enter Try.func25, Try.ntmps25
        go_upto_region 1 with fail
        rw [← hW1]
        clear hW1
        go_wp2_with fail
        (with_reducible refine (l1In_any _ _ _ _).mono ?_)
        rintro e w2 ⟨rfl, rfl⟩
        rw [HS.out]
        go_wp2_with fail
        first | go_region | fail
        all_goals go_wp2_with fail
        all_goals go_ret
        all_goals exact ⟨ret_str (by rw [HQ.out, HT.out]), by first | exact b1.drew.alloc (by simp; omega) _ | exact (b1.alloc (by omega) _).drew | exact b1.alloc (by omega) _⟩
    · have hg : 0 < (x.o.length : Int) := by omega
      rcases hcase with hq | hq | hq | hq
      · have HQ : Hid (Ou.fmt x = Ou.txt ⟨#[118, 97, 108, 117, 101, 32]⟩ x.t x.o) := by show _ = _; unfold Ou.fmt; rw [if_pos hq]
        have HT : Hid (Ou.txt ⟨#[118, 97, 108, 117, 101, 32]⟩ x.t x.o = ⟨#[118, 97, 108, 117, 101, 32]⟩ ++ x.t ++ ⟨#[32, 97, 102, 116, 101, 114, 32]⟩ ++ Sg.join x.o) := if_neg hne
        have HS2 := Lib.hid hq
        rw [hq] at HS
        have XA := Lib.hid xa
        obtain ⟨a0, a1, a2, a3, a4⟩ := xa
        rw [hq] at a0
        have hsz : ((⟨#[118, 97, 108, 117, 101, 32]⟩ : ByteArray) ++ x.t).size ≤ 3000000 := ba_app_size (by decide) (by omega)
        clear hq hne
        go_enter Try.func25, Try.ntmps25
        go_upto_region 1 with fail
        rw [← hW1]
        clear hW1
        go_wp2_with fail
        (with_reducible refine (l1In_any _ _ _ _).mono ?_)
        rintro e w2 ⟨rfl, rfl⟩
        rw [HS.out]
        go_wp2_with fail
        first | go_region | fail
        clear a0 a1 a2 a3 a4
        obtain ⟨W2, hW2⟩ : ∃ W2, W2 = (W1.alloc (.cells #[.string ⟨#[118, 97, 108, 117, 101, 32]⟩, .string ⟨#[101, 114, 114, 111, 114, 58, 32]⟩, .string ⟨#[111, 117, 116, 32, 111, 102, 32, 116, 105, 99, 107, 115]⟩, .string ⟨#[111, 117, 116, 32, 111, 102, 32, 109, 101, 109, 111, 114, 121]⟩] 9)).drew := ⟨_, rfl⟩
        rw [← hW2]
        have hb2 : Below W1.heap.size W1 W2 := by rw [hW2]; exact ((Below.refl _ _).alloc (Nat.le_refl _) _).drew
        clear hW2
        have z2 := hb2.size
        have XA2 := XA.out.below hb2 (by omega)
        have XA3 := Lib.hid XA2
        obtain ⟨a0, a1, a2, a3, a4⟩ := XA2
        rw [HS2.out] at a0
        go_wp2_with fail
        clear a0 a1 a2 a3 a4
        (with_reducible refine (specJoin_any x.oA x.oC x.o B W2 (ho.below (hb2.mono (by omega))) (by omega) (by omega)).mono ?_)
        rintro e w3 ⟨rfl, hb3⟩
        obtain ⟨a0, a1, a2, a3, a4⟩ := XA3.out.below hb3 (by omega)
        go_wp2_with fail
        go_ret
        exact ⟨ret_str (by rw [HQ.out, HT.out]), b1.trans ((hb2.trans (hb3.mono (by omega))).mono (by omega))⟩
      · have HQ : Hid (Ou.fmt x = Ou.txt ⟨#[101, 114, 114, 111, 114, 58, 32]⟩ x.t x.o) := by show _ = _; unfold Ou.fmt; rw [if_neg (by omega), if_pos hq]
        have HT : Hid (Ou.txt ⟨#[101, 114, 114, 111, 114, 58, 32]⟩ x.t x.o = ⟨#[101, 114, 114, 111, 114, 58, 32]⟩ ++ x.t ++ ⟨#[32, 97, 102, 116, 101, 114, 32]⟩ ++ Sg.join x.o) := if_neg hne
        have HS2 := Lib.hid hq
        rw [hq] at HS
        have XA := Lib.hid xa
        obtain ⟨a0, a1, a2, a3, a4⟩ := xa
        rw [hq] at a0
        have hsz : ((⟨#[101, 114, 114, 111, 114, 58, 32]⟩ : ByteArray) ++ x.t).size ≤ 3000000 := ba_app_size (by decide) (by omega)
        clear hq hne
        go_enter Try.func25, Try.ntmps25
        go_upto_region 1 with fail
        rw [← hW1]
        clear hW1
        go_wp2_with fail
        (with_reducible refine (l1In_any _ _ _ _).mono ?_)
        rintro e w2 ⟨rfl, rfl⟩
        rw [HS.out]
        go_wp2_with fail
        first | go_region | fail
        clear a0 a1 a2 a3 a4
        obtain ⟨W2, hW2⟩ : ∃ W2, W2 = (W1.alloc (.cells #[.string ⟨#[118, 97, 108, 117, 101, 32]⟩, .string ⟨#[101, 114, 114, 111, 114, 58, 32]⟩, .string ⟨#[111, 117, 116, 32, 111, 102, 32, 116, 105, 99, 107, 115]⟩, .string ⟨#[111, 117, 116, 32, 111, 102, 32, 109, 101, 109, 111, 114, 121]⟩] 9)).drew := ⟨_, rfl⟩
        rw [← hW2]
        have hb2 : Below W1.heap.size W1 W2 := by rw [hW2]; exact ((Below.refl _ _).alloc (Nat.le_refl _) _).drew
        clear hW2
        have z2 := hb2.size
        have XA2 := XA.out.below hb2 (by omega)
        have XA3 := Lib.hid XA2
        obtain ⟨a0, a1, a2, a3, a4⟩ := XA2
        rw [HS2.out] at a0
        go_wp2_with fail
        clear a0 a1 a2 a3 a4
        (with_reducible refine (specJoin_any x.oA x.oC x.o B W2 (ho.below (hb2.mono (by omega))) (by omega) (by omega)).mono ?_)
        rintro e w3 ⟨rfl, hb3⟩
        obtain ⟨a0, a1, a2, a3, a4⟩ := XA3.out.below hb3 (by omega)
        go_wp2_with fail
        go_ret
        exact ⟨ret_str (by rw [HQ.out, HT.out]), b1.trans ((hb2.trans (hb3.mono (by omega))).mono (by omega))⟩
      · have HQ : Hid (Ou.fmt x = Ou.txt ⟨#[111, 117, 116, 32, 111, 102, 32, 116, 105, 99, 107, 115]⟩ x.t x.o) := by show _ = _; unfold Ou.fmt; rw [if_neg (by omega), if_neg (by omega), if_pos hq]
        have HT : Hid (Ou.txt ⟨#[111, 117, 116, 32, 111, 102, 32, 116, 105, 99, 107, 115]⟩ x.t x.o = ⟨#[111, 117, 116, 32, 111, 102, 32, 116, 105, 99, 107, 115]⟩ ++ x.t ++ ⟨#[32, 97, 102, 116, 101, 114, 32]⟩ ++ Sg.join x.o) := if_neg hne
        have HS2 := Lib.hid hq
        rw [hq] at HS
        have XA := Lib.hid xa
        obtain ⟨a0, a1, a2, a3, a4⟩ := xa
        rw [hq] at a0
        have hsz : ((⟨#[111, 117, 116, 32, 111, 102, 32, 116, 105, 99, 107, 115]⟩ : ByteArray) ++ x.t).size ≤ 3000000 := ba_app_size (by decide) (by omega)
        clear hq hne
        go_enter Try.func25, Try.ntmps25
        go_upto_region 1 with fail
        rw [← hW1]
        clear hW1
        go_wp2_with fail
        (with_reducible refine (l1In_any _ _ _ _).mono ?_)
        rintro e w2 ⟨rfl, rfl⟩
        rw [HS.out]
        go_wp2_with fail
        first | go_region | fail
        clear a0 a1 a2 a3 a4
        obtain ⟨W2, hW2⟩ : ∃ W2, W2 = (W1.alloc (.cells #[.string ⟨#[118, 97, 108, 117, 101, 32]⟩, .string ⟨#[101, 114, 114, 111, 114, 58, 32]⟩, .string ⟨#[111, 117, 116, 32, 111, 102, 32, 116, 105, 99, 107, 115]⟩, .string ⟨#[111, 117, 116, 32, 111, 102, 32, 109, 101, 109, 111, 114, 121]⟩] 9)).drew := ⟨_, rfl⟩
        rw [← hW2]
        have hb2 : Below W1.heap.size W1 W2 := by rw [hW2]; exact ((Below.refl _ _).alloc (Nat.le_refl _) _).drew
        clear hW2
        have z2 := hb2.size
        have XA2 := XA.out.below hb2 (by omega)
        have XA3 := Lib.hid XA2
        obtain ⟨a0, a1, a2, a3, a4⟩ := XA2
        rw [HS2.out] at a0
        go_wp2_with fail
        clear a0 a1 a2 a3 a4
        (with_reducible refine (specJoin_any x.oA x.oC x.o B W2 (ho.below (hb2.mono (by omega))) (by omega) (by omega)).mono ?_)
        rintro e w3 ⟨rfl, hb3⟩
        obtain ⟨a0, a1, a2, a3, a4⟩ := XA3.out.below hb3 (by omega)
        go_wp2_with fail
        go_ret
        exact ⟨ret_str (by rw [HQ.out, HT.out]), b1.trans ((hb2.trans (hb3.mono (by omega))).mono (by omega))⟩
      · have HQ : Hid (Ou.fmt x = Ou.txt ⟨#[111, 117, 116, 32, 111, 102, 32, 109, 101, 109, 111, 114, 121]⟩ x.t x.o) := by show _ = _; unfold Ou.fmt; rw [if_neg (by omega), if_neg (by omega), if_neg (by omega), if_pos hq]
        have HT : Hid (Ou.txt ⟨#[111, 117, 116, 32, 111, 102, 32, 109, 101, 109, 111, 114, 121]⟩ x.t x.o = ⟨#[111, 117, 116, 32, 111, 102, 32, 109, 101, 109, 111, 114, 121]⟩ ++ x.t ++ ⟨#[32, 97, 102, 116, 101, 114, 32]⟩ ++ Sg.join x.o) := if_neg hne
        have HS2 := Lib.hid hq
        rw [hq] at HS
        have XA := Lib.hid xa
        obtain ⟨a0, a1, a2, a3, a4⟩ := xa
        rw [hq] at a0
        have hsz : ((⟨#[111, 117, 116, 32, 111, 102, 32, 109, 101, 109, 111, 114, 121]⟩ : ByteArray) ++ x.t).size ≤ 3000000 := ba_app_size (by decide) (by omega)
        clear hq hne
        go_enter Try.func25, Try.ntmps25
        go_upto_region 1 with fail
        rw [← hW1]
        clear hW1
        go_wp2_with fail
        (with_reducible refine (l1In_any _ _ _ _).mono ?_)
        rintro e w2 ⟨rfl, rfl⟩
        rw [HS.out]
        go_wp2_with fail
        first | go_region | fail
        clear a0 a1 a2 a3 a4
        obtain ⟨W2, hW2⟩ : ∃ W2, W2 = (W1.alloc (.cells #[.string ⟨#[118, 97, 108, 117, 101, 32]⟩, .string ⟨#[101, 114, 114, 111, 114, 58, 32]⟩, .string ⟨#[111, 117, 116, 32, 111, 102, 32, 116, 105, 99, 107, 115]⟩, .string ⟨#[111, 117, 116, 32, 111, 102, 32, 109, 101, 109, 111, 114, 121]⟩] 9)).drew := ⟨_, rfl⟩
        rw [← hW2]
        have hb2 : Below W1.heap.size W1 W2 := by rw [hW2]; exact ((Below.refl _ _).alloc (Nat.le_refl _) _).drew
        clear hW2
        have z2 := hb2.size
        have XA2 := XA.out.below hb2 (by omega)
        have XA3 := Lib.hid XA2
        obtain ⟨a0, a1, a2, a3, a4⟩ := XA2
        rw [HS2.out] at a0
        go_wp2_with fail
        clear a0 a1 a2 a3 a4
        (with_reducible refine (specJoin_any x.oA x.oC x.o B W2 (ho.below (hb2.mono (by omega))) (by omega) (by omega)).mono ?_)
        rintro e w3 ⟨rfl, hb3⟩
        obtain ⟨a0, a1, a2, a3, a4⟩ := XA3.out.below hb3 (by omega)
        go_wp2_with fail
        go_ret
        exact ⟨ret_str (by rw [HQ.out, HT.out]), b1.trans ((hb2.trans (hb3.mono (by omega))).mono (by omega))⟩
  · have HQ := Lib.hid (Ou.fmt_other hs)
    have HS : Hid (decide (1 ≤ x.s ∧ x.s ≤ 4) = false) := decide_eq_false hs
    clear hs
    obtain ⟨a0, a1, a2, a3, a4⟩ := xa
    go_enter Try.func25, Try.ntmps25
    go_upto_region 1 with fail
    rw [← hW1]
    clear hW1
    go_wp2_with fail
    (with_reducible refine (l1In_any _ _ _ _).mono ?_)
    rintro e w2 ⟨rfl, rfl⟩
    rw [HS.out]
    go_wp2_with fail
    go_ret
    exact ⟨ret_str HQ.out.symm, b1⟩

set_option maxRecDepth 100000 in
set_option maxHeartbeats 2000000 in
theorem implFo_any (x : Ou) (B : Nat) (w : World) (hx : Ou.E.In w B x) (hB : B ≤ w.heap.size) (hbk : x.bulk ≤ 1500000) :
    Calls Try.prog 26 #[Ou.val x] w fun e w' => e = .returned (.string (Ou.fmt x)) ∧ Below w.heap.size w w' := by
  have hb2 : x.t.size + Row.bulk Sg.bulk x.o ≤ 1500000 := hbk
  have hsj := Sg.join_size x.o
  obtain ⟨W1, hW1⟩ : ∃ W1, W1 = w.alloc (.cells #[.int .i64 x.s, .string x.t, .slice x.oA x.o.length x.oC, .int .i64 x.i, .int .i64 x.m] 43) := ⟨_, rfl⟩
  have b1 : Below w.heap.size w W1 := by rw [hW1]; exact (Below.refl _ _).alloc (Nat.le_refl _) _
  have z1 : w.heap.size < W1.heap.size := by rw [hW1]; simp
  have xa : Ou.Box W1 w.heap.size x := by rw [hW1]; exact Ou.Box.new w x _
  have ho := (Ou.E_in (hx.below (b1.mono hB))).o
  have hlc := ho.cap
  unfold Ou.val
  by_cases hs : 1 ≤ x.s ∧ x.s ≤ 4
  · have hcase : x.s = 1 ∨ x.s = 2 ∨ x.s = 3 ∨ x.s = 4 := by omega
    clear hs
    by_cases hne : x.o.length = 0
    · have hg : ¬ (0 < (x.o.length : Int)) := by omega
      rcases hcase with hq | hq | hq | hq
      · have HQ : Hid (Ou.fmt x = Ou.txt ⟨#[118, 97, 108, 117, 101, 32]⟩ x.t x.o) := by show _ = _; unfold Ou.fmt; rw [if_pos hq]
        have HT : Hid (Ou.txt ⟨#[118, 97, 108, 117, 101, 32]⟩ x.t x.o = ⟨#[118, 97, 108, 117, 101, 32]⟩ ++ x.t) := if_pos hne
        have hne1 := st1_ne
        have XA := Lib.hid xa
        obtain ⟨a0, a1, a2, a3, a4⟩ := xa
        rw [hq] at a0
        have hsz : ((⟨#[118, 97, 108, 117, 101, 32]⟩ : ByteArray) ++ x.t).size ≤ 3000000 := ba_app_size (by decide) (by omega)
        clear hq hne
        go_enter Try.func26, Try.ntmps26
        go_upto_region 1 with fail
        rw [← hW1]
        clear hW1
        go_wp2_with fail
        (with_reducible refine (status1_any _).mono ?_)
        rintro e w2 ⟨rfl, rfl⟩
        go_wp2_with fail
        go_ret
        exact ⟨ret_str (by rw [HQ.out, HT.out]), b1⟩
      · have HQ : Hid (Ou.fmt x = Ou.txt ⟨#[101, 114, 114, 111, 114, 58, 32]⟩ x.t x.o) := by show _ = _; unfold Ou.fmt; rw [if_neg (by omega), if_pos hq]
        have HT : Hid (Ou.txt ⟨#[101, 114, 114, 111, 114, 58, 32]⟩ x.t x.o = ⟨#[101, 114, 114, 111, 114, 58, 32]⟩ ++ x.t) := if_pos hne
        have hne1 := st2_ne
        have XA := Lib.hid xa
        obtain ⟨a0, a1, a2, a3, a4⟩ := xa
        rw [hq] at a0
        have hsz : ((⟨#[101, 114, 114, 111, 114, 58, 32]⟩ : ByteArray) ++ x.t).size ≤ 3000000 := ba_app_size (by decide) (by omega)
        clear hq hne
        go_enter Try.func26, Try.ntmps26
        go_upto_region 1 with fail
        rw [← hW1]
        clear hW1
        go_wp2_with fail
        (with_reducible refine (status2_any _).mono ?_)
        rintro e w2 ⟨rfl, rfl⟩
        go_wp2_with fail
        go_ret
        exact ⟨ret_str (by rw [HQ.out, HT.out]), b1⟩
      · have HQ : Hid (Ou.fmt x = Ou.txt ⟨#[111, 117, 116, 32, 111, 102, 32, 116, 105, 99, 107, 115]⟩ x.t x.o) := by show _ = _; unfold Ou.fmt; rw [if_neg (by omega), if_neg (by omega), if_pos hq]
        have HT : Hid (Ou.txt ⟨#[111, 117, 116, 32, 111, 102, 32, 116, 105, 99, 107, 115]⟩ x.t x.o = ⟨#[111, 117, 116, 32, 111, 102, 32, 116, 105, 99, 107, 115]⟩ ++ x.t) := if_pos hne
        have hne1 := st3_ne
        have XA := Lib.hid xa
        obtain ⟨a0, a1, a2, a3, a4⟩ := xa
        rw [hq] at a0
        have hsz : ((⟨#[111, 117, 116, 32, 111, 102, 32, 116, 105, 99, 107, 115]⟩ : ByteArray) ++ x.t).size ≤ 3000000 := ba_app_size (by decide) (by omega)
        clear hq hne
        go_enter Try.func26, Try.ntmps26
        go_upto_region 1 with fail
        rw [← hW1]
        clear hW1
        go_wp2_with fail
        (with_reducible refine (status3_any _).mono ?_)
        rintro e w2 ⟨rfl, rfl⟩
        go_wp2_with fail
        go_ret
        exact ⟨ret_str (by rw [HQ.out, HT.out]), b1⟩
      · have HQ : Hid (Ou.fmt x = Ou.txt ⟨#[111, 117, 116, 32, 111, 102, 32, 109, 101, 109, 111, 114, 121]⟩ x.t x.o) := by show _ = _; unfold Ou.fmt; rw [if_neg (by omega), if_neg (by omega), if_neg (by omega), if_pos hq]
        have HT : Hid (Ou.txt ⟨#[111, 117, 116, 32, 111, 102, 32, 109, 101, 109, 111, 114, 121]⟩ x.t x.o = ⟨#[111, 117, 116, 32, 111, 102, 32, 109, 101, 109, 111, 114, 121]⟩ ++ x.t) := if_pos hne
        have hne1 := st4_ne
        have XA := Lib.hid xa
        obtain ⟨a0, a1, a2, a3, a4⟩ := xa
        rw [hq] at a0
        have hsz : ((⟨#[111, 117, 116, 32, 111, 102, 32, 109, 101, 109, 111, 114, 121]⟩ : ByteArray) ++ x.t).size ≤ 3000000 := ba_app_size (by decide) (by omega)
        clear hq hne
        go_enter Try.func26, Try.ntmps26
        go_upto_region 1 with fail
        rw [← hW1]
        clear hW1
        go_wp2_with fail
        (with_reducible refine (status4_any _).mono ?_)
        rintro e w2 ⟨rfl, rfl⟩
        go_wp2_with fail
        go_ret
        exact ⟨ret_str (by rw [HQ.out, HT.out]), b1⟩
    · have hg : 0 < (x.o.length : Int) := by omega
      rcases hcase with hq | hq | hq | hq
      · have HQ : Hid (Ou.fmt x = Ou.txt ⟨#[118, 97, 108, 117, 101, 32]⟩ x.t x.o) := by show _ = _; unfold Ou.fmt; rw [if_pos hq]
        have HT : Hid (Ou.txt ⟨#[118, 97, 108, 117, 101, 32]⟩ x.t x.o = ⟨#[118, 97, 108, 117, 101, 32]⟩ ++ x.t ++ ⟨#[32, 97, 102, 116, 101, 114, 32]⟩ ++ Sg.join x.o) := if_neg hne
        have hne1 := st1_ne
        have XA := Lib.hid xa
        obtain ⟨a0, a1, a2, a3, a4⟩ := xa
        rw [hq] at a0
        have hsz : ((⟨#[118, 97, 108, 117, 101, 32]⟩ : ByteArray) ++ x.t).size ≤ 3000000 := ba_app_size (by decide) (by omega)
        have hne2 : x.o ≠ [] := fun h => hne (by rw [h]; rfl)
        have HC := Lib.hid (implJoin_any x.oA x.oC x.o B W1 ho (by omega) (by omega) hne2)
        clear hne2
        clear hq hne
        go_enter Try.func26, Try.ntmps26
        go_upto_region 1 with fail
        rw [← hW1]
        clear hW1
        go_wp2_with fail
        (with_reducible refine (status1_any _).mono ?_)
        rintro e w2 ⟨rfl, rfl⟩
        go_wp2_with fail
        clear a0 a1 a2 a3 a4
        refine HC.out.mono ?_
        rintro e w3 ⟨rfl, hb3⟩
        obtain ⟨a0, a1, a2, a3, a4⟩ := XA.out.below hb3 (by omega)
        have hsz2 : ((⟨#[32, 97, 102, 116, 101, 114, 32]⟩ : ByteArray) ++ Sg.join x.o).size ≤ 3000000 := ba_app_size (by decide) (by omega)
        go_wp2_with fail
        go_ret
        exact ⟨ret_str (by rw [HQ.out, HT.out, ba_assoc]), b1.trans (hb3.mono (by omega))⟩
      · have HQ : Hid (Ou.fmt x = Ou.txt ⟨#[101, 114, 114, 111, 114, 58, 32]⟩ x.t x.o) := by show _ = _; unfold Ou.fmt; rw [if_neg (by omega), if_pos hq]
        have HT : Hid (Ou.txt ⟨#[101, 114, 114, 111, 114, 58, 32]⟩ x.t x.o = ⟨#[101, 114, 114, 111, 114, 58, 32]⟩ ++ x.t ++ ⟨#[32, 97, 102, 116, 101, 114, 32]⟩ ++ Sg.join x.o) := if_neg hne
        have hne1 := st2_ne
        have XA := Lib.hid xa
        obtain ⟨a0, a1, a2, a3, a4⟩ := xa
        rw [hq] at a0
        have hsz : ((⟨#[101, 114, 114, 111, 114, 58, 32]⟩ : ByteArray) ++ x.t).size ≤ 3000000 := ba_app_size (by decide) (by omega)
        have hne2 : x.o ≠ [] := fun h => hne (by rw [h]; rfl)
        have HC := Lib.hid (implJoin_any x.oA x.oC x.o B W1 ho (by omega) (by omega) hne2)
        clear hne2
        clear hq hne
        go_enter Try.func26, Try.ntmps26
        go_upto_region 1 with fail
        rw [← hW1]
        clear hW1
        go_wp2_with fail
        (with_reducible refine (status2_any _).mono ?_)
        rintro e w2 ⟨rfl, rfl⟩
        go_wp2_with fail
        clear a0 a1 a2 a3 a4
        refine HC.out.mono ?_
        rintro e w3 ⟨rfl, hb3⟩
        obtain ⟨a0, a1, a2, a3, a4⟩ := XA.out.below hb3 (by omega)
        have hsz2 : ((⟨#[32, 97, 102, 116, 101, 114, 32]⟩ : ByteArray) ++ Sg.join x.o).size ≤ 3000000 := ba_app_size (by decide) (by omega)
        go_wp2_with fail
        go_ret
        exact ⟨ret_str (by rw [HQ.out, HT.out, ba_assoc]), b1.trans (hb3.mono (by omega))⟩
      · have HQ : Hid (Ou.fmt x = Ou.txt ⟨#[111, 117, 116, 32, 111, 102, 32, 116, 105, 99, 107, 115]⟩ x.t x.o) := by show _ = _; unfold Ou.fmt; rw [if_neg (by omega), if_neg (by omega), if_pos hq]
        have HT : Hid (Ou.txt ⟨#[111, 117, 116, 32, 111, 102, 32, 116, 105, 99, 107, 115]⟩ x.t x.o = ⟨#[111, 117, 116, 32, 111, 102, 32, 116, 105, 99, 107, 115]⟩ ++ x.t ++ ⟨#[32, 97, 102, 116, 101, 114, 32]⟩ ++ Sg.join x.o) := if_neg hne
        have hne1 := st3_ne
        have XA := Lib.hid xa
        obtain ⟨a0, a1, a2, a3, a4⟩ := xa
        rw [hq] at a0
        have hsz : ((⟨#[111, 117, 116, 32, 111, 102, 32, 116, 105, 99, 107, 115]⟩ : ByteArray) ++ x.t).size ≤ 3000000 := ba_app_size (by decide) (by omega)
        have hne2 : x.o ≠ [] := fun h => hne (by rw [h]; rfl)
        have HC := Lib.hid (implJoin_any x.oA x.oC x.o B W1 ho (by omega) (by omega) hne2)
        clear hne2
        clear hq hne
        go_enter Try.func26, Try.ntmps26
        go_upto_region 1 with fail
        rw [← hW1]
        clear hW1
        go_wp2_with fail
        (with_reducible refine (status3_any _).mono ?_)
        rintro e w2 ⟨rfl, rfl⟩
        go_wp2_with fail
        clear a0 a1 a2 a3 a4
        refine HC.out.mono ?_
        rintro e w3 ⟨rfl, hb3⟩
        obtain ⟨a0, a1, a2, a3, a4⟩ := XA.out.below hb3 (by omega)
        have hsz2 : ((⟨#[32, 97, 102, 116, 101, 114, 32]⟩ : ByteArray) ++ Sg.join x.o).size ≤ 3000000 := ba_app_size (by decide) (by omega)
        go_wp2_with fail
        go_ret
        exact ⟨ret_str (by rw [HQ.out, HT.out, ba_assoc]), b1.trans (hb3.mono (by omega))⟩
      · have HQ : Hid (Ou.fmt x = Ou.txt ⟨#[111, 117, 116, 32, 111, 102, 32, 109, 101, 109, 111, 114, 121]⟩ x.t x.o) := by show _ = _; unfold Ou.fmt; rw [if_neg (by omega), if_neg (by omega), if_neg (by omega), if_pos hq]
        have HT : Hid (Ou.txt ⟨#[111, 117, 116, 32, 111, 102, 32, 109, 101, 109, 111, 114, 121]⟩ x.t x.o = ⟨#[111, 117, 116, 32, 111, 102, 32, 109, 101, 109, 111, 114, 121]⟩ ++ x.t ++ ⟨#[32, 97, 102, 116, 101, 114, 32]⟩ ++ Sg.join x.o) := if_neg hne
        have hne1 := st4_ne
        have XA := Lib.hid xa
        obtain ⟨a0, a1, a2, a3, a4⟩ := xa
        rw [hq] at a0
        have hsz : ((⟨#[111, 117, 116, 32, 111, 102, 32, 109, 101, 109, 111, 114, 121]⟩ : ByteArray) ++ x.t).size ≤ 3000000 := ba_app_size (by decide) (by omega)
        have hne2 : x.o ≠ [] := fun h => hne (by rw [h]; rfl)
        have HC := Lib.hid (implJoin_any x.oA x.oC x.o B W1 ho (by omega) (by omega) hne2)
        clear hne2
        clear hq hne
        go_enter Try.func26, Try.ntmps26
        go_upto_region 1 with fail
        rw [← hW1]
        clear hW1
        go_wp2_with fail
        (with_reducible refine (status4_any _).mono ?_)
        rintro e w2 ⟨rfl, rfl⟩
        go_wp2_with fail
        clear a0 a1 a2 a3 a4
        refine HC.out.mono ?_
        rintro e w3 ⟨rfl, hb3⟩
        obtain ⟨a0, a1, a2, a3, a4⟩ := XA.out.below hb3 (by omega)
        have hsz2 : ((⟨#[32, 97, 102, 116, 101, 114, 32]⟩ : ByteArray) ++ Sg.join x.o).size ≤ 3000000 := ba_app_size (by decide) (by omega)
        go_wp2_with fail
        go_ret
        exact ⟨ret_str (by rw [HQ.out, HT.out, ba_assoc]), b1.trans (hb3.mono (by omega))⟩
  · have HQ := Lib.hid (Ou.fmt_other hs)
    have HC := Lib.hid (status0_any x.s W1 hs)
    clear hs
    obtain ⟨a0, a1, a2, a3, a4⟩ := xa
    go_enter Try.func26, Try.ntmps26
    go_upto_region 1 with fail
    rw [← hW1]
    clear hW1
    go_wp2_with fail
    refine HC.out.mono ?_
    rintro e w2 ⟨rfl, rfl⟩
    go_wp2_with fail
    go_ret
    exact ⟨ret_str HQ.out.symm, b1⟩
end Go.Proofs.Ytnldlbglgalbaaa
