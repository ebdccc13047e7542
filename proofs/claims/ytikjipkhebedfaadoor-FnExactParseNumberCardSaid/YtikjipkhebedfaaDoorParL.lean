/-
  ParseNumber of the program; the law on it, walked.
-/
import Derived.Test.YtikjipkhebedfaaDoorParN
import Derived.Test.YtikjipkhebedfaaDoorFmtL
import Derived.Lib.AtoiAllCases
namespace Go.Proofs.YtikjipkhebedfaaDoor
open Go.RowKit

theorem gSyn : Tryd.prog.globalNamed "strconv.ErrSyntax" = some 0 := by kernel_rfl
theorem gRng : Tryd.prog.globalNamed "strconv.ErrRange" = some 1 := by kernel_rfl
/-- The tables and the two errors of the library's, as they are laid. -/
structure Tabs (w : World) : Prop where
  tab : Tab w
  syn : ∃ tp p, w.var? Tryd.prog "strconv.ErrSyntax" = some #[.iface tp p]
  rng : ∃ tp p, w.var? Tryd.prog "strconv.ErrRange" = some #[.iface tp p]
theorem Tabs.below {w w' : World} {B : Nat} (h : Tabs w) (hb : Below B w w') (hB : w.heap.size ≤ B) : Tabs w' := by
  obtain ⟨h1, ⟨tp, p, h2⟩, ⟨tp', p', h3⟩⟩ := h
  exact ⟨h1.below hb hB, ⟨tp, p, Joins.var_stays gSyn h2 hb hB⟩, ⟨tp', p', Joins.var_stays gRng h3 hb hB⟩⟩

theorem isNum_any (v : Int) (w : World) (X : Bool) (hX : decide (-999999999 ≤ v ∧ v ≤ 999999999) = X) : Calls Tryd.prog 47 #[.int .i64 v] w fun e w' => e = .returned (.bool X) ∧ w' = w := by
  by_cases h1 : -999999999 ≤ v
  · by_cases h2 : v ≤ 999999999
    · have HE : Hid (X = true) := by rw [← hX]; exact decide_eq_true ⟨h1, h2⟩
      clear hX
      go_enter Tryd.func47, Tryd.ntmps47
      go_wp2_with fail
      go_ret
      refine ⟨?_, rfl⟩
      rw [HE.out]; rfl
    · have HE : Hid (X = false) := by rw [← hX]; exact decide_eq_false (by omega)
      clear hX
      go_enter Tryd.func47, Tryd.ntmps47
      go_wp2_with fail
      go_ret
      refine ⟨?_, rfl⟩
      rw [HE.out]; rfl
  · have HE : Hid (X = false) := by rw [← hX]; exact decide_eq_false (by omega)
    clear hX
    go_enter Tryd.func47, Tryd.ntmps47
    go_wp2_with fail
    go_ret
    refine ⟨?_, rfl⟩
    rw [HE.out]; rfl
theorem ok_read {l : List UInt8} {v : Int} (h : Lib.atoiAll l = .ok v) : readB l = decide ((-999999999 ≤ v ∧ v ≤ 999999999) ∧ Lib.itoa v = l) ∧ (readB l = true → numOf l = v) := by
  have hn : readB l = true → numOf l = v := fun hr => by
    have := atoi_read hr
    rw [h] at this
    injection this with this
    exact this.symm
  refine ⟨?_, hn⟩
  rw [Bool.eq_iff_iff, decide_eq_true_eq]
  constructor
  · intro hr
    have hb := read_bound hr
    rw [hn hr] at hb
    exact ⟨⟨hb.1, hb.2.1⟩, hb.2.2⟩
  · rintro ⟨⟨h1, h2⟩, h3⟩
    have := (read_itoa h1 h2).1
    rwa [h3] at this
theorem bad_read {l : List UInt8} (h : ∀ v, Lib.atoiAll l ≠ .ok v) : readB l = false := by
  cases hr : readB l
  · rfl
  · exact absurd (atoi_read hr) (h _)

set_option maxRecDepth 100000 in
set_option maxHeartbeats 2000000 in
theorem implPar_any (s : ByteArray) (hs : s.size ≤ 1048576) (w : World) (ht : Tabs w) : Calls Tryd.prog 13 #[.string s] w fun e w' => ReadsAs s e ∧ Below w.heap.size w w' := by
  obtain ⟨htab, ⟨tp, p, hsyn⟩, ⟨tp', p', hrng⟩⟩ := ht
  cases ha : Lib.atoiAll s.data.toList with
  | «syntax» =>
    have HNO : Hid (ReadsAs s (.returned (.tuple #[.int .i64 0, .bool false]))) := reads_no (bad_read fun v hv => by rw [ha] at hv; cases hv)
    have hc := Tryd.strconv_Atoi_syntax_var s (by omega) ha tp p w hsyn
    clear ha hsyn hrng htab
    go_enter Tryd.func13, Tryd.ntmps13
    go_wp2_with fail
    refine hc.mono ?_
    rintro e w1 ⟨N, rfl, _, _, hb⟩
    clear hc
    go_wp2_with fail
    go_ret2
    exact ⟨HNO.out, hb⟩
  | range =>
    have HNO : Hid (ReadsAs s (.returned (.tuple #[.int .i64 0, .bool false]))) := reads_no (bad_read fun v hv => by rw [ha] at hv; cases hv)
    have hc := Tryd.strconv_Atoi_range_var s (by omega) ha tp' p' w hrng
    clear ha hsyn hrng htab
    go_enter Tryd.func13, Tryd.ntmps13
    go_wp2_with fail
    refine hc.mono ?_
    rintro e w1 ⟨N, rfl, _, _, hb⟩
    clear hc
    go_wp2_with fail
    go_ret2
    exact ⟨HNO.out, hb⟩
  | ok v =>
    obtain ⟨hr1, hr2⟩ := ok_read ha
    obtain ⟨v0, v1⟩ := Lib.atoiAll_bounds ha
    have hc := (Tryd.strconv_Atoi_ok s (by omega) v ha w).mono (fun e w' (h : _ ∧ _) => (⟨h.1, by rcases h.2 with rfl | ⟨t, rfl⟩; exact Below.refl _ _; exact Lib.bytesWorld_below _ _ _⟩ : e = .returned (.tuple #[.int .i64 v, .nilIface]) ∧ Below w.heap.size w w'))
    have HR1 := Lib.hid hr1
    have HR2 := Lib.hid hr2
    have HF : Hid (∀ w1, Below w.heap.size w w1 → Calls Tryd.prog 12 #[.int .i64 v] w1 fun e w' => e = .returned (.string ⟨(Lib.itoa v).toArray⟩) ∧ Below w1.heap.size w1 w') := fun w1 hb => implFmtN_any v v0 v1 w1 (htab.below hb (Nat.le_refl _))
    clear ha hsyn hrng htab hr1 hr2 v0 v1
    by_cases hv : -999999999 ≤ v ∧ v ≤ 999999999
    · have HV : Hid (decide (-999999999 ≤ v ∧ v ≤ 999999999) = true) := decide_eq_true hv
      have hHV := Lib.hid hv
      clear hv
      obtain ⟨S, hS⟩ : ∃ S : ByteArray, S = ⟨(Lib.itoa v).toArray⟩ := ⟨_, rfl⟩
      have HS := Lib.hid hS
      clear hS
      by_cases hq : S = s
      · have hne : (S.toList != s.toList) = false := by rw [hq]; simp
        have hne2 : (S.toList == s.toList) = true := by rw [hq]; simp
        have hrd : readB s.data.toList = true := by
          rw [HR1.out, decide_eq_true_eq]
          exact ⟨hHV.out, by rw [← hq, HS.out]⟩
        have HY : Hid (ReadsAs s (.returned (.tuple #[.int .i64 v, .bool true]))) := reads_yes hrd (HR2.out hrd)
        clear hq hrd
        go_enter Tryd.func13, Tryd.ntmps13
        go_wp2_with fail
        refine hc.mono ?_
        rintro e w1 ⟨rfl, hb⟩
        clear hc
        go_wp2_with fail
        refine (isNum_any v _ _ HV.out).mono ?_
        rintro e w0 ⟨rfl, hw0⟩
        obtain rfl := hw0.symm
        have hf := HF.out w1 hb
        rw [← HS.out] at hf
        go_wp2_with fail
        refine hf.mono ?_
        rintro e w2 ⟨rfl, hb2⟩
        have hb3 := hb.trans (hb2.mono hb.size)
        clear hf
        go_wp2_with fail
        go_ret2
        exact ⟨HY.out, hb3⟩
      · have hne : (S.toList != s.toList) = true := by rw [bne, toLn_beq]; simpa using hq
        have hne2 : (S.toList == s.toList) = false := by rw [toLn_beq]; simpa using hq
        have hrd : readB s.data.toList = false := by
          rw [HR1.out, decide_eq_false_iff_not]
          rintro ⟨_, h⟩
          exact hq (by rw [HS.out, h])
        have HY : Hid (ReadsAs s (.returned (.tuple #[.int .i64 0, .bool false]))) := reads_no hrd
        clear hq hrd
        go_enter Tryd.func13, Tryd.ntmps13
        go_wp2_with fail
        refine hc.mono ?_
        rintro e w1 ⟨rfl, hb⟩
        clear hc
        go_wp2_with fail
        refine (isNum_any v _ _ HV.out).mono ?_
        rintro e w0 ⟨rfl, hw0⟩
        obtain rfl := hw0.symm
        have hf := HF.out w1 hb
        rw [← HS.out] at hf
        go_wp2_with fail
        refine hf.mono ?_
        rintro e w2 ⟨rfl, hb2⟩
        have hb3 := hb.trans (hb2.mono hb.size)
        clear hf
        go_wp2_with fail
        go_ret2
        exact ⟨HY.out, hb3⟩
    · have HV : Hid (decide (-999999999 ≤ v ∧ v ≤ 999999999) = false) := decide_eq_false hv
      have hrd : readB s.data.toList = false := by
        rw [HR1.out, decide_eq_false_iff_not]
        exact fun h => hv h.1
      have HY : Hid (ReadsAs s (.returned (.tuple #[.int .i64 0, .bool false]))) := reads_no hrd
      clear hv hrd
      go_enter Tryd.func13, Tryd.ntmps13
      go_wp2_with fail
      refine hc.mono ?_
      rintro e w1 ⟨rfl, hb⟩
      clear hc
      go_wp2_with fail
      refine (isNum_any v _ _ HV.out).mono ?_
      rintro e w0 ⟨rfl, hw0⟩
      obtain rfl := hw0.symm
      go_wp2_with fail
      go_ret2
      exact ⟨HY.out, hb⟩

set_option maxRecDepth 100000 in
set_option maxHeartbeats 2000000 in
theorem law_parn (s : ByteArray) (w : World) (hw : s.size ≤ 9223372036854775807) (ht : Tabs w) : Calls Tryd.prog 5 #[.string s] w fun e w' => e = .returned (.bool true) ∧ Below w.heap.size w w' := by
  by_cases hs : (s.size : Int) ≤ 1048576
  · have h1 := specPar_any s (by omega) w
    have HI : Hid (∀ w1, Below w.heap.size w w1 → Calls Tryd.prog 13 #[.string s] w1 fun e w' => ReadsAs s e ∧ Below w1.heap.size w1 w') := fun w1 hb => implPar_any s (by omega) w1 (ht.below hb (Nat.le_refl _))
    unfold ReadsAs at h1 HI
    generalize readN s.data.toList = n at h1 HI
    generalize readB s.data.toList = b at h1 HI
    have hn : ¬ (1048576 < (s.size : Int)) := by omega
    have e1 : (n != n) = false := by simp
    have e2 : (b != b) = false := by simp
    clear ht
    go_enter Tryd.func5, Tryd.ntmps5
    go_wp2_with fail
    refine h1.mono ?_
    rintro e w1 ⟨rfl, hb1⟩
    have h2 := HI.out w1 hb1
    clear h1
    go_wp2_with fail
    refine h2.mono ?_
    rintro e w2 ⟨rfl, hb2⟩
    have hb := hb1.trans (hb2.mono hb1.size)
    clear h2
    go_wp2_with fail
    go_ret
    exact ⟨rfl, hb⟩
  · have hn : (1048576 : Int) < (s.size : Int) := by omega
    go_enter Tryd.func5, Tryd.ntmps5
    go_wp2_with fail
    go_ret
    exact ⟨rfl, Below.refl _ _⟩
end Go.Proofs.YtikjipkhebedfaaDoor
