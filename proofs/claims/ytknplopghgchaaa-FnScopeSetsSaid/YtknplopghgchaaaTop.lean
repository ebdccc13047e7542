/-
  Sets of scopes: the model's exported functions, and the program's HasScope and IsSubset.
-/
import Derived.Test.YtknplopghgchaaaPutL
import Derived.Test.YtknplopghgchaaaShelf
namespace Go.Proofs.Ytknplopghgchaaa
open Go.RowKit

def withL (n : Int) (l : List Int) : List Int := if isSetI l = true ∧ kindI n ≠ 0 then putL n l else l
def flipL (n : Int) (l : List Int) : List Int := if isSetI l = true ∧ kindI n ≠ 0 then (if l.contains n then cutL n l else putL n l) else l
def dropL (l : List Int) : List Int := if isSetI l = true then nousesL l else l
def subTop (a b : List Int) : Bool := isSetI a && (isSetI b && subL a b)

set_option maxHeartbeats 800000 in
theorem specWith_any (A : Option Addr) (c : Nat) (l : List Int) (n : Int) (B : Nat) (w : World) (hll : l.length ≤ 2000000) (hin : IIn w B A c l) (hB : B ≤ w.heap.size) : Calls Try.prog 56 #[.slice A l.length c, .int .i64 n] w (RetI (withL n l) w) := by
  cases hs : isSetI l
  · have he : withL n l = l := by simp [withL, hs]
    have Hs := Lib.hid hs
    clear hs
    rw [he]
    go_enter Try.func56, Try.ntmps56
    go_wp2_with fail
    refine (specIsSet_any A c l B _ hin hB).mono ?_
    rintro e w1 ⟨rfl, hb1⟩
    have z1 := hb1.size
    rw [Hs.out]
    go_wp2_with fail
    refine (l2Ints_any A c l B _ hll (hin.below (hb1.mono hB)) (by omega)).mono ?_
    rintro e w2 ⟨A', c', rfl, ho, hb⟩
    go_wp2_with fail
    go_ret
    exact ⟨A', c', rfl, ho.wide z1 (Nat.le_refl _), hb1.trans (hb.mono z1)⟩
  · have Hs := Lib.hid hs
    by_cases hk : kindI n = 0
    · have he : withL n l = l := by simp [withL, hk]
      have Hk := Lib.hid hk
      clear hs hk
      rw [he]
      go_enter Try.func56, Try.ntmps56
      go_wp2_with fail
      refine (specIsSet_any A c l B _ hin hB).mono ?_
      rintro e w1 ⟨rfl, hb1⟩
      have z1 := hb1.size
      rw [Hs.out]
      go_wp2_with fail
      refine (specKind_any n _).mono ?_
      rintro e w2 ⟨rfl, hb2⟩
      have z2 := hb2.size
      rw [Hk.out]
      have hbb := hb1.trans (hb2.mono z1)
      go_wp2_with fail
      refine (l2Ints_any A c l B _ hll (hin.below (hbb.mono hB)) (by omega)).mono ?_
      rintro e w3 ⟨A', c', rfl, ho, hb⟩
      go_wp2_with fail
      go_ret
      exact ⟨A', c', rfl, ho.wide (by omega) (Nat.le_refl _), hbb.trans (hb.mono (by omega))⟩
    · have he : withL n l = putL n l := by simp [withL, hs, hk]
      have hk1 : (kindI n == 0) = false := by simpa using hk
      clear hs hk
      rw [he]
      go_enter Try.func56, Try.ntmps56
      go_wp2_with fail
      refine (specIsSet_any A c l B _ hin hB).mono ?_
      rintro e w1 ⟨rfl, hb1⟩
      have z1 := hb1.size
      rw [Hs.out]
      go_wp2_with fail
      refine (specKind_any n _).mono ?_
      rintro e w2 ⟨rfl, hb2⟩
      have z2 := hb2.size
      have hbb := hb1.trans (hb2.mono z1)
      go_wp2_with fail
      refine (l2Put_any A c l n B _ hll (hin.below (hbb.mono hB)) (by omega)).mono ?_
      rintro e w3 ⟨A', c', rfl, ho, hb⟩
      go_wp2_with fail
      go_ret
      exact ⟨A', c', rfl, ho.wide (by omega) (Nat.le_refl _), hbb.trans (hb.mono (by omega))⟩

set_option maxHeartbeats 800000 in
theorem specFlip_any (A : Option Addr) (c : Nat) (l : List Int) (n : Int) (B : Nat) (w : World) (hll : l.length ≤ 2000000) (hin : IIn w B A c l) (hB : B ≤ w.heap.size) : Calls Try.prog 59 #[.slice A l.length c, .int .i64 n] w (RetI (flipL n l) w) := by
  cases hs : isSetI l
  · have he : flipL n l = l := by simp [flipL, hs]
    have Hs := Lib.hid hs
    clear hs
    rw [he]
    go_enter Try.func59, Try.ntmps59
    go_wp2_with fail
    refine (specIsSet_any A c l B _ hin hB).mono ?_
    rintro e w1 ⟨rfl, hb1⟩
    have z1 := hb1.size
    rw [Hs.out]
    go_wp2_with fail
    refine (l2Ints_any A c l B _ hll (hin.below (hb1.mono hB)) (by omega)).mono ?_
    rintro e w2 ⟨A', c', rfl, ho, hb⟩
    go_wp2_with fail
    go_ret
    exact ⟨A', c', rfl, ho.wide z1 (Nat.le_refl _), hb1.trans (hb.mono z1)⟩
  · have Hs := Lib.hid hs
    by_cases hk : kindI n = 0
    · have he : flipL n l = l := by simp [flipL, hk]
      have Hk := Lib.hid hk
      clear hs hk
      rw [he]
      go_enter Try.func59, Try.ntmps59
      go_wp2_with fail
      refine (specIsSet_any A c l B _ hin hB).mono ?_
      rintro e w1 ⟨rfl, hb1⟩
      have z1 := hb1.size
      rw [Hs.out]
      go_wp2_with fail
      refine (specKind_any n _).mono ?_
      rintro e w2 ⟨rfl, hb2⟩
      have z2 := hb2.size
      rw [Hk.out]
      have hbb := hb1.trans (hb2.mono z1)
      go_wp2_with fail
      refine (l2Ints_any A c l B _ hll (hin.below (hbb.mono hB)) (by omega)).mono ?_
      rintro e w3 ⟨A', c', rfl, ho, hb⟩
      go_wp2_with fail
      go_ret
      exact ⟨A', c', rfl, ho.wide (by omega) (Nat.le_refl _), hbb.trans (hb.mono (by omega))⟩
    · have he : flipL n l = if l.contains n then cutL n l else putL n l := by unfold flipL; rw [if_pos ⟨hs, hk⟩]
      have hk1 : (kindI n == 0) = false := by simpa using hk
      clear hs hk
      obtain ⟨r, hr⟩ : ∃ r, r = (if l.contains n then cutL n l else putL n l) := ⟨_, rfl⟩
      rw [he, ← hr]
      have Hr := Lib.hid hr
      clear hr he
      go_enter Try.func59, Try.ntmps59
      go_wp2_with fail
      refine (specIsSet_any A c l B _ hin hB).mono ?_
      rintro e w1 ⟨rfl, hb1⟩
      have z1 := hb1.size
      rw [Hs.out]
      go_wp2_with fail
      refine (specKind_any n _).mono ?_
      rintro e w2 ⟨rfl, hb2⟩
      have z2 := hb2.size
      have hbb := hb1.trans (hb2.mono z1)
      go_wp2_with fail
      refine (l2Flip_any A c l n B _ hll (hin.below (hbb.mono hB)) (by omega)).mono ?_
      intro e w3 hret
      rw [← Hr.out] at hret
      obtain ⟨A', c', rfl, ho, hb⟩ := hret
      go_wp2_with fail
      go_ret
      exact ⟨A', c', rfl, ho.wide (by omega) (Nat.le_refl _), hbb.trans (hb.mono (by omega))⟩

set_option maxHeartbeats 800000 in
theorem specDrop_any (A : Option Addr) (c : Nat) (l : List Int) (B : Nat) (w : World) (hll : l.length ≤ 2000000) (hin : IIn w B A c l) (hB : B ≤ w.heap.size) : Calls Try.prog 60 #[.slice A l.length c] w (RetI (dropL l) w) := by
  cases hs : isSetI l
  · have he : dropL l = l := by simp [dropL, hs]
    have Hs := Lib.hid hs
    clear hs
    rw [he]
    go_enter Try.func60, Try.ntmps60
    go_wp2_with fail
    refine (specIsSet_any A c l B _ hin hB).mono ?_
    rintro e w1 ⟨rfl, hb1⟩
    have z1 := hb1.size
    rw [Hs.out]
    go_wp2_with fail
    refine (l2Ints_any A c l B _ hll (hin.below (hb1.mono hB)) (by omega)).mono ?_
    rintro e w2 ⟨A', c', rfl, ho, hb⟩
    go_wp2_with fail
    go_ret
    exact ⟨A', c', rfl, ho.wide z1 (Nat.le_refl _), hb1.trans (hb.mono z1)⟩
  · have he : dropL l = nousesL l := by simp [dropL, hs]
    have Hs := Lib.hid hs
    clear hs
    rw [he]
    go_enter Try.func60, Try.ntmps60
    go_wp2_with fail
    refine (specIsSet_any A c l B _ hin hB).mono ?_
    rintro e w1 ⟨rfl, hb1⟩
    have z1 := hb1.size
    rw [Hs.out]
    go_wp2_with fail
    refine (l2NoUses_any A c l B _ hll (hin.below (hb1.mono hB)) (by omega)).mono ?_
    rintro e w2 ⟨A', c', rfl, ho, hb⟩
    go_wp2_with fail
    go_ret
    exact ⟨A', c', rfl, ho.wide z1 (Nat.le_refl _), hb1.trans (hb.mono z1)⟩

set_option maxHeartbeats 800000 in
theorem specSub_any (A : Option Addr) (c : Nat) (l : List Int) (A' : Option Addr) (c' : Nat) (l' : List Int) (B : Nat) (w : World) (hin : IIn w B A c l) (hin' : IIn w B A' c' l') (hB : B ≤ w.heap.size) :
    Calls Try.prog 62 #[.slice A l.length c, .slice A' l'.length c'] w fun e w' => e = .returned (.bool (subTop l l')) ∧ Below w.heap.size w w' := by
  have hr : subTop l l' = (isSetI l && (isSetI l' && subL l l')) := rfl
  have Hr := Lib.hid hr
  clear hr
  cases hs : isSetI l <;> cases hs' : isSetI l'
  all_goals
    rw [hs, hs'] at Hr
    have Hs := Lib.hid hs
    have Hs' := Lib.hid hs'
    clear hs hs'
    go_enter Try.func62, Try.ntmps62
    go_wp2_with fail
    refine (specIsSet_any A c l B _ hin hB).mono ?_
    rintro e w1 ⟨rfl, hb1⟩
    have z1 := hb1.size
    rw [Hs.out]
    go_wp2_with fail
  iterate 2
    · go_ret
      exact ⟨ret_bool (by rw [Hr.out]; rfl), hb1⟩
  · refine (specIsSet_any A' c' l' B _ (hin'.below (hb1.mono hB)) (by omega)).mono ?_
    rintro e w2 ⟨rfl, hb2⟩
    rw [Hs'.out]
    go_wp2_with fail
    go_ret
    exact ⟨ret_bool (by rw [Hr.out]; rfl), hb1.trans (hb2.mono z1)⟩
  · refine (specIsSet_any A' c' l' B _ (hin'.below (hb1.mono hB)) (by omega)).mono ?_
    rintro e w2 ⟨rfl, hb2⟩
    rw [Hs'.out]
    have hb := hb1.trans (hb2.mono z1)
    go_wp2_with fail
    refine (l2Subset_any A c l A' c' l' B _ (hin.below (hb.mono hB)) (hin'.below (hb.mono hB))).mono ?_
    rintro e w3 ⟨rfl, hw⟩
    obtain rfl := hw.symm
    go_wp2_with fail
    go_ret
    exact ⟨ret_bool (by rw [Hr.out]; simp), hb⟩

theorem igetD {w : World} {B : Nat} {b o c : Nat} {l : List Int} (h : IIn w B (some ⟨b, o, none⟩) c l) : ∀ j, j < l.length → w.cell? ⟨b, o + j, none⟩ = some (.int .i64 (l.getD j 0)) := by
  intro j hj
  obtain ⟨b', o', e, _, hc⟩ := h.at_ hj
  obtain ⟨rfl, rfl, _⟩ := Addr.mk.inj (Option.some.inj e)
  rw [hc]
  simp [hj]
set_option maxHeartbeats 800000 in
theorem implHas_any (A : Option Addr) (c : Nat) (l : List Int) (n : Int) (B : Nat) (w : World) (hin : IIn w B A c l) :
    Calls Try.prog 39 #[.slice A l.length c, .int .i64 n] w fun e w' => e = .returned (.bool (l.contains n)) ∧ w' = w := by
  have hcap := hin.cap
  by_cases hl : l = []
  · subst hl
    go_enter Try.func39, Try.ntmps39
    go_wp2_with (go_at_call 110; refine (Try.slices_Contains_int_empty A c n w).mono ?_; rintro e' w' ⟨rfl, hw⟩; obtain rfl := hw.symm)
    go_ret
    exact ⟨rfl, rfl⟩
  · obtain ⟨b, o, rfl, hb, _⟩ := hin.mem hl
    go_enter Try.func39, Try.ntmps39
    go_wp2_with (go_at_call 110; refine (Try.slices_Contains_int b o l.length c l n w (Nat.le_refl _) (by omega) (igetD hin)).mono ?_; rintro e' w' ⟨rfl, hw⟩; obtain rfl := hw.symm; rw [List.take_length])
    go_ret
    exact ⟨ret_bool (by simp), rfl⟩
theorem implHasB_any (A : Option Addr) (c : Nat) (l : List Int) (n : Int) (B : Nat) (w : World) (hin : IIn w B A c l) :
    Calls Try.prog 39 #[.slice A l.length c, .int .i64 n] w fun e w' => e = .returned (.bool (l.contains n)) ∧ Below w.heap.size w w' :=
  (implHas_any A c l n B w hin).mono fun e w' ⟨h1, h2⟩ => ⟨h1, by rw [h2]; exact Below.refl _ _⟩
theorem specHasB_any (A : Option Addr) (c : Nat) (l : List Int) (n : Int) (B : Nat) (w : World) (hin : IIn w B A c l) :
    Calls Try.prog 55 #[.slice A l.length c, .int .i64 n] w fun e w' => e = .returned (.bool (l.contains n)) ∧ Below w.heap.size w w' :=
  (specHas_any A c l n B w hin).mono fun e w' ⟨h1, h2⟩ => ⟨h1, by rw [h2]; exact Below.refl _ _⟩
end Go.Proofs.Ytknplopghgchaaa
