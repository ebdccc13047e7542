/-
  FormNames and PrimitiveNames.
-/
import Derived.Test.YtiopophoioiafaaStrs
namespace Go.Proofs.Ytiopophoioiafaa
open Go.RowKit

def formN : List ByteArray := [⟨#[113, 117, 111, 116, 101]⟩, ⟨#[108, 97, 109, 98, 100, 97]⟩, ⟨#[105, 102]⟩, ⟨#[115, 101, 116, 33]⟩, ⟨#[98, 101, 103, 105, 110]⟩, ⟨#[114, 101, 115, 101, 116]⟩, ⟨#[115, 104, 105, 102, 116]⟩, ⟨#[100, 101, 102, 105, 110, 101]⟩, ⟨#[100, 101, 102, 105, 110, 101, 45, 115, 121, 110, 116, 97, 120]⟩, ⟨#[108, 101, 116, 45, 115, 121, 110, 116, 97, 120]⟩, ⟨#[115, 121, 110, 116, 97, 120, 45, 114, 117, 108, 101, 115]⟩, ⟨#[108, 111, 99, 97, 108]⟩]
theorem formN_own (w : World) : TOwn w.heap.size (w.heap.size + 1) (w.alloc (.cells #[.string ⟨#[113, 117, 111, 116, 101]⟩, .string ⟨#[108, 97, 109, 98, 100, 97]⟩, .string ⟨#[105, 102]⟩, .string ⟨#[115, 101, 116, 33]⟩, .string ⟨#[98, 101, 103, 105, 110]⟩, .string ⟨#[114, 101, 115, 101, 116]⟩, .string ⟨#[115, 104, 105, 102, 116]⟩, .string ⟨#[100, 101, 102, 105, 110, 101]⟩, .string ⟨#[100, 101, 102, 105, 110, 101, 45, 115, 121, 110, 116, 97, 120]⟩, .string ⟨#[108, 101, 116, 45, 115, 121, 110, 116, 97, 120]⟩, .string ⟨#[115, 121, 110, 116, 97, 120, 45, 114, 117, 108, 101, 115]⟩, .string ⟨#[108, 111, 99, 97, 108]⟩] 9)) (some ⟨w.heap.size, 0, none⟩) 12 formN := by
  have hb := D.Blk.new w 9 #[.string ⟨#[113, 117, 111, 116, 101]⟩, .string ⟨#[108, 97, 109, 98, 100, 97]⟩, .string ⟨#[105, 102]⟩, .string ⟨#[115, 101, 116, 33]⟩, .string ⟨#[98, 101, 103, 105, 110]⟩, .string ⟨#[114, 101, 115, 101, 116]⟩, .string ⟨#[115, 104, 105, 102, 116]⟩, .string ⟨#[100, 101, 102, 105, 110, 101]⟩, .string ⟨#[100, 101, 102, 105, 110, 101, 45, 115, 121, 110, 116, 97, 120]⟩, .string ⟨#[108, 101, 116, 45, 115, 121, 110, 116, 97, 120]⟩, .string ⟨#[115, 121, 110, 116, 97, 120, 45, 114, 117, 108, 101, 115]⟩, .string ⟨#[108, 111, 99, 97, 108]⟩]
  refine TRow.own ⟨_, hb, rfl, ?_⟩ ⟨by decide, by decide⟩ (Nat.le_refl _) (by omega)
  intro i u hu
  have hi : i < 12 := by
    have := (List.getElem?_eq_some_iff.1 hu).1
    exact this
  match i, hi with
  | 0, _ => have e := Option.some.inj hu; subst e; rfl
  | 1, _ => have e := Option.some.inj hu; subst e; rfl
  | 2, _ => have e := Option.some.inj hu; subst e; rfl
  | 3, _ => have e := Option.some.inj hu; subst e; rfl
  | 4, _ => have e := Option.some.inj hu; subst e; rfl
  | 5, _ => have e := Option.some.inj hu; subst e; rfl
  | 6, _ => have e := Option.some.inj hu; subst e; rfl
  | 7, _ => have e := Option.some.inj hu; subst e; rfl
  | 8, _ => have e := Option.some.inj hu; subst e; rfl
  | 9, _ => have e := Option.some.inj hu; subst e; rfl
  | 10, _ => have e := Option.some.inj hu; subst e; rfl
  | 11, _ => have e := Option.some.inj hu; subst e; rfl

set_option maxHeartbeats 400000 in
theorem iformN_any (w : World) : Calls Try.prog 55 #[] w (RetT formN w) := by
  have hown := formN_own w
  have Hown := Lib.hid hown
  clear hown
  go_enter Try.func55, Try.ntmps55
  go_wp2_with fail
  go_ret
  exact ⟨some ⟨w.heap.size, 0, none⟩, 12, rfl, by rw [World.size_alloc]; exact Hown.out, (Below.refl _ _).alloc (Nat.le_refl _) _⟩

set_option maxHeartbeats 400000 in
theorem sformN_any (w : World) : Calls Try.prog 54 #[] w (RetT formN w) := by
  have hown := formN_own w
  have Hown := Lib.hid hown
  clear hown
  go_enter Try.func54, Try.ntmps54
  go_wp2_with fail
  go_ret
  exact ⟨some ⟨w.heap.size, 0, none⟩, 12, rfl, by rw [World.size_alloc]; exact Hown.out, (Below.refl _ _).alloc (Nat.le_refl _) _⟩

def primN : List ByteArray := [⟨#[43]⟩, ⟨#[45]⟩, ⟨#[42]⟩, ⟨#[61]⟩, ⟨#[60]⟩, ⟨#[99, 111, 110, 115]⟩, ⟨#[99, 97, 114]⟩, ⟨#[99, 100, 114]⟩, ⟨#[110, 117, 108, 108, 63]⟩, ⟨#[112, 97, 105, 114, 63]⟩, ⟨#[110, 117, 109, 98, 101, 114, 63]⟩, ⟨#[101, 113, 63]⟩, ⟨#[110, 111, 116]⟩, ⟨#[100, 105, 115, 112, 108, 97, 121]⟩]
theorem primN_own (w : World) : TOwn w.heap.size (w.heap.size + 1) (w.alloc (.cells #[.string ⟨#[43]⟩, .string ⟨#[45]⟩, .string ⟨#[42]⟩, .string ⟨#[61]⟩, .string ⟨#[60]⟩, .string ⟨#[99, 111, 110, 115]⟩, .string ⟨#[99, 97, 114]⟩, .string ⟨#[99, 100, 114]⟩, .string ⟨#[110, 117, 108, 108, 63]⟩, .string ⟨#[112, 97, 105, 114, 63]⟩, .string ⟨#[110, 117, 109, 98, 101, 114, 63]⟩, .string ⟨#[101, 113, 63]⟩, .string ⟨#[110, 111, 116]⟩, .string ⟨#[100, 105, 115, 112, 108, 97, 121]⟩] 9)) (some ⟨w.heap.size, 0, none⟩) 14 primN := by
  have hb := D.Blk.new w 9 #[.string ⟨#[43]⟩, .string ⟨#[45]⟩, .string ⟨#[42]⟩, .string ⟨#[61]⟩, .string ⟨#[60]⟩, .string ⟨#[99, 111, 110, 115]⟩, .string ⟨#[99, 97, 114]⟩, .string ⟨#[99, 100, 114]⟩, .string ⟨#[110, 117, 108, 108, 63]⟩, .string ⟨#[112, 97, 105, 114, 63]⟩, .string ⟨#[110, 117, 109, 98, 101, 114, 63]⟩, .string ⟨#[101, 113, 63]⟩, .string ⟨#[110, 111, 116]⟩, .string ⟨#[100, 105, 115, 112, 108, 97, 121]⟩]
  refine TRow.own ⟨_, hb, rfl, ?_⟩ ⟨by decide, by decide⟩ (Nat.le_refl _) (by omega)
  intro i u hu
  have hi : i < 14 := by
    have := (List.getElem?_eq_some_iff.1 hu).1
    exact this
  match i, hi with
  | 0, _ => have e := Option.some.inj hu; subst e; rfl
  | 1, _ => have e := Option.some.inj hu; subst e; rfl
  | 2, _ => have e := Option.some.inj hu; subst e; rfl
  | 3, _ => have e := Option.some.inj hu; subst e; rfl
  | 4, _ => have e := Option.some.inj hu; subst e; rfl
  | 5, _ => have e := Option.some.inj hu; subst e; rfl
  | 6, _ => have e := Option.some.inj hu; subst e; rfl
  | 7, _ => have e := Option.some.inj hu; subst e; rfl
  | 8, _ => have e := Option.some.inj hu; subst e; rfl
  | 9, _ => have e := Option.some.inj hu; subst e; rfl
  | 10, _ => have e := Option.some.inj hu; subst e; rfl
  | 11, _ => have e := Option.some.inj hu; subst e; rfl
  | 12, _ => have e := Option.some.inj hu; subst e; rfl
  | 13, _ => have e := Option.some.inj hu; subst e; rfl

set_option maxHeartbeats 400000 in
theorem iprimN_any (w : World) : Calls Try.prog 57 #[] w (RetT primN w) := by
  have hown := primN_own w
  have Hown := Lib.hid hown
  clear hown
  go_enter Try.func57, Try.ntmps57
  go_wp2_with fail
  go_ret
  exact ⟨some ⟨w.heap.size, 0, none⟩, 14, rfl, by rw [World.size_alloc]; exact Hown.out, (Below.refl _ _).alloc (Nat.le_refl _) _⟩

set_option maxHeartbeats 400000 in
theorem sprimN_any (w : World) : Calls Try.prog 56 #[] w (RetT primN w) := by
  have hown := primN_own w
  have Hown := Lib.hid hown
  clear hown
  go_enter Try.func56, Try.ntmps56
  go_wp2_with fail
  go_ret
  exact ⟨some ⟨w.heap.size, 0, none⟩, 14, rfl, by rw [World.size_alloc]; exact Hown.out, (Below.refl _ _).alloc (Nat.le_refl _) _⟩

set_option maxHeartbeats 1000000 in
theorem law_formN (w : World) : Calls Try.prog 10 #[] w fun e w' => e = .returned (.bool true) ∧ Below w.heap.size w w' := by
  have hn : formN.length ≤ 2000000 := by decide
  have HL : Hid (formN.length ≤ 30) := by show _ ≤ _; decide
  go_enter Try.func10, Try.ntmps10
  go_wp2_with fail
  refine (sformN_any _).mono ?_
  rintro e w1 ⟨A1, c1, rfl, o1, hb1⟩
  have z1 := hb1.size
  go_wp2_with fail
  refine (iformN_any _).mono ?_
  rintro e w2 ⟨A2, c2, rfl, o2, hb2⟩
  have z2 := hb2.size
  have b2 := hb1.trans (hb2.mono (by omega))
  have i1 := o1.inn.below hb2
  clear hb1 hb2 o1
  go_wp2_with fail
  refine (eqT_any A2 c2 formN A1 c1 w2.heap.size _ o2.inn (i1.more (by omega)) (Nat.le_refl _)).mono ?_
  rintro e w3 ⟨rfl, hb3⟩
  have z3 := hb3.size
  have b3 := b2.trans (hb3.mono (by omega))
  have o2 := o2.below hb3
  have i1 := i1.below (hb3.mono (by omega))
  clear hb3 b2
  go_wp2_with fail
  refine (markT_any A2 c2 formN w1.heap.size w2.heap.size _ 1 hn (by omega) (by omega) o2 (by omega)).mono ?_
  rintro e w4 ⟨rfl, m2, hc4⟩
  have z4 := hc4.size
  have b4 : Below w.heap.size w w4 := b3.trans (hc4.below (fun k hk => by have := o2.lo_ k hk; omega) (by omega))
  have i1 : TIn w4 w1.heap.size A1 c1 formN := i1.keep fun k hk => hc4.block k (by have := i1.blk_lt k hk; omega) (fun hm => by have := i1.blk_lt k hk; have := o2.lo_ k hm; omega)
  clear hc4 b3 o2
  have n1 : ¬ (1 + (formN.length : Int) < 0) := by omega
  go_wp2_with fail
  refine (heldT_any A2 c2 formN w2.heap.size _ 1 hn (by omega) (by omega) m2.inn (by omega)).mono ?_
  rintro e w5 ⟨rfl, hb5⟩
  have z5 := hb5.size
  have b5 := b4.trans (hb5.mono (by omega))
  have m2 := m2.below (hb5.mono (by omega))
  have i1 := i1.below (hb5.mono (by omega))
  clear hb5 b4
  go_wp2_with fail
  refine (iformN_any _).mono ?_
  rintro e w6 ⟨A6, c6, rfl, o6, hb6⟩
  have z6 := hb6.size
  have b6 := b5.trans (hb6.mono (by omega))
  have m2 := m2.below (hb6.mono (by omega))
  have i1 := i1.below (hb6.mono (by omega))
  clear hb6 b5
  go_wp2_with fail
  refine (eqT_any A6 c6 formN A1 c1 w6.heap.size _ o6.inn (i1.more (by omega)) (Nat.le_refl _)).mono ?_
  rintro e w7 ⟨rfl, hb7⟩
  have z7 := hb7.size
  have b7 := b6.trans (hb7.mono (by omega))
  have m2 := m2.below (hb7.mono (by omega))
  clear hb7 b6
  go_wp2_with fail
  refine (heldT_any A2 c2 formN w2.heap.size _ 1 hn (by omega) (by omega) m2.inn (by omega)).mono ?_
  rintro e w8 ⟨rfl, hb8⟩
  have b8 := b7.trans (hb8.mono (by omega))
  clear hb8 b7
  go_wp2_with fail
  go_ret
  exact ⟨rfl, b8⟩

set_option maxHeartbeats 1000000 in
theorem law_primN (w : World) : Calls Try.prog 11 #[] w fun e w' => e = .returned (.bool true) ∧ Below w.heap.size w w' := by
  have hn : primN.length ≤ 2000000 := by decide
  have HL : Hid (primN.length ≤ 30) := by show _ ≤ _; decide
  go_enter Try.func11, Try.ntmps11
  go_wp2_with fail
  refine (sprimN_any _).mono ?_
  rintro e w1 ⟨A1, c1, rfl, o1, hb1⟩
  have z1 := hb1.size
  go_wp2_with fail
  refine (iprimN_any _).mono ?_
  rintro e w2 ⟨A2, c2, rfl, o2, hb2⟩
  have z2 := hb2.size
  have b2 := hb1.trans (hb2.mono (by omega))
  have i1 := o1.inn.below hb2
  clear hb1 hb2 o1
  go_wp2_with fail
  refine (eqT_any A2 c2 primN A1 c1 w2.heap.size _ o2.inn (i1.more (by omega)) (Nat.le_refl _)).mono ?_
  rintro e w3 ⟨rfl, hb3⟩
  have z3 := hb3.size
  have b3 := b2.trans (hb3.mono (by omega))
  have o2 := o2.below hb3
  have i1 := i1.below (hb3.mono (by omega))
  clear hb3 b2
  go_wp2_with fail
  refine (markT_any A2 c2 primN w1.heap.size w2.heap.size _ 1 hn (by omega) (by omega) o2 (by omega)).mono ?_
  rintro e w4 ⟨rfl, m2, hc4⟩
  have z4 := hc4.size
  have b4 : Below w.heap.size w w4 := b3.trans (hc4.below (fun k hk => by have := o2.lo_ k hk; omega) (by omega))
  have i1 : TIn w4 w1.heap.size A1 c1 primN := i1.keep fun k hk => hc4.block k (by have := i1.blk_lt k hk; omega) (fun hm => by have := i1.blk_lt k hk; have := o2.lo_ k hm; omega)
  clear hc4 b3 o2
  have n1 : ¬ (1 + (primN.length : Int) < 0) := by omega
  go_wp2_with fail
  refine (heldT_any A2 c2 primN w2.heap.size _ 1 hn (by omega) (by omega) m2.inn (by omega)).mono ?_
  rintro e w5 ⟨rfl, hb5⟩
  have z5 := hb5.size
  have b5 := b4.trans (hb5.mono (by omega))
  have m2 := m2.below (hb5.mono (by omega))
  have i1 := i1.below (hb5.mono (by omega))
  clear hb5 b4
  go_wp2_with fail
  refine (iprimN_any _).mono ?_
  rintro e w6 ⟨A6, c6, rfl, o6, hb6⟩
  have z6 := hb6.size
  have b6 := b5.trans (hb6.mono (by omega))
  have m2 := m2.below (hb6.mono (by omega))
  have i1 := i1.below (hb6.mono (by omega))
  clear hb6 b5
  go_wp2_with fail
  refine (eqT_any A6 c6 primN A1 c1 w6.heap.size _ o6.inn (i1.more (by omega)) (Nat.le_refl _)).mono ?_
  rintro e w7 ⟨rfl, hb7⟩
  have z7 := hb7.size
  have b7 := b6.trans (hb7.mono (by omega))
  have m2 := m2.below (hb7.mono (by omega))
  clear hb7 b6
  go_wp2_with fail
  refine (heldT_any A2 c2 primN w2.heap.size _ 1 hn (by omega) (by omega) m2.inn (by omega)).mono ?_
  rintro e w8 ⟨rfl, hb8⟩
  have b8 := b7.trans (hb8.mono (by omega))
  clear hb8 b7
  go_wp2_with fail
  go_ret
  exact ⟨rfl, b8⟩
end Go.Proofs.Ytiopophoioiafaa
