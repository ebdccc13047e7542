/-
  FormNames and PrimitiveNames.
-/
import Derived.Test.YtpigpncbjckbcaaGreatStrs
namespace Go.Proofs.YtpigpncbjckbcaaGreat
open Go.RowKit
def primN : List ByteArray := [⟨#[43]⟩, ⟨#[45]⟩, ⟨#[42]⟩, ⟨#[61]⟩, ⟨#[60]⟩, ⟨#[99, 111, 110, 115]⟩, ⟨#[99, 97, 114]⟩, ⟨#[99, 100, 114]⟩, ⟨#[110, 117, 108, 108, 63]⟩, ⟨#[112, 97, 105, 114, 63]⟩, ⟨#[110, 117, 109, 98, 101, 114, 63]⟩, ⟨#[101, 113, 63]⟩, ⟨#[110, 111, 116]⟩, ⟨#[100, 105, 115, 112, 108, 97, 121]⟩]
theorem primN_own (w : World) : TOwn w.heap.size (w.heap.size + 1) (w.alloc (.cells #[.string ⟨#[43]⟩, .string ⟨#[45]⟩, .string ⟨#[42]⟩, .string ⟨#[61]⟩, .string ⟨#[60]⟩, .string ⟨#[99, 111, 110, 115]⟩, .string ⟨#[99, 97, 114]⟩, .string ⟨#[99, 100, 114]⟩, .string ⟨#[110, 117, 108, 108, 63]⟩, .string ⟨#[112, 97, 105, 114, 63]⟩, .string ⟨#[110, 117, 109, 98, 101, 114, 63]⟩, .string ⟨#[101, 113, 63]⟩, .string ⟨#[110, 111, 116]⟩, .string ⟨#[100, 105, 115, 112, 108, 97, 121]⟩] 9)) (some ⟨w.heap.size, 0, none⟩) 14 primN := by
  have hb := D.Blk.new w 9 #[.string ⟨#[43]⟩, .string ⟨#[45]⟩, .string ⟨#[42]⟩, .string ⟨#[61]⟩, .string ⟨#[60]⟩, .string ⟨#[99, 111, 110, 115]⟩, .string ⟨#[99, 97, 114]⟩, .string ⟨#[99, 100, 114]⟩, .string ⟨#[110, 117, 108, 108, 63]⟩, .string ⟨#[112, 97, 105, 114, 63]⟩, .string ⟨#[110, 117, 109, 98, 101, 114, 63]⟩, .string ⟨#[101, 113, 63]⟩, .string ⟨#[110, 111, 116]⟩, .string ⟨#[100, 105, 115, 112, 108, 97, 121]⟩]
  refine TRow.own ⟨_, hb, rfl, ?_⟩ ⟨by decide, by decide⟩ (Nat.le_refl _) (by omega)
  intro i u hu
  have hi : i < 14 := by
    have := (List.getElem?_eq_some_iff.1 hu).1
    exact this
  match i, hi with
  | 0, _ => have e := Option.some.inj hu; subst e; rfl
  | 1, _ => have e := Option.some.inj hu; subst e; rfl
  | 2, _ => have e := Option.some.inj hu; subst e; rfl
  | 3, _ => have e := Option.some.inj hu; subst e; rfl
  | 4, _ => have e := Option.some.inj hu; subst e; rfl
  | 5, _ => have e := Option.some.inj hu; subst e; rfl
  | 6, _ => have e := Option.some.inj hu; subst e; rfl
  | 7, _ => have e := Option.some.inj hu; subst e; rfl
  | 8, _ => have e := Option.some.inj hu; subst e; rfl
  | 9, _ => have e := Option.some.inj hu; subst e; rfl
  | 10, _ => have e := Option.some.inj hu; subst e; rfl
  | 11, _ => have e := Option.some.inj hu; subst e; rfl
  | 12, _ => have e := Option.some.inj hu; subst e; rfl
  | 13, _ => have e := Option.some.inj hu; subst e; rfl
set_option maxHeartbeats 400000 in
theorem iprimN_any (w : World) : Calls Tryz.prog 263 #[] w (RetT primN w) := by
  have hown := primN_own w
  have Hown := Lib.hid hown
  clear hown
  go_enter Tryz.func263, Tryz.ntmps263
  go_wp2_with fail
  go_ret
  exact ⟨some ⟨w.heap.size, 0, none⟩, 14, rfl, by rw [World.size_alloc]; exact Hown.out, (Below.refl _ _).alloc (Nat.le_refl _) _⟩
set_option maxHeartbeats 400000 in
theorem sprimN_any (w : World) : Calls Tryz.prog 220 #[] w (RetT primN w) := by
  have hown := primN_own w
  have Hown := Lib.hid hown
  clear hown
  go_enter Tryz.func220, Tryz.ntmps220
  go_wp2_with fail
  go_ret
  exact ⟨some ⟨w.heap.size, 0, none⟩, 14, rfl, by rw [World.size_alloc]; exact Hown.out, (Below.refl _ _).alloc (Nat.le_refl _) _⟩
end Go.Proofs.YtpigpncbjckbcaaGreat
