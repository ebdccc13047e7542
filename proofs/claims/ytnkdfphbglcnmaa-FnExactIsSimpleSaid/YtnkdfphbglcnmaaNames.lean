/-
  FormNames and PrimitiveNames.
-/
import Derived.Test.YtnkdfphbglcnmaaStrs
namespace Go.Proofs.Ytnkdfphbglcnmaa
open Go.RowKit

def formN : List ByteArray := [⟨#[113, 117, 111, 116, 101]⟩, ⟨#[108, 97, 109, 98, 100, 97]⟩, ⟨#[105, 102]⟩, ⟨#[115, 101, 116, 33]⟩, ⟨#[98, 101, 103, 105, 110]⟩, ⟨#[114, 101, 115, 101, 116]⟩, ⟨#[115, 104, 105, 102, 116]⟩, ⟨#[100, 101, 102, 105, 110, 101]⟩, ⟨#[100, 101, 102, 105, 110, 101, 45, 115, 121, 110, 116, 97, 120]⟩, ⟨#[108, 101, 116, 45, 115, 121, 110, 116, 97, 120]⟩, ⟨#[115, 121, 110, 116, 97, 120, 45, 114, 117, 108, 101, 115]⟩, ⟨#[108, 111, 99, 97, 108]⟩]
theorem formN_own (w : World) : TOwn w.heap.size (w.heap.size + 1) (w.alloc (.cells #[.string ⟨#[113, 117, 111, 116, 101]⟩, .string ⟨#[108, 97, 109, 98, 100, 97]⟩, .string ⟨#[105, 102]⟩, .string ⟨#[115, 101, 116, 33]⟩, .string ⟨#[98, 101, 103, 105, 110]⟩, .string ⟨#[114, 101, 115, 101, 116]⟩, .string ⟨#[115, 104, 105, 102, 116]⟩, .string ⟨#[100, 101, 102, 105, 110, 101]⟩, .string ⟨#[100, 101, 102, 105, 110, 101, 45, 115, 121, 110, 116, 97, 120]⟩, .string ⟨#[108, 101, 116, 45, 115, 121, 110, 116, 97, 120]⟩, .string ⟨#[115, 121, 110, 116, 97, 120, 45, 114, 117, 108, 101, 115]⟩, .string ⟨#[108, 111, 99, 97, 108]⟩] 9)) (some ⟨w.heap.size, 0, none⟩) 12 formN := by
  have hb := D.Blk.new w 9 #[.string ⟨#[113, 117, 111, 116, 101]⟩, .string ⟨#[108, 97, 109, 98, 100, 97]⟩, .string ⟨#[105, 102]⟩, .string ⟨#[115, 101, 116, 33]⟩, .string ⟨#[98, 101, 103, 105, 110]⟩, .string ⟨#[114, 101, 115, 101, 116]⟩, .string ⟨#[115, 104, 105, 102, 116]⟩, .string ⟨#[100, 101, 102, 105, 110, 101]⟩, .string ⟨#[100, 101, 102, 105, 110, 101, 45, 115, 121, 110, 116, 97, 120]⟩, .string ⟨#[108, 101, 116, 45, 115, 121, 110, 116, 97, 120]⟩, .string ⟨#[115, 121, 110, 116, 97, 120, 45, 114, 117, 108, 101, 115]⟩, .string ⟨#[108, 111, 99, 97, 108]⟩]
  refine TRow.own ⟨_, hb, rfl, ?_⟩ ⟨by decide, by decide⟩ (Nat.le_refl _) (by omega)
  intro i u hu
  have hi : i < 12 := by
    have := (List.getElem?_eq_some_iff.1 hu).1
    exact this
  match i, hi with
  | 0, _ => have e := Option.some.inj hu; subst e; rfl
  | 1, _ => have e := Option.some.inj hu; subst e; rfl
  | 2, _ => have e := Option.some.inj hu; subst e; rfl
  | 3, _ => have e := Option.some.inj hu; subst e; rfl
  | 4, _ => have e := Option.some.inj hu; subst e; rfl
  | 5, _ => have e := Option.some.inj hu; subst e; rfl
  | 6, _ => have e := Option.some.inj hu; subst e; rfl
  | 7, _ => have e := Option.some.inj hu; subst e; rfl
  | 8, _ => have e := Option.some.inj hu; subst e; rfl
  | 9, _ => have e := Option.some.inj hu; subst e; rfl
  | 10, _ => have e := Option.some.inj hu; subst e; rfl
  | 11, _ => have e := Option.some.inj hu; subst e; rfl

def primN : List ByteArray := [⟨#[43]⟩, ⟨#[45]⟩, ⟨#[42]⟩, ⟨#[61]⟩, ⟨#[60]⟩, ⟨#[99, 111, 110, 115]⟩, ⟨#[99, 97, 114]⟩, ⟨#[99, 100, 114]⟩, ⟨#[110, 117, 108, 108, 63]⟩, ⟨#[112, 97, 105, 114, 63]⟩, ⟨#[110, 117, 109, 98, 101, 114, 63]⟩, ⟨#[101, 113, 63]⟩, ⟨#[110, 111, 116]⟩, ⟨#[100, 105, 115, 112, 108, 97, 121]⟩]
theorem primN_own (w : World) : TOwn w.heap.size (w.heap.size + 1) (w.alloc (.cells #[.string ⟨#[43]⟩, .string ⟨#[45]⟩, .string ⟨#[42]⟩, .string ⟨#[61]⟩, .string ⟨#[60]⟩, .string ⟨#[99, 111, 110, 115]⟩, .string ⟨#[99, 97, 114]⟩, .string ⟨#[99, 100, 114]⟩, .string ⟨#[110, 117, 108, 108, 63]⟩, .string ⟨#[112, 97, 105, 114, 63]⟩, .string ⟨#[110, 117, 109, 98, 101, 114, 63]⟩, .string ⟨#[101, 113, 63]⟩, .string ⟨#[110, 111, 116]⟩, .string ⟨#[100, 105, 115, 112, 108, 97, 121]⟩] 9)) (some ⟨w.heap.size, 0, none⟩) 14 primN := by
  have hb := D.Blk.new w 9 #[.string ⟨#[43]⟩, .string ⟨#[45]⟩, .string ⟨#[42]⟩, .string ⟨#[61]⟩, .string ⟨#[60]⟩, .string ⟨#[99, 111, 110, 115]⟩, .string ⟨#[99, 97, 114]⟩, .string ⟨#[99, 100, 114]⟩, .string ⟨#[110, 117, 108, 108, 63]⟩, .string ⟨#[112, 97, 105, 114, 63]⟩, .string ⟨#[110, 117, 109, 98, 101, 114, 63]⟩, .string ⟨#[101, 113, 63]⟩, .string ⟨#[110, 111, 116]⟩, .string ⟨#[100, 105, 115, 112, 108, 97, 121]⟩]
  refine TRow.own ⟨_, hb, rfl, ?_⟩ ⟨by decide, by decide⟩ (Nat.le_refl _) (by omega)
  intro i u hu
  have hi : i < 14 := by
    have := (List.getElem?_eq_some_iff.1 hu).1
    exact this
  match i, hi with
  | 0, _ => have e := Option.some.inj hu; subst e; rfl
  | 1, _ => have e := Option.some.inj hu; subst e; rfl
  | 2, _ => have e := Option.some.inj hu; subst e; rfl
  | 3, _ => have e := Option.some.inj hu; subst e; rfl
  | 4, _ => have e := Option.some.inj hu; subst e; rfl
  | 5, _ => have e := Option.some.inj hu; subst e; rfl
  | 6, _ => have e := Option.some.inj hu; subst e; rfl
  | 7, _ => have e := Option.some.inj hu; subst e; rfl
  | 8, _ => have e := Option.some.inj hu; subst e; rfl
  | 9, _ => have e := Option.some.inj hu; subst e; rfl
  | 10, _ => have e := Option.some.inj hu; subst e; rfl
  | 11, _ => have e := Option.some.inj hu; subst e; rfl
  | 12, _ => have e := Option.some.inj hu; subst e; rfl
  | 13, _ => have e := Option.some.inj hu; subst e; rfl

set_option maxHeartbeats 400000 in
theorem iprimN_any (w : World) : Calls Try.prog 105 #[] w (RetT primN w) := by
  have hown := primN_own w
  have Hown := Lib.hid hown
  clear hown
  go_enter Try.func105, Try.ntmps105
  go_wp2_with fail
  go_ret
  exact ⟨some ⟨w.heap.size, 0, none⟩, 14, rfl, by rw [World.size_alloc]; exact Hown.out, (Below.refl _ _).alloc (Nat.le_refl _) _⟩

set_option maxHeartbeats 400000 in
theorem sprimN_any (w : World) : Calls Try.prog 87 #[] w (RetT primN w) := by
  have hown := primN_own w
  have Hown := Lib.hid hown
  clear hown
  go_enter Try.func87, Try.ntmps87
  go_wp2_with fail
  go_ret
  exact ⟨some ⟨w.heap.size, 0, none⟩, 14, rfl, by rw [World.size_alloc]; exact Hown.out, (Below.refl _ _).alloc (Nat.le_refl _) _⟩

end Go.Proofs.Ytnkdfphbglcnmaa
