/-
  Data without items: the program's and the model's.
-/
import Derived.Test.YtkmimpfpmkpdoaaIsD
namespace Go.Proofs.Ytkmimpfpmkpdoaa
open Go.RowKit

def zeroD : D := .mk 0 0 ⟨#[]⟩ none 0 []
/-- The datum without items, if it is valid. -/
def leafD (k n : Int) (t : ByteArray) : D := if nodeOk k n t 0 then .mk k n t none 0 [] else zeroD
theorem leafD_size (k n : Int) (t : ByteArray) : (leafD k n t).size ≤ 2000000 := by
  unfold leafD
  split <;> simp [D.size, D.sizeL, zeroD]
theorem isD_leaf (k n : Int) (t : ByteArray) : (D.mk k n t none 0 []).isD = nodeOk k n t 0 := by
  simp [D.isD, D.size, D.sizeL, D.depth, D.depthL, D.valid, D.validL]
theorem leaf_yes {k n : Int} {t : ByteArray} (h : nodeOk k n t 0 = true) : leafD k n t = .mk k n t none 0 [] := by unfold leafD; rw [if_pos h]
theorem leaf_no {k n : Int} {t : ByteArray} (h : nodeOk k n t 0 = false) : leafD k n t = zeroD := by unfold leafD; rw [h]; rfl

set_option maxHeartbeats 1000000 in
theorem ifValid_any (k n : Int) (t : ByteArray) (w : World) (ht : t.size ≤ 9223372036854775807) : Calls Try.prog 69 #[.agg #[.int .i64 k, .int .i64 n, .string t, .slice none 0 0]] w (RetD (leafD k n t) w) := by
  have hin : ∀ W, (D.mk k n t none 0 []).In W W.heap.size := fun W => (D.Own.no_items (lo := 0) (Nat.zero_le _) ht).inn
  have hi := isD_leaf k n t
  cases hk : nodeOk k n t 0
  · have Hk := Lib.hid hk
    have HL := Lib.hid (leaf_no hk)
    rw [hk] at hi
    have Hi := Lib.hid hi
    clear hk hi
    go_enter Try.func69, Try.ntmps69
    go_wp2_with fail
    refine (implIsD_any (.mk k n t none 0 []) _ _ (hin _) (Nat.le_refl _)).mono ?_
    rintro e w1 ⟨rfl, hb1⟩
    rw [Hi.out]
    have hz := hb1.size
    simp only [World.size_alloc] at hz hb1
    obtain ⟨hc, hf⟩ := bcell (W := (w.alloc (.cells #[.int .i64 k, .int .i64 n, .string t, .slice none 0 0] 25)).alloc (.cells #[.int .i64 0, .int .i64 0, .string ⟨#[]⟩, .slice none 0 0] 25)) (by simpa using hb1)
    simp only [World.size_alloc] at hc hf
    have b1 : Below w.heap.size w w1 := (((Below.refl _ _).alloc (Nat.le_refl _) _).alloc (by simp) _).trans (hb1.mono (by omega))
    clear hb1
    go_wp2_with fail
    refine bodyPost_ret (v := zeroD.val) (by simp [results, Try.results69, go_sem, hc, hz, zeroD, D.val, D.k, D.n, D.t, D.A, D.l, D.c]) rfl ⟨zeroD, rfl, ?_, D.Own.no_items (Nat.zero_le _) (Nat.zero_le _), ?_⟩
    · rw [HL.out]; rfl
    · exact (((b1.setCell (by simp) _).setCell (by simp) _).setCell (by simp) _).setCell (by simp) _
  · have Hk := Lib.hid hk
    have HL := Lib.hid (leaf_yes hk)
    rw [hk] at hi
    have Hi := Lib.hid hi
    clear hk hi
    go_enter Try.func69, Try.ntmps69
    go_wp2_with fail
    refine (implIsD_any (.mk k n t none 0 []) _ _ (hin _) (Nat.le_refl _)).mono ?_
    rintro e w1 ⟨rfl, hb1⟩
    rw [Hi.out]
    have hz := hb1.size
    simp only [World.size_alloc] at hz hb1
    obtain ⟨hc, hf⟩ := bcell (W := (w.alloc (.cells #[.int .i64 k, .int .i64 n, .string t, .slice none 0 0] 25)).alloc (.cells #[.int .i64 0, .int .i64 0, .string ⟨#[]⟩, .slice none 0 0] 25)) (by simpa using hb1)
    simp only [World.size_alloc] at hc hf
    have b1 : Below w.heap.size w w1 := (((Below.refl _ _).alloc (Nat.le_refl _) _).alloc (by simp) _).trans (hb1.mono (by omega))
    clear hb1
    go_wp2_with fail
    refine bodyPost_ret (v := .agg #[.int .i64 k, .int .i64 n, .string t, .slice none 0 0]) (by simp [results, Try.results69, go_sem, hc, hz]) rfl ⟨.mk k n t none 0 [], rfl, ?_, D.Own.no_items (Nat.zero_le _) ht, ?_⟩
    · rw [HL.out]; rfl
    · exact (((b1.setCell (by simp) _).setCell (by simp) _).setCell (by simp) _).setCell (by simp) _
end Go.Proofs.Ytkmimpfpmkpdoaa
