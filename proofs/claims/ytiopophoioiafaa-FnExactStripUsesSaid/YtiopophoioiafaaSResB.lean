/-
  The bounds of what AddScope, FlipScope, StripUses answer.
-/
import Derived.Test.YtiopophoioiafaaSynL
import Derived.Test.YtiopophoioiafaaScTops
import Derived.Test.YtiopophoioiafaaSResC
import Derived.Deep.RegionHeld3
namespace Go.Proofs.Ytiopophoioiafaa
open Go.RowKit

namespace S
theorem mapS_size (f : List Int → List Int) (d : S) : size (mapS f d) = size d := by
  induction d using ind with
  | h d ih =>
    cases d with
    | mk k n t sa sc s A c l =>
      have key : ∀ (a : List S), (∀ x ∈ a, x ∈ l) → sizeL (mapSL f a) = sizeL a := by
        intro a
        induction a with
        | nil => intro _; rfl
        | cons x r ih2 => intro hs; simp only [sizeL, mapSL, ih x (hs x (by simp)), ih2 fun y hy => hs y (by simp [hy])]
      simp only [mapS, size, key l (fun _ h => h)]
theorem mapSL_length (f : List Int → List Int) (l : List S) : (mapSL f l).length = l.length := by
  induction l with
  | nil => rfl
  | cons x r ih => simp only [mapSL, List.length_cons, ih]
theorem mapS_bulk (f : List Int → List Int) (hf : ∀ s, (f s).length ≤ s.length + 1) (d : S) : bulk (mapS f d) ≤ bulk d + size d := by
  induction d using ind with
  | h d ih =>
    cases d with
    | mk k n t sa sc s A c l =>
      have key : ∀ (a : List S), (∀ x ∈ a, x ∈ l) → bulkL (mapSL f a) ≤ bulkL a + sizeL a := by
        intro a
        induction a with
        | nil => intro _; simp [mapSL, bulkL]
        | cons x r ih2 =>
          intro hs
          have h1 := ih x (hs x (by simp))
          have h2 := ih2 fun y hy => hs y (by simp [hy])
          simp only [mapSL, bulkL, sizeL]
          omega
      have h := key l (fun _ h => h)
      have h3 := hf s
      simp only [mapS, bulk, size]
      split <;> omega
theorem res_bounds {f : List Int → List Int} (hf : ∀ s, (f s).length ≤ s.length + 1) {g a : S} (h : g.er = resS f a) (hb : a.bulk ≤ 1048576) : g.size ≤ 2000000 ∧ g.bulk ≤ 2000000 ∧ wtL g.l ≤ 90000000 := by
  have hs := bulk_size a
  have e : resS f a = if isS a then mapS f a else er a := rfl
  have h1 : g.size = a.size := by
    rw [← size_er, h, e]
    split
    · exact mapS_size f a
    · exact size_er a
  have h2 : g.bulk ≤ a.bulk + 2000 := by
    rw [← bulk_er, h, e]
    split
    · rename_i hi
      have h4 := mapS_bulk f hf a
      unfold isS at hi
      simp only [Bool.and_eq_true, decide_eq_true_eq] at hi
      omega
    · rw [bulk_er]; omega
  have h3 := wt_le g
  have h4 := wt_eq g
  omega
end S
theorem putL_len (n : Int) (l : List Int) : (putL n l).length ≤ l.length + 1 := by
  induction l with
  | nil => simp [putL]
  | cons x r ih =>
    unfold putL
    split
    · split <;> simp
    · simp only [List.length_cons]; omega
theorem withL_len (n : Int) (l : List Int) : (withL n l).length ≤ l.length + 1 := by
  unfold withL; split
  · exact putL_len n l
  · omega
theorem flipL_len (n : Int) (l : List Int) : (flipL n l).length ≤ l.length + 1 := by
  have := putL_len n l
  unfold flipL; split
  · split
    · have h : (cutL n l).length ≤ l.length := List.length_filter_le _ _
      omega
    · exact this
  · omega
theorem dropL_len (l : List Int) : (dropL l).length ≤ l.length + 1 := by
  unfold dropL; split
  · have h : (nousesL l).length ≤ l.length := List.length_filter_le _ _
    omega
  · omega
end Go.Proofs.Ytiopophoioiafaa
