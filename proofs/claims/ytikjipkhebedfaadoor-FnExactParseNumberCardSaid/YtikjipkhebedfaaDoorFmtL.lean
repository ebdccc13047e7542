/-
  FormatNumber of the program; the law on it, walked; what the listed variables give.
-/
import Derived.Test.YtikjipkhebedfaaDoorFmtN
import Derived.Test.YtikjipkhebedfaaDoorShelf
import Derived.Lib.AppendIntMem
import Derived.Lib.LaidTab
import Derived.Lib.SmallJoins
import Derived.LaidMore
import Derived.MakeChecks
namespace Go.Proofs.YtikjipkhebedfaaDoor
open Go.RowKit

theorem gPow : Tryd.prog.globalNamed "internal/strconv.uint64pow10" = some 2 := by kernel_rfl
/-- The table that the library formats by, as it is laid. -/
def Tab (w : World) : Prop := Lib.TabIs Tryd.prog w "internal/strconv.uint64pow10" .u64 Lib.pow10Tab
theorem Tab.below {w w' : World} {B : Nat} (h : Tab w) (hb : Below B w w') (hB : w.heap.size ≤ B) : Tab w' := Joins.tab_stays gPow h hb hB

theorem implFmtN_any (n : Int) (h0 : -9223372036854775808 ≤ n) (h1 : n ≤ 9223372036854775807) (w : World) (ht : Tab w) :
    Calls Tryd.prog 12 #[.int .i64 n] w fun e w' => e = .returned (.string ⟨(Lib.itoa n).toArray⟩) ∧ Below w.heap.size w w' := by
  have hc := Tryd.strconv_Itoa n h0 h1 w ht
  clear h0 h1
  go_enter Tryd.func12, Tryd.ntmps12
  go_wp2_with fail
  refine hc.mono ?_
  rintro e w' ⟨rfl, k, os, rfl⟩
  have hb := Lib.below_grow w.heap.size w (Nat.le_refl _) k os
  clear hc
  generalize Sort.grow (w.drewN k) os = w1 at *
  go_wp2_with fail
  go_ret
  exact ⟨rfl, hb⟩

theorem law_fmtn (n : Int) (h0 : -9223372036854775808 ≤ n) (h1 : n ≤ 9223372036854775807) (w : World) (ht : Tab w) :
    Calls Tryd.prog 4 #[.int .i64 n] w fun e w' => e = .returned (.bool true) ∧ Below w.heap.size w w' := by
  have hs := specFmtN_any n h0 h1 w
  have hi : ∀ w1, Below w.heap.size w w1 → _ := fun w1 hb => implFmtN_any n h0 h1 w1 (ht.below hb (Nat.le_refl _))
  generalize (⟨(Lib.itoa n).toArray⟩ : ByteArray) = S at hs hi
  have e1 : (S.toList != S.toList) = false := by simp
  have e2 : (S.toList == S.toList) = true := by simp
  have HI := Lib.hid hi
  clear hi h0 h1 ht
  go_enter Tryd.func4, Tryd.ntmps4
  go_wp2_with fail
  refine hs.mono ?_
  rintro e w1 ⟨rfl, hb1⟩
  have hi := HI.out w1 hb1
  clear hs
  go_wp2_with fail
  refine hi.mono ?_
  rintro e w2 ⟨rfl, hb2⟩
  have hb := hb1.trans (hb2.mono hb1.size)
  clear hi
  go_wp2_with fail
  go_ret
  exact ⟨rfl, hb⟩
end Go.Proofs.YtikjipkhebedfaaDoor
