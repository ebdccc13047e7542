/-
  The program's replacing of a variable in a core term (written by gen/korep.py).
-/
import Derived.Test.YtpigpncbjckbcaaGreatKsu
import Derived.Test.YtpigpncbjckbcaaGreatKvMap
import Derived.Test.YtpigpncbjckbcaaGreatKoCopy
namespace Go.Proofs.YtpigpncbjckbcaaGreat
open Go.RowKit
structure Rp (M : Nat) (n : Int) (y : Tr Ko) (B : Nat) (w : World) : Prop where
  m : IMapO w M 1 (fun u => if u = n then some (Ko.val y) else none)
  i : Ko.E.In w B y
  le : B ≤ w.heap.size
theorem Rp.below {M : Nat} {n : Int} {y : Tr Ko} {B b : Nat} {w w' : World} (h : Rp M n y B w) (hb : Below b w w') (hB : w.heap.size ≤ b) : Rp M n y B w' :=
  ⟨h.m.keep (hb.block _ (Nat.lt_of_lt_of_le h.m.lt hB)), Elem.In.below h.i (hb.mono (Nat.le_trans h.le hB)), Nat.le_trans h.le hb.size⟩
end Go.Proofs.YtpigpncbjckbcaaGreat
