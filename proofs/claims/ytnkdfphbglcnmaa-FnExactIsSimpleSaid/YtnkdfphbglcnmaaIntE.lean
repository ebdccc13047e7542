/-
  Two lists of ints that are the same.
-/
import Derived.Test.YtnkdfphbglcnmaaInts
namespace Go.Proofs.Ytnkdfphbglcnmaa
open Go.RowKit
theorem eqI_same (A : Option Addr) (c : Nat) (l : List Int) (A' : Option Addr) (c' : Nat) (B : Nat) (w : World) (hin : IIn w B A c l) (hin' : IIn w B A' c' l) (hB : B ≤ w.heap.size) :
    Calls Try.prog 11 #[.slice A l.length c, .slice A' l.length c'] w fun e w' => e = .returned (.bool true) ∧ Below w.heap.size w w' :=
  (eqI_any A c l A' c' l B w hin hin' hB).mono fun e w' ⟨he, hb⟩ => ⟨by rw [he]; simp, hb⟩
end Go.Proofs.Ytnkdfphbglcnmaa
