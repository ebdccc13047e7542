/-
  Two lists of ints that are the same.
-/
import Derived.Test.YtndckeodpoommaaInts
namespace Go.Proofs.Ytndckeodpoommaa
open Go.RowKit
theorem eqI_same (A : Option Addr) (c : Nat) (l : List Int) (A' : Option Addr) (c' : Nat) (B : Nat) (w : World) (hin : IIn w B A c l) (hin' : IIn w B A' c' l) (hB : B ≤ w.heap.size) :
    Calls Try.prog 17 #[.slice A l.length c, .slice A' l.length c'] w fun e w' => e = .returned (.bool true) ∧ Below w.heap.size w w' :=
  (eqI_any A c l A' c' l B w hin hin' hB).mono fun e w' ⟨he, hb⟩ => ⟨by rw [he]; simp, hb⟩
theorem heldI_b (A : Option Addr) (c : Nat) (l : List Int) (B : Nat) (w : World) (q : Int) (hll : l.length ≤ 2000000) (hq0 : 0 ≤ q) (hq : q ≤ 100000000) (hin : IIn w B A c (markI l q)) :
    Calls Try.prog 21 #[.slice A l.length c, .int .i64 q] w fun e w' => e = .returned (.int .i64 (q + l.length)) ∧ Below w.heap.size w w' :=
  (heldI_any A c l B w q hll hq0 hq hin).mono fun e w' ⟨he, hb⟩ => ⟨he, by rw [hb]; exact Below.refl _ _⟩
end Go.Proofs.Ytndckeodpoommaa
