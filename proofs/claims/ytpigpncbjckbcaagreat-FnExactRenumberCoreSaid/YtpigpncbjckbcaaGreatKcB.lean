/-
  The shape of a node of a term; the model's test (written by gen/koshape.py).
-/
import Derived.Test.YtpigpncbjckbcaaGreatKcA
import Derived.Test.YtpigpncbjckbcaaGreatEqd
import Derived.Test.YtpigpncbjckbcaaGreatLeaf
import Derived.Test.YtpigpncbjckbcaaGreatWords
import Derived.Test.YtpigpncbjckbcaaGreatNames
import Derived.Test.YtpigpncbjckbcaaGreatKoFree
import Derived.Test.YtpigpncbjckbcaaGreatNear
namespace Go.Proofs.YtpigpncbjckbcaaGreat
open Go.RowKit
def kKind (k n p nk : Int) (dv : Bool) : Bool := if k = 1 then ((nk == 0) && ((p == 0) && dv)) else if k = 2 then (nk == 0) && (p == 0) else if k = 3 then ((nk == 0) && ((p == 0) && decide (0 ≤ n ∧ n ≤ 13))) else if k = 4 then (nk == 1) && (p == 0) else if k = 5 then (nk == 1) && decide (p ≤ 8) else if k = 6 then decide (1 ≤ nk ∧ nk ≤ 9) && (p == 0) else if k = 7 then (nk == 3) && (p == 0) else if k = 8 then decide (2 ≤ nk ∧ nk ≤ 60) && (p == 0) else if k = 9 then decide (1 ≤ nk ∧ nk ≤ 60) && decide (1 ≤ p ∧ p ≤ 60) else if k = 10 then (nk == 1) && (p == 0) else if k = 11 then (nk == 1) && (p == 1) else false
def Ko.dz (a : Ko) : Bool := D.eqB a.d zeroD
def Ko.dv (a : Ko) : Bool := D.isD a.d
def Ko.shape (a : Ko) (nk : Nat) : Bool := (a.k == 1 || a.dz) && ((a.n == 0 || (a.isVar || a.k == 3)) && kKind a.k a.n a.s.length nk a.dv)
theorem zeroD_in (w : World) (B : Nat) : zeroD.In w B := by
  unfold zeroD
  exact ⟨⟨by decide, by decide, by decide⟩, fun h => absurd rfl h, trivial⟩
theorem eqz_any (d : Tr Ko) (B : Nat) (w : World) (hd : d.a.d.In w B) (hB : B ≤ w.heap.size) : Calls Tryz.prog 266 #[.agg #[.int .i64 d.a.d.k, .int .i64 d.a.d.n, .string d.a.d.t, .slice d.a.d.A d.a.d.l.length d.a.d.c], .agg #[.int .i64 0, .int .i64 0, .string ⟨#[]⟩, .slice none 0 0]] w fun e w' => e = .returned (.bool (D.eqB d.a.d zeroD)) ∧ Below w.heap.size w w' :=
  specEqual_any d.a.d.size d.a.d zeroD B w (Nat.le_refl _) hd (zeroD_in _ _) hB
theorem drew_cur {w0 w wn : World} (hcur : Below w0.heap.size w0 w) (hbn : Below w.drew.heap.size w.drew wn) (zl : w0.heap.size < w.heap.size) : Below w0.heap.size w0 wn ∧ ∀ o v, w.cell? ⟨w0.heap.size, o, none⟩ = some v → wn.cell? ⟨w0.heap.size, o, none⟩ = some v := by
  have hb : Below w.heap.size w wn := below_undrew hbn
  exact ⟨hcur.trans (hb.mono (Nat.le_of_lt zl)), fun o v h => (hb.cell (p := ⟨w0.heap.size, o, none⟩) zl).trans h⟩
theorem sprimN_b (w : World) : Calls Tryz.prog 220 #[] w fun e w' => ∃ (A : Option Addr) (c : Nat), e = .returned (.slice A 14 c) ∧ Below w.heap.size w w' :=
  (sprimN_any w).mono fun _ _ ⟨A, c, he, _, hb⟩ => ⟨A, c, he, hb⟩
theorem iprimN_b (w : World) : Calls Tryz.prog 263 #[] w fun e w' => ∃ (A : Option Addr) (c : Nat), e = .returned (.slice A 14 c) ∧ Below w.heap.size w w' :=
  (iprimN_any w).mono fun _ _ ⟨A, c, he, _, hb⟩ => ⟨A, c, he, hb⟩
theorem specNames_u (d : Tr Ko) (w : World) : Calls Tryz.prog 101 #[.agg #[.int .i64 d.a.k, .int .i64 d.a.n, .slice d.a.sA d.a.s.length d.a.sC, .int .i64 d.a.d.k, .int .i64 d.a.d.n, .string d.a.d.t, .slice d.a.d.A d.a.d.l.length d.a.d.c, .slice d.A d.l.length d.c]] w fun e w' => e = .returned (.bool d.a.isVar) ∧ Below w.heap.size w w' := specNames_any d w
theorem specIsD_u (d : Tr Ko) (B : Nat) (w : World) (hd : d.a.d.In w B) (hB : B ≤ w.heap.size) (hs : d.a.d.size ≤ 2000000) : Calls Tryz.prog 267 #[.agg #[.int .i64 d.a.d.k, .int .i64 d.a.d.n, .string d.a.d.t, .slice d.a.d.A d.a.d.l.length d.a.d.c]] w fun e w' => e = .returned (.bool (D.isD d.a.d)) ∧ Below w.heap.size w w' := specIsD_any d.a.d B w hd hB hs
end Go.Proofs.YtpigpncbjckbcaaGreat
