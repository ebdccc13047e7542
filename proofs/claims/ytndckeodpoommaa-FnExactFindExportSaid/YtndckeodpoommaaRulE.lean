/-
  EqualRules: the program and the model walked (written by gen/rul.py).
-/
import Derived.Test.YtndckeodpoommaaRul
import Derived.Deep.RegionHeld3
namespace Go.Proofs.Ytndckeodpoommaa
open Go.RowKit

namespace Ru
theorem eqL_er {l m l' m' : List S} (h : S.erL l = S.erL l') (k : S.erL m = S.erL m') : S.eqL l m = S.eqL l' m' := by
  have a : S.er (S.itm none 0 l) = S.er (S.itm none 0 l') := by simp only [S.itm, S.er, h]
  have b : S.er (S.itm none 0 m) = S.er (S.itm none 0 m') := by simp only [S.itm, S.er, k]
  have e : S.eqB (S.itm none 0 l) (S.itm none 0 m) = S.eqB (S.itm none 0 l') (S.itm none 0 m') := by rw [S.eqB_er, a, b, ← S.eqB_er]
  simpa [S.itm, S.eqB] using e
theorem eqB_er {x y x0 y0 : Ru} (hx : x.er = x0.er) (hy : y.er = y0.er) : eqB x y = eqB x0 y0 := by
  have a := Prod.mk.inj hx
  have a2 := Prod.mk.inj a.2
  have b := Prod.mk.inj hy
  have b2 := Prod.mk.inj b.2
  unfold eqB
  rw [eqL_er a.1 b.1, eqL_er a2.1 b2.1, eqL_er a2.2 b2.2]
end Ru

end Go.Proofs.Ytndckeodpoommaa
