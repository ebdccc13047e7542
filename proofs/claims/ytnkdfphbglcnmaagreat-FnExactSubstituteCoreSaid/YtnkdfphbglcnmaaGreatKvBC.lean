/-
  Terms that are the same up to the names of their binders: with indices into the binders on the way, and with the binders numbered anew. Nothing of the program.
-/
import Derived.Test.YtnkdfphbglcnmaaGreatKoFree
import Derived.Test.YtnkdfphbglcnmaaGreatKvVal
import Derived.Test.YtnkdfphbglcnmaaGreatInts
namespace Go.Proofs.YtnkdfphbglcnmaaGreat
open Go.RowKit
def Ko.ren (f : Int → Int) (a : Ko) : Ko := ⟨a.k, if a.isVar then f a.n else a.n, none, 0, a.s.map f, a.d⟩
namespace Tr
mutual
def ren (f : Int → Int) : Tr Ko → Tr Ko | .mk a _ _ l => .mk (a.ren f) none 0 (renL f l)
def renL (f : Int → Int) : List (Tr Ko) → List (Tr Ko) | [] => [] | d :: r => ren f d :: renL f r
end
mutual
def binders : Tr Ko → List Int | .mk a _ _ l => a.s ++ bindersL l
def bindersL : List (Tr Ko) → List Int | [] => [] | d :: r => binders d ++ bindersL r
end
mutual
def known (f : Int → Int) : Tr Ko → List Int → Prop
  | .mk a _ _ l, xs => (a.isVar = true → a.n ∈ xs ∨ (f a.n = a.n ∧ a.n < 100000)) ∧ knownL f l (xs ++ a.s)
def knownL (f : Int → Int) : List (Tr Ko) → List Int → Prop | [], _ => True | d :: r, xs => known f d xs ∧ knownL f r xs
end
end Tr
namespace Tr
end Tr
end Go.Proofs.YtnkdfphbglcnmaaGreat
namespace Go.Proofs.YtnkdfphbglcnmaaGreat
open Go.RowKit
namespace Tr
mutual
theorem walk_binders : ∀ (d : Tr Ko) (s : List Int), walk Ko.bound d s = s ++ binders d
  | .mk a _ _ l => fun s => by simp only [walk, binders, Ko.bound, walkL_binders l, List.append_assoc]
theorem walkL_binders : ∀ (l : List (Tr Ko)) (s : List Int), walkL Ko.bound l s = s ++ bindersL l
  | [] => fun s => by simp only [walkL, bindersL, List.append_nil]
  | d :: r => fun s => by simp only [walkL, bindersL, walk_binders d, walkL_binders r, List.append_assoc]
end
end Tr
end Go.Proofs.YtnkdfphbglcnmaaGreat
namespace Go.Proofs.YtnkdfphbglcnmaaGreat
open Go.RowKit
end Go.Proofs.YtnkdfphbglcnmaaGreat
