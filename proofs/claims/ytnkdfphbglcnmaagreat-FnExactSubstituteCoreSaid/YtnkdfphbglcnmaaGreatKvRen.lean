/-
  The program's renaming of a term by its numbering (written by gen/koren.py).
-/
import Derived.Test.YtnkdfphbglcnmaaGreatKvMap
import Derived.Test.YtnkdfphbglcnmaaGreatKvBC
import Derived.Test.YtnkdfphbglcnmaaGreatKcOwns
import Derived.Test.YtnkdfphbglcnmaaGreatGCp
import Derived.Test.YtnkdfphbglcnmaaGreatKoCopy
import Derived.Test.YtnkdfphbglcnmaaGreatKoBnds
namespace Go.Proofs.YtnkdfphbglcnmaaGreat
open Go.RowKit
structure Rn (gm M n : Nat) (f : Int → Option Int) (w : World) : Prop where
  lt : gm < w.heap.size
  c : w.cell? ⟨gm, 0, none⟩ = some (.map (some M))
  m : IMapO w M n (fun u => (f u).map (Value.int .i64))
theorem Rn.below {gm M n : Nat} {f : Int → Option Int} {w w' : World} {B : Nat} (h : Rn gm M n f w) (hb : Below B w w') (hB : w.heap.size ≤ B) : Rn gm M n f w' :=
  ⟨Nat.lt_of_lt_of_le h.lt hb.size, (hb.cell (p := ⟨gm, 0, none⟩) (Nat.lt_of_lt_of_le h.lt hB)).trans h.c, h.m.keep (hb.block _ (Nat.lt_of_lt_of_le h.m.lt hB))⟩
theorem Rn.far {gm M n : Nat} {f : Int → Option Int} {w w0 w' : World} {B : Nat} (h0 : Rn gm M n f w0) (hb : Below B w0 w') (hB : w0.heap.size ≤ B) : Rn gm M n f w' := h0.below hb hB
theorem Tr.renL_append (f : Int → Int) : ∀ (a b : List (Tr Ko)), Tr.renL f (a ++ b) = Tr.renL f a ++ Tr.renL f b
  | [], b => rfl
  | d :: r, b => by simp only [List.cons_append, Tr.renL, Tr.renL_append f r b]
end Go.Proofs.YtnkdfphbglcnmaaGreat
namespace Go.Proofs.YtnkdfphbglcnmaaGreat
open Go.RowKit
end Go.Proofs.YtnkdfphbglcnmaaGreat
