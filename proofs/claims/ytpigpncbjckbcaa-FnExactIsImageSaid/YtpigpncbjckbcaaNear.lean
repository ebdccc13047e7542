/-
  A region that draws its order, whose operations only read and whose callees may make memory of their own but answer plain values: one walk, in the order of the text. Nothing of the program.
-/
import Derived.Test.YtpigpncbjckbcaaBase
import Derived.BigQuiet
namespace Go.Proofs.Ytpigpncbjckbcaa
open Go.RowKit

/-- A world in which all that lay in w is as it was. -/
structure Near (w : World) where
  at_ : World
  below : Below w.heap.size w at_
instance nearNonempty (w : World) : Nonempty (Near w) := ⟨⟨w, Below.refl _ _⟩⟩
theorem wp_region_near {P : Program} {id : Nat} {Q : Exit → Act → World → Prop} {a : Act} {w : World} {l : List Oper} (hm : P.follows .mixedOrders = true) (hB : Region.lexB .any l.toArray = true)
    (h : wpQuiet P l.toArray (fun w' => ∃ x : Near w, w' = x.at_) (fun a' => ∀ w', (∃ x : Near w, w' = x.at_) → Q .normal a' w') l a) : (Code.region id l.toArray true).wp P Q a w :=
  wp_region_quiet (C := fun w' => ∃ x : Near w, w' = x.at_) hm hB ⟨⟨{ w with drawn := w.drawn + 1 }, ⟨rfl, rfl, rfl, Nat.le_refl _, fun _ _ => rfl⟩⟩, rfl⟩ (by simpa using h)
theorem Calls.near {P : Program} {f : FuncId} {args : Array Value} {w : World} {x : Near w} {v : Value}
    (h : Calls P f args x.at_ fun e w' => e = .returned v ∧ Below x.at_.heap.size x.at_ w') : Calls P f args x.at_ fun e w'' => e = .returned v ∧ ∃ y : Near w, w'' = y.at_ :=
  h.mono fun _ w' ⟨he, hb⟩ => ⟨he, ⟨w', x.below.trans (hb.mono x.below.size)⟩, rfl⟩
/-- .. of a callee that leaves the world alone. -/
theorem Calls.near_same {P : Program} {f : FuncId} {args : Array Value} {w : World} {x : Near w} {v : Value}
    (h : Calls P f args x.at_ fun e w' => e = .returned v ∧ w' = x.at_) : Calls P f args x.at_ fun e w'' => e = .returned v ∧ ∃ y : Near w, w'' = y.at_ :=
  h.mono fun _ _ ⟨he, hb⟩ => ⟨he, x, hb⟩
theorem Near.cell {w : World} (x : Near w) {b : Nat} (o : Nat) {v : Value} (h : w.cell? ⟨b, o, none⟩ = some v) (hb : b < w.heap.size) : x.at_.cell? ⟨b, o, none⟩ = some v := (x.below.cell (p := ⟨b, o, none⟩) hb).trans h
theorem Near.size {w : World} (x : Near w) : w.heap.size ≤ x.at_.heap.size := x.below.size
end Go.Proofs.Ytpigpncbjckbcaa
