/-
  Valid data: the program's nodesLeft and IsDatum, the model's l1Few, l1Nodes and IsDatum.
-/
import Derived.Test.YtnldlbglgalbaabGreatNode
import Derived.Test.YtnldlbglgalbaabGreatCount
import Derived.Test.YtnldlbglgalbaabGreatBase
namespace Go.Proofs.YtnldlbglgalbaabGreat
open Go.RowKit
namespace D
mutual
/-- All nodes are valid. -/
def valid : D → Bool | .mk k n t _ _ l => nodeOk k n t l.length && validL l
def validL : List D → Bool | [] => true | d :: r => valid d && validL r
end
theorem validL_append (a b : List D) : validL (a ++ b) = (validL a && validL b) := by
  induction a with
  | nil => simp [validL]
  | cons d r ih => simp [validL, ih, Bool.and_assoc]
theorem valid_er (d : D) : valid (er d) = valid d := by
  induction d using ind with
  | h d ih =>
    cases d with
    | mk k n t A c l =>
      have key : ∀ (a : List D), (∀ x ∈ a, x ∈ l) → validL (erL a) = validL a := by
        intro a
        induction a with
        | nil => intro _; rfl
        | cons x r ih2 =>
          intro hs
          simp only [validL, erL, ih x (hs x (by simp)), ih2 fun y hy => hs y (by simp [hy])]
      simp only [er, valid, key l (fun _ h => h), erL_length]
/-- A valid datum. -/
def isD (d : D) : Bool := decide (d.size ≤ 600) && (decide (d.depth ≤ 20) && valid d)
theorem isD_of_er {d e : D} (h : er d = er e) : isD d = isD e := by
  unfold isD
  rw [size_of_er h, depth_of_er h, ← valid_er d, h, valid_er]
theorem depthL_le_size (l : List D) : depthL l ≤ sizeL l := by
  induction l with
  | nil => simp [depthL]
  | cons x r ih => have := depth_le_size x; simp only [depthL, sizeL]; omega
end D

def NlOk (d : D) (L P : Int) : Prop := (d.size : Int) ≤ L ∧ (d.depth : Int) ≤ P ∧ d.valid = true
instance (d : D) (L P : Int) : Decidable (NlOk d L P) := by unfold NlOk; infer_instance
def nlInt (d : D) (L P : Int) : Int := if NlOk d L P then L - d.size else 0
def nlB (d : D) (L P : Int) : Bool := decide (NlOk d L P)
theorem nl_yes {d : D} {L P : Int} (h : NlOk d L P) : nlInt d L P = L - d.size ∧ nlB d L P = true := ⟨if_pos h, decide_eq_true h⟩
theorem nl_no {d : D} {L P : Int} (h : ¬ NlOk d L P) : nlInt d L P = 0 ∧ nlB d L P = false := ⟨if_neg h, decide_eq_false h⟩
theorem ret_nl {a b : Int} {x y : Bool} (h : a = b) (h2 : x = y) : Ending.returned (.tuple #[.int .i64 a, .bool x]) = .returned (.tuple #[.int .i64 b, .bool y]) := by rw [h, h2]

theorem nlB_isD (d : D) : nlB d 600 20 = d.isD := by
  have h1 : ((d.size : Int) ≤ 600) ↔ d.size ≤ 600 := by omega
  have h2 : ((d.depth : Int) ≤ 20) ↔ d.depth ≤ 20 := by omega
  rw [Bool.eq_iff_iff]
  simp [nlB, NlOk, D.isD, h1, h2]

/-- What is left behind the model's count. -/
def fewR (d : Nat) (L : Int) : Int := if (d : Int) ≤ L then L - d else -1
theorem few_yes {d : Nat} {L : Int} (h : (d : Int) ≤ L) : fewR d L = L - d := if_pos h
theorem few_no {d : Nat} {L : Int} (h : ¬ (d : Int) ≤ L) : fewR d L = -1 := if_neg h
/-- The counter at block g: its one cell holds this number; nothing else below has turned. -/
structure Cnt (B g : Nat) (w w' : World) (v : Int) : Prop where
  cell : w'.cell? ⟨g, 0, none⟩ = some (.int .i64 v)
  fr : w'.frozen? ⟨g, 0, none⟩ = false
  chg : Chg [g] w w'

end Go.Proofs.YtnldlbglgalbaabGreat
