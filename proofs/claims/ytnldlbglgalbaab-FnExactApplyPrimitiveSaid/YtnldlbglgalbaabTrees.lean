/-
  The laws' own functions on data: sizes.
-/
import Derived.Test.YtnldlbglgalbaabBase
import Derived.Test.YtnldlbglgalbaabProg
import Derived.Handy
import Derived.WalkSpells
import Derived.Laws.MakeOwn
import Derived.Deep.RegionHeld3
import Derived.Test.YtnldlbglgalbaabMarks
namespace Go.Proofs.Ytnldlbglgalbaab
open Go.RowKit

/-- What is left behind a datum of this bulk. -/
def szR (b : Nat) (left : Int) : Int := if (b : Int) ≤ left then left - b else -1
theorem szR_yes {b : Nat} {left : Int} (h : (b : Int) ≤ left) : szR b left = left - b := if_pos h
theorem szR_no {b : Nat} {left : Int} (h : ¬ (b : Int) ≤ left) : szR b left = -1 := if_neg h

theorem bulkL_take_le (l : List D) (j : Nat) : D.bulkL (l.take j) + (l.length - j) ≤ D.bulkL l := by
  have h := D.bulkL_append (l.take j) (l.drop j)
  rw [List.take_append_drop] at h
  have h2 : ∀ r : List D, r.length ≤ D.bulkL r := fun r => by
    induction r with
    | nil => simp
    | cons d r ih => simp [D.bulkL]; omega
  have := h2 (l.drop j)
  rw [List.length_drop] at this
  omega
theorem bulkL_take_succ (l : List D) (j : Nat) (h : j < l.length) : D.bulkL (l.take (j + 1)) = D.bulkL (l.take j) + 1 + l[j].bulk := by
  rw [List.take_succ_eq_append_getElem h, D.bulkL_append]; simp [D.bulkL]; omega
theorem sizeL_get_le (l : List D) (j : Nat) (h : j < l.length) : l[j].size ≤ D.sizeL l := D.sizeL_mem (List.getElem_mem h)

end Go.Proofs.Ytnldlbglgalbaab

namespace Go.Proofs.Ytnldlbglgalbaab
open Go.RowKit

theorem run_make_rowN {P : Program} (t e : TypeId) (i : TypeInfo) (z : Value) (ht : P.underlying t = some (.slice e)) (hi : P.info? e = some i) (hz : i.zero = some z)
    (kl kc : IntKind) (n c : Nat) (hnc : n ≤ c) (hbytes : i.bytes * c ≤ 281474976710656) (h63 : c ≤ 9223372036854775807) (w : World) :
    (Instr.makeSlice t (.int kl (n : Int)) (.int kc (c : Int))).run P w = .ok (.slice (some ⟨w.heap.size, 0, none⟩) n c) (w.alloc (.cells (madeCells z.cells (c * i.size)) e)) := by
  have hb : (i.bytes : Int) * (c : Int) ≤ 281474976710656 := by
    have h : ((i.bytes * c : Nat) : Int) ≤ 281474976710656 := by omega
    rwa [Int.natCast_mul] at h
  have hr := run_make (P := P) w t e i z ht hi hz kl kc n c (by omega) (by omega) hb (by omega)
  simp only [Int.toNat_natCast] at hr
  exact hr

theorem ret_sl {A : Option Addr} {m n c : Nat} (h : m = n) : Ending.returned (.slice A m c) = .returned (.slice A n c) := by rw [h]
theorem infoD : (Try.prog.info? 63).map (fun i => (i.zero, i.size, i.bytes)) = some (some (.agg #[.int .i64 0, .int .i64 0, .string ⟨#[]⟩, .slice none 0 0]), 4, 56) := by kernel_rfl

/-- Returned: a datum of the call's own that is this one, apart from its places. -/
def RetD (x : D) (w : World) (e : Ending) (w' : World) : Prop := ∃ d : D, e = .returned d.val ∧ d.er = x ∧ d.Own w.heap.size w'.heap.size w' ∧ Below w.heap.size w w'
/-- Returned: a list of data of the call's own. -/
def RetL (x : List D) (w : World) (e : Ending) (w' : World) : Prop := ∃ (k n : Int) (t : ByteArray) (A : Option Addr) (c : Nat) (l : List D), e = .returned (.slice A l.length c) ∧ D.erL l = x ∧ D.Own w.heap.size w'.heap.size w' (.mk k n t A c l) ∧ Below w.heap.size w w'

end Go.Proofs.Ytnldlbglgalbaab

namespace Go.Proofs.Ytnldlbglgalbaab
open Go.RowKit

theorem eqL_take (l l' : List D) (j : Nat) (h : j < l.length) (h' : j < l'.length) (ht : D.eqL (l.take j) (l'.take j) = true) : D.eqL l l' = (D.eqB l[j] l'[j] && D.eqL (l.drop (j + 1)) (l'.drop (j + 1))) := by
  induction j generalizing l l' with
  | zero =>
    match l, l' with
    | [], _ => simp at h
    | _ :: _, [] => simp at h'
    | a :: r, b :: s => simp [D.eqL]
  | succ j ih =>
    match l, l' with
    | [], _ => simp at h
    | _ :: _, [] => simp at h'
    | a :: r, b :: s =>
      simp [D.eqL] at ht h h' ⊢
      rw [ht.1, ih r s h h' ht.2]
      simp
theorem eqL_take_succ (l l' : List D) (j : Nat) (h : j < l.length) (h' : j < l'.length) : D.eqL (l.take (j + 1)) (l'.take (j + 1)) = (D.eqL (l.take j) (l'.take j) && D.eqB l[j] l'[j]) := by
  induction j generalizing l l' with
  | zero =>
    match l, l' with
    | [], _ => simp at h
    | _ :: _, [] => simp at h'
    | a :: r, b :: s => simp [D.eqL]
  | succ j ih =>
    match l, l' with
    | [], _ => simp at h
    | _ :: _, [] => simp at h'
    | a :: r, b :: s =>
      simp at h h'
      have := ih r s h h'
      simp [D.eqL] at this ⊢
      rw [this, Bool.and_assoc]
theorem eqL_length (l l' : List D) (h : l.length ≠ l'.length) : D.eqL l l' = false := by
  induction l generalizing l' with
  | nil => cases l' with
    | nil => simp at h
    | cons _ _ => rfl
  | cons a r ih => cases l' with
    | nil => rfl
    | cons b s =>
      simp at h
      simp [D.eqL, ih s h]

end Go.Proofs.Ytnldlbglgalbaab

namespace Go.Proofs.Ytnldlbglgalbaab
open Go.RowKit
namespace D
theorem eqB_refl : ∀ d : D, eqB d d = true := by
  intro d
  induction d using ind with
  | h d ih =>
    cases d with
    | mk k n t A c l =>
      have key : ∀ l' : List D, (∀ x ∈ l', x ∈ l) → eqL l' l' = true := by
        intro l'
        induction l' with
        | nil => intro _; rfl
        | cons x r ih2 =>
          intro hs
          simp only [eqL, ih x (hs x (by simp)), ih2 fun y hy => hs y (by simp [hy]), Bool.and_self]
      simp [eqB, key l (fun _ h => h)]
theorem eqB_er : ∀ d e : D, eqB d e = eqB (er d) (er e) := by
  intro d
  induction d using ind with
  | h d ih =>
    cases d with
    | mk k n t A c l =>
      intro e
      cases e with
      | mk k' n' t' A' c' l' =>
        have key : ∀ (a : List D), (∀ x ∈ a, x ∈ l) → ∀ b, eqL a b = eqL (erL a) (erL b) := by
          intro a
          induction a with
          | nil => intro _ b; cases b <;> rfl
          | cons x r ih2 =>
            intro hs b
            cases b with
            | nil => rfl
            | cons y s => simp only [eqL, erL, ← ih x (hs x (by simp)), ← ih2 (fun y hy => hs y (by simp [hy]))]
        simp only [eqB, er, key l (fun _ h => h)]
theorem eqB_of_er {d e : D} (h : er d = er e) : eqB d e = true := by rw [eqB_er, h]; exact eqB_refl _
theorem sizeL_er (l : List D) : sizeL (erL l) = sizeL l := by
  have key : ∀ d : D, size (er d) = size d := by
    intro d
    induction d using ind with
    | h d ih =>
      cases d with
      | mk k n t A c l =>
        have key : ∀ (a : List D), (∀ x ∈ a, x ∈ l) → sizeL (erL a) = sizeL a := by
          intro a
          induction a with
          | nil => intro _; rfl
          | cons x r ih2 =>
            intro hs
            simp only [sizeL, erL, ih x (hs x (by simp)), ih2 fun y hy => hs y (by simp [hy])]
        simp only [er, size, key l (fun _ h => h)]
  induction l with
  | nil => rfl
  | cons x r ih => simp only [sizeL, erL, key, ih]
theorem size_er (d : D) : size (er d) = size d := by cases d; simp only [er, size, sizeL_er]
theorem erl_of_er {d e : D} (h : er d = er e) : erL d.l = erL e.l := by cases d; cases e; simp only [er, D.mk.injEq] at h; exact h.2.2.2.2.2
theorem er_er : ∀ d : D, er (er d) = er d := by
  intro d
  induction d using ind with
  | h d ih =>
    cases d with
    | mk k n t A c l =>
      have key : ∀ (a : List D), (∀ x ∈ a, x ∈ l) → erL (erL a) = erL a := by
        intro a
        induction a with
        | nil => intro _; rfl
        | cons x r ih2 => intro hs; simp only [erL, ih x (hs x (by simp)), ih2 fun y hy => hs y (by simp [hy])]
      simp only [er, key l (fun _ h => h)]
theorem size_of_er {d e : D} (h : er d = er e) : d.size = e.size := by rw [← size_er, h, size_er]
theorem bulk_size (d : D) : d.size ≤ d.bulk + 1 := by
  induction d using ind with
  | h d ih =>
    cases d with
    | mk k n t A c l =>
      have key : ∀ (a : List D), (∀ x ∈ a, x ∈ l) → sizeL a ≤ bulkL a := by
        intro a
        induction a with
        | nil => intro _; simp [sizeL]
        | cons x r ih2 =>
          intro hs
          have h1 := ih x (hs x (by simp))
          have h2 := ih2 fun y hy => hs y (by simp [hy])
          simp only [sizeL, bulkL]
          omega
      have := key l (fun _ h => h)
      simp only [size, bulk]
      omega
theorem bulkL_size (l : List D) : sizeL l ≤ bulkL l := by
  induction l with
  | nil => simp [sizeL]
  | cons x r ih => have := bulk_size x; simp only [sizeL, bulkL]; omega
/-- A variable that holds a datum. -/
structure Box (w : World) (b : Nat) (d : D) : Prop where
  c0 : w.cell? ⟨b, 0, none⟩ = some (.int .i64 d.k)
  c1 : w.cell? ⟨b, 1, none⟩ = some (.int .i64 d.n)
  c2 : w.cell? ⟨b, 2, none⟩ = some (.string d.t)
  c3 : w.cell? ⟨b, 3, none⟩ = some (.slice d.A d.l.length d.c)
theorem Box.below {w w' : World} {b B : Nat} {d : D} (h : Box w b d) (hb : Below B w w') (hB : b < B) : Box w' b d :=
  ⟨(hb.cell (p := ⟨b, 0, none⟩) hB).trans h.c0, (hb.cell (p := ⟨b, 1, none⟩) hB).trans h.c1, (hb.cell (p := ⟨b, 2, none⟩) hB).trans h.c2, (hb.cell (p := ⟨b, 3, none⟩) hB).trans h.c3⟩
theorem Box.chg {w w' : World} {b : Nat} {d : D} {S : List Nat} (h : Box w b d) (hb : Chg S w w') (hlt : b < w.heap.size) (hn : b ∉ S) : Box w' b d := by
  have e : ∀ q, w'.cell? ⟨b, q, none⟩ = w.cell? ⟨b, q, none⟩ := fun q => World.cell?_of_block (hb.block b hlt hn)
  exact ⟨(e 0).trans h.c0, (e 1).trans h.c1, (e 2).trans h.c2, (e 3).trans h.c3⟩
theorem Box.new (w : World) (d : D) (t : TypeId) : Box (w.alloc (.cells #[.int .i64 d.k, .int .i64 d.n, .string d.t, .slice d.A d.l.length d.c] t)) w.heap.size d :=
  ⟨by rw [cell_of_row _ _ _ _ _ _ (heap_alloc_new w _)]; rfl, by rw [cell_of_row _ _ _ _ _ _ (heap_alloc_new w _)]; rfl, by rw [cell_of_row _ _ _ _ _ _ (heap_alloc_new w _)]; rfl, by rw [cell_of_row _ _ _ _ _ _ (heap_alloc_new w _)]; rfl⟩
end D

end Go.Proofs.Ytnldlbglgalbaab
