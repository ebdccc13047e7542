/-
  The laws' own functions on data: what a law on a function with a datum as its answer goes through.
-/
import Derived.Test.YtiopophoioiafaaHeld
import Derived.Test.YtiopophoioiafaaSz
import Derived.Test.YtiopophoioiafaaTo
import Derived.Test.YtiopophoioiafaaEq
namespace Go.Proofs.Ytiopophoioiafaa
open Go.RowKit
namespace D
theorem eqB_refl : ∀ d : D, eqB d d = true := by
  intro d
  induction d using ind with
  | h d ih =>
    cases d with
    | mk k n t A c l =>
      have key : ∀ l' : List D, (∀ x ∈ l', x ∈ l) → eqL l' l' = true := by
        intro l'
        induction l' with
        | nil => intro _; rfl
        | cons x r ih2 =>
          intro hs
          simp only [eqL, ih x (hs x (by simp)), ih2 fun y hy => hs y (by simp [hy]), Bool.and_self]
      simp [eqB, key l (fun _ h => h)]
theorem eqB_er : ∀ d e : D, eqB d e = eqB (er d) (er e) := by
  intro d
  induction d using ind with
  | h d ih =>
    cases d with
    | mk k n t A c l =>
      intro e
      cases e with
      | mk k' n' t' A' c' l' =>
        have key : ∀ (a : List D), (∀ x ∈ a, x ∈ l) → ∀ b, eqL a b = eqL (erL a) (erL b) := by
          intro a
          induction a with
          | nil => intro _ b; cases b <;> rfl
          | cons x r ih2 =>
            intro hs b
            cases b with
            | nil => rfl
            | cons y s => simp only [eqL, erL, ← ih x (hs x (by simp)), ← ih2 (fun y hy => hs y (by simp [hy]))]
        simp only [eqB, er, key l (fun _ h => h)]
theorem eqB_of_er {d e : D} (h : er d = er e) : eqB d e = true := by rw [eqB_er, h]; exact eqB_refl _
theorem sizeL_er (l : List D) : sizeL (erL l) = sizeL l := by
  have key : ∀ d : D, size (er d) = size d := by
    intro d
    induction d using ind with
    | h d ih =>
      cases d with
      | mk k n t A c l =>
        have key : ∀ (a : List D), (∀ x ∈ a, x ∈ l) → sizeL (erL a) = sizeL a := by
          intro a
          induction a with
          | nil => intro _; rfl
          | cons x r ih2 =>
            intro hs
            simp only [sizeL, erL, ih x (hs x (by simp)), ih2 fun y hy => hs y (by simp [hy])]
        simp only [er, size, key l (fun _ h => h)]
  induction l with
  | nil => rfl
  | cons x r ih => simp only [sizeL, erL, key, ih]
theorem size_er (d : D) : size (er d) = size d := by cases d; simp only [er, size, sizeL_er]
theorem erl_of_er {d e : D} (h : er d = er e) : erL d.l = erL e.l := by cases d; cases e; simp only [er, D.mk.injEq] at h; exact h.2.2.2.2.2
theorem er_er : ∀ d : D, er (er d) = er d := by
  intro d
  induction d using ind with
  | h d ih =>
    cases d with
    | mk k n t A c l =>
      have key : ∀ (a : List D), (∀ x ∈ a, x ∈ l) → erL (erL a) = erL a := by
        intro a
        induction a with
        | nil => intro _; rfl
        | cons x r ih2 => intro hs; simp only [erL, ih x (hs x (by simp)), ih2 fun y hy => hs y (by simp [hy])]
      simp only [er, key l (fun _ h => h)]
theorem size_of_er {d e : D} (h : er d = er e) : d.size = e.size := by rw [← size_er, h, size_er]
theorem bulk_size (d : D) : d.size ≤ d.bulk + 1 := by
  induction d using ind with
  | h d ih =>
    cases d with
    | mk k n t A c l =>
      have key : ∀ (a : List D), (∀ x ∈ a, x ∈ l) → sizeL a ≤ bulkL a := by
        intro a
        induction a with
        | nil => intro _; simp [sizeL]
        | cons x r ih2 =>
          intro hs
          have h1 := ih x (hs x (by simp))
          have h2 := ih2 fun y hy => hs y (by simp [hy])
          simp only [sizeL, bulkL]
          omega
      have := key l (fun _ h => h)
      simp only [size, bulk]
      omega
theorem bulkL_size (l : List D) : sizeL l ≤ bulkL l := by
  induction l with
  | nil => simp [sizeL]
  | cons x r ih => have := bulk_size x; simp only [sizeL, bulkL]; omega
/-- A variable that holds a datum. -/
structure Box (w : World) (b : Nat) (d : D) : Prop where
  c0 : w.cell? ⟨b, 0, none⟩ = some (.int .i64 d.k)
  c1 : w.cell? ⟨b, 1, none⟩ = some (.int .i64 d.n)
  c2 : w.cell? ⟨b, 2, none⟩ = some (.string d.t)
  c3 : w.cell? ⟨b, 3, none⟩ = some (.slice d.A d.l.length d.c)
theorem Box.below {w w' : World} {b B : Nat} {d : D} (h : Box w b d) (hb : Below B w w') (hB : b < B) : Box w' b d :=
  ⟨(hb.cell (p := ⟨b, 0, none⟩) hB).trans h.c0, (hb.cell (p := ⟨b, 1, none⟩) hB).trans h.c1, (hb.cell (p := ⟨b, 2, none⟩) hB).trans h.c2, (hb.cell (p := ⟨b, 3, none⟩) hB).trans h.c3⟩
theorem Box.chg {w w' : World} {b : Nat} {d : D} {S : List Nat} (h : Box w b d) (hb : Chg S w w') (hlt : b < w.heap.size) (hn : b ∉ S) : Box w' b d := by
  have e : ∀ q, w'.cell? ⟨b, q, none⟩ = w.cell? ⟨b, q, none⟩ := fun q => World.cell?_of_block (hb.block b hlt hn)
  exact ⟨(e 0).trans h.c0, (e 1).trans h.c1, (e 2).trans h.c2, (e 3).trans h.c3⟩
theorem Box.new (w : World) (d : D) (t : TypeId) : Box (w.alloc (.cells #[.int .i64 d.k, .int .i64 d.n, .string d.t, .slice d.A d.l.length d.c] t)) w.heap.size d :=
  ⟨by rw [cell_of_row _ _ _ _ _ _ (heap_alloc_new w _)]; rfl, by rw [cell_of_row _ _ _ _ _ _ (heap_alloc_new w _)]; rfl, by rw [cell_of_row _ _ _ _ _ _ (heap_alloc_new w _)]; rfl, by rw [cell_of_row _ _ _ _ _ _ (heap_alloc_new w _)]; rfl⟩
end D

set_option maxHeartbeats 400000 in
theorem markD_any (d : D) (lo hi : Nat) (w : World) (q : Int) (hs : d.size ≤ 2000000) (hq0 : 0 ≤ q) (hq : q ≤ 10000000) (ho : d.Own lo hi w) (hhi : hi ≤ w.heap.size) :
    Calls Try.prog 31 #[d.val, .int .i64 q] w fun e w' => e = .returned (.int .i64 (q + 3 * D.sizeL d.l)) ∧ (D.mk d.k d.n d.t d.A d.c (D.markL d.l q)).Own lo hi w' ∧ Chg d.blks w w' := by
  have hsz := D.size_eq d
  have hsz1 : D.sizeL d.l ≤ 2000000 := by omega
  have Ho := Lib.hid ho
  clear hsz hs ho
  unfold D.val
  go_enter Try.func31, Try.ntmps31
  go_wp2_with fail
  refine (mark_any 2000000 d lo hi _ q hsz1 (by omega) hq0 (by omega) (Ho.out.below ((Below.refl _ _).alloc hhi _)) (by simp; omega)).mono ?_
  rintro e w1 ⟨rfl, h1, h2⟩
  have hb : Chg d.blks w w1 := ((Chg.refl _ _).alloc _).trans h2
  have H1 := Lib.hid h1
  clear h1 h2
  go_wp2_with fail
  go_ret
  exact ⟨rfl, H1.out, hb⟩

set_option maxHeartbeats 400000 in
theorem heldD_any (d : D) (lo hi : Nat) (w : World) (q : Int) (hs : d.size ≤ 2000000) (hq0 : 0 ≤ q) (hq : q ≤ 10000000) (ho : (D.mk d.k d.n d.t d.A d.c (D.markL d.l q)).Own lo hi w) (hhi : hi ≤ w.heap.size) :
    Calls Try.prog 32 #[d.val, .int .i64 q] w fun e w' => e = .returned (.int .i64 (q + 3 * D.sizeL d.l)) ∧ Below w.heap.size w w' := by
  have hsz := D.size_eq d
  have hsz1 : D.sizeL d.l ≤ 2000000 := by omega
  have hin : (D.mk 0 0 ⟨#[]⟩ d.A d.c (D.markL d.l q)).In w hi := by
    obtain ⟨h1, h2, h3⟩ := ho.inn
    exact ⟨⟨h1.1, h1.2.1, Nat.zero_le _⟩, h2, h3⟩
  have hn : ¬ (q + 3 * (D.sizeL d.l : Int) < 0) := by omega
  clear hsz hs ho
  unfold D.val
  go_enter Try.func32, Try.ntmps32
  go_wp2_with fail
  refine (held_any 2000000 d hi _ q hsz1 (by omega) hq0 (by omega) (hin.alloc hhi _) (by simp; omega)).mono ?_
  rintro e w1 ⟨rfl, hb1⟩
  have hb : Below w.heap.size w w1 := ((Below.refl _ _).alloc (Nat.le_refl _) _).trans (hb1.mono (by simp))
  go_wp2_with fail
  go_ret
  exact ⟨rfl, hb⟩
end Go.Proofs.Ytiopophoioiafaa
