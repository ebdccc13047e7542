/-
  The text of a syntax object, the model's and the program's (written by gen/txs.py).
-/
import Derived.Test.YtjgpekfnfmabbaaDoorTxB
import Derived.Test.YtjgpekfnfmabbaaDoorSIsS
import Derived.Test.YtjgpekfnfmabbaaDoorDGrow
import Derived.Test.YtjgpekfnfmabbaaDoorSDaO
import Derived.Deep.RegionHeld3
namespace Go.Proofs.YtjgpekfnfmabbaaDoor
open Go.RowKit

theorem setFrom_in : ∀ (l : List Int) (m : Int), 0 ≤ m → setFrom m l = true → ∀ n ∈ l, 0 ≤ n ∧ n ≤ 99999
  | [], _, _, _, n, hn => by cases hn
  | x :: r, m, hm, h, n, hn => by
    simp only [setFrom, Bool.and_eq_true, decide_eq_true_eq] at h
    rcases List.mem_cons.1 hn with rfl | hn
    · omega
    · exact setFrom_in r x (by omega) h.2.2 n hn
namespace S
mutual
/-- The text of a syntax object. -/
def txt : S → List UInt8
  | .mk k n t _ _ s _ _ l => if k = 0 then 40 :: (Lib.join (txtL l) [32] ++ [41]) else D.txt (.mk k n t none 0 []) ++ scT s
def txtL : List S → List (List UInt8) | [] => [] | d :: r => txt d :: txtL r
end
theorem txtL_map (l : List S) : txtL l = l.map txt := by
  induction l with
  | nil => rfl
  | cons d r ih => simp [txtL, ih]
theorem txt_er (d : S) : txt (er d) = txt d := by
  induction d using ind with
  | h d ih =>
    cases d with
    | mk k n t sa sc s A c l =>
      have key : ∀ (a : List S), (∀ x ∈ a, x ∈ l) → txtL (erL a) = txtL a := by
        intro a
        induction a with
        | nil => intro _; rfl
        | cons x r ih2 => intro hs; simp only [erL, txtL, ih x (hs x (by simp)), ih2 fun y hy => hs y (by simp [hy])]
      simp only [er, txt, key l (fun _ h => h)]
theorem txt_of_er {d e : S} (h : er d = er e) : txt d = txt e := by rw [← txt_er d, h, txt_er]
theorem leaf_valid {k n : Int} {t : ByteArray} {m : Nat} {s : List Int} (h : sNodeOk k n t m s = true) (hk : k ≠ 0) : (D.mk k n t none 0 []).valid = true ∧ m = 0 := by
  unfold sNodeOk at h
  simp only [Bool.and_eq_true] at h
  by_cases hm : m = 0
  · subst hm
    refine ⟨?_, rfl⟩
    simp only [D.valid, D.validL, Bool.and_true]
    exact h.1
  · have := nodeOk_items (n := n) (t := t) (m := m) hk (by omega)
    rw [this] at h
    cases h.1
theorem node_scopes {k n : Int} {t : ByteArray} {m : Nat} {s : List Int} (h : sNodeOk k n t m s = true) : ∀ x ∈ s, 0 ≤ x ∧ x ≤ 99999 := by
  unfold sNodeOk at h
  simp only [Bool.and_eq_true] at h
  exact setFrom_in s 0 (by omega) h.2.1
theorem txt_len (d : S) : valid d = true → (txt d).length + 1 ≤ 50 * d.size + 22 * d.bulk := by
  induction d using ind with
  | h d ih =>
    cases d with
    | mk k n t sa sc s A c l =>
      intro hv
      simp only [valid, Bool.and_eq_true] at hv
      have key : ∀ (a : List S), (∀ x ∈ a, x ∈ l) → validL a = true → ((txtL a).map fun x => x.length + 1).sum ≤ 50 * sizeL a + 22 * bulkL a := by
        intro a
        induction a with
        | nil => intro _ _; simp [txtL, sizeL]
        | cons x r ih2 =>
          intro hs hva
          simp only [validL, Bool.and_eq_true] at hva
          have h1 := ih x (hs x (by simp)) hva.1
          have h2 := ih2 (fun y hy => hs y (by simp [hy])) hva.2
          simp only [txtL, List.map_cons, List.sum_cons, sizeL, bulkL]
          omega
      have hL := key l (fun _ h => h) hv.2
      have hj := join_sum (txtL l) 32
      simp only [txt, size, bulk]
      by_cases e0 : k = 0
      · rw [if_pos e0]
        simp only [List.length_cons, List.length_append, List.length_nil]
        omega
      · rw [if_neg e0]
        have h1 := D.txt_len (.mk k n t none 0 []) (leaf_valid hv.1 e0).1
        have h2 := scT_len (node_scopes hv.1)
        simp only [D.size, D.sizeL] at h1
        rw [List.length_append]
        omega
theorem validL_at {l : List S} (hv : validL l = true) {j : Nat} (h : j < l.length) : l[j].valid = true := by
  have e := validL_append (l.take j) (l.drop j)
  rw [List.take_append_drop, List.drop_eq_getElem_cons h] at e
  simp only [validL] at e
  rw [hv] at e
  have := e.symm
  simp only [Bool.and_eq_true] at this
  exact this.2.1
theorem bulk_at {l : List S} {j : Nat} (h : j < l.length) : l[j].bulk ≤ bulkL l := by
  induction l generalizing j with
  | nil => simp at h
  | cons d r ih =>
    cases j with
    | zero => simp only [List.getElem_cons_zero, bulkL]; omega
    | succ j =>
      have := ih (j := j) (by simpa using h)
      simp only [List.getElem_cons_succ, bulkL]; omega
/-- FormatSyntax's answer. -/
def fmt (d : S) : ByteArray := if d.isS then baL (txt d) else ⟨#[]⟩
theorem fmt_er {d e : S} (h : d.er = e.er) : fmt d = fmt e := by unfold fmt; rw [isS_of_er h, txt_of_er h]
end S

set_option maxHeartbeats 1000000 in
theorem node_any' (k n : Int) (t : ByteArray) (sa : Option Addr) (sc : Nat) (s : List Int) (A : Option Addr) (c : Nat) (l : List S) (w : World) :
    Calls Tryd.prog 62 #[.agg #[.int .i64 k, .int .i64 n, .string t, .slice sa s.length sc, .slice A l.length c]] w fun e w' => e = .returned ((D.mk k n t none 0 []).val) ∧ Below w.heap.size w w' := by
  obtain ⟨W1, hW1⟩ : ∃ W1, W1 = w.alloc (.cells #[.int .i64 k, .int .i64 n, .string t, .slice sa s.length sc, .slice A l.length c] 46) := ⟨_, rfl⟩
  obtain ⟨W2, hW2⟩ : ∃ W2, W2 = W1.alloc (.cells #[.int .i64 0, .int .i64 0, .string ⟨#[]⟩, .slice none 0 0] 29) := ⟨_, rfl⟩
  have z1 : W1.heap.size = w.heap.size + 1 := by rw [hW1]; simp
  have B1 : Below w.heap.size w W1 := by rw [hW1]; exact (Below.refl _ _).alloc (Nat.le_refl _) _
  have B2 : Below W1.heap.size W1 W2 := by rw [hW2]; exact (Below.refl _ _).alloc (Nat.le_refl _) _
  have X0 : D.Blk W1 w.heap.size 46 #[.int .i64 k, .int .i64 n, .string t, .slice sa s.length sc, .slice A l.length c] := by rw [hW1]; exact D.Blk.new _ _ _
  have X0 := X0.below B2 (by omega)
  have R0 : D.Blk W2 (w.heap.size + 1) 29 #[.int .i64 0, .int .i64 0, .string ⟨#[]⟩, .slice none 0 0] := by rw [hW2, ← z1]; exact D.Blk.new _ _ _
  have b0 : Below w.heap.size w W2 := B1.trans (B2.mono (by omega))
  have a0 : W2.cell? ⟨w.heap.size, 0, none⟩ = some (.int .i64 k) := X0.cell 0
  have a1 : W2.cell? ⟨w.heap.size, 1, none⟩ = some (.int .i64 n) := X0.cell 1
  have a2 : W2.cell? ⟨w.heap.size, 2, none⟩ = some (.string t) := X0.cell 2
  have r0 : W2.cell? ⟨w.heap.size + 1, 0, none⟩ = some (.int .i64 0) := R0.cell 0
  have r1 : W2.cell? ⟨w.heap.size + 1, 1, none⟩ = some (.int .i64 0) := R0.cell 1
  have r2 : W2.cell? ⟨w.heap.size + 1, 2, none⟩ = some (.string ⟨#[]⟩) := R0.cell 2
  have r3 : W2.cell? ⟨w.heap.size + 1, 3, none⟩ = some (.slice none 0 0) := R0.cell 3
  have g0 := R0.frozen 0
  have g1 := R0.frozen 1
  have g2 := R0.frozen 2
  have g3 := R0.frozen 3
  go_enter Tryd.func62, Tryd.ntmps62
  go_wp2_with fail
  try rw [← hW1, ← hW2]
  try go_wp2_with fail
  refine bodyPost_ret (v := .agg #[.int .i64 k, .int .i64 n, .string t, .slice none 0 0]) (by first | (simp [results, Tryd.results62, go_sem, r0, r1, r2, r3]; done) | (simp [results, Tryd.results62, go_sem]; done)) rfl ⟨rfl, ?_⟩
  first
    | exact ((Below.refl _ _).alloc (Nat.le_refl _) _).alloc (by simp) _
    | exact (((((b0.setCell (by simp <;> omega) _).setCell (by simp <;> omega) _).setCell (by simp <;> omega) _).setCell (by simp <;> omega) _))
    | exact b0
    | (try rw [hW2, hW1] at b0; exact b0)
end Go.Proofs.YtjgpekfnfmabbaaDoor
