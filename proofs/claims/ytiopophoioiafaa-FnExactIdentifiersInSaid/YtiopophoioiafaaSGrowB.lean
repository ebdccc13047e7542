/-
  Rows of syntax objects that grow, their variable further below.
-/
import Derived.Test.YtiopophoioiafaaSGrow
import Derived.Test.YtiopophoioiafaaSMapI
import Derived.Test.YtiopophoioiafaaScSets
namespace Go.Proofs.Ytiopophoioiafaa
open Go.RowKit
/-- A round of 'out.Items = append(out.Items, ..)', out's block just below base. -/
theorem sapp_roundB {B out base g cap : Nat} {w wr w1 w3 : World} {v u : Value} {ds : List S} {d : S} {ox o : Obj} (hG : GrowS base wr v ds) (hob : out < base) (hout : base ≤ wr.heap.size) (hBo : B ≤ out) (hb : Below B w wr)
    (hod : d.Own (wr.heap.size + 1) w1.heap.size w1) (hb1 : Below (wr.heap.size + 1) (wr.alloc ox) w1)
    (hown : w3.ownsRow base 52 5 (.slice (some ⟨g, 0, none⟩) (ds.length + 1) cap) (ds.length + 1) (S.cellsL ds ++ d.cells)) (hgr : (w1.alloc o).grownBy w3 v.ownBlock) (hat : v.ownBlock = some g ∨ g = w1.heap.size + 1) (hlt : g < w3.heap.size)
    (hc3 : wr.cell? ⟨out, 4, none⟩ = some u) :
    GrowS base (w3.setCell ⟨out, 4, none⟩ (.slice (some ⟨g, 0, none⟩) (ds.length + 1) cap)) (.slice (some ⟨g, 0, none⟩) (ds.length + 1) cap) (ds ++ [d]) ∧
    (∀ q, q ≠ 4 → (w3.setCell ⟨out, 4, none⟩ (.slice (some ⟨g, 0, none⟩) (ds.length + 1) cap)).cell? ⟨out, q, none⟩ = wr.cell? ⟨out, q, none⟩) ∧
    (w3.setCell ⟨out, 4, none⟩ (.slice (some ⟨g, 0, none⟩) (ds.length + 1) cap)).cell? ⟨out, 4, none⟩ = some (.slice (some ⟨g, 0, none⟩) (ds.length + 1) cap) ∧
    (∀ q, (w3.setCell ⟨out, 4, none⟩ (.slice (some ⟨g, 0, none⟩) (ds.length + 1) cap)).frozen? ⟨out, q, none⟩ = wr.frozen? ⟨out, q, none⟩) ∧
    wr.heap.size ≤ (w3.setCell ⟨out, 4, none⟩ (.slice (some ⟨g, 0, none⟩) (ds.length + 1) cap)).heap.size ∧ Below B w (w3.setCell ⟨out, 4, none⟩ (.slice (some ⟨g, 0, none⟩) (ds.length + 1) cap)) ∧ (∀ k, k < base → k ≠ out → (w3.setCell ⟨out, 4, none⟩ (.slice (some ⟨g, 0, none⟩) (ds.length + 1) cap)).heap[k]? = wr.heap[k]?) := by
  have hbw : Below wr.heap.size wr w1 := ((Below.refl _ _).alloc (Nat.le_refl _) ox).trans (hb1.mono (by omega))
  have hz1 := hbw.size
  have hz3 := hgr.size
  simp only [World.size_alloc] at hz3
  have hne : ∀ q, v.ownBlock = some q → base ≤ q := fun q hq => (hG.row.lt q hq).1
  have hno : some out ≠ v.ownBlock := fun e => by have := hne out e.symm; omega
  have hh : w3.heap[out]? = wr.heap[out]? := by
    rw [hgr.block out (by simp; omega) hno]
    exact (Below.heap_alloc _ _ _ (by omega)).trans (hbw.block out (by omega))
  have cf : ∀ q, w3.cell? ⟨out, q, none⟩ = wr.cell? ⟨out, q, none⟩ := fun q => World.cell?_of_block (a := ⟨out, q, none⟩) hh
  have ff : ∀ q, w3.frozen? ⟨out, q, none⟩ = wr.frozen? ⟨out, q, none⟩ := fun q => World.frozen?_of_block (a := ⟨out, q, none⟩) hh
  have hG3 := hG.snoc (by omega) rfl hod hbw hown hgr hat hlt
  have e1 : (ds ++ [d]).length = ds.length + 1 := by simp
  rw [e1] at hG3
  have hb3 : Below B w w3 := ((hb.trans (hbw.mono (by omega))).alloc (by omega) o).grown hgr (by simp; omega) (fun k hk => by have := hne k hk; omega)
  refine ⟨hG3.far (by simpa using hob) _, fun q hq => ?_, ?_, fun q => ?_, by simp; omega, hb3.setCell (by simpa using hBo) _, fun k hk hko => ?_⟩
  · rw [icell_ne _ _ _ _ _ hq]; exact cf q
  · exact icell_eq ((cf 4).trans hc3)
  · rw [World.frozen?_setCell]; exact ff q
  · rw [Below.heap_setCell _ _ _ _ (by simpa using hko), hgr.block k (by simp; omega) (fun e => by have := hne k e.symm; omega)]
    exact (Below.heap_alloc _ _ _ (by omega)).trans (hbw.block k (by omega))

/-- Every cell of the variable stored. -/
theorem sbox_set {w : World} {b : Nat} {x : S} (d : S) (h : S.Box w b x) : S.Box (((((w.setCell ⟨b, 0, none⟩ (.int .i64 d.k)).setCell ⟨b, 1, none⟩ (.int .i64 d.n)).setCell ⟨b, 2, none⟩ (.string d.t)).setCell ⟨b, 3, none⟩ (.slice d.sa d.s.length d.sc)).setCell ⟨b, 4, none⟩ (.slice d.A d.l.length d.c)) b d := by
  have N := fun (w : World) (q r : Nat) (u : Value) (h : q ≠ r) => icell_ne w b q r u h
  refine ⟨?_, ?_, ?_, ?_, ?_⟩
  · rw [N _ 0 4 _ (by omega), N _ 0 3 _ (by omega), N _ 0 2 _ (by omega), N _ 0 1 _ (by omega)]; exact icell_eq h.c0
  · rw [N _ 1 4 _ (by omega), N _ 1 3 _ (by omega), N _ 1 2 _ (by omega)]; exact icell_eq ((N _ 1 0 _ (by omega)).trans h.c1)
  · rw [N _ 2 4 _ (by omega), N _ 2 3 _ (by omega)]; exact icell_eq ((N _ 2 1 _ (by omega)).trans ((N _ 2 0 _ (by omega)).trans h.c2))
  · rw [N _ 3 4 _ (by omega)]; exact icell_eq ((N _ 3 2 _ (by omega)).trans ((N _ 3 1 _ (by omega)).trans ((N _ 3 0 _ (by omega)).trans h.c3)))
  · exact icell_eq ((N _ 4 3 _ (by omega)).trans ((N _ 4 2 _ (by omega)).trans ((N _ 4 1 _ (by omega)).trans ((N _ 4 0 _ (by omega)).trans h.c4))))
theorem sbox_heap (w : World) (b k : Nat) (u0 u1 u2 u3 u4 : Value) (h : k ≠ b) : (((((w.setCell ⟨b, 0, none⟩ u0).setCell ⟨b, 1, none⟩ u1).setCell ⟨b, 2, none⟩ u2).setCell ⟨b, 3, none⟩ u3).setCell ⟨b, 4, none⟩ u4).heap[k]? = w.heap[k]? := by
  have N := fun (w : World) (r : Nat) (u : Value) => Below.heap_setCell w ⟨b, r, none⟩ u k (by simpa using h)
  rw [N, N, N, N, N]
theorem sbox_far (w : World) (b : Nat) (u0 u1 u2 u3 u4 : Value) (c q : Nat) (h : c ≠ b) : (((((w.setCell ⟨b, 0, none⟩ u0).setCell ⟨b, 1, none⟩ u1).setCell ⟨b, 2, none⟩ u2).setCell ⟨b, 3, none⟩ u3).setCell ⟨b, 4, none⟩ u4).cell? ⟨c, q, none⟩ = w.cell? ⟨c, q, none⟩ :=
  World.cell?_of_block (a := ⟨c, q, none⟩) (sbox_heap w b c u0 u1 u2 u3 u4 h)
end Go.Proofs.Ytiopophoioiafaa
