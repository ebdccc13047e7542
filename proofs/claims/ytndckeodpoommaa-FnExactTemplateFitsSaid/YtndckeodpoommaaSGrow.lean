/-
  Rows of syntax objects that grow by append; the model's l2Of.
-/
import Derived.Test.YtndckeodpoommaaSOf
import Derived.Deep.AppendLies
import Derived.Deep.RegionHeld3
import Derived.Deep.RegionLaw
namespace Go.Proofs.Ytndckeodpoommaa
open Go.RowKit

theorem sgrown_below {w w' : World} (h : Below w.heap.size w w') (row : Option Nat) : w.grownBy w' row := ⟨h.os, h.tape, h.output, h.size, fun k hk _ => h.block k hk⟩
/-- The call's own list ds behind the slice value v: the row may still grow. -/
structure GrowS (base : Nat) (w : World) (v : Value) (ds : List S) : Prop where
  row : w.ownsRow base 93 5 v ds.length (S.cellsL ds)
  own : S.OwnL base w.heap.size w ds
  apart : ∀ g, v.ownBlock = some g → g ∉ S.blksL ds

theorem GrowS.below {base : Nat} {w w' : World} {v : Value} {ds : List S} (h : GrowS base w v ds) (hb : Below w.heap.size w w') : GrowS base w' v ds :=
  ⟨h.row.kept (sgrown_below hb none) (by cases v.ownBlock <;> simp), (h.own.below hb).wide (Nat.le_refl _) hb.size, h.apart⟩
theorem scells_one (d : S) : ∀ u ∈ d.cells, u.oneCell' = true := by
  intro u hu
  simp [S.cells] at hu
  rcases hu with rfl | rfl | rfl | rfl | rfl <;> rfl
/-- What an append of one datum leaves. -/
theorem GrowS.snoc {base lo g cap : Nat} {w w1 w3 : World} {v : Value} {ds : List S} {d : S} {o : Obj} (h : GrowS base w v ds) (hbase : base ≤ w.heap.size) (hlo : lo = w.heap.size + 1) (hd : d.Own lo w1.heap.size w1) (hb : Below w.heap.size w w1)
    (hown : w3.ownsRow base 93 5 (.slice (some ⟨g, 0, none⟩) (ds.length + 1) cap) (ds.length + 1) (S.cellsL ds ++ d.cells)) (hgr : (w1.alloc o).grownBy w3 v.ownBlock) (hat : v.ownBlock = some g ∨ g = w1.heap.size + 1) (_hlt : g < w3.heap.size) :
    GrowS base w3 (.slice (some ⟨g, 0, none⟩) (ds ++ [d]).length cap) (ds ++ [d]) := by
  have hsz1 := hb.size
  have hsz3 := hgr.size
  simp only [World.size_alloc] at hsz3
  have hrow : ∀ q, v.ownBlock = some q → q < w.heap.size := fun q hq => (h.row.lt q hq).2
  have hc : S.OwnL base w1.heap.size w1 (ds ++ [d]) := h.own.snoc hb (hd.wide (by omega) (Nat.le_refl _)) hsz1 hbase
  have hne : ∀ q, q ∈ S.blksL (ds ++ [d]) → some q ≠ v.ownBlock := by
    intro q hq e
    simp only [S.blksL_append, S.blksL, List.append_nil, List.mem_append] at hq
    rcases hq with hq | hq
    · exact h.apart q e.symm hq
    · have h1 := hd.lo_ q hq
      have h2 := hrow q e.symm
      omega
  refine ⟨?_, ?_, ?_⟩
  · have e1 : (ds ++ [d]).length = ds.length + 1 := by simp
    have e2 : S.cellsL (ds ++ [d]) = S.cellsL ds ++ d.cells := by simp [S.cellsL]
    rw [e1, e2]
    exact hown
  · refine (hc.keepB fun q hq => ?_).wide (Nat.le_refl _) (by omega)
    have hlt1 := hc.inn.blk_lt q hq
    rw [hgr.block q (by simp; omega) (hne q hq)]
    exact Below.heap_alloc _ _ _ hlt1
  · intro q hq hm
    have hqg : q = g := by simpa [Value.ownBlock] using hq.symm
    subst hqg
    rcases hat with hat | hat
    · exact hne q hm hat.symm
    · have := hc.inn.blk_lt q hm
      omega

theorem GrowS.far {base : Nat} {w : World} {v : Value} {ds : List S} (h : GrowS base w v ds) {p : Addr} (hp : p.block < base) (u : Value) : GrowS base (w.setCell p u) v ds :=
  ⟨ownsRow_setCell_below h.row hp u, by simp only [World.size_setCell]; exact h.own.far hp u, h.apart⟩
/-- A round of 'out.Items = append(out.Items, ..)', out's block just below base. -/
theorem sapp_round {B out g cap : Nat} {w wr w1 w3 : World} {v u : Value} {ds : List S} {d : S} {ox o : Obj} (hG : GrowS (out + 1) wr v ds) (hout : out + 1 ≤ wr.heap.size) (hBo : B ≤ out) (hb : Below B w wr)
    (hod : d.Own (wr.heap.size + 1) w1.heap.size w1) (hb1 : Below (wr.heap.size + 1) (wr.alloc ox) w1)
    (hown : w3.ownsRow (out + 1) 93 5 (.slice (some ⟨g, 0, none⟩) (ds.length + 1) cap) (ds.length + 1) (S.cellsL ds ++ d.cells)) (hgr : (w1.alloc o).grownBy w3 v.ownBlock) (hat : v.ownBlock = some g ∨ g = w1.heap.size + 1) (hlt : g < w3.heap.size)
    (hc3 : wr.cell? ⟨out, 4, none⟩ = some u) :
    GrowS (out + 1) (w3.setCell ⟨out, 4, none⟩ (.slice (some ⟨g, 0, none⟩) (ds.length + 1) cap)) (.slice (some ⟨g, 0, none⟩) (ds.length + 1) cap) (ds ++ [d]) ∧
    (∀ q, q ≠ 4 → (w3.setCell ⟨out, 4, none⟩ (.slice (some ⟨g, 0, none⟩) (ds.length + 1) cap)).cell? ⟨out, q, none⟩ = wr.cell? ⟨out, q, none⟩) ∧
    (w3.setCell ⟨out, 4, none⟩ (.slice (some ⟨g, 0, none⟩) (ds.length + 1) cap)).cell? ⟨out, 4, none⟩ = some (.slice (some ⟨g, 0, none⟩) (ds.length + 1) cap) ∧
    (∀ q, (w3.setCell ⟨out, 4, none⟩ (.slice (some ⟨g, 0, none⟩) (ds.length + 1) cap)).frozen? ⟨out, q, none⟩ = wr.frozen? ⟨out, q, none⟩) ∧
    wr.heap.size ≤ (w3.setCell ⟨out, 4, none⟩ (.slice (some ⟨g, 0, none⟩) (ds.length + 1) cap)).heap.size ∧ Below B w (w3.setCell ⟨out, 4, none⟩ (.slice (some ⟨g, 0, none⟩) (ds.length + 1) cap)) := by
  have hbw : Below wr.heap.size wr w1 := ((Below.refl _ _).alloc (Nat.le_refl _) ox).trans (hb1.mono (by omega))
  have hz1 := hbw.size
  have hz3 := hgr.size
  simp only [World.size_alloc] at hz3
  have hne : ∀ q, v.ownBlock = some q → out + 1 ≤ q := fun q hq => (hG.row.lt q hq).1
  have hno : some out ≠ v.ownBlock := fun e => by have := hne out e.symm; omega
  have hh : w3.heap[out]? = wr.heap[out]? := by
    rw [hgr.block out (by simp; omega) hno]
    exact (Below.heap_alloc _ _ _ (by omega)).trans (hbw.block out (by omega))
  have cf : ∀ q, w3.cell? ⟨out, q, none⟩ = wr.cell? ⟨out, q, none⟩ := fun q => World.cell?_of_block (a := ⟨out, q, none⟩) hh
  have ff : ∀ q, w3.frozen? ⟨out, q, none⟩ = wr.frozen? ⟨out, q, none⟩ := fun q => World.frozen?_of_block (a := ⟨out, q, none⟩) hh
  have hG3 := hG.snoc (by omega) rfl hod hbw hown hgr hat hlt
  have e1 : (ds ++ [d]).length = ds.length + 1 := by simp
  rw [e1] at hG3
  have hb3 : Below B w w3 := ((hb.trans (hbw.mono (by omega))).alloc (by omega) o).grown hgr (by simp; omega) (fun k hk => by have := hne k hk; omega)
  refine ⟨hG3.far (by simp) _, fun q hq => ?_, ?_, fun q => ?_, by simp; omega, hb3.setCell (by simpa using hBo) _⟩
  · rw [icell_ne _ _ _ _ _ hq]; exact cf q
  · exact icell_eq ((cf 4).trans hc3)
  · rw [World.frozen?_setCell]; exact ff q


end Go.Proofs.Ytndckeodpoommaa
