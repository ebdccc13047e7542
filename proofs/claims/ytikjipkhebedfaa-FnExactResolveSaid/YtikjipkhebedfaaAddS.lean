/-
  A list of bindings and one binding more, both of the call's own, made in either order, then joined.
-/
import Derived.Test.YtikjipkhebedfaaBRow
namespace Go.Proofs.Ytikjipkhebedfaa
open Go.RowKit

theorem row_below {w w' : World} {base : Nat} {v : Value} {n : Nat} {xs : List Value} {T : TypeId} {k : Nat} (h : w.ownsRow base T k v n xs) (hb : Below w.heap.size w w') : w'.ownsRow base T k v n xs :=
  h.kept (row := none) ⟨hb.os, hb.tape, hb.output, hb.size, fun k hk _ => hb.block k hk⟩ (by cases v.ownBlock <;> simp)

/-- Both stand in w. -/
structure AddSt (W1 w : World) (A : Option Addr) (c : Nat) (ds : List Bd) (d : Bd) : Prop where
  row : w.ownsRow W1.heap.size 43 4 (.slice A ds.length c) ds.length (Bd.E.cellsL ds)
  own : Bd.E.OwnL W1.heap.size w.heap.size w (ds ++ [d])
  ap : ∀ g, (Value.slice A ds.length c).ownBlock = some g → g ∉ Bd.E.blksL (ds ++ [d])
  b : Below W1.heap.size W1 w
theorem AddSt.of1 {W1 wa wb : World} {A : Option Addr} {c : Nat} {ds : List Bd} {d : Bd} (r1 : wa.ownsRow W1.heap.size 43 4 (.slice A ds.length c) ds.length (Bd.E.cellsL ds)) (r2 : Bd.E.OwnL W1.heap.size wa.heap.size wa ds)
    (r3 : ∀ g, (Value.slice A ds.length c).ownBlock = some g → g ∉ Bd.E.blksL ds) (hba : Below W1.heap.size W1 wa) (hod : Bd.E.Own wa.heap.size wb.heap.size wb d) (hbb : Below wa.heap.size wa wb) : AddSt W1 wb A c ds d := by
  have z1 := hba.size
  refine ⟨row_below r1 hbb, (r2.below hbb).snoc hod hbb.size z1, fun g hg hm => ?_, hba.trans (hbb.mono z1)⟩
  rw [Elem.blksL_append, Elem.blksL_one, List.mem_append] at hm
  have hl := r1.lt g hg
  rcases hm with hm | hm
  · exact r3 g hg hm
  · have := hod.lo_ g hm
    omega
theorem AddSt.of2 {W1 wa wc wb : World} {A : Option Addr} {c : Nat} {ds : List Bd} {d : Bd} (hod : Bd.E.Own W1.heap.size wa.heap.size wa d) (hba : Below W1.heap.size W1 wa) (hc : Below wa.heap.size wa wc)
    (r1 : wb.ownsRow wc.heap.size 43 4 (.slice A ds.length c) ds.length (Bd.E.cellsL ds)) (r2 : Bd.E.OwnL wc.heap.size wb.heap.size wb ds)
    (r3 : ∀ g, (Value.slice A ds.length c).ownBlock = some g → g ∉ Bd.E.blksL ds) (hbb : Below wc.heap.size wc wb) : AddSt W1 wb A c ds d := by
  have z1 := hba.size
  have z2 := hc.size
  have z3 := hbb.size
  have hcb : Below wa.heap.size wa wb := hc.trans (hbb.mono z2)
  have hod2 := hod.below hcb
  have hlt := hod.blk_lt
  refine ⟨⟨r1.1, r1.2.imp id fun ⟨g, cap, cur, e, hb, rest⟩ => ⟨g, cap, cur, e, by omega, rest⟩⟩, ⟨fun x hx => ?_, fun k hk => ?_, ?_, fun k hk => ?_⟩, fun g hg hm => ?_, hba.trans (hcb.mono z1)⟩
  · rcases List.mem_append.1 hx with hx | hx
    · exact r2.inn x hx
    · obtain rfl := List.mem_singleton.1 hx
      exact (hod2.wide (Nat.le_refl _) (by omega)).inn
  · rw [Elem.blksL_append, Elem.blksL_one, List.mem_append] at hk
    rcases hk with hk | hk
    · have := r2.lo_ k hk; omega
    · exact hod.lo_ k hk
  · rw [Elem.blksL_append, Elem.blksL_one, List.nodup_append]
    refine ⟨r2.nd, hod.nd, fun x hx y hy e => ?_⟩
    have h1 := r2.lo_ x hx
    have h2 := hlt y hy
    omega
  · rw [Elem.blksL_append, Elem.blksL_one, List.mem_append] at hk
    rcases hk with hk | hk
    · exact r2.fr k hk
    · exact hod2.fr k hk
  · rw [Elem.blksL_append, Elem.blksL_one, List.mem_append] at hm
    have hl := r1.lt g hg
    rcases hm with hm | hm
    · exact r3 g hg hm
    · have := hlt g hm
      omega
theorem AddSt.alloc {W1 w : World} {A : Option Addr} {c : Nat} {ds : List Bd} {d : Bd} (h : AddSt W1 w A c ds d) (o : Obj) : AddSt W1 (w.alloc o) A c ds d := by
  have hb : Below w.heap.size w (w.alloc o) := (Below.refl _ _).alloc (Nat.le_refl _) _
  exact ⟨row_below h.row hb, (h.own.below hb).wide (Nat.le_refl _) hb.size, h.ap, h.b.trans (hb.mono h.b.size)⟩
theorem AddSt.done {W1 w w5 : World} {A : Option Addr} {c : Nat} {ds : List Bd} {d : Bd} (h : AddSt W1 w A c ds d) {g cap : Nat}
    (hown : w5.ownsRow W1.heap.size 43 4 (.slice (some ⟨g, 0, none⟩) (ds.length + 1) cap) (ds.length + 1) (Bd.E.cellsL ds ++ d.cells))
    (hgr : w.grownBy w5 (Value.slice A ds.length c).ownBlock) (hat : (Value.slice A ds.length c).ownBlock = some g ∨ g = w.heap.size) :
    Bd.E.LOwn W1.heap.size w5.heap.size w5 (some ⟨g, 0, none⟩) cap (ds ++ [d]) ∧ Below W1.heap.size W1 w5 := by
  have z1 := h.b.size
  have z2 := hgr.size
  have hk : ∀ k, k ∈ Bd.E.blksL (ds ++ [d]) → w5.heap[k]? = w.heap[k]? := fun k hk => hgr.block k (h.own.blk_lt k hk) fun e => h.ap k e.symm hk
  refine ⟨bl_of_row (by rw [List.length_append, Elem.cellsL_append, Elem.cellsL_one]; exact hown) ((h.own.keepB hk).wide (Nat.le_refl _) z2) fun q hq hm => ?_, ⟨hgr.os.trans h.b.os, hgr.tape.trans h.b.tape, hgr.output.trans h.b.output, by omega, fun k hk1 => ?_⟩⟩
  · have e : g = q := Option.some.inj hq
    subst e
    rcases hat with e | e
    · exact h.ap g e hm
    · have := h.own.blk_lt g hm
      omega
  · refine (hgr.block k (by omega) fun e => ?_).trans (h.b.block k hk1)
    have := h.row.lt k e.symm
    omega
end Go.Proofs.Ytikjipkhebedfaa
