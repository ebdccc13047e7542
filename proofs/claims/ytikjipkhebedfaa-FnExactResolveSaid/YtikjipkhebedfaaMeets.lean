/-
  Where the orders of a drawn statement 'b, n := F(..)' meet, b a binding in a variable of its own.
-/
import Derived.Test.YtikjipkhebedfaaMaxB
namespace Go.Proofs.Ytikjipkhebedfaa
open Go.RowKit

theorem gen_world {P : Program} {f : FuncId} {args : Array Value} {W : World} {Q : Ending → World → Prop} (h : ∀ W', W' = W → Calls P f args W' Q) : Calls P f args W Q := h W rfl

def Bd.Meets (w0 : World) (Y : Bd) (v : Value) (wx : World) : Prop :=
  ∃ (p : Nat) (b : Bd), v = .pointer (some ⟨p, 0, none⟩) ∧ Bd.Box wx p b ∧ Hid (Bd.er b = Y) ∧ Bd.E.Own w0.heap.size wx.heap.size wx b ∧ w0.heap.size ≤ p ∧ p < wx.heap.size ∧ Below w0.heap.size w0 wx

theorem Bd.Box.of_blk {w : World} {g : Nat} {T : TypeId} {b : Bd} (h : D.Blk w g T #[.string b.t, .slice b.sa b.s.length b.sc, .int .i64 b.k, .int .i64 b.n]) : Bd.Box w g b := by
  have h0 := h.cell 0
  have h1 := h.cell 1
  have h2 := h.cell 2
  have h3 := h.cell 3
  exact ⟨h0, h1, h2, h3⟩

theorem Bd.Meets.new {w0 w : World} {Y : Bd} {b : Bd} {T : TypeId} {lo hi : Nat} (hb : Below w0.heap.size w0 w) (hQ : Hid (Bd.er b = Y)) (ho : Bd.E.Own lo hi w b) (hhi : hi ≤ w.heap.size) (h0 : w0.heap.size ≤ lo) :
    Bd.Meets w0 Y (.pointer (some ⟨w.heap.size, 0, none⟩)) (w.alloc (.cells #[.string b.t, .slice b.sa b.s.length b.sc, .int .i64 b.k, .int .i64 b.n] T)) := by
  have hz := hb.size
  exact ⟨_, b, rfl, Bd.Box.new _ _ _, hQ, (ho.below ((Below.refl _ _).alloc hhi _)).wide h0 (by simp; omega), hz, by simp, hb.alloc hz _⟩

theorem Bd.Meets.put {w0 w : World} {Y : Bd} {b d : Bd} {T : TypeId} {g lo hi : Nat} (hb : Below w0.heap.size w0 w) (hQ : Hid (Bd.er b = Y)) (ho : Bd.E.Own lo hi w b) (hhi : hi ≤ w.heap.size) (hlo : g < lo) (h0 : w0.heap.size ≤ g)
    (h : D.Blk w g T #[.string d.t, .slice d.sa d.s.length d.sc, .int .i64 d.k, .int .i64 d.n]) :
    Bd.Meets w0 Y (.pointer (some ⟨g, 0, none⟩)) ((((w.setCell ⟨g, 0, none⟩ (.string b.t)).setCell ⟨g, 1, none⟩ (.slice b.sa b.s.length b.sc)).setCell ⟨g, 2, none⟩ (.int .i64 b.k)).setCell ⟨g, 3, none⟩ (.int .i64 b.n)) := by
  have hz := hb.size
  have hg := h.lt
  have o4 := (((ho.far (p := ⟨g, 0, none⟩) hlo (.string b.t)).far (p := ⟨g, 1, none⟩) hlo (.slice b.sa b.s.length b.sc)).far (p := ⟨g, 2, none⟩) hlo (.int .i64 b.k)).far (p := ⟨g, 3, none⟩) hlo (.int .i64 b.n)
  exact ⟨g, b, rfl, Bd.Box.of_blk (mbox_put (d := b) h), hQ, o4.wide (by omega) (by simp only [World.size_setCell]; omega), h0, by simp only [World.size_setCell]; omega,
    (((hb.setCell (by simpa using h0) _).setCell (by simpa using h0) _).setCell (by simpa using h0) _).setCell (by simpa using h0) _⟩
end Go.Proofs.Ytikjipkhebedfaa
