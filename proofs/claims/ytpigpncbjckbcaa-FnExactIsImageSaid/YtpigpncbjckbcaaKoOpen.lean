/-
  An argument of the type []int, opened: its numbers are ints.
-/
import Derived.Test.YtpigpncbjckbcaaPosts
import Derived.Test.YtpigpncbjckbcaaKoBase
namespace Go.Proofs.Ytpigpncbjckbcaa
open Go.ChangeShapes Go.WideShapes Go.ChangeAt Go.RowKit

set_option maxRecDepth 100000 in
theorem open_introwf {H : Type} {enc : TypeId × Value → H} {w : World} {base : Nat} {spare : Nat → Bool} {held : Bool} {fuel : Nat} {cs : List Value} {x : DataW H × List MemPlace} (h : DataW.trod enc Try.prog w base spare held fuel 36 cs = some x) :
    ∃ (A : Option Addr) (c : Nat) (l : List Int), cs = [.slice A l.length c] ∧ IIn w w.heap.size A c l ∧ ∀ i ∈ l, (Lit.int .i64 i).wf = true := by
  rcases Go.ChangeShapes.open_ints (k := .i64) Try.underlying36 Try.underlying3 (by kernel_rfl) h with ⟨rfl, _⟩ | ⟨a, len, cap, zs, rfl, _, hl, hm, hz, _, hc, hwf⟩
  · exact ⟨none, 0, [], rfl, IIn.nil_ (by omega) (fun _ => rfl), by simp⟩
  · have hzl : len ≤ zs.length := by rw [hz]; split <;> omega
    refine ⟨some a, cap, zs.take len, by rw [List.length_take, Nat.min_eq_left hzl], ⟨by rw [List.length_take, Nat.min_eq_left hzl]; exact ⟨hl, hm⟩, by simp, fun hne => ?_⟩, fun i hi => hwf i (List.mem_of_mem_take hi)⟩
    have hpos : 0 < len := by
      rcases Nat.eq_zero_or_pos len with h0 | h0
      · subst h0; simp at hne
      · exact h0
    have h0 := hc 0 (by omega)
    have hsp : a.spot = none := by
      have := spot_of_cell h0
      simpa [Addr.add] using this
    refine ⟨a.block, a.off, by rw [← hsp], ?_, fun j u hu => ?_⟩
    · have := World.block_lt_of_cell? w _ h0
      simpa [Addr.add] using this
    · rw [List.getElem?_take] at hu
      split at hu
      · rename_i hj
        have hj' : j < zs.length := by omega
        have hcj := hc j hj'
        rw [add_plain a hsp] at hcj
        rw [hcj]
        simp [hu]
      · cases hu
set_option maxRecDepth 100000 in
theorem open_intwl {H : Type} {enc : TypeId × Value → H} {w : World} {r : Reach} {b0 base : Nat} {spare : Nat → Bool} {held : Bool} {v : Value} {x : DataW H} {ps : List MemPlace} (hv : Value.okWide Try.prog w r b0 36 v) (h : DataW.Trod enc Try.prog w base spare held 36 v x ps) :
    ∃ (A : Option Addr) (c : Nat) (l : List Int), v = .slice A l.length c ∧ IIn w w.heap.size A c l ∧ ∀ i ∈ l, (Lit.int .i64 i).wf = true := by
  obtain ⟨a, len, cap, rfl⟩ := okWide_slice Try.underlying36 hv
  obtain ⟨fuel, hf⟩ := h
  obtain ⟨A, c, l, e, hin⟩ := open_introwf hf
  have e' : Value.slice a len cap = .slice A l.length c := by simpa [Value.cells] using e
  exact ⟨A, c, l, e', hin⟩
end Go.Proofs.Ytpigpncbjckbcaa

namespace Go.Proofs.Ytpigpncbjckbcaa
open Go.ChangeShapes Go.WideShapes Go.ChangeAt Go.RowKit

set_option maxRecDepth 100000 in
theorem open_Dcells {H : Type} {enc : TypeId × Value → H} {w : World} {base : Nat} {spare : Nat → Bool} {held : Bool} {fuel : Nat} {v0 v1 v2 v3 : Value} {x : DataW H × List MemPlace} (ht : DataW.trod enc Try.prog w base spare held fuel 98 [v0, v1, v2, v3] = some x) :
    ∃ d : D, [v0, v1, v2, v3] = d.cells ∧ d.In w w.heap.size := by
  have c3 : Try.prog.cellsOf 3 = 1 := by kernel_rfl
  have c9 : Try.prog.cellsOf 9 = 1 := by kernel_rfl
  have c40 : Try.prog.cellsOf 96 = 1 := by kernel_rfl
  obtain ⟨xs, n', rfl, _, hcl, hxl, hf⟩ := DataW.trod_struct Try.underlying98 ht
  have g0 := hf 0 _ rfl
  have g1 := hf 1 _ rfl
  have g2 := hf 2 _ rfl
  have g3 := hf 3 _ rfl
  have hxl' : xs.length = 4 := hxl
  change DataW.trod enc Try.prog w base spare held n' 3 (List.take (Try.prog.cellsOf 3) [v0, v1, v2, v3]) = xs[0]? at g0
  change DataW.trod enc Try.prog w base spare held n' 3 (List.take (Try.prog.cellsOf 3) [v1, v2, v3]) = xs[1]? at g1
  change DataW.trod enc Try.prog w base spare held n' 9 (List.take (Try.prog.cellsOf 9) [v2, v3]) = xs[2]? at g2
  change DataW.trod enc Try.prog w base spare held n' 96 (List.take (Try.prog.cellsOf 96) [v3]) = xs[3]? at g3
  rw [c3, List.getElem?_eq_getElem (by omega)] at g0 g1
  rw [c9, List.getElem?_eq_getElem (by omega)] at g2
  rw [c40, List.getElem?_eq_getElem (by omega)] at g3
  obtain ⟨k, e0, _⟩ := DataW.trod_int Try.underlying3 g0
  obtain ⟨nn, e1, _⟩ := DataW.trod_int Try.underlying3 g1
  obtain ⟨s, e2, _, hs⟩ := DataW.trod_string Try.underlying9 g2
  obtain ⟨A, c, l, e3, hin⟩ := open_cells n' _ _ g3
  simp at e0 e1 e2 e3
  subst e0 e1 e2 e3
  exact ⟨.mk k nn s A c l, rfl, ⟨⟨hin.1.1, hin.1.2.1, hs⟩, hin.2.1, hin.2.2⟩⟩
end Go.Proofs.Ytpigpncbjckbcaa

namespace Go.Proofs.Ytpigpncbjckbcaa
open Go.ChangeShapes Go.WideShapes Go.ChangeAt Go.RowKit

end Go.Proofs.Ytpigpncbjckbcaa
