/-
  An argument of the type []int, opened: its numbers are ints.
-/
import Derived.Test.YtnldlbglgalbaabPosts
import Derived.Test.YtnldlbglgalbaabKoBase
namespace Go.Proofs.Ytnldlbglgalbaab
open Go.ChangeShapes Go.WideShapes Go.ChangeAt Go.RowKit

set_option maxRecDepth 100000 in
theorem open_introwf {H : Type} {enc : TypeId × Value → H} {w : World} {base : Nat} {spare : Nat → Bool} {held : Bool} {fuel : Nat} {cs : List Value} {x : DataW H × List MemPlace} (h : DataW.trod enc Try.prog w base spare held fuel 57 cs = some x) :
    ∃ (A : Option Addr) (c : Nat) (l : List Int), cs = [.slice A l.length c] ∧ IIn w w.heap.size A c l ∧ ∀ i ∈ l, (Lit.int .i64 i).wf = true := by
  rcases Go.ChangeShapes.open_ints (k := .i64) Try.underlying57 Try.underlying3 (by kernel_rfl) h with ⟨rfl, _⟩ | ⟨a, len, cap, zs, rfl, _, hl, hm, hz, _, hc, hwf⟩
  · exact ⟨none, 0, [], rfl, IIn.nil_ (by omega) (fun _ => rfl), by simp⟩
  · have hzl : len ≤ zs.length := by rw [hz]; split <;> omega
    refine ⟨some a, cap, zs.take len, by rw [List.length_take, Nat.min_eq_left hzl], ⟨by rw [List.length_take, Nat.min_eq_left hzl]; exact ⟨hl, hm⟩, by simp, fun hne => ?_⟩, fun i hi => hwf i (List.mem_of_mem_take hi)⟩
    have hpos : 0 < len := by
      rcases Nat.eq_zero_or_pos len with h0 | h0
      · subst h0; simp at hne
      · exact h0
    have h0 := hc 0 (by omega)
    have hsp : a.spot = none := by
      have := spot_of_cell h0
      simpa [Addr.add] using this
    refine ⟨a.block, a.off, by rw [← hsp], ?_, fun j u hu => ?_⟩
    · have := World.block_lt_of_cell? w _ h0
      simpa [Addr.add] using this
    · rw [List.getElem?_take] at hu
      split at hu
      · rename_i hj
        have hj' : j < zs.length := by omega
        have hcj := hc j hj'
        rw [add_plain a hsp] at hcj
        rw [hcj]
        simp [hu]
      · cases hu
set_option maxRecDepth 100000 in
theorem open_intwl {H : Type} {enc : TypeId × Value → H} {w : World} {r : Reach} {b0 base : Nat} {spare : Nat → Bool} {held : Bool} {v : Value} {x : DataW H} {ps : List MemPlace} (hv : Value.okWide Try.prog w r b0 57 v) (h : DataW.Trod enc Try.prog w base spare held 57 v x ps) :
    ∃ (A : Option Addr) (c : Nat) (l : List Int), v = .slice A l.length c ∧ IIn w w.heap.size A c l ∧ ∀ i ∈ l, (Lit.int .i64 i).wf = true := by
  obtain ⟨a, len, cap, rfl⟩ := okWide_slice Try.underlying57 hv
  obtain ⟨fuel, hf⟩ := h
  obtain ⟨A, c, l, e, hin⟩ := open_introwf hf
  have e' : Value.slice a len cap = .slice A l.length c := by simpa [Value.cells] using e
  exact ⟨A, c, l, e', hin⟩
end Go.Proofs.Ytnldlbglgalbaab

namespace Go.Proofs.Ytnldlbglgalbaab
open Go.ChangeShapes Go.WideShapes Go.ChangeAt Go.RowKit

end Go.Proofs.Ytnldlbglgalbaab

namespace Go.Proofs.Ytnldlbglgalbaab
open Go.ChangeShapes Go.WideShapes Go.ChangeAt Go.RowKit

end Go.Proofs.Ytnldlbglgalbaab
