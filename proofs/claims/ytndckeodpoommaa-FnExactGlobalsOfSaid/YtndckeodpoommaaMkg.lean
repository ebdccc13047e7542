/-
  An element of a row that is being marked. Nothing of the program.
-/
import Derived.Test.YtndckeodpoommaaRecB
import Derived.Test.YtndckeodpoommaaInts
namespace Go.Proofs.Ytndckeodpoommaa
open Go.RowKit

/-- Of the element at place p of block b (n cells), whose memory lies in T: what has been written so far lies in it. -/
structure Mkg (b p n : Nat) (T : List Nat) (wr ww : World) : Prop where
  chg : Chg (b :: T) wr ww
  lt : b < wr.heap.size
  fr : ∀ q, ww.frozen? ⟨b, q, none⟩ = false
  row : ∀ q, p + n ≤ q → ww.cell? ⟨b, q, none⟩ = wr.cell? ⟨b, q, none⟩
theorem Mkg.new {b p n : Nat} {T : List Nat} {wr : World} (hb : b < wr.heap.size) (hf : ∀ q, wr.frozen? ⟨b, q, none⟩ = false) : Mkg b p n T wr wr := ⟨Chg.refl _ _, hb, hf, fun _ _ => rfl⟩
theorem Mkg.set {b p n q : Nat} {T : List Nat} {wr ww : World} (h : Mkg b p n T wr ww) (hq : q < p + n) (u : Value) : Mkg b p n T wr (ww.setCell ⟨b, q, none⟩ u) :=
  ⟨h.chg.setCell (p := ⟨b, q, none⟩) (.inl (List.mem_cons_self ..)) u, h.lt, fun k => by rw [World.frozen?_setCell]; exact h.fr k, fun k hk => by rw [icell_ne _ _ _ _ _ (by omega)]; exact h.row k hk⟩
theorem Mkg.call {b p n : Nat} {T F : List Nat} {wr ww w' : World} (h : Mkg b p n T wr ww) (hc : Chg F ww w') (hF : ∀ k ∈ F, k ∈ T) (hb : b ∉ F) : Mkg b p n T wr w' :=
  ⟨h.chg.trans (hc.mono fun k hk => List.mem_cons_of_mem _ (hF k hk)), h.lt, fun k => by rw [World.frozen?_of_block (a := ⟨b, k, none⟩) (hc.block b (Nat.lt_of_lt_of_le h.lt h.chg.size) hb)]; exact h.fr k,
    fun k hk => by rw [World.cell?_of_block (a := ⟨b, k, none⟩) (hc.block b (Nat.lt_of_lt_of_le h.lt h.chg.size) hb)]; exact h.row k hk⟩
theorem Mkg.below {b p n : Nat} {T : List Nat} {wr ww w' : World} (h : Mkg b p n T wr ww) (hc : Below ww.heap.size ww w') : Mkg b p n T wr w' :=
  h.call (F := []) (Chg.of_below hc) (by simp) (by simp)
theorem Mkg.cell {b p n q : Nat} {T F : List Nat} {wr ww w' : World} (h : Mkg b p n T wr ww) (hc : Chg F ww w') (hb : b ∉ F) : w'.cell? ⟨b, q, none⟩ = ww.cell? ⟨b, q, none⟩ :=
  World.cell?_of_block (a := ⟨b, q, none⟩) (hc.block b (Nat.lt_of_lt_of_le h.lt h.chg.size) hb)
end Go.Proofs.Ytndckeodpoommaa
