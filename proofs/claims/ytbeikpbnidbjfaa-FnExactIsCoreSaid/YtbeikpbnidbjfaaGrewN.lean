/-
  Rows of ints that grow by append, handed on through a recursion; beside them some blocks may be written.
-/
import Derived.Test.YtbeikpbnidbjfaaScSets
import Derived.Deep.AppendLies
namespace Go.Proofs.Ytbeikpbnidbjfaa
open Go.RowKit

/-- What a collecting call leaves: its row has grown; nothing else that was there has changed but the blocks of F. -/
def GrewN (F : List Nat) (base : Nat) (acc : List Int) (v : Value) (w : World) (v' : Value) (w' : World) : Prop :=
  w'.ownsRow base 3 1 v' acc.length (acc.map (Value.int .i64)) ∧ Chg (F ++ v.ownBlock.toList) w w' ∧ (v'.ownBlock = v.ownBlock ∨ ∀ g, v'.ownBlock = some g → w.heap.size ≤ g)
theorem GrewN.refl {F : List Nat} {base : Nat} {acc : List Int} {v : Value} {w : World} (h : w.ownsRow base 3 1 v acc.length (acc.map (Value.int .i64))) : GrewN F base acc v w v w := ⟨h, Chg.refl _ _, .inl rfl⟩
theorem GrewN.trans {F : List Nat} {base : Nat} {acc acc2 : List Int} {v v1 v2 : Value} {w w1 w2 : World} (h : GrewN F base acc v w v1 w1) (k : GrewN F base acc2 v1 w1 v2 w2) : GrewN F base acc2 v w v2 w2 := by
  obtain ⟨h1, h2, h3⟩ := h
  obtain ⟨k1, k2, k3⟩ := k
  refine ⟨k1, ⟨k2.os.trans h2.os, k2.tape.trans h2.tape, k2.output.trans h2.output, Nat.le_trans h2.size k2.size, fun b hb hn => ?_⟩, ?_⟩
  · have hF : b ∉ F := fun hm => hn (List.mem_append.2 (.inl hm))
    refine (k2.block b (Nat.lt_of_lt_of_le hb h2.size) fun hm => ?_).trans (h2.block b hb hn)
    rcases List.mem_append.1 hm with hm | hm
    · exact hF hm
    · rcases h3 with e | e
      · rw [e] at hm; exact hn (List.mem_append.2 (.inr hm))
      · have := e b (by simpa using hm); omega
  · rcases k3 with e | e
    · rw [e]; exact h3
    · exact .inr fun g hg => Nat.le_trans h2.size (e g hg)
/-- The world has changed elsewhere first. -/
theorem GrewN.after {F : List Nat} {base : Nat} {acc : List Int} {v v1 : Value} {w w0 w1 : World} (h : Chg F w w0) (k : GrewN F base acc v w0 v1 w1) : GrewN F base acc v w v1 w1 := by
  obtain ⟨k1, k2, k3⟩ := k
  refine ⟨k1, (h.mono fun k hk => List.mem_append.2 (.inl hk)).trans k2, ?_⟩
  rcases k3 with e | e
  · exact .inl e
  · exact .inr fun g hg => Nat.le_trans h.size (e g hg)
theorem GrewN.alloc {F : List Nat} {base : Nat} {acc : List Int} {v v1 : Value} {w w1 : World} (h : GrewN F base acc v w v1 w1) (o : Obj) : GrewN F base acc v w v1 (w1.alloc o) :=
  h.trans ⟨h.1.alloc o, (Chg.refl _ _).alloc o, .inl rfl⟩
theorem GrewN.alloc0 {F : List Nat} {base : Nat} {acc : List Int} {v : Value} {w : World} (h : w.ownsRow base 3 1 v acc.length (acc.map (Value.int .i64))) (o : Obj) : GrewN F base acc v w v (w.alloc o) := (GrewN.refl h).alloc o
/-- One int more. -/
theorem GrewN.snoc {F : List Nat} {base : Nat} {acc : List Int} {x : Int} {v v' : Value} {w w1 : World} {o : Obj}
    (hown' : w1.ownsRow base 3 1 v' (acc.length + 1) (acc.map (Value.int .i64) ++ [.int .i64 x])) (hgr : (w.alloc o).grownBy w1 v.ownBlock) (hat : v'.ownBlock = v.ownBlock ∨ ∀ g, v'.ownBlock = some g → w.heap.size ≤ g) : GrewN F base (acc ++ [x]) v w v' w1 := by
  refine ⟨by simpa using hown', ⟨hgr.os, hgr.tape, hgr.output, by have := hgr.size; simp at this; omega, fun b hb hn => ?_⟩, hat⟩
  rw [hgr.block b (by simp; omega) (fun e => hn (List.mem_append.2 (.inr (by rw [← e]; simp))))]
  exact Below.heap_alloc _ _ _ hb
/-- A list more. -/
theorem GrewN.cat {F : List Nat} {base : Nat} {acc l : List Int} {v v' : Value} {w w1 : World}
    (hown' : w1.ownsRow base 3 1 v' (acc.length + l.length) (acc.map (Value.int .i64) ++ l.map (Value.int .i64))) (hgr : w.grownBy w1 v.ownBlock) (hat : v'.ownBlock = v.ownBlock ∨ v'.ownBlock = some w.heap.size) : GrewN F base (acc ++ l) v w v' w1 := by
  refine ⟨by simpa using hown', ⟨hgr.os, hgr.tape, hgr.output, hgr.size, fun b hb hn => ?_⟩, ?_⟩
  · exact hgr.block b hb (fun e => hn (List.mem_append.2 (.inr (by rw [← e]; simp))))
  · rcases hat with e | e
    · exact .inl e
    · exact .inr fun g hg => by rw [e] at hg; have := Option.some.inj hg; omega
/-- A store into a block of F. -/
theorem GrewN.set_ {F : List Nat} {base : Nat} {acc : List Int} {v v1 : Value} {w w1 : World} (h : GrewN F base acc v w v1 w1) {p : Addr} (hp : p.block ∈ F) (hb : p.block < base) (u : Value) : GrewN F base acc v w v1 (w1.setCell p u) := by
  refine ⟨?_, h.2.1.setCell (.inl (List.mem_append.2 (.inl hp))) u, h.2.2⟩
  obtain ⟨h1, h2⟩ := h.1
  refine ⟨h1, ?_⟩
  rcases h2 with e | ⟨g, cap, cur, e, hg, hh, rest⟩
  · exact .inl e
  · exact .inr ⟨g, cap, cur, e, hg, (Below.heap_setCell _ _ _ _ (by omega)).trans hh, rest⟩
theorem GrewN.below {F : List Nat} {base B : Nat} {acc : List Int} {v v1 : Value} {w w1 : World} (h : GrewN F base acc v w v1 w1) (hF : ∀ k ∈ F, B ≤ k) (hv : ∀ g, v.ownBlock = some g → B ≤ g) (hB : B ≤ w.heap.size) : Below B w w1 :=
  h.2.1.below (fun k hk => by
    rcases List.mem_append.1 hk with hk | hk
    · exact hF k hk
    · exact hv k (by simpa using hk)) hB
/-- A block that is neither in F nor the row's. -/
theorem GrewN.block {F : List Nat} {base : Nat} {acc : List Int} {v v1 : Value} {w w1 : World} (h : GrewN F base acc v w v1 w1) {b : Nat} (hb : b < w.heap.size) (hF : b ∉ F) (hv : v.ownBlock ≠ some b) : w1.heap[b]? = w.heap[b]? :=
  h.2.1.block b hb fun hm => by
    rcases List.mem_append.1 hm with hm | hm
    · exact hF hm
    · exact hv (by simpa using hm)
/-- .. and it is not the row's afterwards either. -/
theorem GrewN.off {F : List Nat} {base : Nat} {acc : List Int} {v v1 : Value} {w w1 : World} (h : GrewN F base acc v w v1 w1) {b : Nat} (hb : b < w.heap.size) (hv : v.ownBlock ≠ some b) : v1.ownBlock ≠ some b := by
  rcases h.2.2 with e | e
  · rw [e]; exact hv
  · intro hh; have := e b hh; omega
theorem irow_base {w : World} {base : Nat} {v : Value} {acc : List Int} (h : w.ownsRow base 3 1 v acc.length (acc.map (Value.int .i64))) : ∀ g, v.ownBlock = some g → base ≤ g ∧ g < w.heap.size := fun g hg => h.lt g hg
end Go.Proofs.Ytbeikpbnidbjfaa
