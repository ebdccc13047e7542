/-
  Rows of ints that grow by append, handed on through a recursion; beside them some blocks may be written.
-/
import Derived.Test.YtpigpncbjckbcaaGreatScSets
import Derived.Deep.AppendLies
import Derived.Maps.Own
import Derived.Maps.Keyed
import Derived.Maps.Views
namespace Go.Proofs.YtpigpncbjckbcaaGreat
open Go.RowKit
def GrewN (F : List Nat) (base : Nat) (acc : List Int) (v : Value) (w : World) (v' : Value) (w' : World) : Prop :=
  w'.ownsRow base 3 1 v' acc.length (acc.map (Value.int .i64)) ∧ Chg (F ++ v.ownBlock.toList) w w' ∧ (v'.ownBlock = v.ownBlock ∨ ∀ g, v'.ownBlock = some g → w.heap.size ≤ g)
theorem GrewN.refl {F : List Nat} {base : Nat} {acc : List Int} {v : Value} {w : World} (h : w.ownsRow base 3 1 v acc.length (acc.map (Value.int .i64))) : GrewN F base acc v w v w := ⟨h, Chg.refl _ _, .inl rfl⟩
theorem GrewN.trans {F : List Nat} {base : Nat} {acc acc2 : List Int} {v v1 v2 : Value} {w w1 w2 : World} (h : GrewN F base acc v w v1 w1) (k : GrewN F base acc2 v1 w1 v2 w2) : GrewN F base acc2 v w v2 w2 := by
  obtain ⟨h1, h2, h3⟩ := h
  obtain ⟨k1, k2, k3⟩ := k
  refine ⟨k1, ⟨k2.os.trans h2.os, k2.tape.trans h2.tape, k2.output.trans h2.output, Nat.le_trans h2.size k2.size, fun b hb hn => ?_⟩, ?_⟩
  · have hF : b ∉ F := fun hm => hn (List.mem_append.2 (.inl hm))
    refine (k2.block b (Nat.lt_of_lt_of_le hb h2.size) fun hm => ?_).trans (h2.block b hb hn)
    rcases List.mem_append.1 hm with hm | hm
    · exact hF hm
    · rcases h3 with e | e
      · rw [e] at hm; exact hn (List.mem_append.2 (.inr hm))
      · have := e b (by simpa using hm); omega
  · rcases k3 with e | e
    · rw [e]; exact h3
    · exact .inr fun g hg => Nat.le_trans h2.size (e g hg)
theorem GrewN.after {F : List Nat} {base : Nat} {acc : List Int} {v v1 : Value} {w w0 w1 : World} (h : Chg F w w0) (k : GrewN F base acc v w0 v1 w1) : GrewN F base acc v w v1 w1 := by
  obtain ⟨k1, k2, k3⟩ := k
  refine ⟨k1, (h.mono fun k hk => List.mem_append.2 (.inl hk)).trans k2, ?_⟩
  rcases k3 with e | e
  · exact .inl e
  · exact .inr fun g hg => Nat.le_trans h.size (e g hg)
theorem GrewN.alloc {F : List Nat} {base : Nat} {acc : List Int} {v v1 : Value} {w w1 : World} (h : GrewN F base acc v w v1 w1) (o : Obj) : GrewN F base acc v w v1 (w1.alloc o) :=
  h.trans ⟨h.1.alloc o, (Chg.refl _ _).alloc o, .inl rfl⟩
theorem GrewN.alloc0 {F : List Nat} {base : Nat} {acc : List Int} {v : Value} {w : World} (h : w.ownsRow base 3 1 v acc.length (acc.map (Value.int .i64))) (o : Obj) : GrewN F base acc v w v (w.alloc o) := (GrewN.refl h).alloc o
theorem GrewN.snoc {F : List Nat} {base : Nat} {acc : List Int} {x : Int} {v v' : Value} {w w1 : World} {o : Obj}
    (hown' : w1.ownsRow base 3 1 v' (acc.length + 1) (acc.map (Value.int .i64) ++ [.int .i64 x])) (hgr : (w.alloc o).grownBy w1 v.ownBlock) (hat : v'.ownBlock = v.ownBlock ∨ ∀ g, v'.ownBlock = some g → w.heap.size ≤ g) : GrewN F base (acc ++ [x]) v w v' w1 := by
  refine ⟨by simpa using hown', ⟨hgr.os, hgr.tape, hgr.output, by have := hgr.size; simp at this; omega, fun b hb hn => ?_⟩, hat⟩
  rw [hgr.block b (by simp; omega) (fun e => hn (List.mem_append.2 (.inr (by rw [← e]; simp))))]
  exact Below.heap_alloc _ _ _ hb
theorem GrewN.cat {F : List Nat} {base : Nat} {acc l : List Int} {v v' : Value} {w w1 : World}
    (hown' : w1.ownsRow base 3 1 v' (acc.length + l.length) (acc.map (Value.int .i64) ++ l.map (Value.int .i64))) (hgr : w.grownBy w1 v.ownBlock) (hat : v'.ownBlock = v.ownBlock ∨ v'.ownBlock = some w.heap.size) : GrewN F base (acc ++ l) v w v' w1 := by
  refine ⟨by simpa using hown', ⟨hgr.os, hgr.tape, hgr.output, hgr.size, fun b hb hn => ?_⟩, ?_⟩
  · exact hgr.block b hb (fun e => hn (List.mem_append.2 (.inr (by rw [← e]; simp))))
  · rcases hat with e | e
    · exact .inl e
    · exact .inr fun g hg => by rw [e] at hg; have := Option.some.inj hg; omega
theorem GrewN.set_ {F : List Nat} {base : Nat} {acc : List Int} {v v1 : Value} {w w1 : World} (h : GrewN F base acc v w v1 w1) {p : Addr} (hp : p.block ∈ F) (hb : p.block < base) (u : Value) : GrewN F base acc v w v1 (w1.setCell p u) := by
  refine ⟨?_, h.2.1.setCell (.inl (List.mem_append.2 (.inl hp))) u, h.2.2⟩
  obtain ⟨h1, h2⟩ := h.1
  refine ⟨h1, ?_⟩
  rcases h2 with e | ⟨g, cap, cur, e, hg, hh, rest⟩
  · exact .inl e
  · exact .inr ⟨g, cap, cur, e, hg, (Below.heap_setCell _ _ _ _ (by omega)).trans hh, rest⟩
theorem GrewN.below {F : List Nat} {base B : Nat} {acc : List Int} {v v1 : Value} {w w1 : World} (h : GrewN F base acc v w v1 w1) (hF : ∀ k ∈ F, B ≤ k) (hv : ∀ g, v.ownBlock = some g → B ≤ g) (hB : B ≤ w.heap.size) : Below B w w1 :=
  h.2.1.below (fun k hk => by
    rcases List.mem_append.1 hk with hk | hk
    · exact hF k hk
    · exact hv k (by simpa using hk)) hB
theorem GrewN.block {F : List Nat} {base : Nat} {acc : List Int} {v v1 : Value} {w w1 : World} (h : GrewN F base acc v w v1 w1) {b : Nat} (hb : b < w.heap.size) (hF : b ∉ F) (hv : v.ownBlock ≠ some b) : w1.heap[b]? = w.heap[b]? :=
  h.2.1.block b hb fun hm => by
    rcases List.mem_append.1 hm with hm | hm
    · exact hF hm
    · exact hv (by simpa using hm)
theorem GrewN.off {F : List Nat} {base : Nat} {acc : List Int} {v v1 : Value} {w w1 : World} (h : GrewN F base acc v w v1 w1) {b : Nat} (hb : b < w.heap.size) (hv : v.ownBlock ≠ some b) : v1.ownBlock ≠ some b := by
  rcases h.2.2 with e | e
  · rw [e]; exact hv
  · intro hh; have := e b hh; omega
end Go.Proofs.YtpigpncbjckbcaaGreat
namespace Go.Proofs.YtpigpncbjckbcaaGreat
open Go.RowKit Go.Maps Go.WideMaps Go.ChangeMaps
def readI (v : Value) : Option (DataW Value × List MemPlace) := some (.held v, [])
def updI (f : Int → Value) (k : Int) (x : Value) : Int → Value := fun u => if u = k then x else f u
def IMap (w : World) (z : Value) (M n : Nat) (f : Int → Value) : Prop :=
  ∃ D, w.ownsMap Tryz.prog 3 readI M n D ∧ IsMap D ∧ ∀ k : Int, D.atKey (.int .i64 k) (.held z) = .held (f k)
theorem keyedI : Keyed Tryz.prog 3 := int_keyed Tryz.underlying3
theorem IMap.new (w : World) (z : Value) : IMap (w.alloc (.map #[] 0)) z w.heap.size 0 (fun _ => z) := ⟨_, World.ownsMap_made _ _ _ _, isMap_empty, fun _ => rfl⟩
theorem IMap.lt {w : World} {z : Value} {M n : Nat} {f : Int → Value} (h : IMap w z M n f) : M < w.heap.size := by
  obtain ⟨D, h, _⟩ := h
  exact h.lt
theorem IMap.keep {w w' : World} {z : Value} {M n : Nat} {f : Int → Value} (h : IMap w z M n f) (e : w'.heap[M]? = w.heap[M]?) : IMap w' z M n f := by
  obtain ⟨D, ⟨es, clock, hb, rest⟩, h2, h3⟩ := h
  exact ⟨D, ⟨es, clock, e.trans hb, rest⟩, h2, h3⟩
theorem IMap.mono {w : World} {z : Value} {M n n' : Nat} {f : Int → Value} (h : IMap w z M n f) (hn : n ≤ n') : IMap w z M n' f := by
  obtain ⟨D, h1, h2, h3⟩ := h
  exact ⟨D, h1.mono hn, h2, h3⟩
theorem IMap.look {w : World} {z : Value} {M n : Nat} {f : Int → Value} {t e : TypeId} (h : IMap w z M n f) (ht : Tryz.prog.underlying t = some (.map 3 e)) (hz : (zeroValue e).run Tryz.prog w = .ok z w) {k : Int} (hk : (Lit.int .i64 k).wf = true) :
    (Instr.lookup t (.map (some M)) (.int .i64 k) false).run Tryz.prog w = .ok (f k) w := by
  obtain ⟨D, h1, h2, h3⟩ := h
  obtain ⟨v, ps, hrun, hv⟩ := h1.lookup keyedI ht hz (zd := .held z) (zp := []) rfl (keyOf_int_mk Tryz.underlying3 hk)
  rw [h3 k] at hv
  simp only [readI, Option.some.injEq, Prod.mk.injEq, DataW.held.injEq] at hv
  rw [hrun, hv.1]
theorem IMap.put {w : World} {z : Value} {M n : Nat} {f : Int → Value} {t e : TypeId} (h : IMap w z M n f) (ht : Tryz.prog.underlying t = some (.map 3 e)) (hn : n < maxLen) {k : Int} (hk : (Lit.int .i64 k).wf = true) (x : Value) :
    ∃ w2, (Instr.mapUpdate t (.map (some M)) (.int .i64 k) x).run Tryz.prog w = .ok () w2 ∧ IMap w2 z M (n + 1) (updI f k x) ∧ w.grownBy w2 (some M) := by
  obtain ⟨D, h1, h2, h3⟩ := h
  obtain ⟨w2, hrun, hm2, hg2⟩ := h1.update keyedI ht hn (keyOf_int_mk Tryz.underlying3 hk) (val := x) (d := .held x) (ps := []) rfl
  refine ⟨w2, hrun, ⟨_, hm2, h2.put _ _, fun u => ?_⟩, hg2⟩
  unfold updI
  by_cases e : u = k
  · subst e
    rw [if_pos rfl]
    exact atKey_put_same h2 (show WideAt.IsKeyLit (Lit.int .i64 u) from True.intro) _ _
  · rw [if_neg e]
    have hne : Lit.int .i64 u ≠ Lit.int .i64 k := fun hh => e (Lit.int.inj hh).2
    exact (atKey_put_other hne _ _).trans (h3 u)
theorem chg_of_grown {F : List Nat} {w w' : World} {M : Nat} (h : w.grownBy w' (some M)) (hM : M ∈ F) : Chg F w w' :=
  ⟨h.os, h.tape, h.output, h.size, fun k hk hn => h.block k hk (fun e => hn (by rw [Option.some.inj e]; exact hM))⟩
end Go.Proofs.YtpigpncbjckbcaaGreat
