/-
  Maps from ints, of the call's own: what is found at each key.
-/
import Derived.Test.YtbeikpbnidbjfaaGrewN
import Derived.Maps.Own
import Derived.Maps.Keyed
import Derived.Maps.Views
namespace Go.Proofs.Ytbeikpbnidbjfaa
open Go.RowKit Go.Maps Go.WideMaps Go.ChangeMaps

/-- What a map's element reads as: itself. -/
def readI (v : Value) : Option (DataW Value × List MemPlace) := some (.held v, [])
/-- A function changed at a place. -/
def updI (f : Int → Value) (k : Int) (x : Value) : Int → Value := fun u => if u = k then x else f u
/-- Block M is a map of at most n entries: at the key k lies f k, or, where there is none, the zero value z is f k. -/
def IMap (w : World) (z : Value) (M n : Nat) (f : Int → Value) : Prop :=
  ∃ D, w.ownsMap Try.prog 3 readI M n D ∧ IsMap D ∧ ∀ k : Int, D.atKey (.int .i64 k) (.held z) = .held (f k)
theorem keyedI : Keyed Try.prog 3 := int_keyed Try.underlying3
theorem IMap.new (w : World) (z : Value) : IMap (w.alloc (.map #[] 0)) z w.heap.size 0 (fun _ => z) := ⟨_, World.ownsMap_made _ _ _ _, isMap_empty, fun _ => rfl⟩
theorem IMap.lt {w : World} {z : Value} {M n : Nat} {f : Int → Value} (h : IMap w z M n f) : M < w.heap.size := by
  obtain ⟨D, h, _⟩ := h
  exact h.lt
theorem IMap.keep {w w' : World} {z : Value} {M n : Nat} {f : Int → Value} (h : IMap w z M n f) (e : w'.heap[M]? = w.heap[M]?) : IMap w' z M n f := by
  obtain ⟨D, ⟨es, clock, hb, rest⟩, h2, h3⟩ := h
  exact ⟨D, ⟨es, clock, e.trans hb, rest⟩, h2, h3⟩
theorem IMap.mono {w : World} {z : Value} {M n n' : Nat} {f : Int → Value} (h : IMap w z M n f) (hn : n ≤ n') : IMap w z M n' f := by
  obtain ⟨D, h1, h2, h3⟩ := h
  exact ⟨D, h1.mono hn, h2, h3⟩
theorem IMap.look {w : World} {z : Value} {M n : Nat} {f : Int → Value} {t e : TypeId} (h : IMap w z M n f) (ht : Try.prog.underlying t = some (.map 3 e)) (hz : (zeroValue e).run Try.prog w = .ok z w) {k : Int} (hk : (Lit.int .i64 k).wf = true) :
    (Instr.lookup t (.map (some M)) (.int .i64 k) false).run Try.prog w = .ok (f k) w := by
  obtain ⟨D, h1, h2, h3⟩ := h
  obtain ⟨v, ps, hrun, hv⟩ := h1.lookup keyedI ht hz (zd := .held z) (zp := []) rfl (keyOf_int_mk Try.underlying3 hk)
  rw [h3 k] at hv
  simp only [readI, Option.some.injEq, Prod.mk.injEq, DataW.held.injEq] at hv
  rw [hrun, hv.1]
theorem IMap.put {w : World} {z : Value} {M n : Nat} {f : Int → Value} {t e : TypeId} (h : IMap w z M n f) (ht : Try.prog.underlying t = some (.map 3 e)) (hn : n < maxLen) {k : Int} (hk : (Lit.int .i64 k).wf = true) (x : Value) :
    ∃ w2, (Instr.mapUpdate t (.map (some M)) (.int .i64 k) x).run Try.prog w = .ok () w2 ∧ IMap w2 z M (n + 1) (updI f k x) ∧ w.grownBy w2 (some M) := by
  obtain ⟨D, h1, h2, h3⟩ := h
  obtain ⟨w2, hrun, hm2, hg2⟩ := h1.update keyedI ht hn (keyOf_int_mk Try.underlying3 hk) (val := x) (d := .held x) (ps := []) rfl
  refine ⟨w2, hrun, ⟨_, hm2, h2.put _ _, fun u => ?_⟩, hg2⟩
  unfold updI
  by_cases e : u = k
  · subst e
    rw [if_pos rfl]
    exact atKey_put_same h2 (show WideAt.IsKeyLit (Lit.int .i64 u) from True.intro) _ _
  · rw [if_neg e]
    have hne : Lit.int .i64 u ≠ Lit.int .i64 k := fun hh => e (Lit.int.inj hh).2
    exact (atKey_put_other hne _ _).trans (h3 u)
/-- What a growing by one row or block leaves. -/
theorem chg_of_grown {F : List Nat} {w w' : World} {M : Nat} (h : w.grownBy w' (some M)) (hM : M ∈ F) : Chg F w w' :=
  ⟨h.os, h.tape, h.output, h.size, fun k hk hn => h.block k hk (fun e => hn (by rw [Option.some.inj e]; exact hM))⟩
theorem chg_of_grown0 {F : List Nat} {w w' : World} (h : w.grownBy w' none) : Chg F w w' := ⟨h.os, h.tape, h.output, h.size, fun k hk _ => h.block k hk (by simp)⟩
end Go.Proofs.Ytbeikpbnidbjfaa
