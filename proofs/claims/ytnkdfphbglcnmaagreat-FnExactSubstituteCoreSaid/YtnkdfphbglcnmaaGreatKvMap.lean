/-
  Maps from ints, of the call's own, asked with 'ok': what is found, and whether.
-/
import Derived.Test.YtnkdfphbglcnmaaGreatNMaps
import Derived.Test.YtnkdfphbglcnmaaGreatKoFree
namespace Go.Proofs.YtnkdfphbglcnmaaGreat
open Go.RowKit Go.Maps Go.WideMaps Go.ChangeMaps
def updO (f : Int → Option Value) (k : Int) (x : Value) : Int → Option Value := fun u => if u = k then some x else f u
def IMapO (w : World) (M n : Nat) (f : Int → Option Value) : Prop :=
  ∃ D, w.ownsMap Tryz.prog 3 readI M n D ∧ IsMap D ∧ ∀ k : Int, Maps.has D (.int .i64 k) = (f k).isSome ∧ ∀ z : Value, D.atKey (.int .i64 k) (.held z) = .held ((f k).getD z)
theorem IMapO.new (w : World) : IMapO (w.alloc (.map #[] 0)) w.heap.size 0 (fun _ => none) := ⟨_, World.ownsMap_made _ _ _ _, isMap_empty, fun _ => ⟨rfl, fun _ => rfl⟩⟩
theorem IMapO.lt {w : World} {M n : Nat} {f : Int → Option Value} (h : IMapO w M n f) : M < w.heap.size := by
  obtain ⟨D, h, _⟩ := h
  exact h.lt
theorem IMapO.keep {w w' : World} {M n : Nat} {f : Int → Option Value} (h : IMapO w M n f) (e : w'.heap[M]? = w.heap[M]?) : IMapO w' M n f := by
  obtain ⟨D, ⟨es, clock, hb, rest⟩, h2, h3⟩ := h
  exact ⟨D, ⟨es, clock, e.trans hb, rest⟩, h2, h3⟩
theorem IMapO.look {w : World} {M n : Nat} {f : Int → Option Value} {t e : TypeId} (h : IMapO w M n f) (ht : Tryz.prog.underlying t = some (.map 3 e)) {z : Value} (hz : (zeroValue e).run Tryz.prog w = .ok z w) {k : Int} (hk : (Lit.int .i64 k).wf = true) :
    (Instr.lookup t (.map (some M)) (.int .i64 k) true).run Tryz.prog w = .ok (.tuple #[(f k).getD z, .bool (f k).isSome]) w := by
  obtain ⟨D, h1, h2, h3⟩ := h
  obtain ⟨v, ps, hrun, hv⟩ := h1.look_ok keyedI ht hz (zd := .held z) (zp := []) rfl (keyOf_int_mk Tryz.underlying3 hk)
  rw [(h3 k).2 z] at hv
  simp only [readI, Option.some.injEq, Prod.mk.injEq, DataW.held.injEq] at hv
  rw [hrun, hv.1, (h3 k).1]
theorem IMapO.put {w : World} {M n : Nat} {f : Int → Option Value} {t e : TypeId} (h : IMapO w M n f) (ht : Tryz.prog.underlying t = some (.map 3 e)) (hn : n < maxLen) {k : Int} (hk : (Lit.int .i64 k).wf = true) (x : Value) :
    ∃ w2, (Instr.mapUpdate t (.map (some M)) (.int .i64 k) x).run Tryz.prog w = .ok () w2 ∧ IMapO w2 M (n + 1) (updO f k x) ∧ w.grownBy w2 (some M) := by
  obtain ⟨D, h1, h2, h3⟩ := h
  obtain ⟨w2, hrun, hm2, hg2⟩ := h1.update keyedI ht hn (keyOf_int_mk Tryz.underlying3 hk) (val := x) (d := .held x) (ps := []) rfl
  refine ⟨w2, hrun, ⟨_, hm2, h2.put _ _, fun u => ?_⟩, hg2⟩
  unfold updO
  by_cases e : u = k
  · subst e
    rw [if_pos rfl]
    exact ⟨has_put_same h2 (show WideAt.IsKeyLit (Lit.int .i64 u) from True.intro) _, fun z => atKey_put_same h2 (show WideAt.IsKeyLit (Lit.int .i64 u) from True.intro) _ _⟩
  · rw [if_neg e]
    have hne : Lit.int .i64 u ≠ Lit.int .i64 k := fun hh => e (Lit.int.inj hh).2
    exact ⟨(has_put_other hne _).trans (h3 u).1, fun z => (atKey_put_other hne _ _).trans ((h3 u).2 z)⟩
end Go.Proofs.YtnkdfphbglcnmaaGreat
namespace Go.Proofs.YtnkdfphbglcnmaaGreat
open Go.RowKit
end Go.Proofs.YtnkdfphbglcnmaaGreat
namespace Go.Proofs.YtnkdfphbglcnmaaGreat
open Go.RowKit
end Go.Proofs.YtnkdfphbglcnmaaGreat
