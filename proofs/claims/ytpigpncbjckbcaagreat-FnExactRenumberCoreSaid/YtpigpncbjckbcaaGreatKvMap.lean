/-
  Maps from ints, of the call's own, asked with 'ok': what is found, and whether.
-/
import Derived.Test.YtpigpncbjckbcaaGreatNMaps
import Derived.Test.YtpigpncbjckbcaaGreatKoFree
namespace Go.Proofs.YtpigpncbjckbcaaGreat
open Go.RowKit Go.Maps Go.WideMaps Go.ChangeMaps
def updO (f : Int → Option Value) (k : Int) (x : Value) : Int → Option Value := fun u => if u = k then some x else f u
def IMapO (w : World) (M n : Nat) (f : Int → Option Value) : Prop :=
  ∃ D, w.ownsMap Tryz.prog 3 readI M n D ∧ IsMap D ∧ ∀ k : Int, Maps.has D (.int .i64 k) = (f k).isSome ∧ ∀ z : Value, D.atKey (.int .i64 k) (.held z) = .held ((f k).getD z)
theorem IMapO.new (w : World) : IMapO (w.alloc (.map #[] 0)) w.heap.size 0 (fun _ => none) := ⟨_, World.ownsMap_made _ _ _ _, isMap_empty, fun _ => ⟨rfl, fun _ => rfl⟩⟩
theorem IMapO.lt {w : World} {M n : Nat} {f : Int → Option Value} (h : IMapO w M n f) : M < w.heap.size := by
  obtain ⟨D, h, _⟩ := h
  exact h.lt
theorem IMapO.keep {w w' : World} {M n : Nat} {f : Int → Option Value} (h : IMapO w M n f) (e : w'.heap[M]? = w.heap[M]?) : IMapO w' M n f := by
  obtain ⟨D, ⟨es, clock, hb, rest⟩, h2, h3⟩ := h
  exact ⟨D, ⟨es, clock, e.trans hb, rest⟩, h2, h3⟩
theorem IMapO.look {w : World} {M n : Nat} {f : Int → Option Value} {t e : TypeId} (h : IMapO w M n f) (ht : Tryz.prog.underlying t = some (.map 3 e)) {z : Value} (hz : (zeroValue e).run Tryz.prog w = .ok z w) {k : Int} (hk : (Lit.int .i64 k).wf = true) :
    (Instr.lookup t (.map (some M)) (.int .i64 k) true).run Tryz.prog w = .ok (.tuple #[(f k).getD z, .bool (f k).isSome]) w := by
  obtain ⟨D, h1, h2, h3⟩ := h
  obtain ⟨v, ps, hrun, hv⟩ := h1.look_ok keyedI ht hz (zd := .held z) (zp := []) rfl (keyOf_int_mk Tryz.underlying3 hk)
  rw [(h3 k).2 z] at hv
  simp only [readI, Option.some.injEq, Prod.mk.injEq, DataW.held.injEq] at hv
  rw [hrun, hv.1, (h3 k).1]
theorem IMapO.put {w : World} {M n : Nat} {f : Int → Option Value} {t e : TypeId} (h : IMapO w M n f) (ht : Tryz.prog.underlying t = some (.map 3 e)) (hn : n < maxLen) {k : Int} (hk : (Lit.int .i64 k).wf = true) (x : Value) :
    ∃ w2, (Instr.mapUpdate t (.map (some M)) (.int .i64 k) x).run Tryz.prog w = .ok () w2 ∧ IMapO w2 M (n + 1) (updO f k x) ∧ w.grownBy w2 (some M) := by
  obtain ⟨D, h1, h2, h3⟩ := h
  obtain ⟨w2, hrun, hm2, hg2⟩ := h1.update keyedI ht hn (keyOf_int_mk Tryz.underlying3 hk) (val := x) (d := .held x) (ps := []) rfl
  refine ⟨w2, hrun, ⟨_, hm2, h2.put _ _, fun u => ?_⟩, hg2⟩
  unfold updO
  by_cases e : u = k
  · subst e
    rw [if_pos rfl]
    exact ⟨has_put_same h2 (show WideAt.IsKeyLit (Lit.int .i64 u) from True.intro) _, fun z => atKey_put_same h2 (show WideAt.IsKeyLit (Lit.int .i64 u) from True.intro) _ _⟩
  · rw [if_neg e]
    have hne : Lit.int .i64 u ≠ Lit.int .i64 k := fun hh => e (Lit.int.inj hh).2
    exact ⟨(has_put_other hne _).trans (h3 u).1, fun z => (atKey_put_other hne _ _).trans ((h3 u).2 z)⟩
end Go.Proofs.YtpigpncbjckbcaaGreat
namespace Go.Proofs.YtpigpncbjckbcaaGreat
open Go.RowKit
def numO (f : Int → Option Int) (k : Int) : Int := (f k).getD k
set_option maxHeartbeats 400000 in
theorem renc_any (gm M n : Nat) (f : Int → Option Int) (k : Int) (w : World) (hc : w.cell? ⟨gm, 0, none⟩ = some (.map (some M))) (hm : IMapO w M n (fun u => (f u).map (Value.int .i64))) (hk : (Lit.int .i64 k).wf = true) :
    Calls Tryz.prog 109 #[.int .i64 k, .pointer (some ⟨gm, 0, none⟩)] w fun e w' => e = .returned (.int .i64 (numO f k)) ∧ Below w.heap.size w w' := by
  have hz := zeroInt w
  have hlook := hm.look (t := 149) (e := 3) Tryz.underlying149 hz hk
  cases hf : f k with
  | none =>
    have HF : Hid (numO f k = k) := by show _ = _; unfold numO; rw [hf]; rfl
    rw [hf] at hlook
    simp only [Option.map_none, Option.getD_none, Option.isSome_none] at hlook
    clear hf
    go_enter Tryz.func109, Tryz.ntmps109
    go_wp2_with fail
    go_ret
    exact ⟨ret_int HF.out.symm, Below.refl _ _⟩
  | some v =>
    have HF : Hid (numO f k = v) := by show _ = _; unfold numO; rw [hf]; rfl
    rw [hf] at hlook
    simp only [Option.map_some, Option.getD_some, Option.isSome_some] at hlook
    clear hf
    go_enter Tryz.func109, Tryz.ntmps109
    go_wp2_with fail
    go_ret
    exact ⟨ret_int HF.out.symm, Below.refl _ _⟩
end Go.Proofs.YtpigpncbjckbcaaGreat
namespace Go.Proofs.YtpigpncbjckbcaaGreat
open Go.RowKit
set_option maxHeartbeats 800000 in
theorem mapI_any (gm M n : Nat) (f : Int → Option Int) (A : Option Addr) (c : Nat) (l : List Int) (B : Nat) (w : World) (hll : l.length ≤ 2000000) (hin : IIn w B A c l) (hB : B ≤ w.heap.size) (hwf : ∀ i ∈ l, (Lit.int .i64 i).wf = true)
    (hgm : gm < w.heap.size) (hc : w.cell? ⟨gm, 0, none⟩ = some (.map (some M))) (hm : IMapO w M n (fun u => (f u).map (Value.int .i64))) :
    Calls Tryz.prog 176 #[.slice A l.length c, .func (.func 109) #[] #[.pointer (some ⟨gm, 0, none⟩)]] w (RetI (l.map (numO f)) w) := by
  have hcap := hin.cap
  obtain ⟨i0, hi0, hz0, hz1, hz2⟩ := info_parts infoI
  have hmk := fun W => run_make_rowI (P := Tryz.prog) 22 3 i0 _ Tryz.underlying22 hi0 hz0 .i64 .i64 l.length l.length (Nat.le_refl _) (by rw [hz2]; omega) (by omega) W
  rw [hz1] at hmk
  have HCL : Hid (∀ (z : World) (k : Int), Below w.heap.size w z → (Lit.int .i64 k).wf = true → Calls Tryz.prog 109 #[.int .i64 k, .pointer (some ⟨gm, 0, none⟩)] z fun e w' => e = .returned (.int .i64 (numO f k)) ∧ Below z.heap.size z w') := fun z k hz hk =>
    renc_any gm M n f k z ((hz.cell (p := ⟨gm, 0, none⟩) hgm).trans hc) (hm.keep (hz.block _ hm.lt)) hk
  clear hc hm
  by_cases h0 : l.length = 0
  · have hl : l = [] := List.length_eq_zero_iff.1 h0
    subst hl
    go_enter Tryz.func176, Tryz.ntmps176
    go_wp2_with fail
    go_ret
    exact ⟨none, 0, rfl, IOwn.nil_ (by omega) (fun _ => rfl), Below.refl _ _⟩
  · have g0 : ((l.length : Int) == 0) = false := by rw [beq_eq_false_iff_ne]; omega
    clear h0
    go_enter Tryz.func176, Tryz.ntmps176
    go_wp2_with fail
    go_loopw [16] (fun i wr => ∃ j : Nat, j ≤ l.length ∧ i = .int .i64 j ∧ IRow wr w.heap.size l.length ((l.map (numO f)).take j) ∧ Below w.heap.size w wr) (fun i _ => l.length - (intOf i).toNat)
    case atStart => exact ⟨0, Nat.zero_le _, rfl, ⟨_, D.Blk.new _ _ _, by rw [size_madeCells], by simp⟩, (Below.refl _ _).alloc (Nat.le_refl _) _⟩
    case round =>
      obtain ⟨j, hj, rfl, hrow, hb⟩ := hrel
      by_cases hlt : j < l.length
      · obtain ⟨b, o, rfl, hblk, c0⟩ := (hin.below (hb.mono hB)).at_ hlt
        have hs2 := hb.size
        have hcl := HCL.out wr l[j] hb (hwf _ (List.getElem_mem hlt))
        have HT := Lib.hid (List.take_succ_eq_append_getElem (l := l.map (numO f)) (i := j) (by rw [List.length_map]; exact hlt))
        go_wp2_with (go_at_call 109; with_reducible refine hcl.mono ?_; rintro e w1 ⟨rfl, hb1⟩; have hs1 := hb1.size; have hrow1 := hrow.below hb1 (hrow.lt); have hb2 := hb.trans (hb1.mono hs2); obtain ⟨v0, hc0⟩ := hrow1.old hlt; have f0 := hrow1.frozen j; have hst := hrow1.step (by rw [List.length_take, List.length_map]; omega) hlt (numO f l[j]))
        refine ⟨⟨j + 1, by omega, by go_num, by rw [HT.out, List.getElem_map]; exact hst, hb2.setCell (by simp) _⟩, by simp [intOf]; omega⟩
      · have hj' : j = l.length := by omega
        subst hj'
        have hrow2 : IRow wr w.heap.size l.length (l.map (numO f)) := by rw [List.take_of_length_le (by simp)] at hrow; exact hrow
        clear hrow
        go_wp2_with fail
        go_ret
        exact ⟨some ⟨w.heap.size, 0, none⟩, l.length, by simp, hrow2.own (c := l.length) ⟨by rw [List.length_map]; exact Nat.le_refl _, by omega⟩ (Nat.le_refl _) hrow2.lt, hb⟩
end Go.Proofs.YtpigpncbjckbcaaGreat
