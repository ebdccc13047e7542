/-
  BoundVariables: the model's and the program's, walked (written by gen/kobound.py).
-/
import Derived.Test.YtbeikpbnidbjfaaKoW
import Derived.Test.YtbeikpbnidbjfaaGrewN
import Derived.Maps.AppendAt
namespace Go.Proofs.Ytbeikpbnidbjfaa
open Go.RowKit

def RetN (F : List Nat) (base : Nat) (acc : List Int) (v : Value) (w : World) (e : Ending) (w' : World) : Prop := ∃ v', e = .returned v' ∧ GrewN F base acc v w v' w'
def KoBndOk (m : Nat) : Prop := ∀ (d : Tr Ko) (B base : Nat) (acc : List Int) (v : Value) (w : World), d.size ≤ m → Ko.E.In w B d → B ≤ base → base ≤ w.heap.size → w.ownsRow base 3 1 v acc.length (acc.map (Value.int .i64)) → acc.length + d.bulk Ko.bulk ≤ 4000000 →
    Calls Try.prog 76 #[Ko.val d, v] w (RetN [] base (d.walk Ko.bound acc) v w)

set_option maxRecDepth 100000 in
set_option maxHeartbeats 2000000 in
theorem specBnd_step (m : Nat) (ih : KoBndOk m) : KoBndOk (m + 1) := by
  intro d B base acc v w hm hin hB hbw hrow hacc
  have hBw : B ≤ w.heap.size := by omega
  have hcap := (Ko.E_in hin).2.cap
  have hs := (Ko.E_in hin).1.s
  have hscap := hs.cap
  have hsq := Tr.size_eq d
  have hbq := Tr.bulk_eq Ko.bulk d
  have hkb : Ko.bulk d.a = d.a.s.length + d.a.d.bulk := rfl
  obtain ⟨i0, hi, hz0, hz1, hz2⟩ := info_parts infoI
  obtain ⟨acc0, hacc0⟩ : ∃ a, a = acc ++ d.a.s := ⟨_, rfl⟩
  have K : Hid (d.walk Ko.bound acc = Tr.walkL Ko.bound d.l acc0) := by rw [hacc0]; exact Tr.walk_eq _ _ _
  have hal : acc0.length = acc.length + d.a.s.length := by rw [hacc0]; simp
  have Hacc := Lib.hid hacc0
  clear hacc0
  have hv : ∀ g, v.ownBlock = some g → B ≤ g := fun g hg => by have := (hrow.lt g hg).1; omega
  have hgW := GrewN.alloc0 (F := []) hrow (.cells #[.int .i64 d.a.k, .int .i64 d.a.n, .slice d.a.sA d.a.s.length d.a.sC, .int .i64 d.a.d.k, .int .i64 d.a.d.n, .string d.a.d.t, .slice d.a.d.A d.a.d.l.length d.a.d.c, .slice d.A d.l.length d.c] 36)
  obtain ⟨Av, cv, ev⟩ := irow_len hrow
  unfold Ko.val
  cases hA : d.a.sA with
  | none =>
    have hl0 : d.a.s = [] := by
      have h1 := hs.nil hA
      exact List.length_eq_zero_iff.1 (by omega)
    have hc0 : d.a.sC = 0 := hs.nil hA
    have e0 : acc0 = acc := by rw [Hacc.out, hl0]; simp
    have HG0 : Hid (GrewN [] base (Tr.walkL Ko.bound (d.l.take 0) acc0) v w v (w.alloc (.cells #[.int .i64 d.a.k, .int .i64 d.a.n, .slice d.a.sA d.a.s.length d.a.sC, .int .i64 d.a.d.k, .int .i64 d.a.d.n, .string d.a.d.t, .slice d.a.d.A d.a.d.l.length d.a.d.c, .slice d.A d.l.length d.c] 36))) := by rw [e0]; exact hgW
    rw [hA] at HG0
    have el : d.a.s.length = 0 := by rw [hl0]; rfl
    rw [hc0, el] at HG0 ⊢
    subst ev
    go_enter Try.func76, Try.ntmps76
    go_wp2_with (at_builtin; refine wpList_append_own_none rfl _ _ 22 rfl base 3 i0 1 Try.underlying22 hi _ acc.length (acc.map (Value.int .i64)) rfl (hrow.alloc _) rfl ?_)
    go_loopw [1, 14] (fun q i wr => ∃ j : Nat, j ≤ d.l.length ∧ i = .int .i64 j ∧ GrewN [] base (Tr.walkL Ko.bound (d.l.take j) acc0) (.slice Av acc.length cv) w q wr) (fun _ i _ => d.l.length - (intOf i).toNat)
    case atStart => exact ⟨0, Nat.zero_le _, rfl, HG0.out⟩
    case round =>
      obtain ⟨j, hj, rfl, hG⟩ := hrel
      have hs2 := hG.2.1.size
      by_cases hlt : j < d.l.length
      · obtain ⟨b, o, hA, hblk, c0, c1, c2, c3, c4, c5, c6, c7, hix⟩ := Ko.at_ ((Ko.E_in hin).2.below (hG.below (by simp) hv hBw)) (i := j) (x := d.l[j]) (List.getElem?_eq_getElem hlt)
        have hsz := Tr.sizeL_mem (l := d.l) (List.getElem_mem hlt)
        have hwl := Tr.walkL_len Ko.bound_len (d.l.take j) acc0
        have hbd := Tr.bulkL_drop Ko.bulk d.l j hlt
        have hG1 := hG.alloc (.cells #[.int .i64 d.l[j].a.k, .int .i64 d.l[j].a.n, .slice d.l[j].a.sA d.l[j].a.s.length d.l[j].a.sC, .int .i64 d.l[j].a.d.k, .int .i64 d.l[j].a.d.n, .string d.l[j].a.d.t, .slice d.l[j].a.d.A d.l[j].a.d.l.length d.l[j].a.d.c, .slice d.l[j].A d.l[j].l.length d.l[j].c] 36)
        have HG1 := Lib.hid hG1
        clear hG hG1
        rw [hA]
        go_wp2_with fail
        refine (ih d.l[j] B base (Tr.walkL Ko.bound (d.l.take j) acc0) _ _ (by omega) (Elem.In.alloc hix (by omega) _) hB (by simp; omega) HG1.out.1 (by omega)).mono ?_
        rintro e w1 ⟨v', rfl, hG2⟩
        have hG3 := HG1.out.trans hG2
        have HG3 := Lib.hid hG3
        clear hG3 hG2
        go_wp2_with fail
        refine ⟨⟨j + 1, by omega, by go_num, ?_⟩, by simp [intOf]; omega⟩
        rw [Tr.walkL_take_succ Ko.bound d.l j hlt]
        exact HG3.out
      · have hj' : j = d.l.length := by omega
        subst hj'
        rw [List.take_length] at hG
        have HG := Lib.hid hG
        clear hG
        go_wp2_with fail
        go_ret
        exact ⟨_, rfl, by rw [K.out]; exact HG.out⟩
  | some a =>
    have hnews : ∀ j u, (d.a.s.map (Value.int .i64))[j]? = some u → (w.alloc (.cells #[.int .i64 d.a.k, .int .i64 d.a.n, .slice (some a) d.a.s.length d.a.sC, .int .i64 d.a.d.k, .int .i64 d.a.d.n, .string d.a.d.t, .slice d.a.d.A d.a.d.l.length d.a.d.c, .slice d.A d.l.length d.c] 36)).cell? (a.add j) = some u := by
      intro j u hu
      have hne : d.a.s ≠ [] := by intro e; rw [e] at hu; simp at hu
      obtain ⟨b, o, e, _, _⟩ := hs.mem hne
      rw [hA] at e
      obtain rfl := Option.some.inj e
      have hs' := hs.alloc hBw (.cells #[.int .i64 d.a.k, .int .i64 d.a.n, .slice d.a.sA d.a.s.length d.a.sC, .int .i64 d.a.d.k, .int .i64 d.a.d.n, .string d.a.d.t, .slice d.a.d.A d.a.d.l.length d.a.d.c, .slice d.A d.l.length d.c] 36)
      rw [hA] at hs'
      exact iall hs' j u hu
    rw [hA] at hgW
    have x7 : (w.alloc (.cells #[.int .i64 d.a.k, .int .i64 d.a.n, .slice (some a) d.a.s.length d.a.sC, .int .i64 d.a.d.k, .int .i64 d.a.d.n, .string d.a.d.t, .slice d.a.d.A d.a.d.l.length d.a.d.c, .slice d.A d.l.length d.c] 36)).cell? ⟨w.heap.size, 7, none⟩ = some (.slice d.A d.l.length d.c) := by simp [go_sem]
    subst ev
    go_enter Try.func76, Try.ntmps76
    go_wp2_with (at_builtin; refine wpList_append_own_at _ rfl _ _ 22 rfl base 3 i0 (.int .i64 0) 1 8 Try.underlying22 hi hz0 hz1 hz2 rfl (by decide) _ acc.length (acc.map (Value.int .i64)) rfl (hrow.alloc _) a d.a.s.length d.a.sC (d.a.s.map (Value.int .i64)) rfl (by simp) hnews (iallone d.a.s) (by unfold maxLen; omega) (by omega) (by simp; omega) ?_)
    intro v' w1 hown' hgr _ hat
    have hG1 := hgW.trans (GrewN.cat (F := []) hown' hgr (by simpa using hat))
    have HG0 : Hid (GrewN [] base (Tr.walkL Ko.bound (d.l.take 0) acc0) (.slice Av acc.length cv) w v' w1) := by rw [Hacc.out]; exact hG1
    have y7 : w1.cell? ⟨w.heap.size, 7, none⟩ = some (.slice d.A d.l.length d.c) := (World.cell?_of_block (a := ⟨w.heap.size, 7, none⟩) (hgr.block w.heap.size (by simp) (fun e => by have := (hrow.lt w.heap.size e.symm).2; omega))).trans x7
    clear hown' hgr hat hG1 x7 hnews hgW
    go_wp2_with fail
    go_loopw [1, 14] (fun q i wr => ∃ j : Nat, j ≤ d.l.length ∧ i = .int .i64 j ∧ GrewN [] base (Tr.walkL Ko.bound (d.l.take j) acc0) (.slice Av acc.length cv) w q wr) (fun _ i _ => d.l.length - (intOf i).toNat)
    case atStart => exact ⟨0, Nat.zero_le _, rfl, HG0.out⟩
    case round =>
      obtain ⟨j, hj, rfl, hG⟩ := hrel
      have hs2 := hG.2.1.size
      by_cases hlt : j < d.l.length
      · obtain ⟨b, o, hA, hblk, c0, c1, c2, c3, c4, c5, c6, c7, hix⟩ := Ko.at_ ((Ko.E_in hin).2.below (hG.below (by simp) hv hBw)) (i := j) (x := d.l[j]) (List.getElem?_eq_getElem hlt)
        have hsz := Tr.sizeL_mem (l := d.l) (List.getElem_mem hlt)
        have hwl := Tr.walkL_len Ko.bound_len (d.l.take j) acc0
        have hbd := Tr.bulkL_drop Ko.bulk d.l j hlt
        have hG1 := hG.alloc (.cells #[.int .i64 d.l[j].a.k, .int .i64 d.l[j].a.n, .slice d.l[j].a.sA d.l[j].a.s.length d.l[j].a.sC, .int .i64 d.l[j].a.d.k, .int .i64 d.l[j].a.d.n, .string d.l[j].a.d.t, .slice d.l[j].a.d.A d.l[j].a.d.l.length d.l[j].a.d.c, .slice d.l[j].A d.l[j].l.length d.l[j].c] 36)
        have HG1 := Lib.hid hG1
        clear hG hG1
        rw [hA]
        go_wp2_with fail
        refine (ih d.l[j] B base (Tr.walkL Ko.bound (d.l.take j) acc0) _ _ (by omega) (Elem.In.alloc hix (by omega) _) hB (by simp; omega) HG1.out.1 (by omega)).mono ?_
        rintro e w1 ⟨v', rfl, hG2⟩
        have hG3 := HG1.out.trans hG2
        have HG3 := Lib.hid hG3
        clear hG3 hG2
        go_wp2_with fail
        refine ⟨⟨j + 1, by omega, by go_num, ?_⟩, by simp [intOf]; omega⟩
        rw [Tr.walkL_take_succ Ko.bound d.l j hlt]
        exact HG3.out
      · have hj' : j = d.l.length := by omega
        subst hj'
        rw [List.take_length] at hG
        have HG := Lib.hid hG
        clear hG
        go_wp2_with fail
        go_ret
        exact ⟨_, rfl, by rw [K.out]; exact HG.out⟩

theorem specBnd_any : ∀ m, KoBndOk m := by
  intro m
  induction m with
  | zero => intro d B base acc v w h; have := d.size_pos; omega
  | succ m ih => exact specBnd_step m ih
end Go.Proofs.Ytbeikpbnidbjfaa
