/-
  BoundVariables: the model's and the program's, walked (written by gen/kobound.py).
-/
import Derived.Test.YtpigpncbjckbcaaGreatKoW
import Derived.Test.YtpigpncbjckbcaaGreatNMaps
import Derived.Maps.AppendAt
namespace Go.Proofs.YtpigpncbjckbcaaGreat
open Go.RowKit
def RetN (F : List Nat) (base : Nat) (acc : List Int) (v : Value) (w : World) (e : Ending) (w' : World) : Prop := ∃ v', e = .returned v' ∧ GrewN F base acc v w v' w'
def KoBndOk (m : Nat) : Prop := ∀ (d : Tr Ko) (B base : Nat) (acc : List Int) (v : Value) (w : World), d.size ≤ m → Ko.E.In w B d → B ≤ base → base ≤ w.heap.size → w.ownsRow base 3 1 v acc.length (acc.map (Value.int .i64)) → acc.length + d.bulk Ko.bulk ≤ 4000000 →
    Calls Tryz.prog 45 #[Ko.val d, v] w (RetN [] base (d.walk Ko.bound acc) v w)
set_option maxRecDepth 100000 in
set_option maxHeartbeats 2000000 in
theorem specBnd_step (m : Nat) (ih : KoBndOk m) : KoBndOk (m + 1) := by
  intro d B base acc v w hm hin hB hbw hrow hacc
  have hBw : B ≤ w.heap.size := by omega
  have hcap := (Ko.E_in hin).2.cap
  have hs := (Ko.E_in hin).1.s
  have hscap := hs.cap
  have hsq := Tr.size_eq d
  have hbq := Tr.bulk_eq Ko.bulk d
  have hkb : Ko.bulk d.a = d.a.s.length + d.a.d.bulk := rfl
  obtain ⟨i0, hi, hz0, hz1, hz2⟩ := info_parts infoI
  obtain ⟨acc0, hacc0⟩ : ∃ a, a = acc ++ d.a.s := ⟨_, rfl⟩
  have K : Hid (d.walk Ko.bound acc = Tr.walkL Ko.bound d.l acc0) := by rw [hacc0]; exact Tr.walk_eq _ _ _
  have hal : acc0.length = acc.length + d.a.s.length := by rw [hacc0]; simp
  have Hacc := Lib.hid hacc0
  clear hacc0
  have hv : ∀ g, v.ownBlock = some g → B ≤ g := fun g hg => by have := (hrow.lt g hg).1; omega
  have hgW := GrewN.alloc0 (F := []) hrow (.cells #[.int .i64 d.a.k, .int .i64 d.a.n, .slice d.a.sA d.a.s.length d.a.sC, .int .i64 d.a.d.k, .int .i64 d.a.d.n, .string d.a.d.t, .slice d.a.d.A d.a.d.l.length d.a.d.c, .slice d.A d.l.length d.c] 35)
  obtain ⟨Av, cv, ev⟩ := irow_len hrow
  unfold Ko.val
  cases hA : d.a.sA with
  | none =>
    have hl0 : d.a.s = [] := by
      have h1 := hs.nil hA
      exact List.length_eq_zero_iff.1 (by omega)
    have hc0 : d.a.sC = 0 := hs.nil hA
    have e0 : acc0 = acc := by rw [Hacc.out, hl0]; simp
    have HG0 : Hid (GrewN [] base (Tr.walkL Ko.bound (d.l.take 0) acc0) v w v (w.alloc (.cells #[.int .i64 d.a.k, .int .i64 d.a.n, .slice d.a.sA d.a.s.length d.a.sC, .int .i64 d.a.d.k, .int .i64 d.a.d.n, .string d.a.d.t, .slice d.a.d.A d.a.d.l.length d.a.d.c, .slice d.A d.l.length d.c] 35))) := by rw [e0]; exact hgW
    rw [hA] at HG0
    have el : d.a.s.length = 0 := by rw [hl0]; rfl
    rw [hc0, el] at HG0 ⊢
    subst ev
    go_enter Tryz.func45, Tryz.ntmps45
    go_wp2_with (at_builtin; refine wpList_append_own_none rfl _ _ 22 rfl base 3 i0 1 Tryz.underlying22 hi _ acc.length (acc.map (Value.int .i64)) rfl (hrow.alloc _) rfl ?_)
    go_loopw [1, 14] (fun q i wr => ∃ j : Nat, j ≤ d.l.length ∧ i = .int .i64 j ∧ GrewN [] base (Tr.walkL Ko.bound (d.l.take j) acc0) (.slice Av acc.length cv) w q wr) (fun _ i _ => d.l.length - (intOf i).toNat)
    case atStart => exact ⟨0, Nat.zero_le _, rfl, HG0.out⟩
    case round =>
      obtain ⟨j, hj, rfl, hG⟩ := hrel
      have hs2 := hG.2.1.size
      by_cases hlt : j < d.l.length
      · obtain ⟨b, o, hA, hblk, c0, c1, c2, c3, c4, c5, c6, c7, hix⟩ := Ko.at_ ((Ko.E_in hin).2.below (hG.below (by simp) hv hBw)) (i := j) (x := d.l[j]) (List.getElem?_eq_getElem hlt)
        have hsz := Tr.sizeL_mem (l := d.l) (List.getElem_mem hlt)
        have hwl := Tr.walkL_len Ko.bound_len (d.l.take j) acc0
        have hbd := Tr.bulkL_drop Ko.bulk d.l j hlt
        have hG1 := hG.alloc (.cells #[.int .i64 d.l[j].a.k, .int .i64 d.l[j].a.n, .slice d.l[j].a.sA d.l[j].a.s.length d.l[j].a.sC, .int .i64 d.l[j].a.d.k, .int .i64 d.l[j].a.d.n, .string d.l[j].a.d.t, .slice d.l[j].a.d.A d.l[j].a.d.l.length d.l[j].a.d.c, .slice d.l[j].A d.l[j].l.length d.l[j].c] 35)
        have HG1 := Lib.hid hG1
        clear hG hG1
        rw [hA]
        go_wp2_with fail
        refine (ih d.l[j] B base (Tr.walkL Ko.bound (d.l.take j) acc0) _ _ (by omega) (Elem.In.alloc hix (by omega) _) hB (by simp; omega) HG1.out.1 (by omega)).mono ?_
        rintro e w1 ⟨v', rfl, hG2⟩
        have hG3 := HG1.out.trans hG2
        have HG3 := Lib.hid hG3
        clear hG3 hG2
        go_wp2_with fail
        refine ⟨⟨j + 1, by omega, by go_num, ?_⟩, by simp [intOf]; omega⟩
        rw [Tr.walkL_take_succ Ko.bound d.l j hlt]
        exact HG3.out
      · have hj' : j = d.l.length := by omega
        subst hj'
        rw [List.take_length] at hG
        have HG := Lib.hid hG
        clear hG
        go_wp2_with fail
        go_ret
        exact ⟨_, rfl, by rw [K.out]; exact HG.out⟩
  | some a =>
    have hnews : ∀ j u, (d.a.s.map (Value.int .i64))[j]? = some u → (w.alloc (.cells #[.int .i64 d.a.k, .int .i64 d.a.n, .slice (some a) d.a.s.length d.a.sC, .int .i64 d.a.d.k, .int .i64 d.a.d.n, .string d.a.d.t, .slice d.a.d.A d.a.d.l.length d.a.d.c, .slice d.A d.l.length d.c] 35)).cell? (a.add j) = some u := by
      intro j u hu
      have hne : d.a.s ≠ [] := by intro e; rw [e] at hu; simp at hu
      obtain ⟨b, o, e, _, _⟩ := hs.mem hne
      rw [hA] at e
      obtain rfl := Option.some.inj e
      have hs' := hs.alloc hBw (.cells #[.int .i64 d.a.k, .int .i64 d.a.n, .slice d.a.sA d.a.s.length d.a.sC, .int .i64 d.a.d.k, .int .i64 d.a.d.n, .string d.a.d.t, .slice d.a.d.A d.a.d.l.length d.a.d.c, .slice d.A d.l.length d.c] 35)
      rw [hA] at hs'
      exact iall hs' j u hu
    rw [hA] at hgW
    have x7 : (w.alloc (.cells #[.int .i64 d.a.k, .int .i64 d.a.n, .slice (some a) d.a.s.length d.a.sC, .int .i64 d.a.d.k, .int .i64 d.a.d.n, .string d.a.d.t, .slice d.a.d.A d.a.d.l.length d.a.d.c, .slice d.A d.l.length d.c] 35)).cell? ⟨w.heap.size, 7, none⟩ = some (.slice d.A d.l.length d.c) := by simp [go_sem]
    subst ev
    go_enter Tryz.func45, Tryz.ntmps45
    go_wp2_with (at_builtin; refine wpList_append_own_at _ rfl _ _ 22 rfl base 3 i0 (.int .i64 0) 1 8 Tryz.underlying22 hi hz0 hz1 hz2 rfl (by decide) _ acc.length (acc.map (Value.int .i64)) rfl (hrow.alloc _) a d.a.s.length d.a.sC (d.a.s.map (Value.int .i64)) rfl (by simp) hnews (iallone d.a.s) (by unfold maxLen; omega) (by omega) (by simp; omega) ?_)
    intro v' w1 hown' hgr _ hat
    have hG1 := hgW.trans (GrewN.cat (F := []) hown' hgr (by simpa using hat))
    have HG0 : Hid (GrewN [] base (Tr.walkL Ko.bound (d.l.take 0) acc0) (.slice Av acc.length cv) w v' w1) := by rw [Hacc.out]; exact hG1
    have y7 : w1.cell? ⟨w.heap.size, 7, none⟩ = some (.slice d.A d.l.length d.c) := (World.cell?_of_block (a := ⟨w.heap.size, 7, none⟩) (hgr.block w.heap.size (by simp) (fun e => by have := (hrow.lt w.heap.size e.symm).2; omega))).trans x7
    clear hown' hgr hat hG1 x7 hnews hgW
    go_wp2_with fail
    go_loopw [1, 14] (fun q i wr => ∃ j : Nat, j ≤ d.l.length ∧ i = .int .i64 j ∧ GrewN [] base (Tr.walkL Ko.bound (d.l.take j) acc0) (.slice Av acc.length cv) w q wr) (fun _ i _ => d.l.length - (intOf i).toNat)
    case atStart => exact ⟨0, Nat.zero_le _, rfl, HG0.out⟩
    case round =>
      obtain ⟨j, hj, rfl, hG⟩ := hrel
      have hs2 := hG.2.1.size
      by_cases hlt : j < d.l.length
      · obtain ⟨b, o, hA, hblk, c0, c1, c2, c3, c4, c5, c6, c7, hix⟩ := Ko.at_ ((Ko.E_in hin).2.below (hG.below (by simp) hv hBw)) (i := j) (x := d.l[j]) (List.getElem?_eq_getElem hlt)
        have hsz := Tr.sizeL_mem (l := d.l) (List.getElem_mem hlt)
        have hwl := Tr.walkL_len Ko.bound_len (d.l.take j) acc0
        have hbd := Tr.bulkL_drop Ko.bulk d.l j hlt
        have hG1 := hG.alloc (.cells #[.int .i64 d.l[j].a.k, .int .i64 d.l[j].a.n, .slice d.l[j].a.sA d.l[j].a.s.length d.l[j].a.sC, .int .i64 d.l[j].a.d.k, .int .i64 d.l[j].a.d.n, .string d.l[j].a.d.t, .slice d.l[j].a.d.A d.l[j].a.d.l.length d.l[j].a.d.c, .slice d.l[j].A d.l[j].l.length d.l[j].c] 35)
        have HG1 := Lib.hid hG1
        clear hG hG1
        rw [hA]
        go_wp2_with fail
        refine (ih d.l[j] B base (Tr.walkL Ko.bound (d.l.take j) acc0) _ _ (by omega) (Elem.In.alloc hix (by omega) _) hB (by simp; omega) HG1.out.1 (by omega)).mono ?_
        rintro e w1 ⟨v', rfl, hG2⟩
        have hG3 := HG1.out.trans hG2
        have HG3 := Lib.hid hG3
        clear hG3 hG2
        go_wp2_with fail
        refine ⟨⟨j + 1, by omega, by go_num, ?_⟩, by simp [intOf]; omega⟩
        rw [Tr.walkL_take_succ Ko.bound d.l j hlt]
        exact HG3.out
      · have hj' : j = d.l.length := by omega
        subst hj'
        rw [List.take_length] at hG
        have HG := Lib.hid hG
        clear hG
        go_wp2_with fail
        go_ret
        exact ⟨_, rfl, by rw [K.out]; exact HG.out⟩
theorem specBnd_any : ∀ m, KoBndOk m := by
  intro m
  induction m with
  | zero => intro d B base acc v w h; have := d.size_pos; omega
  | succ m ih => exact specBnd_step m ih
end Go.Proofs.YtpigpncbjckbcaaGreat
namespace Go.Proofs.YtpigpncbjckbcaaGreat
open Go.RowKit
structure CellN (gv : Nat) (v : Value) (w : World) : Prop where
  lt : gv < w.heap.size
  cell : w.cell? ⟨gv, 0, none⟩ = some v
  fr : w.frozen? ⟨gv, 0, none⟩ = false
theorem CellN.keep {gv : Nat} {v : Value} {w w' : World} (h : CellN gv v w) (hz : w.heap.size ≤ w'.heap.size) (e : w'.heap[gv]? = w.heap[gv]?) : CellN gv v w' :=
  ⟨by have := h.lt; omega, (World.cell?_of_block (a := ⟨gv, 0, none⟩) e).trans h.cell, (World.frozen?_of_block (a := ⟨gv, 0, none⟩) e).trans h.fr⟩
theorem CellN.alloc {gv : Nat} {v : Value} {w : World} (h : CellN gv v w) (o : Obj) : CellN gv v (w.alloc o) := h.keep (by simp) (Below.heap_alloc _ _ _ h.lt)
theorem CellN.new (w : World) (v : Value) (t : TypeId) : CellN w.heap.size v (w.alloc (.cells #[v] t)) := ⟨by simp, (D.Blk.new w t #[v]).cell 0, (D.Blk.new w t #[v]).frozen 0⟩
theorem CellN.put {gv : Nat} {v : Value} {w : World} (h : CellN gv v w) (u : Value) : CellN gv u (w.setCell ⟨gv, 0, none⟩ u) := ⟨by simpa using h.lt, icell_eq h.cell, by rw [World.frozen?_setCell]; exact h.fr⟩
set_option maxRecDepth 100000 in
set_option maxHeartbeats 2000000 in
theorem bnd1_any (d : Tr Ko) (B gv : Nat) (acc : List Int) (v : Value) (w : World) (hin : Ko.E.In w B d) (hB : B ≤ gv) (hc : CellN gv v w) (hrow : w.ownsRow (gv + 1) 3 1 v acc.length (acc.map (Value.int .i64))) (hacc : acc.length + d.a.s.length ≤ 4000000) :
    Calls Tryz.prog 111 #[Ko.val d, .pointer (some ⟨gv, 0, none⟩)] w fun e w' => e = .returned (.tuple #[]) ∧ ∃ v', CellN gv v' w' ∧ GrewN [gv] (gv + 1) (Ko.bound d.a acc) v w v' w' := by
  have hlt := hc.lt
  have hs := (Ko.E_in hin).1.s
  have hscap := hs.cap
  have hBw : B ≤ w.heap.size := by omega
  obtain ⟨i0, hi, hz0, hz1, hz2⟩ := info_parts infoI
  have hgW := GrewN.alloc0 (F := [gv]) hrow (.cells #[.int .i64 d.a.k, .int .i64 d.a.n, .slice d.a.sA d.a.s.length d.a.sC, .int .i64 d.a.d.k, .int .i64 d.a.d.n, .string d.a.d.t, .slice d.a.d.A d.a.d.l.length d.a.d.c, .slice d.A d.l.length d.c] 35)
  have hcW := hc.alloc (.cells #[.int .i64 d.a.k, .int .i64 d.a.n, .slice d.a.sA d.a.s.length d.a.sC, .int .i64 d.a.d.k, .int .i64 d.a.d.n, .string d.a.d.t, .slice d.a.d.A d.a.d.l.length d.a.d.c, .slice d.A d.l.length d.c] 35)
  obtain ⟨Av, cv, ev⟩ := irow_len hrow
  have p0 := hcW.cell
  have p1 := hcW.fr
  unfold Ko.val
  cases hA : d.a.sA with
  | none =>
    have hl0 : d.a.s = [] := by
      have h1 := hs.nil hA
      exact List.length_eq_zero_iff.1 (by omega)
    have hc0 : d.a.sC = 0 := hs.nil hA
    have e0 : Ko.bound d.a acc = acc := by unfold Ko.bound; rw [hl0]; simp
    have el : d.a.s.length = 0 := by rw [hl0]; rfl
    rw [hA, hc0, el] at hgW hcW p0 p1
    rw [hc0, el]
    have HE := Lib.hid e0
    have HG := Lib.hid hgW
    have HC := Lib.hid hcW
    clear e0 hgW hcW
    subst ev
    go_enter Tryz.func111, Tryz.ntmps111
    go_wp2_with (at_builtin; refine wpList_append_own_none rfl _ _ 22 rfl (gv + 1) 3 i0 1 Tryz.underlying22 hi _ acc.length (acc.map (Value.int .i64)) rfl (hrow.alloc _) rfl ?_)
    go_end0
    exact ⟨rfl, _, (hc.put _).alloc _, by rw [HE.out]; exact ((GrewN.refl hrow).set_ (p := ⟨gv, 0, none⟩) (by simp) (by simp) _).alloc _⟩
  | some a =>
    have hnews : ∀ j u, (d.a.s.map (Value.int .i64))[j]? = some u → (w.alloc (.cells #[.int .i64 d.a.k, .int .i64 d.a.n, .slice (some a) d.a.s.length d.a.sC, .int .i64 d.a.d.k, .int .i64 d.a.d.n, .string d.a.d.t, .slice d.a.d.A d.a.d.l.length d.a.d.c, .slice d.A d.l.length d.c] 35)).cell? (a.add j) = some u := by
      intro j u hu
      have hne : d.a.s ≠ [] := by intro e; rw [e] at hu; simp at hu
      obtain ⟨b, o, e, _, _⟩ := hs.mem hne
      rw [hA] at e
      obtain rfl := Option.some.inj e
      have hs' := hs.alloc hBw (.cells #[.int .i64 d.a.k, .int .i64 d.a.n, .slice d.a.sA d.a.s.length d.a.sC, .int .i64 d.a.d.k, .int .i64 d.a.d.n, .string d.a.d.t, .slice d.a.d.A d.a.d.l.length d.a.d.c, .slice d.A d.l.length d.c] 35)
      rw [hA] at hs'
      exact iall hs' j u hu
    rw [hA] at hgW hcW p0 p1
    subst ev
    go_enter Tryz.func111, Tryz.ntmps111
    go_wp2_with (at_builtin; refine wpList_append_own_at _ rfl _ _ 22 rfl (gv + 1) 3 i0 (.int .i64 0) 1 8 Tryz.underlying22 hi hz0 hz1 hz2 rfl (by decide) _ acc.length (acc.map (Value.int .i64)) rfl (hrow.alloc _) a d.a.s.length d.a.sC (d.a.s.map (Value.int .i64)) rfl (by simp) hnews (iallone d.a.s) (by unfold maxLen; omega) (by omega) (by simp; omega) ?_)
    intro v' w1 hown' hgr _ hat
    have hrow2 : w1.ownsRow (gv + 1) 3 1 v' (acc ++ d.a.s).length ((acc ++ d.a.s).map (Value.int .i64)) := by simpa using hown'
    obtain ⟨A', c', ev'⟩ := irow_len hrow2
    rw [List.length_append] at ev'
    subst ev'
    clear hrow2
    have hG1 := hgW.trans (GrewN.cat (F := [gv]) hown' hgr (by simpa using hat))
    have hz := hgr.size
    have hc1 : CellN gv (.slice Av acc.length cv) w1 := hcW.keep hz (hgr.block gv (by simp; omega) (fun e => by have := (hrow.lt gv e.symm).1; omega))
    have q0 := hc1.cell
    have q1 := hc1.fr
    clear hown' hgr hat hnews hgW p0 p1
    have HG := Lib.hid hG1
    have HC := Lib.hid hc1
    clear hG1 hc1
    go_wp2_with fail
    go_end0
    exact ⟨rfl, _, HC.out.put _, HG.out.set_ (p := ⟨gv, 0, none⟩) (by simp) (by simp) _⟩
def KoEachBOk (m : Nat) : Prop := ∀ (d : Tr Ko) (B gv : Nat) (acc : List Int) (v : Value) (w : World), d.size ≤ m → Ko.E.In w B d → B ≤ gv → CellN gv v w → w.ownsRow (gv + 1) 3 1 v acc.length (acc.map (Value.int .i64)) → acc.length + d.bulk Ko.bulk ≤ 4000000 →
    Calls Tryz.prog 110 #[Ko.val d, .func (.func 111) #[] #[.pointer (some ⟨gv, 0, none⟩)]] w fun e w' => e = .returned (.tuple #[]) ∧ ∃ v', CellN gv v' w' ∧ GrewN [gv] (gv + 1) (d.walk Ko.bound acc) v w v' w'
set_option maxRecDepth 100000 in
set_option maxHeartbeats 2000000 in
theorem eachB_step (m : Nat) (ih : KoEachBOk m) : KoEachBOk (m + 1) := by
  intro d B gv acc v w hm hin hB hc hrow hacc
  have hlt := hc.lt
  have hBw : B ≤ w.heap.size := by omega
  have hcap := (Ko.E_in hin).2.cap
  have hsq := Tr.size_eq d
  have hbq := Tr.bulk_eq Ko.bulk d
  have hkb : Ko.bulk d.a = d.a.s.length + d.a.d.bulk := rfl
  obtain ⟨acc0, hacc0⟩ : ∃ a, a = Ko.bound d.a acc := ⟨_, rfl⟩
  have K : Hid (d.walk Ko.bound acc = Tr.walkL Ko.bound d.l acc0) := by rw [hacc0]; exact Tr.walk_eq _ _ _
  have hal : acc0.length ≤ acc.length + d.a.s.length := by rw [hacc0]; simp [Ko.bound]
  have hv : ∀ g, v.ownBlock = some g → B ≤ g := fun g hg => by have := (hrow.lt g hg).1; omega
  obtain ⟨W, hW⟩ : ∃ W, W = w.alloc (.cells #[.int .i64 d.a.k, .int .i64 d.a.n, .slice d.a.sA d.a.s.length d.a.sC, .int .i64 d.a.d.k, .int .i64 d.a.d.n, .string d.a.d.t, .slice d.a.d.A d.a.d.l.length d.a.d.c, .slice d.A d.l.length d.c] 35) := ⟨_, rfl⟩
  have hgW : GrewN [gv] (gv + 1) acc v w v W := by rw [hW]; exact GrewN.alloc0 hrow _
  have hcW : CellN gv v W := by rw [hW]; exact hc.alloc _
  have zW : W.heap.size = w.heap.size + 1 := by rw [hW]; simp
  have X0 : Ko.Box W w.heap.size d := by rw [hW]; exact Ko.Box.new _ _ _
  have hinW : Ko.E.In W B d := by rw [hW]; exact Elem.In.alloc hin hBw _
  unfold Ko.val
  have X0q := X0
  obtain ⟨a0, a1, a2, a3, a4, a5, a6, a7⟩ := X0q
  go_enter Tryz.func110, Tryz.ntmps110
  go_wp2_with fail
  rw [← hW]
  clear hW a0 a1 a2 a3 a4 a5 a6 a7
  refine (bnd1_any d B gv acc v W hinW hB hcW hgW.1 (by omega)).mono ?_
  rintro e w1 ⟨rfl, v1, hc1, hg1⟩
  rw [← hacc0] at hg1
  have hG1 := hgW.trans hg1
  have z1 := hg1.2.1.size
  have X1 := X0.keep (hg1.block (b := w.heap.size) (by omega) (by simp; omega) (fun e => by have := (hrow.lt _ e).2; omega))
  obtain ⟨a0, a1, a2, a3, a4, a5, a6, a7⟩ := X1
  have HG1 := Lib.hid hG1
  have HC1 := Lib.hid hc1
  clear hg1 hG1 hc1 hcW hgW X0 hacc0 a0 a1 a2 a3 a4 a5 a6
  go_wp2_with fail
  go_loopw [12] (fun i wr => ∃ (j : Nat) (q : Value), j ≤ d.l.length ∧ i = .int .i64 j ∧ CellN gv q wr ∧ GrewN [gv] (gv + 1) (Tr.walkL Ko.bound (d.l.take j) acc0) v w q wr) (fun i _ => d.l.length - (intOf i).toNat)
  case atStart => exact ⟨0, v1, Nat.zero_le _, rfl, HC1.out, HG1.out⟩
  case round =>
    obtain ⟨j, q, hj, rfl, hcq, hG⟩ := hrel
    have hs2 := hG.2.1.size
    by_cases hlt : j < d.l.length
    · obtain ⟨b, o, hA, hblk, c0, c1, c2, c3, c4, c5, c6, c7, hix⟩ := Ko.at_ ((Ko.E_in hin).2.below (hG.below (by simpa using hB) hv hBw)) (i := j) (x := d.l[j]) (List.getElem?_eq_getElem hlt)
      have hsz := Tr.sizeL_mem (l := d.l) (List.getElem_mem hlt)
      have hwl := Tr.walkL_len Ko.bound_len (d.l.take j) acc0
      have hbd := Tr.bulkL_drop Ko.bulk d.l j hlt
      have hG1 := hG.alloc (.cells #[.int .i64 d.l[j].a.k, .int .i64 d.l[j].a.n, .slice d.l[j].a.sA d.l[j].a.s.length d.l[j].a.sC, .int .i64 d.l[j].a.d.k, .int .i64 d.l[j].a.d.n, .string d.l[j].a.d.t, .slice d.l[j].a.d.A d.l[j].a.d.l.length d.l[j].a.d.c, .slice d.l[j].A d.l[j].l.length d.l[j].c] 35)
      have hc2 := hcq.alloc (.cells #[.int .i64 d.l[j].a.k, .int .i64 d.l[j].a.n, .slice d.l[j].a.sA d.l[j].a.s.length d.l[j].a.sC, .int .i64 d.l[j].a.d.k, .int .i64 d.l[j].a.d.n, .string d.l[j].a.d.t, .slice d.l[j].a.d.A d.l[j].a.d.l.length d.l[j].a.d.c, .slice d.l[j].A d.l[j].l.length d.l[j].c] 35)
      have HG1 := Lib.hid hG1
      have HC2 := Lib.hid hc2
      clear hG hG1 hc2 hcq
      rw [hA]
      go_wp2_with fail
      refine (ih d.l[j] B gv (Tr.walkL Ko.bound (d.l.take j) acc0) _ _ (by omega) (Elem.In.alloc hix (by omega) _) hB HC2.out HG1.out.1 (by omega)).mono ?_
      rintro e w1 ⟨rfl, v', hc3, hG2⟩
      have hG3 := HG1.out.trans hG2
      have HG3 := Lib.hid hG3
      have HC3 := Lib.hid hc3
      clear hG3 hG2 hc3
      go_wp2_with fail
      refine ⟨⟨j + 1, v', by omega, by go_num, HC3.out, ?_⟩, by simp [intOf]; omega⟩
      rw [Tr.walkL_take_succ Ko.bound d.l j hlt]
      exact HG3.out
    · have hj' : j = d.l.length := by omega
      subst hj'
      rw [List.take_length] at hG
      have HG := Lib.hid hG
      clear hG
      go_wp2_with fail
      go_end0
      exact ⟨rfl, q, hcq, by rw [K.out]; exact HG.out⟩
theorem eachB_any : ∀ m, KoEachBOk m := by
  intro m
  induction m with
  | zero => intro d B gv acc v w h; have := d.size_pos; omega
  | succ m ih => exact eachB_step m ih
set_option maxRecDepth 100000 in
set_option maxHeartbeats 2000000 in
theorem implBnd_any (d : Tr Ko) (B : Nat) (w : World) (hin : Ko.E.In w B d) (hB : B ≤ w.heap.size) (hb : d.bulk Ko.bulk ≤ 1500000) : Calls Tryz.prog 54 #[Ko.val d] w (RetI (d.walk Ko.bound []) w) := by
  obtain ⟨W, hW⟩ : ∃ W, W = w.alloc (.cells #[.int .i64 d.a.k, .int .i64 d.a.n, .slice d.a.sA d.a.s.length d.a.sC, .int .i64 d.a.d.k, .int .i64 d.a.d.n, .string d.a.d.t, .slice d.a.d.A d.a.d.l.length d.a.d.c, .slice d.A d.l.length d.c] 35) := ⟨_, rfl⟩
  obtain ⟨W2, hW2⟩ : ∃ W2, W2 = W.alloc (.cells #[.slice none 0 0] 22) := ⟨_, rfl⟩
  have zW : W.heap.size = w.heap.size + 1 := by rw [hW]; simp
  have zW2 : W2.heap.size = w.heap.size + 2 := by rw [hW2]; simp [zW]
  have b1 : Below w.heap.size w W := by rw [hW]; exact (Below.refl _ _).alloc (Nat.le_refl _) _
  have b2 : Below w.heap.size w W2 := by rw [hW2]; exact b1.alloc (by omega) _
  have hin2 : Ko.E.In W2 w.heap.size d := Elem.In.below (Elem.In.more hin hB) b2
  have hc2 : CellN (w.heap.size + 1) (.slice none 0 0) W2 := by rw [hW2, ← zW]; exact CellN.new _ _ _
  have X0 : Ko.Box W2 w.heap.size d := by rw [hW2]; exact Ko.Box.below (by rw [hW]; exact Ko.Box.new _ _ _) ((Below.refl _ _).alloc (Nat.le_refl W.heap.size) _) (by omega)
  have rn : W2.ownsRow (w.heap.size + 1 + 1) 3 1 (.slice none 0 0) ([] : List Int).length (([] : List Int).map (Value.int .i64)) := World.ownsRow_nil _ _ _ _
  have hmf : ∀ (fn : Fn) (first cap : Array Value) (w : World), (Instr.makeFunc fn first cap).run Tryz.prog w = .ok (.func fn first cap) w := fun _ _ _ _ => rfl
  unfold Ko.val
  obtain ⟨a0, a1, a2, a3, a4, a5, a6, a7⟩ := X0
  go_enter Tryz.func54, Tryz.ntmps54
  go_wp2_with fail
  rw [← hW, ← hW2]
  clear hW hW2 a0 a1 a2 a3 a4 a5 a6 a7
  refine (eachB_any _ d w.heap.size (w.heap.size + 1) [] (.slice none 0 0) W2 (Nat.le_refl _) hin2 (by omega) hc2 rn (by simp; omega)).mono ?_
  rintro e w1 ⟨rfl, v', hc3, hG⟩
  have hb3 : Below w.heap.size W2 w1 := hG.below (by simp) (fun g hg => by simp [Value.ownBlock] at hg) (by omega)
  have q0 := hc3.cell
  obtain ⟨A', c', rfl, ho⟩ := own_of_row hG.1
  have z3 := hb3.size
  have HO := Lib.hid (ho.wide (lo' := w.heap.size) (by omega) (Nat.le_refl _))
  have HB := Lib.hid (b2.trans hb3)
  clear hG ho hc3 hb3
  go_wp2_with fail
  go_ret
  exact ⟨A', c', rfl, HO.out, HB.out⟩
end Go.Proofs.YtpigpncbjckbcaaGreat
