/-
  The program's RenumberCore (written by gen/korni.py).
-/
import Derived.Test.YtpigpncbjckbcaaGreatKrf
import Derived.Test.YtpigpncbjckbcaaGreatKcr
import Derived.Test.YtpigpncbjckbcaaGreatGKv
import Derived.Test.YtpigpncbjckbcaaGreatKcy
import Derived.Test.YtpigpncbjckbcaaGreatKrn
import Derived.Test.YtpigpncbjckbcaaGreatKvBC
import Derived.Test.YtpigpncbjckbcaaGreatGKs
import Derived.Test.YtpigpncbjckbcaaGreatScSets
namespace Go.Proofs.YtpigpncbjckbcaaGreat
open Go.RowKit
theorem Tr.valid_binders2 {d : Tr Ko} (h : d.validB = true) : (Tr.binders d).Nodup ∧ ∀ x ∈ Tr.binders d, 0 ≤ x ∧ x < 100000 := by
  unfold validB binds at h
  simp only [Bool.and_eq_true, walk_binders, List.nil_append] at h
  have h2 := uniqK_out h.2.2.2
  exact ⟨h2.1, fun x hx => (h2.2 x hx).2⟩
def RetKoI (x : Tr Ko) (m : Int) (w : World) (e : Ending) (w' : World) : Prop := ∃ d : Tr Ko, e = .returned (.tuple #[Ko.val d, .int .i64 m]) ∧ d.er Ko.er = x ∧ Ko.E.Own w.heap.size w'.heap.size w' d ∧ Below w.heap.size w w'
def Tr.rnC (first : Int) (d : Tr Ko) : Tr Ko := if d.canRn first = true then d.ren (numF first (Tr.binders d)) else d
def Tr.rnN (first : Int) (d : Tr Ko) : Int := if d.canRn first = true then first + ((Tr.binders d).length : Int) else first
set_option maxRecDepth 100000 in
set_option maxHeartbeats 8000000 in
theorem implRnC_any (first : Int) (d : Tr Ko) (B : Nat) (w : World) (hd : Ko.E.In w B d) (hB : B ≤ w.heap.size) (hbk : d.bulk Ko.bulk ≤ 1500000) :
    Calls Tryz.prog 11 #[Ko.val d, .int .i64 first] w (RetKoI ((Tr.rnC first d).er Ko.er) (Tr.rnN first d) w) := by
  have hbl := Tr.binders_len d
  obtain ⟨W1, hW1⟩ : ∃ W1, W1 = w.alloc (.cells #[.int .i64 d.a.k, .int .i64 d.a.n, .slice d.a.sA d.a.s.length d.a.sC, .int .i64 d.a.d.k, .int .i64 d.a.d.n, .string d.a.d.t, .slice d.a.d.A d.a.d.l.length d.a.d.c, .slice d.A d.l.length d.c] 35) := ⟨_, rfl⟩
  obtain ⟨W2, hW2⟩ : ∃ W2, W2 = W1.alloc (.cells #[.int .i64 0, .int .i64 0, .slice none 0 0, .int .i64 0, .int .i64 0, .string ⟨#[]⟩, .slice none 0 0, .slice none 0 0] 35) := ⟨_, rfl⟩
  have z1 : W1.heap.size = w.heap.size + 1 := by rw [hW1]; simp
  have z2 : W2.heap.size = w.heap.size + 1 + 1 := by rw [hW2]; simp [z1]
  have B1 : Below w.heap.size w W1 := by rw [hW1]; exact (Below.refl _ _).alloc (Nat.le_refl _) _
  have B2 : Below W1.heap.size W1 W2 := by rw [hW2]; exact (Below.refl _ _).alloc (Nat.le_refl _) _
  have X0 : Ko.Box W1 w.heap.size d := by rw [hW1]; exact Ko.Box.new _ _ _
  have X0 := X0.below B2 (by omega)
  have R0 : D.Blk W2 (w.heap.size + 1) 35 #[.int .i64 0, .int .i64 0, .slice none 0 0, .int .i64 0, .int .i64 0, .string ⟨#[]⟩, .slice none 0 0, .slice none 0 0] := by rw [hW2, ← z1]; exact D.Blk.new _ _ _
  have b0 : Below w.heap.size w W2 := B1.trans (B2.mono (by omega))
  have zb : w.heap.size + 2 ≤ W2.heap.size := by omega
  have hcan := implCanRn_any d first B W2 (Elem.In.below hd (b0.mono hB)) (by omega) hbk
  obtain ⟨a0, a1, a2, a3, a4, a5, a6, a7⟩ := id X0
  unfold Ko.val at hcan
  have h1 : Ko.val d = .agg #[.int .i64 d.a.k, .int .i64 d.a.n, .slice d.a.sA d.a.s.length d.a.sC, .int .i64 d.a.d.k, .int .i64 d.a.d.n, .string d.a.d.t, .slice d.a.d.A d.a.d.l.length d.a.d.c, .slice d.A d.l.length d.c] := rfl
  rw [h1]
  clear h1
  cases hq : d.canRn first
  · have HF := Lib.hid hq
    rw [hq] at hcan
    clear hq
    go_enter Tryz.func11, Tryz.ntmps11
    go_upto_region 1 with fail
    rw [← hW1, ← hW2]
    clear hW1 hW2 B1 B2 z1 z2
    go_wp2_with (first | (go_at_call 51; (with_reducible refine hcan.mono ?_); clear hcan; rintro e V ⟨rfl, hb⟩; have zV := hb.size; have XV := X0.below hb (by omega); have RV := R0.below hb (by omega); have bV := b0.trans (hb.mono (by omega)); obtain ⟨a0, a1, a2, a3, a4, a5, a6, a7⟩ := id XV))
    have hcon := copyCore_any d B V hbk (Elem.In.below hd (bV.mono hB)) (by omega)
    unfold Ko.val at hcon
    (with_reducible refine hcon.mono ?_)
    clear hcon
    rintro e v ⟨d', rfl, he, ho, hb⟩
    have zv := hb.size
    have Rv := RV.below hb (by omega)
    have bv := bV.trans (hb.mono (by omega))
    have HE := Lib.hid he
    have P0 := ho.wide (lo' := w.heap.size + 2) (by omega) (Nat.le_refl v.heap.size)
    clear he ho hb
    have r0 : World.cell? v ⟨w.heap.size + 1, 0, none⟩ = some (.int .i64 0) := Rv.cell 0; have g0 := Rv.frozen 0; have r1 : World.cell? v ⟨w.heap.size + 1, 1, none⟩ = some (.int .i64 0) := Rv.cell 1; have g1 := Rv.frozen 1; have r2 : World.cell? v ⟨w.heap.size + 1, 2, none⟩ = some (.slice none 0 0) := Rv.cell 2; have g2 := Rv.frozen 2; have r3 : World.cell? v ⟨w.heap.size + 1, 3, none⟩ = some (.int .i64 0) := Rv.cell 3; have g3 := Rv.frozen 3; have r4 : World.cell? v ⟨w.heap.size + 1, 4, none⟩ = some (.int .i64 0) := Rv.cell 4; have g4 := Rv.frozen 4; have r5 : World.cell? v ⟨w.heap.size + 1, 5, none⟩ = some (.string ⟨#[]⟩) := Rv.cell 5; have g5 := Rv.frozen 5; have r6 : World.cell? v ⟨w.heap.size + 1, 6, none⟩ = some (.slice none 0 0) := Rv.cell 6; have g6 := Rv.frozen 6; have r7 : World.cell? v ⟨w.heap.size + 1, 7, none⟩ = some (.slice none 0 0) := Rv.cell 7; have g7 := Rv.frozen 7
    have PP := Lib.hid P0
    clear P0 Rv
    simp only [Ko.val]
    go_wp2_with fail
    refine bodyPost_ret (v := .tuple #[.agg #[.int .i64 d'.a.k, .int .i64 d'.a.n, .slice d'.a.sA d'.a.s.length d'.a.sC, .int .i64 d'.a.d.k, .int .i64 d'.a.d.n, .string d'.a.d.t, .slice d'.a.d.A d'.a.d.l.length d'.a.d.c, .slice d'.A d'.l.length d'.c], .int .i64 first]) (by simp [results, Tryz.results11, go_sem, r0, r1, r2, r3, r4, r5, r6, r7]) rfl ⟨d', by unfold Tr.rnN; rw [HF.out, if_neg (by simp)]; rfl, by unfold Tr.rnC; rw [HF.out, if_neg (by simp)]; exact HE.out, ?_, ?_⟩
    · simp only [World.size_setCell]
      exact (((((((((PP.out.far (by simp <;> omega) _).far (by simp <;> omega) _).far (by simp <;> omega) _).far (by simp <;> omega) _).far (by simp <;> omega) _).far (by simp <;> omega) _).far (by simp <;> omega) _).far (by simp <;> omega) _).wide (by omega) (Nat.le_refl _))
    · exact ((((((((bv.setCell (by simp <;> omega) _).setCell (by simp <;> omega) _).setCell (by simp <;> omega) _).setCell (by simp <;> omega) _).setCell (by simp <;> omega) _).setCell (by simp <;> omega) _).setCell (by simp <;> omega) _).setCell (by simp <;> omega) _)
  · have HF := Lib.hid hq
    rw [hq] at hcan
    have hcr := hq
    unfold Tr.canRn at hcr
    simp only [Bool.and_eq_true] at hcr
    have hir := hcr.1
    unfold inR at hir
    obtain ⟨hf0, hf1⟩ := of_decide_eq_true hir
    obtain ⟨hnd, hrg⟩ := Tr.valid_binders2 hcr.2.1
    have hs1 : first + ((Tr.binders d).length : Int) ≤ 99999 := of_decide_eq_true hcr.2.2.2
    have hs0 : 0 ≤ first + ((Tr.binders d).length : Int) := by omega
    clear hq hcr hir
    go_enter Tryz.func11, Tryz.ntmps11
    go_upto_region 1 with fail
    rw [← hW1, ← hW2]
    clear hW1 hW2 B1 B2 z1 z2
    go_upto_region 3 with (first | (go_at_call 51; (with_reducible refine hcan.mono ?_); clear hcan; rintro e V ⟨rfl, hb⟩))
    have zV := hb.size
    have XV := X0.below hb (by omega)
    have RV := R0.below hb (by omega)
    have bV := b0.trans (hb.mono (by omega))
    have hdV := Elem.In.below hd (bV.mono hB)
    have lx : w.heap.size < V.heap.size := by omega
    obtain ⟨p0, p1, p2, p3, p4, p5, p6, p7⟩ := id XV
    have a0 := p0
    have a1 := p1
    have a2 := p2
    have a3 := p3
    have a4 := p4
    have a5 := p5
    have a6 := p6
    have a7 := p7
    have r0 : World.cell? V ⟨w.heap.size + 1, 0, none⟩ = some (.int .i64 0) := RV.cell 0; have g0 := RV.frozen 0; have r1 : World.cell? V ⟨w.heap.size + 1, 1, none⟩ = some (.int .i64 0) := RV.cell 1; have g1 := RV.frozen 1; have r2 : World.cell? V ⟨w.heap.size + 1, 2, none⟩ = some (.slice none 0 0) := RV.cell 2; have g2 := RV.frozen 2; have r3 : World.cell? V ⟨w.heap.size + 1, 3, none⟩ = some (.int .i64 0) := RV.cell 3; have g3 := RV.frozen 3; have r4 : World.cell? V ⟨w.heap.size + 1, 4, none⟩ = some (.int .i64 0) := RV.cell 4; have g4 := RV.frozen 4; have r5 : World.cell? V ⟨w.heap.size + 1, 5, none⟩ = some (.string ⟨#[]⟩) := RV.cell 5; have g5 := RV.frozen 5; have r6 : World.cell? V ⟨w.heap.size + 1, 6, none⟩ = some (.slice none 0 0) := RV.cell 6; have g6 := RV.frozen 6; have r7 : World.cell? V ⟨w.heap.size + 1, 7, none⟩ = some (.slice none 0 0) := RV.cell 7; have g7 := RV.frozen 7
    have tok0 : True := trivial
    have tok1 : True := trivial
    clear hb
    go_region_held3 (fun w' => w'.cell? ⟨w.heap.size, 0, none⟩ = some (.int .i64 d.a.k) ∧ w'.cell? ⟨w.heap.size, 1, none⟩ = some (.int .i64 d.a.n) ∧ w'.cell? ⟨w.heap.size, 2, none⟩ = some (.slice d.a.sA d.a.s.length d.a.sC) ∧ w'.cell? ⟨w.heap.size, 3, none⟩ = some (.int .i64 d.a.d.k) ∧ w'.cell? ⟨w.heap.size, 4, none⟩ = some (.int .i64 d.a.d.n) ∧ w'.cell? ⟨w.heap.size, 5, none⟩ = some (.string d.a.d.t) ∧ w'.cell? ⟨w.heap.size, 6, none⟩ = some (.slice d.a.d.A d.a.d.l.length d.a.d.c) ∧ w'.cell? ⟨w.heap.size, 7, none⟩ = some (.slice d.A d.l.length d.c)) (go_keep) (first
      | (go_simp; go_at_call 53; have _t := tok0; have hcon := renumF_any first hf0 (by omega) d B V.drew hbk (Elem.In.drew hdV) (show B ≤ V.heap.size by omega) hnd hrg; unfold Ko.val at hcon; (with_reducible refine hcon.mono ?_); clear hcon tok0; rintro e v1 ⟨d', rfl, he, ho, hk1⟩; unfold Ko.val; have h1 : Below V.heap.size V v1 := below_undrew hk1; have y1 := h1.size; have o1 := ho.wide (lo' := w.heap.size + 2) (show w.heap.size + 2 ≤ V.drew.heap.size by show _ ≤ V.heap.size; omega) (Nat.le_refl v1.heap.size); have HE := Lib.hid he; have RV1 := RV.below h1 (by omega); have r0 : World.cell? v1 ⟨w.heap.size + 1, 0, none⟩ = some (.int .i64 0) := RV1.cell 0; have g0 := RV1.frozen 0; have r1 : World.cell? v1 ⟨w.heap.size + 1, 1, none⟩ = some (.int .i64 0) := RV1.cell 1; have g1 := RV1.frozen 1; have r2 : World.cell? v1 ⟨w.heap.size + 1, 2, none⟩ = some (.slice none 0 0) := RV1.cell 2; have g2 := RV1.frozen 2; have r3 : World.cell? v1 ⟨w.heap.size + 1, 3, none⟩ = some (.int .i64 0) := RV1.cell 3; have g3 := RV1.frozen 3; have r4 : World.cell? v1 ⟨w.heap.size + 1, 4, none⟩ = some (.int .i64 0) := RV1.cell 4; have g4 := RV1.frozen 4; have r5 : World.cell? v1 ⟨w.heap.size + 1, 5, none⟩ = some (.string ⟨#[]⟩) := RV1.cell 5; have g5 := RV1.frozen 5; have r6 : World.cell? v1 ⟨w.heap.size + 1, 6, none⟩ = some (.slice none 0 0) := RV1.cell 6; have g6 := RV1.frozen 6; have r7 : World.cell? v1 ⟨w.heap.size + 1, 7, none⟩ = some (.slice none 0 0) := RV1.cell 7; have g7 := RV1.frozen 7; have a0 := (h1.cell (p := ⟨w.heap.size, 0, none⟩) lx).trans p0; have a1 := (h1.cell (p := ⟨w.heap.size, 1, none⟩) lx).trans p1; have a2 := (h1.cell (p := ⟨w.heap.size, 2, none⟩) lx).trans p2; have a3 := (h1.cell (p := ⟨w.heap.size, 3, none⟩) lx).trans p3; have a4 := (h1.cell (p := ⟨w.heap.size, 4, none⟩) lx).trans p4; have a5 := (h1.cell (p := ⟨w.heap.size, 5, none⟩) lx).trans p5; have a6 := (h1.cell (p := ⟨w.heap.size, 6, none⟩) lx).trans p6; have a7 := (h1.cell (p := ⟨w.heap.size, 7, none⟩) lx).trans p7; clear he ho hk1)
      | (go_simp; go_at_call 54; have _t := tok1; refine gen_worldK ?_; intro Wc hWc; have hbc : Below w.heap.size v1 Wc := (by first | (rw [hWc]; exact Below.refl _ _) | (rw [hWc]; exact (((((((((Below.refl _ _).setCell (by simp) _).setCell (by simp) _).setCell (by simp) _).setCell (by simp) _).setCell (by simp) _).setCell (by simp) _).setCell (by simp) _).setCell (by simp) _))); have hkc : ∀ k, k ≠ w.heap.size + 1 → Wc.heap[k]? = v1.heap[k]? := (fun k hk => by first | (rw [hWc]) | (rw [hWc]; have e : ∀ (u : World) (j : Nat) (x : Value), (u.setCell ⟨w.heap.size + 1, j, none⟩ x).heap[k]? = u.heap[k]? := (fun u j x => Below.heap_setCell _ _ _ _ (by simpa using hk)); simp only [e])); have zc : Wc.heap.size = v1.heap.size := (by first | (rw [hWc]) | (rw [hWc]; simp only [World.size_setCell])); have hcon := implBnd_any d B Wc (Elem.In.below hd ((bV.trans ((h1.mono (by omega)).trans hbc)).mono hB)) (by omega) hbk; rw [Tr.walk_binders, List.nil_append] at hcon; unfold Ko.val at hcon; (with_reducible refine hcon.mono ?_); clear hcon tok1; rintro e v2 ⟨A2, cc2, rfl, o2, h2⟩; have y2 := h2.size; have a0 : World.cell? v2 ⟨w.heap.size, 0, none⟩ = some (.int .i64 d.a.k) := (h2.cell (p := ⟨w.heap.size, 0, none⟩) (by show w.heap.size < _; omega)).trans ((World.cell?_of_block (a := ⟨w.heap.size, 0, none⟩) (hkc _ (show w.heap.size ≠ w.heap.size + 1 by omega))).trans a0); have a1 : World.cell? v2 ⟨w.heap.size, 1, none⟩ = some (.int .i64 d.a.n) := (h2.cell (p := ⟨w.heap.size, 1, none⟩) (by show w.heap.size < _; omega)).trans ((World.cell?_of_block (a := ⟨w.heap.size, 1, none⟩) (hkc _ (show w.heap.size ≠ w.heap.size + 1 by omega))).trans a1); have a2 : World.cell? v2 ⟨w.heap.size, 2, none⟩ = some (.slice d.a.sA d.a.s.length d.a.sC) := (h2.cell (p := ⟨w.heap.size, 2, none⟩) (by show w.heap.size < _; omega)).trans ((World.cell?_of_block (a := ⟨w.heap.size, 2, none⟩) (hkc _ (show w.heap.size ≠ w.heap.size + 1 by omega))).trans a2); have a3 : World.cell? v2 ⟨w.heap.size, 3, none⟩ = some (.int .i64 d.a.d.k) := (h2.cell (p := ⟨w.heap.size, 3, none⟩) (by show w.heap.size < _; omega)).trans ((World.cell?_of_block (a := ⟨w.heap.size, 3, none⟩) (hkc _ (show w.heap.size ≠ w.heap.size + 1 by omega))).trans a3); have a4 : World.cell? v2 ⟨w.heap.size, 4, none⟩ = some (.int .i64 d.a.d.n) := (h2.cell (p := ⟨w.heap.size, 4, none⟩) (by show w.heap.size < _; omega)).trans ((World.cell?_of_block (a := ⟨w.heap.size, 4, none⟩) (hkc _ (show w.heap.size ≠ w.heap.size + 1 by omega))).trans a4); have a5 : World.cell? v2 ⟨w.heap.size, 5, none⟩ = some (.string d.a.d.t) := (h2.cell (p := ⟨w.heap.size, 5, none⟩) (by show w.heap.size < _; omega)).trans ((World.cell?_of_block (a := ⟨w.heap.size, 5, none⟩) (hkc _ (show w.heap.size ≠ w.heap.size + 1 by omega))).trans a5); have a6 : World.cell? v2 ⟨w.heap.size, 6, none⟩ = some (.slice d.a.d.A d.a.d.l.length d.a.d.c) := (h2.cell (p := ⟨w.heap.size, 6, none⟩) (by show w.heap.size < _; omega)).trans ((World.cell?_of_block (a := ⟨w.heap.size, 6, none⟩) (hkc _ (show w.heap.size ≠ w.heap.size + 1 by omega))).trans a6); have a7 : World.cell? v2 ⟨w.heap.size, 7, none⟩ = some (.slice d.A d.l.length d.c) := (h2.cell (p := ⟨w.heap.size, 7, none⟩) (by show w.heap.size < _; omega)).trans ((World.cell?_of_block (a := ⟨w.heap.size, 7, none⟩) (hkc _ (show w.heap.size ≠ w.heap.size + 1 by omega))).trans a7); (first | (have RV2 : D.Blk v2 (w.heap.size + 1) 35 #[.int .i64 0, .int .i64 0, .slice none 0 0, .int .i64 0, .int .i64 0, .string ⟨#[]⟩, .slice none 0 0, .slice none 0 0] := (by rw [hWc] at h2; exact RV1.below h2 (by omega)); have s0 : World.cell? v2 ⟨w.heap.size + 1, 0, none⟩ = some (.int .i64 0) := RV2.cell 0; have t0 := RV2.frozen 0; have s1 : World.cell? v2 ⟨w.heap.size + 1, 1, none⟩ = some (.int .i64 0) := RV2.cell 1; have t1 := RV2.frozen 1; have s2 : World.cell? v2 ⟨w.heap.size + 1, 2, none⟩ = some (.slice none 0 0) := RV2.cell 2; have t2 := RV2.frozen 2; have s3 : World.cell? v2 ⟨w.heap.size + 1, 3, none⟩ = some (.int .i64 0) := RV2.cell 3; have t3 := RV2.frozen 3; have s4 : World.cell? v2 ⟨w.heap.size + 1, 4, none⟩ = some (.int .i64 0) := RV2.cell 4; have t4 := RV2.frozen 4; have s5 : World.cell? v2 ⟨w.heap.size + 1, 5, none⟩ = some (.string ⟨#[]⟩) := RV2.cell 5; have t5 := RV2.frozen 5; have s6 : World.cell? v2 ⟨w.heap.size + 1, 6, none⟩ = some (.slice none 0 0) := RV2.cell 6; have t6 := RV2.frozen 6; have s7 : World.cell? v2 ⟨w.heap.size + 1, 7, none⟩ = some (.slice none 0 0) := RV2.cell 7; have t7 := RV2.frozen 7) | skip))
      | fail)
    have bw : Below w.heap.size w v1 := bV.trans (h1.mono (by omega))
    rw [hWc] at h2 o2 y2
    have q2 : Below w.heap.size w v2 := bw.trans (h2.mono (by omega))
    have o3 := (o1.below h2).wide (lo' := w.heap.size + 2) (Nat.le_refl _) y2
    have HWR := Lib.hid (IntWalk.i64_in (first + ((Tr.binders d).length : Int)) (by omega))
    go_wp2_with fail
    refine bodyPost_ret (v := .tuple #[.agg #[.int .i64 d'.a.k, .int .i64 d'.a.n, .slice d'.a.sA d'.a.s.length d'.a.sC, .int .i64 d'.a.d.k, .int .i64 d'.a.d.n, .string d'.a.d.t, .slice d'.a.d.A d'.a.d.l.length d'.a.d.c, .slice d'.A d'.l.length d'.c], .int .i64 (first + ((Tr.binders d).length : Int))]) (by rw [HWR.out]; simp [results, Tryz.results11, go_sem, s0, s1, s2, s3, s4, s5, s6, s7]) rfl ⟨d', by unfold Tr.rnN; rw [HF.out, if_pos rfl]; rfl, by unfold Tr.rnC; rw [HF.out, if_pos rfl]; exact HE.out, ?_, ?_⟩
    · simp only [World.size_setCell]
      exact (((((((((o3.far (by simp <;> omega) _).far (by simp <;> omega) _).far (by simp <;> omega) _).far (by simp <;> omega) _).far (by simp <;> omega) _).far (by simp <;> omega) _).far (by simp <;> omega) _).far (by simp <;> omega) _).wide (by omega) (Nat.le_refl _))
    · exact ((((((((q2.setCell (by simp <;> omega) _).setCell (by simp <;> omega) _).setCell (by simp <;> omega) _).setCell (by simp <;> omega) _).setCell (by simp <;> omega) _).setCell (by simp <;> omega) _).setCell (by simp <;> omega) _).setCell (by simp <;> omega) _)
end Go.Proofs.YtpigpncbjckbcaaGreat
namespace Go.Proofs.YtpigpncbjckbcaaGreat
open Go.RowKit
def rngI (o : Int) (n : Nat) : List Int := (List.range n).map fun i : Nat => o + (i : Int)
theorem rngI_len (o : Int) (n : Nat) : (rngI o n).length = n := by simp [rngI]
theorem rngI_snoc (o : Int) (n : Nat) : rngI o (n + 1) = rngI o n ++ [o + (n : Int)] := by
  unfold rngI
  rw [List.range_succ, List.map_append]
  rfl
theorem rngI_at (o : Int) (n : Nat) {i : Nat} (h : i < n) : (rngI o n).getD i 0 = o + (i : Int) := by
  unfold rngI
  rw [List.getD_eq_getElem?_getD, List.getElem?_map, List.getElem?_range h]
  rfl
theorem rngI_mem {o : Int} {n : Nat} {x : Int} (h : x ∈ rngI o n) : o ≤ x ∧ x < o + (n : Int) := by
  unfold rngI at h
  obtain ⟨i, hi, rfl⟩ := List.mem_map.1 h
  have := List.mem_range.1 hi
  omega
theorem numF_none_ : ∀ {l : List Int} {o u : Int}, u ∉ l → numF o l u = u := by
  intro l
  induction l with
  | nil => intro o u _; rfl
  | cons x r ih =>
    intro o u h
    rw [List.mem_cons, not_or] at h
    unfold numF
    rw [if_neg h.1]
    exact ih h.2
theorem numF_at_ : ∀ {l : List Int} (o : Int) {i : Nat} (hi : i < l.length), l.Nodup → numF o l l[i] = o + (i : Int) := by
  intro l
  induction l with
  | nil => intro o i hi; simp at hi
  | cons x r ih =>
    intro o i hi h
    have hc := List.nodup_cons.1 h
    cases i with
    | zero => unfold numF; rw [List.getElem_cons_zero, if_pos rfl]; simp
    | succ i =>
      have hi2 : i < r.length := by simpa using hi
      unfold numF
      rw [List.getElem_cons_succ, if_neg (fun e => hc.1 (by rw [← e]; exact List.getElem_mem hi2)), ih (o + 1) hi2 hc.2]
      omega
theorem renM_seq {l : List Int} (o u : Int) (h : l.Nodup) : renM l (rngI o l.length) u = numF o l u := by
  unfold renM
  by_cases hm : u ∈ l
  · obtain ⟨i, hi, rfl⟩ := List.getElem_of_mem hm
    have hd := List.drop_eq_getElem_cons hi
    have hn : (l[i] :: l.drop (i + 1)).Nodup := hd ▸ h.sublist (List.drop_sublist i l)
    rw [lookL_at hi rfl (List.nodup_cons.1 hn).1, if_pos (by omega), numF_at_ o hi h, Int.toNat_natCast, rngI_at _ _ hi]
  · rw [lookL_no hm, if_neg (by omega), numF_none_ hm]
theorem renM_seqF {l : List Int} (o : Int) (h : l.Nodup) : renM l (rngI o l.length) = numF o l := funext fun u => renM_seq o u h
end Go.Proofs.YtpigpncbjckbcaaGreat
namespace Go.Proofs.YtpigpncbjckbcaaGreat
open Go.RowKit
set_option maxRecDepth 100000 in
set_option maxHeartbeats 8000000 in
theorem specRnC_any (first : Int) (d : Tr Ko) (B : Nat) (w : World) (hd : Ko.E.In w B d) (hB : B ≤ w.heap.size) (hbk : d.bulk Ko.bulk ≤ 1500000) :
    Calls Tryz.prog 9 #[Ko.val d, .int .i64 first] w (RetKoI ((Tr.rnC first d).er Ko.er) (Tr.rnN first d) w) := by
  have hbl := Tr.binders_len d
  obtain ⟨W1, hW1⟩ : ∃ W1, W1 = w.alloc (.cells #[.int .i64 d.a.k, .int .i64 d.a.n, .slice d.a.sA d.a.s.length d.a.sC, .int .i64 d.a.d.k, .int .i64 d.a.d.n, .string d.a.d.t, .slice d.a.d.A d.a.d.l.length d.a.d.c, .slice d.A d.l.length d.c] 35) := ⟨_, rfl⟩
  obtain ⟨W2, hW2⟩ : ∃ W2, W2 = W1.alloc (.cells #[.int .i64 0, .int .i64 0, .slice none 0 0, .int .i64 0, .int .i64 0, .string ⟨#[]⟩, .slice none 0 0, .slice none 0 0] 35) := ⟨_, rfl⟩
  have z1 : W1.heap.size = w.heap.size + 1 := by rw [hW1]; simp
  have z2 : W2.heap.size = w.heap.size + 1 + 1 := by rw [hW2]; simp [z1]
  have B1 : Below w.heap.size w W1 := by rw [hW1]; exact (Below.refl _ _).alloc (Nat.le_refl _) _
  have B2 : Below W1.heap.size W1 W2 := by rw [hW2]; exact (Below.refl _ _).alloc (Nat.le_refl _) _
  have X0 : Ko.Box W1 w.heap.size d := by rw [hW1]; exact Ko.Box.new _ _ _
  have X0 := X0.below B2 (by omega)
  have R0 : D.Blk W2 (w.heap.size + 1) 35 #[.int .i64 0, .int .i64 0, .slice none 0 0, .int .i64 0, .int .i64 0, .string ⟨#[]⟩, .slice none 0 0, .slice none 0 0] := by rw [hW2, ← z1]; exact D.Blk.new _ _ _
  have b0 : Below w.heap.size w W2 := B1.trans (B2.mono (by omega))
  have zb : w.heap.size + 2 ≤ W2.heap.size := by omega
  have lx : w.heap.size < W2.heap.size := by omega
  have hxW : ∀ z : World, Below W2.heap.size W2 z → Ko.E.In z B d := fun z hz => Elem.In.below hd ((b0.trans (hz.mono (by omega))).mono hB)
  have hval := specValid_any d B W2 (hxW _ (Below.refl _ _)) (by omega) hbk
  obtain ⟨a0, a1, a2, a3, a4, a5, a6, a7⟩ := id X0
  unfold Ko.val at hval
  rw [show Ko.val d = .agg #[.int .i64 d.a.k, .int .i64 d.a.n, .slice d.a.sA d.a.s.length d.a.sC, .int .i64 d.a.d.k, .int .i64 d.a.d.n, .string d.a.d.t, .slice d.a.d.A d.a.d.l.length d.a.d.c, .slice d.A d.l.length d.c] from rfl]
  cases q1 : d.validB
  · have HF : Hid (d.canRn first = false) := by show _ = _; unfold Tr.canRn; rw [q1]; simp
    rw [q1] at hval
    clear q1
    go_enter Tryz.func9, Tryz.ntmps9
    go_upto_region 1 with fail
    rw [← hW1, ← hW2]
    clear hW1 hW2 B1 B2 z1 z2
    go_wp2_with (first | (go_at_call 42; (with_reducible refine hval.mono ?_); clear hval; rintro e V ⟨rfl, hb⟩; have zV := hb.size; have XV := X0.below hb (by omega); have RV := R0.below hb (by omega); have bV := b0.trans (hb.mono (by omega)); have hdV := Elem.In.below hd (bV.mono hB); obtain ⟨a0, a1, a2, a3, a4, a5, a6, a7⟩ := id XV; clear hb))
    have hcon := l5Copy_any d B V hbk hdV (by omega)
    unfold Ko.val at hcon
    (with_reducible refine hcon.mono ?_)
    clear hcon
    rintro e v ⟨d', rfl, he, ho, hb⟩
    have zv := hb.size
    have Rv := RV.below hb (by omega)
    have bv := bV.trans (hb.mono (by omega))
    have HE := Lib.hid he
    have P0 := ho.wide (lo' := w.heap.size + 2) (by omega) (Nat.le_refl v.heap.size)
    clear he ho hb
    have r0 : World.cell? v ⟨w.heap.size + 1, 0, none⟩ = some (.int .i64 0) := Rv.cell 0
    have g0 := Rv.frozen 0
    have r1 : World.cell? v ⟨w.heap.size + 1, 1, none⟩ = some (.int .i64 0) := Rv.cell 1
    have g1 := Rv.frozen 1
    have r2 : World.cell? v ⟨w.heap.size + 1, 2, none⟩ = some (.slice none 0 0) := Rv.cell 2
    have g2 := Rv.frozen 2
    have r3 : World.cell? v ⟨w.heap.size + 1, 3, none⟩ = some (.int .i64 0) := Rv.cell 3
    have g3 := Rv.frozen 3
    have r4 : World.cell? v ⟨w.heap.size + 1, 4, none⟩ = some (.int .i64 0) := Rv.cell 4
    have g4 := Rv.frozen 4
    have r5 : World.cell? v ⟨w.heap.size + 1, 5, none⟩ = some (.string ⟨#[]⟩) := Rv.cell 5
    have g5 := Rv.frozen 5
    have r6 : World.cell? v ⟨w.heap.size + 1, 6, none⟩ = some (.slice none 0 0) := Rv.cell 6
    have g6 := Rv.frozen 6
    have r7 : World.cell? v ⟨w.heap.size + 1, 7, none⟩ = some (.slice none 0 0) := Rv.cell 7
    have g7 := Rv.frozen 7
    have PP := Lib.hid P0
    clear P0 Rv
    simp only [Ko.val]
    go_wp2_with fail
    refine bodyPost_ret (v := .tuple #[.agg #[.int .i64 d'.a.k, .int .i64 d'.a.n, .slice d'.a.sA d'.a.s.length d'.a.sC, .int .i64 d'.a.d.k, .int .i64 d'.a.d.n, .string d'.a.d.t, .slice d'.a.d.A d'.a.d.l.length d'.a.d.c, .slice d'.A d'.l.length d'.c], .int .i64 first]) (by simp [results, Tryz.results9, go_sem, r0, r1, r2, r3, r4, r5, r6, r7]) rfl ⟨d', by unfold Tr.rnN; rw [HF.out, if_neg (by simp)]; rfl, by unfold Tr.rnC; rw [HF.out, if_neg (by simp)]; exact HE.out, ?_, ?_⟩
    · simp only [World.size_setCell]
      exact (((((((((PP.out.far (by simp <;> omega) _).far (by simp <;> omega) _).far (by simp <;> omega) _).far (by simp <;> omega) _).far (by simp <;> omega) _).far (by simp <;> omega) _).far (by simp <;> omega) _).far (by simp <;> omega) _).wide (by omega) (Nat.le_refl _))
    · exact ((((((((bv.setCell (by simp <;> omega) _).setCell (by simp <;> omega) _).setCell (by simp <;> omega) _).setCell (by simp <;> omega) _).setCell (by simp <;> omega) _).setCell (by simp <;> omega) _).setCell (by simp <;> omega) _).setCell (by simp <;> omega) _)
  cases q2 : inR first
  · have HF : Hid (d.canRn first = false) := by show _ = _; unfold Tr.canRn; rw [q2]; simp
    have HI1 : Hid (decide ((0 : Int) ≤ first ∧ first ≤ 99999) = false) := q2
    rw [q1] at hval
    clear q1 q2
    go_enter Tryz.func9, Tryz.ntmps9
    go_upto_region 1 with fail
    rw [← hW1, ← hW2]
    clear hW1 hW2 B1 B2 z1 z2
    go_wp2_with (first | (go_at_call 42; (with_reducible refine hval.mono ?_); clear hval; rintro e V ⟨rfl, hb⟩; have zV := hb.size; have XV := X0.below hb (by omega); have RV := R0.below hb (by omega); have bV := b0.trans (hb.mono (by omega)); have hdV := Elem.In.below hd (bV.mono hB); obtain ⟨a0, a1, a2, a3, a4, a5, a6, a7⟩ := id XV; clear hb) | (go_at_call 43; with_reducible refine (l1In_any _ _ _ _).mono ?_; rintro e wn ⟨rfl, hwn⟩; obtain rfl := hwn; rw [HI1.out]))
    have hcon := l5Copy_any d B V hbk hdV (by omega)
    unfold Ko.val at hcon
    (with_reducible refine hcon.mono ?_)
    clear hcon
    rintro e v ⟨d', rfl, he, ho, hb⟩
    have zv := hb.size
    have Rv := RV.below hb (by omega)
    have bv := bV.trans (hb.mono (by omega))
    have HE := Lib.hid he
    have P0 := ho.wide (lo' := w.heap.size + 2) (by omega) (Nat.le_refl v.heap.size)
    clear he ho hb
    have r0 : World.cell? v ⟨w.heap.size + 1, 0, none⟩ = some (.int .i64 0) := Rv.cell 0
    have g0 := Rv.frozen 0
    have r1 : World.cell? v ⟨w.heap.size + 1, 1, none⟩ = some (.int .i64 0) := Rv.cell 1
    have g1 := Rv.frozen 1
    have r2 : World.cell? v ⟨w.heap.size + 1, 2, none⟩ = some (.slice none 0 0) := Rv.cell 2
    have g2 := Rv.frozen 2
    have r3 : World.cell? v ⟨w.heap.size + 1, 3, none⟩ = some (.int .i64 0) := Rv.cell 3
    have g3 := Rv.frozen 3
    have r4 : World.cell? v ⟨w.heap.size + 1, 4, none⟩ = some (.int .i64 0) := Rv.cell 4
    have g4 := Rv.frozen 4
    have r5 : World.cell? v ⟨w.heap.size + 1, 5, none⟩ = some (.string ⟨#[]⟩) := Rv.cell 5
    have g5 := Rv.frozen 5
    have r6 : World.cell? v ⟨w.heap.size + 1, 6, none⟩ = some (.slice none 0 0) := Rv.cell 6
    have g6 := Rv.frozen 6
    have r7 : World.cell? v ⟨w.heap.size + 1, 7, none⟩ = some (.slice none 0 0) := Rv.cell 7
    have g7 := Rv.frozen 7
    have PP := Lib.hid P0
    clear P0 Rv
    simp only [Ko.val]
    go_wp2_with fail
    refine bodyPost_ret (v := .tuple #[.agg #[.int .i64 d'.a.k, .int .i64 d'.a.n, .slice d'.a.sA d'.a.s.length d'.a.sC, .int .i64 d'.a.d.k, .int .i64 d'.a.d.n, .string d'.a.d.t, .slice d'.a.d.A d'.a.d.l.length d'.a.d.c, .slice d'.A d'.l.length d'.c], .int .i64 first]) (by simp [results, Tryz.results9, go_sem, r0, r1, r2, r3, r4, r5, r6, r7]) rfl ⟨d', by unfold Tr.rnN; rw [HF.out, if_neg (by simp)]; rfl, by unfold Tr.rnC; rw [HF.out, if_neg (by simp)]; exact HE.out, ?_, ?_⟩
    · simp only [World.size_setCell]
      exact (((((((((PP.out.far (by simp <;> omega) _).far (by simp <;> omega) _).far (by simp <;> omega) _).far (by simp <;> omega) _).far (by simp <;> omega) _).far (by simp <;> omega) _).far (by simp <;> omega) _).far (by simp <;> omega) _).wide (by omega) (Nat.le_refl _))
    · exact ((((((((bv.setCell (by simp <;> omega) _).setCell (by simp <;> omega) _).setCell (by simp <;> omega) _).setCell (by simp <;> omega) _).setCell (by simp <;> omega) _).setCell (by simp <;> omega) _).setCell (by simp <;> omega) _).setCell (by simp <;> omega) _)
  obtain ⟨hf0, hf1⟩ : 0 ≤ first ∧ first ≤ 99999 := by have := q2; unfold inR at this; exact of_decide_eq_true this
  obtain ⟨hnd, hrg⟩ := Tr.valid_binders2 q1
  have HV := Lib.hid q1
  have HI := Lib.hid q2
  have HI1 : Hid (decide ((0 : Int) ≤ first ∧ first ≤ 99999) = true) := q2
  rw [q1] at hval
  clear q1 q2
  obtain ⟨i0, hi, hz0, hz1, hz2⟩ := info_parts infoI
  go_enter Tryz.func9, Tryz.ntmps9
  go_upto_region 1 with fail
  rw [← hW1, ← hW2]
  clear hW1 hW2 B1 B2 z1 z2
  go_wp2_with (first | (go_at_call 42; (with_reducible refine hval.mono ?_); clear hval; rintro e V ⟨rfl, hb⟩; have zV := hb.size; have XV := X0.below hb (by omega); have RV := R0.below hb (by omega); have bV := b0.trans (hb.mono (by omega)); have hdV := Elem.In.below hd (bV.mono hB); obtain ⟨a0, a1, a2, a3, a4, a5, a6, a7⟩ := id XV; clear hb) | (go_at_call 43; with_reducible refine (l1In_any _ _ _ _).mono ?_; rintro e wn ⟨rfl, hwn⟩; obtain rfl := hwn; rw [HI1.out]))
  have hcon := specBnd0_any d B V hdV (by omega) hbk
  obtain ⟨L, hL⟩ : ∃ L, L = Tr.binders d := ⟨_, rfl⟩
  rw [← hL] at hcon hbl hnd hrg
  have HL := Lib.hid hL
  clear hL
  unfold Ko.val at hcon
  (with_reducible refine hcon.mono ?_)
  clear hcon
  rintro e v1 ⟨A1, c1, rfl, o1, k1⟩
  have y1 := k1.size
  have hcap := o1.inn.cap
  have hown0 : (v1.alloc (.cells #[] 3)).ownsRow v1.heap.size 3 1 (.slice (some ⟨v1.heap.size, 0, none⟩) 0 0) (rngI first 0).length ((rngI first 0).map (Value.int .i64)) := World.ownsRow_made v1 #[] 0 (Nat.le_refl _) (by unfold maxLen; omega) (by simp)
  have kb0 : Below v1.heap.size v1 (v1.alloc (.cells #[] 3)) := (Below.refl _ _).alloc (Nat.le_refl _) _
  go_wp2_with fail
  go_loopw [7, 27] (fun v i wr => ∃ j : Nat, j ≤ L.length ∧ i = .int .i64 j ∧ wr.ownsRow v1.heap.size 3 1 v (rngI first j).length ((rngI first j).map (Value.int .i64)) ∧ Below v1.heap.size v1 wr) (fun _ i _ => L.length - (intOf i).toNat)
  case atStart => exact ⟨0, Nat.zero_le _, rfl, hown0, kb0⟩
  case round =>
    obtain ⟨j, hj, rfl, hown, hb⟩ := hrel
    have hs2 := hb.size
    have hrl := rngI_len first j
    by_cases hlt : j < L.length
    · have HW := Lib.hid (IntWalk.i64_in (first + (j : Int)) (by omega))
      go_wp2_with (at_builtin; refine wpList_append_own _ rfl _ _ 22 rfl v1.heap.size 3 i0 (.int .i64 0) 1 8 Tryz.underlying22 hi hz0 hz1 hz2 rfl (by decide) _ (rngI first j).length ((rngI first j).map (Value.int .i64)) rfl (hown.alloc _) ⟨wr.heap.size, 0, none⟩ 1 1 [.int .i64 (first + (j : Int))] rfl rfl (inews _ _) (ione _) (by unfold maxLen; omega) (by omega) (by simp; omega) ?_)
      intro v' w1 hown' hgr _
      obtain ⟨r1, r2, r3⟩ := igrow (x := first + (j : Int)) hb hs2 hown (by rw [hrl]; exact hown') hgr
      clear hown' hgr hown
      rw [← rngI_snoc] at r1
      go_wp2_with fail
      exact ⟨⟨j + 1, by omega, by go_num, r1, r2⟩, by simp [intOf]; omega⟩
    · obtain rfl : j = L.length := by omega
      have kv : Below v1.heap.size v1 wr := hb
      have k2 : Below V.heap.size V wr := k1.trans (hb.mono y1)
      have z2 := k2.size
      have X2 := XV.below k2 (by omega)
      obtain ⟨a0, a1, a2, a3, a4, a5, a6, a7⟩ := id X2
      have hfre := specFreV_any d B wr (Elem.In.below hdV (k2.mono (by omega))) (by omega) hbk
      have hfl := Ko.freeV_len d
      obtain ⟨f, hf⟩ : ∃ f, f = d.free [] [] := ⟨_, rfl⟩
      rw [← hf] at hfre hfl
      have HFR := Lib.hid hf
      clear hf
      unfold Ko.val at hfre
      go_wp2_with (go_at_call 46; with_reducible refine hfre.mono ?_)
      clear hfre
      rintro e w2 ⟨A2, c2, rfl, o2, hb2⟩
      have hi2 := o2.inn
      have hcap2 := hi2.cap
      have y2 := hb2.size
      obtain ⟨At, ct, rfl, oM⟩ := own_of_row hown
      have bv1 : Below w.heap.size w v1 := bV.trans (k1.mono (by omega))
      have bw2 : Below w.heap.size w w2 := bv1.trans ((hb.mono (by omega)).trans (hb2.mono (by omega)))
      have q2 : Below V.heap.size V w2 := k2.trans (hb2.mono z2)
      have RV := RV.below q2 (by omega)
      have X3 := X2.below hb2 (by omega)
      obtain ⟨a0, a1, a2, a3, a4, a5, a6, a7⟩ := id X3
      have hd2 := Elem.In.below hdV (q2.mono (by omega))
      have oL := (o1.below (hb.trans (hb2.mono hs2))).inn.more (show _ ≤ w2.heap.size by omega)
      have oM2 := (oM.below hb2).inn.more y2
      have bV := bw2
      clear hown
      go_wp2_with fail
      go_loopw [40] (fun i wr => ∃ j : Nat, j ≤ f.length ∧ i = .int .i64 j ∧ Hid (((f.take j).any fun n => decide (first ≤ n)) = false) ∧ wr = w2) (fun i _ => f.length - (intOf i).toNat)
      case atStart => exact ⟨0, Nat.zero_le _, rfl, rfl, rfl⟩
      case round =>
        obtain ⟨j, hj, rfl, HN, rfl⟩ := hrel
        by_cases hlt : j < f.length
        · obtain ⟨b, o, rfl, hblk, c0⟩ := hi2.at_ hlt
          by_cases hq : first ≤ f[j]
          · have HF : Hid (d.canRn first = false) := by
              show _ = _
              unfold Tr.canRn
              rw [← HFR.out, show (f.any fun n => decide (first ≤ n)) = true from List.any_eq_true.2 ⟨_, List.getElem_mem hlt, decide_eq_true hq⟩]
              simp
            have hcon := l5Copy_any d B wr hbk hd2 (by omega)
            unfold Ko.val at hcon
            go_wp2_with fail
            (with_reducible refine hcon.mono ?_)
            clear hcon
            rintro e v ⟨d', rfl, he, ho, hb⟩
            have zv := hb.size
            have Rv := RV.below hb (by omega)
            have bv := bV.trans (hb.mono (by omega))
            have HE := Lib.hid he
            have P0 := ho.wide (lo' := w.heap.size + 2) (by omega) (Nat.le_refl v.heap.size)
            clear he ho hb
            have r0 : World.cell? v ⟨w.heap.size + 1, 0, none⟩ = some (.int .i64 0) := Rv.cell 0
            have g0 := Rv.frozen 0
            have r1 : World.cell? v ⟨w.heap.size + 1, 1, none⟩ = some (.int .i64 0) := Rv.cell 1
            have g1 := Rv.frozen 1
            have r2 : World.cell? v ⟨w.heap.size + 1, 2, none⟩ = some (.slice none 0 0) := Rv.cell 2
            have g2 := Rv.frozen 2
            have r3 : World.cell? v ⟨w.heap.size + 1, 3, none⟩ = some (.int .i64 0) := Rv.cell 3
            have g3 := Rv.frozen 3
            have r4 : World.cell? v ⟨w.heap.size + 1, 4, none⟩ = some (.int .i64 0) := Rv.cell 4
            have g4 := Rv.frozen 4
            have r5 : World.cell? v ⟨w.heap.size + 1, 5, none⟩ = some (.string ⟨#[]⟩) := Rv.cell 5
            have g5 := Rv.frozen 5
            have r6 : World.cell? v ⟨w.heap.size + 1, 6, none⟩ = some (.slice none 0 0) := Rv.cell 6
            have g6 := Rv.frozen 6
            have r7 : World.cell? v ⟨w.heap.size + 1, 7, none⟩ = some (.slice none 0 0) := Rv.cell 7
            have g7 := Rv.frozen 7
            have PP := Lib.hid P0
            clear P0 Rv
            simp only [Ko.val]
            go_wp2_with fail
            refine bodyPost_ret (v := .tuple #[.agg #[.int .i64 d'.a.k, .int .i64 d'.a.n, .slice d'.a.sA d'.a.s.length d'.a.sC, .int .i64 d'.a.d.k, .int .i64 d'.a.d.n, .string d'.a.d.t, .slice d'.a.d.A d'.a.d.l.length d'.a.d.c, .slice d'.A d'.l.length d'.c], .int .i64 first]) (by simp [results, Tryz.results9, go_sem, r0, r1, r2, r3, r4, r5, r6, r7]) rfl ⟨d', by unfold Tr.rnN; rw [HF.out, if_neg (by simp)]; rfl, by unfold Tr.rnC; rw [HF.out, if_neg (by simp)]; exact HE.out, ?_, ?_⟩
            · simp only [World.size_setCell]
              exact (((((((((PP.out.far (by simp <;> omega) _).far (by simp <;> omega) _).far (by simp <;> omega) _).far (by simp <;> omega) _).far (by simp <;> omega) _).far (by simp <;> omega) _).far (by simp <;> omega) _).far (by simp <;> omega) _).wide (by omega) (Nat.le_refl _))
            · exact ((((((((bv.setCell (by simp <;> omega) _).setCell (by simp <;> omega) _).setCell (by simp <;> omega) _).setCell (by simp <;> omega) _).setCell (by simp <;> omega) _).setCell (by simp <;> omega) _).setCell (by simp <;> omega) _).setCell (by simp <;> omega) _)
          · have HN2 : Hid (((f.take (j + 1)).any fun n => decide (first ≤ n)) = false) := by
              show _ = _
              rw [List.take_succ_eq_append_getElem hlt, List.any_append, HN.out]
              simp [hq]
            go_wp2_with fail
            exact ⟨⟨j + 1, by omega, by go_num, HN2, by trivial⟩, by simp [intOf]; omega⟩
        · obtain rfl : j = f.length := by omega
          have HN3 : Hid ((f.any fun n => decide (first ≤ n)) = false) := by
            have h := HN.out
            rw [List.take_length] at h
            exact h
          by_cases hs : first + (L.length : Int) ≤ 99999
          · have HF : Hid (d.canRn first = true) := by
              show _ = _
              unfold Tr.canRn
              rw [HI.out, HV.out, ← HFR.out, HN3.out, ← HL.out, decide_eq_true hs]
              rfl
            have hcon := l5Rename_any L (rngI first L.length) A1 At c1 ct wr.heap.size hrl.symm (by omega) (fun i hm => by have := rngI_mem hm; exact wf_small (by omega) (by omega)) d wr hbk (Elem.In.more hd2 (by omega)) oL oM2 (Nat.le_refl _)
            rw [renM_seqF first hnd, hrl] at hcon
            unfold Ko.val at hcon
            go_wp2_with fail
            (with_reducible refine hcon.mono ?_)
            clear hcon
            rintro e v ⟨d', rfl, he, ho, hb⟩
            have zv := hb.size
            have Rv := RV.below hb (by omega)
            have bv := bV.trans (hb.mono (by omega))
            have HE := Lib.hid he
            have P0 := ho.wide (lo' := w.heap.size + 2) (by omega) (Nat.le_refl v.heap.size)
            clear he ho hb
            have r0 : World.cell? v ⟨w.heap.size + 1, 0, none⟩ = some (.int .i64 0) := Rv.cell 0
            have g0 := Rv.frozen 0
            have r1 : World.cell? v ⟨w.heap.size + 1, 1, none⟩ = some (.int .i64 0) := Rv.cell 1
            have g1 := Rv.frozen 1
            have r2 : World.cell? v ⟨w.heap.size + 1, 2, none⟩ = some (.slice none 0 0) := Rv.cell 2
            have g2 := Rv.frozen 2
            have r3 : World.cell? v ⟨w.heap.size + 1, 3, none⟩ = some (.int .i64 0) := Rv.cell 3
            have g3 := Rv.frozen 3
            have r4 : World.cell? v ⟨w.heap.size + 1, 4, none⟩ = some (.int .i64 0) := Rv.cell 4
            have g4 := Rv.frozen 4
            have r5 : World.cell? v ⟨w.heap.size + 1, 5, none⟩ = some (.string ⟨#[]⟩) := Rv.cell 5
            have g5 := Rv.frozen 5
            have r6 : World.cell? v ⟨w.heap.size + 1, 6, none⟩ = some (.slice none 0 0) := Rv.cell 6
            have g6 := Rv.frozen 6
            have r7 : World.cell? v ⟨w.heap.size + 1, 7, none⟩ = some (.slice none 0 0) := Rv.cell 7
            have g7 := Rv.frozen 7
            have PP := Lib.hid P0
            clear P0 Rv
            simp only [Ko.val]
            go_wp2_with fail
            refine bodyPost_ret (v := .tuple #[.agg #[.int .i64 d'.a.k, .int .i64 d'.a.n, .slice d'.a.sA d'.a.s.length d'.a.sC, .int .i64 d'.a.d.k, .int .i64 d'.a.d.n, .string d'.a.d.t, .slice d'.a.d.A d'.a.d.l.length d'.a.d.c, .slice d'.A d'.l.length d'.c], .int .i64 (first + (L.length : Int))]) (by simp [results, Tryz.results9, go_sem, r0, r1, r2, r3, r4, r5, r6, r7]) rfl ⟨d', by unfold Tr.rnN; rw [HF.out, if_pos rfl, ← HL.out]; rfl, by unfold Tr.rnC; rw [HF.out, if_pos rfl, ← HL.out]; exact HE.out, ?_, ?_⟩
            · simp only [World.size_setCell]
              exact (((((((((PP.out.far (by simp <;> omega) _).far (by simp <;> omega) _).far (by simp <;> omega) _).far (by simp <;> omega) _).far (by simp <;> omega) _).far (by simp <;> omega) _).far (by simp <;> omega) _).far (by simp <;> omega) _).wide (by omega) (Nat.le_refl _))
            · exact ((((((((bv.setCell (by simp <;> omega) _).setCell (by simp <;> omega) _).setCell (by simp <;> omega) _).setCell (by simp <;> omega) _).setCell (by simp <;> omega) _).setCell (by simp <;> omega) _).setCell (by simp <;> omega) _).setCell (by simp <;> omega) _)
          · have HF : Hid (d.canRn first = false) := by
              show _ = _
              unfold Tr.canRn
              rw [← HL.out, decide_eq_false hs]
              simp
            have hcon := l5Copy_any d B wr hbk hd2 (by omega)
            unfold Ko.val at hcon
            go_wp2_with fail
            (with_reducible refine hcon.mono ?_)
            clear hcon
            rintro e v ⟨d', rfl, he, ho, hb⟩
            have zv := hb.size
            have Rv := RV.below hb (by omega)
            have bv := bV.trans (hb.mono (by omega))
            have HE := Lib.hid he
            have P0 := ho.wide (lo' := w.heap.size + 2) (by omega) (Nat.le_refl v.heap.size)
            clear he ho hb
            have r0 : World.cell? v ⟨w.heap.size + 1, 0, none⟩ = some (.int .i64 0) := Rv.cell 0
            have g0 := Rv.frozen 0
            have r1 : World.cell? v ⟨w.heap.size + 1, 1, none⟩ = some (.int .i64 0) := Rv.cell 1
            have g1 := Rv.frozen 1
            have r2 : World.cell? v ⟨w.heap.size + 1, 2, none⟩ = some (.slice none 0 0) := Rv.cell 2
            have g2 := Rv.frozen 2
            have r3 : World.cell? v ⟨w.heap.size + 1, 3, none⟩ = some (.int .i64 0) := Rv.cell 3
            have g3 := Rv.frozen 3
            have r4 : World.cell? v ⟨w.heap.size + 1, 4, none⟩ = some (.int .i64 0) := Rv.cell 4
            have g4 := Rv.frozen 4
            have r5 : World.cell? v ⟨w.heap.size + 1, 5, none⟩ = some (.string ⟨#[]⟩) := Rv.cell 5
            have g5 := Rv.frozen 5
            have r6 : World.cell? v ⟨w.heap.size + 1, 6, none⟩ = some (.slice none 0 0) := Rv.cell 6
            have g6 := Rv.frozen 6
            have r7 : World.cell? v ⟨w.heap.size + 1, 7, none⟩ = some (.slice none 0 0) := Rv.cell 7
            have g7 := Rv.frozen 7
            have PP := Lib.hid P0
            clear P0 Rv
            simp only [Ko.val]
            go_wp2_with fail
            refine bodyPost_ret (v := .tuple #[.agg #[.int .i64 d'.a.k, .int .i64 d'.a.n, .slice d'.a.sA d'.a.s.length d'.a.sC, .int .i64 d'.a.d.k, .int .i64 d'.a.d.n, .string d'.a.d.t, .slice d'.a.d.A d'.a.d.l.length d'.a.d.c, .slice d'.A d'.l.length d'.c], .int .i64 first]) (by simp [results, Tryz.results9, go_sem, r0, r1, r2, r3, r4, r5, r6, r7]) rfl ⟨d', by unfold Tr.rnN; rw [HF.out, if_neg (by simp)]; rfl, by unfold Tr.rnC; rw [HF.out, if_neg (by simp)]; exact HE.out, ?_, ?_⟩
            · simp only [World.size_setCell]
              exact (((((((((PP.out.far (by simp <;> omega) _).far (by simp <;> omega) _).far (by simp <;> omega) _).far (by simp <;> omega) _).far (by simp <;> omega) _).far (by simp <;> omega) _).far (by simp <;> omega) _).far (by simp <;> omega) _).wide (by omega) (Nat.le_refl _))
            · exact ((((((((bv.setCell (by simp <;> omega) _).setCell (by simp <;> omega) _).setCell (by simp <;> omega) _).setCell (by simp <;> omega) _).setCell (by simp <;> omega) _).setCell (by simp <;> omega) _).setCell (by simp <;> omega) _).setCell (by simp <;> omega) _)
end Go.Proofs.YtpigpncbjckbcaaGreat
namespace Go.Proofs.YtpigpncbjckbcaaGreat
open Go.RowKit
mutual
theorem Tr.ren_of_er (f : Int → Int) : ∀ d e : Tr Ko, d.er Ko.er = e.er Ko.er → (Tr.ren f d).er Ko.er = (Tr.ren f e).er Ko.er
  | .mk a A c l, .mk b A' c' m => fun h => by
    simp only [Tr.er, Tr.mk.injEq] at h
    have h2 := Tr.renL_of_er f l m h.2.2.2
    have h3 : Ko.er (a.ren f) = Ko.er (b.ren f) := by
      have := h.1
      simp only [Ko.er, Ko.mk.injEq] at this
      obtain ⟨e1, e2, -, -, e3, e4⟩ := this
      unfold Ko.ren Ko.isVar Ko.er
      simp only [e1, e2, e3, e4]
    simp only [Tr.ren, Tr.er, h2, h3]
theorem Tr.renL_of_er (f : Int → Int) : ∀ l m : List (Tr Ko), Tr.erL Ko.er l = Tr.erL Ko.er m → Tr.erL Ko.er (Tr.renL f l) = Tr.erL Ko.er (Tr.renL f m)
  | [], [] => fun _ => rfl
  | [], _ :: _ => fun h => by simp [Tr.erL] at h
  | _ :: _, [] => fun h => by simp [Tr.erL] at h
  | d :: r, e :: s => fun h => by
    simp only [Tr.erL, List.cons.injEq] at h
    simp only [Tr.renL, Tr.erL, Tr.ren_of_er f d e h.1, Tr.renL_of_er f r s h.2]
end
mutual
theorem Tr.ren_bulk (f : Int → Int) : ∀ d : Tr Ko, (Tr.ren f d).bulk Ko.bulk = d.bulk Ko.bulk
  | .mk a A c l => by
    have h := Tr.renL_bulk f l
    have h2 : Ko.bulk (a.ren f) = Ko.bulk a := by unfold Ko.ren Ko.bulk; simp
    simp only [Tr.ren, Tr.bulk, h, h2]
theorem Tr.renL_bulk (f : Int → Int) : ∀ l : List (Tr Ko), Tr.bulkL Ko.bulk (Tr.renL f l) = Tr.bulkL Ko.bulk l
  | [] => rfl
  | d :: r => by simp only [Tr.renL, Tr.bulkL, Tr.ren_bulk f d, Tr.renL_bulk f r]
end
theorem Tr.canRn_er {d e : Tr Ko} (first : Int) (h : d.er Ko.er = e.er Ko.er) : d.canRn first = e.canRn first := by
  unfold Tr.canRn
  rw [Tr.valid_isCore, Tr.valid_isCore, Tr.isCore_er h, Tr.free_of_er d e h, Tr.binders_of_er d e h]
theorem Tr.rnN_er {d e : Tr Ko} (first : Int) (h : d.er Ko.er = e.er Ko.er) : Tr.rnN first d = Tr.rnN first e := by
  unfold Tr.rnN
  rw [Tr.canRn_er first h, Tr.binders_of_er d e h]
theorem Tr.rnC_er {d e : Tr Ko} (first : Int) (h : d.er Ko.er = e.er Ko.er) : (Tr.rnC first d).er Ko.er = (Tr.rnC first e).er Ko.er := by
  unfold Tr.rnC
  rw [Tr.canRn_er first h, Tr.binders_of_er d e h]
  split
  · exact Tr.ren_of_er _ d e h
  · exact h
theorem Tr.rnC_bulk (first : Int) (d : Tr Ko) : (Tr.rnC first d).bulk Ko.bulk = d.bulk Ko.bulk := by
  unfold Tr.rnC
  split
  · exact Tr.ren_bulk _ d
  · rfl
theorem specRnC_c (first : Int) (d : Tr Ko) {d0 : Tr Ko} {Y : Tr Ko} {X : Int} (B : Nat) (w : World) (hde : d.er Ko.er = d0.er Ko.er) (hY : (Tr.rnC first d0).er Ko.er = Y) (hX : Tr.rnN first d0 = X) (hd : Ko.E.In w B d) (hB : B ≤ w.heap.size) (hbk : d0.bulk Ko.bulk ≤ 1048576) :
    Calls Tryz.prog 9 #[Ko.val d, .int .i64 first] w (RetKoI Y X w) := by
  rw [← hY, ← hX, ← Tr.rnC_er first hde, ← Tr.rnN_er first hde]
  exact specRnC_any first d B w hd hB (Nat.le_trans (Nat.le_of_eq (Tr.bulk_of_er (f := Ko.bulk) (fun _ _ => Ko.bulk_of_er) _ _ hde)) (by omega))
theorem implRnC_c (first : Int) (d : Tr Ko) {d0 : Tr Ko} {Y : Tr Ko} {X : Int} (B : Nat) (w : World) (hde : d.er Ko.er = d0.er Ko.er) (hY : (Tr.rnC first d0).er Ko.er = Y) (hX : Tr.rnN first d0 = X) (hd : Ko.E.In w B d) (hB : B ≤ w.heap.size) (hbk : d0.bulk Ko.bulk ≤ 1048576) :
    Calls Tryz.prog 11 #[Ko.val d, .int .i64 first] w (RetKoI Y X w) := by
  rw [← hY, ← hX, ← Tr.rnC_er first hde, ← Tr.rnN_er first hde]
  exact implRnC_any first d B w hd hB (Nat.le_trans (Nat.le_of_eq (Tr.bulk_of_er (f := Ko.bulk) (fun _ _ => Ko.bulk_of_er) _ _ hde)) (by omega))
end Go.Proofs.YtpigpncbjckbcaaGreat
