/-
  UnitFits, the model's (written by gen/uf.py).
-/
import Derived.Test.YtndckeodpoommaaUfA
import Derived.Test.YtndckeodpoommaaKoBox
namespace Go.Proofs.Ytndckeodpoommaa
open Go.RowKit

set_option maxRecDepth 100000 in
set_option maxHeartbeats 8000000 in
theorem specUf_any (u : Un) (A : Option Addr) (c : Nat) (g : List Int) (B : Nat) (w : World) (hin : Un.E.In w B u) (hg : IIn w B A c g) (hB : B ≤ w.heap.size) (hb : u.bulk ≤ 1500000) (hl : g.length ≤ 1500000) :
    Calls Try.prog 29 #[Un.val u, .slice A g.length c] w fun e w' => e = .returned (.bool (u.fits g)) ∧ Below w.heap.size w w' := by
  have hub : u.nm.size + u.g.length + u.b.bulk Ko.bulk ≤ 1500000 := hb
  have hns := (Un.E_in hin).nm
  have hcap := hg.cap
  have hcap2 := (Un.E_in hin).g.cap
  obtain ⟨i0, hi, hz0, hz1, hz2⟩ := info_parts infoI
  obtain ⟨W, hW⟩ : ∃ W, W = w.alloc (.cells #[.string u.nm, .slice u.gA u.g.length u.gC, .int .i64 u.b.a.k, .int .i64 u.b.a.n, .slice u.b.a.sA u.b.a.s.length u.b.a.sC, .int .i64 u.b.a.d.k, .int .i64 u.b.a.d.n, .string u.b.a.d.t, .slice u.b.a.d.A u.b.a.d.l.length u.b.a.d.c, .slice u.b.A u.b.l.length u.b.c] 77) := ⟨_, rfl⟩
  have zW : W.heap.size = w.heap.size + 1 := by rw [hW]; simp
  have b0 : Below w.heap.size w W := by rw [hW]; exact (Below.refl _ _).alloc (Nat.le_refl _) _
  have X0 : Un.Box W w.heap.size u := by rw [hW]; exact Un.Box.new _ _ _
  have lx : w.heap.size < W.heap.size := by omega
  have lB : B ≤ W.heap.size := by omega
  have hinW : ∀ z : World, Below W.heap.size W z → Un.In z B u := fun z hz => Un.E_in (Elem.In.below hin ((b0.trans (hz.mono (by omega))).mono hB))
  have hgW : ∀ z : World, Below W.heap.size W z → IIn z B A c g := fun z hz => hg.below ((b0.trans (hz.mono (by omega))).mono hB)
  unfold Un.val
  obtain ⟨L, hL⟩ : ∃ L, L = g ++ u.g := ⟨_, rfl⟩
  have lL : L.length = g.length + u.g.length := by rw [hL, List.length_append]
  have hLl : L.length ≤ 4000000 := by omega
  have HlL := Lib.hid lL
  have HL := Lib.hid hL
  clear hL lL
  obtain ⟨p0, p1, p2, p3, p4, p5, p6, p7, p8, p9⟩ := X0
  have a0 := p0
  have a1 := p1
  have a2 := p2
  have a3 := p3
  have a4 := p4
  have a5 := p5
  have a6 := p6
  have a7 := p7
  have a8 := p8
  have a9 := p9
  go_enter Try.func29, Try.ntmps29
  go_upto_region 1 with fail
  rw [← hW]
  clear hW
  go_region_held3 (fun w' => w'.cell? ⟨w.heap.size, 0, none⟩ = some (.string u.nm) ∧ w'.cell? ⟨w.heap.size, 1, none⟩ = some (.slice u.gA u.g.length u.gC) ∧ w'.cell? ⟨w.heap.size, 2, none⟩ = some (.int .i64 u.b.a.k) ∧ w'.cell? ⟨w.heap.size, 3, none⟩ = some (.int .i64 u.b.a.n) ∧ w'.cell? ⟨w.heap.size, 4, none⟩ = some (.slice u.b.a.sA u.b.a.s.length u.b.a.sC) ∧ w'.cell? ⟨w.heap.size, 5, none⟩ = some (.int .i64 u.b.a.d.k) ∧ w'.cell? ⟨w.heap.size, 6, none⟩ = some (.int .i64 u.b.a.d.n) ∧ w'.cell? ⟨w.heap.size, 7, none⟩ = some (.string u.b.a.d.t) ∧ w'.cell? ⟨w.heap.size, 8, none⟩ = some (.slice u.b.a.d.A u.b.a.d.l.length u.b.a.d.c) ∧ w'.cell? ⟨w.heap.size, 9, none⟩ = some (.slice u.b.A u.b.l.length u.b.c)) (go_keep) (first
    | (go_at_call 58; refine (l2IntsR_any A c g B _ (by omega) (hgW W (Below.refl _ _)).drew (show B ≤ W.heap.size by omega)).mono ?_; rintro e w1 ⟨va4, rfl, hr4, hb1⟩; obtain ⟨A4, c4, rfl⟩ := irow_len hr4; have hb1 : Below W.heap.size W w1 := below_undrew hb1; have hr4 : w1.ownsRow W.heap.size 3 1 (.slice A4 g.length c4) g.length (g.map (Value.int .i64)) := hr4; have y1 := hb1.size; have a0 := (hb1.cell (p := ⟨w.heap.size, 0, none⟩) lx).trans p0; have a1 := (hb1.cell (p := ⟨w.heap.size, 1, none⟩) lx).trans p1; have a2 := (hb1.cell (p := ⟨w.heap.size, 2, none⟩) lx).trans p2; have a3 := (hb1.cell (p := ⟨w.heap.size, 3, none⟩) lx).trans p3; have a4 := (hb1.cell (p := ⟨w.heap.size, 4, none⟩) lx).trans p4; have a5 := (hb1.cell (p := ⟨w.heap.size, 5, none⟩) lx).trans p5; have a6 := (hb1.cell (p := ⟨w.heap.size, 6, none⟩) lx).trans p6; have a7 := (hb1.cell (p := ⟨w.heap.size, 7, none⟩) lx).trans p7; have a8 := (hb1.cell (p := ⟨w.heap.size, 8, none⟩) lx).trans p8; have a9 := (hb1.cell (p := ⟨w.heap.size, 9, none⟩) lx).trans p9)
    | (refine wp_append_list w1 (.tmp 7) (.tmp 9) 28 rfl W.heap.size 3 i0 (.int .i64 0) Try.underlying28 hi hz0 hz1 hz2 rfl (.slice A4 g.length c4) g.length (g.map (Value.int .i64)) rfl hr4 rfl (hinW _ hb1).g (by omega) (by omega) (by omega) ?_; intro vb6 w2 hown6 hc6; have hr6 : w2.ownsRow W.heap.size 3 1 vb6 L.length (L.map (Value.int .i64)) := (by rw [HL.out]; simpa using hown6); obtain ⟨A6, c6, rfl, ho6⟩ := own_of_row hr6; have hb2 : Below W.heap.size W w2 := hb1.trans hc6; have y2 := hb2.size; have a0 := (hb2.cell (p := ⟨w.heap.size, 0, none⟩) lx).trans p0; have a1 := (hb2.cell (p := ⟨w.heap.size, 1, none⟩) lx).trans p1; have a2 := (hb2.cell (p := ⟨w.heap.size, 2, none⟩) lx).trans p2; have a3 := (hb2.cell (p := ⟨w.heap.size, 3, none⟩) lx).trans p3; have a4 := (hb2.cell (p := ⟨w.heap.size, 4, none⟩) lx).trans p4; have a5 := (hb2.cell (p := ⟨w.heap.size, 5, none⟩) lx).trans p5; have a6 := (hb2.cell (p := ⟨w.heap.size, 6, none⟩) lx).trans p6; have a7 := (hb2.cell (p := ⟨w.heap.size, 7, none⟩) lx).trans p7; have a8 := (hb2.cell (p := ⟨w.heap.size, 8, none⟩) lx).trans p8; have a9 := (hb2.cell (p := ⟨w.heap.size, 9, none⟩) lx).trans p9)
    | fail)
  all_goals clear hr4 hr6 hown6
  all_goals (
    have b2 := b0.trans (hb2.mono (by omega))
    have hIL := ho6.inn
    have hB2 : B ≤ w2.heap.size := by omega
    cases q1 : nameB u.nm
    · have HF : Hid (u.fits g = false) := by show _ = _; unfold Un.fits; rw [q1]; rfl
      have hn := sname_any u.nm w2 hns
      rw [q1] at hn
      clear q1
      go_wp2_with fail
      (with_reducible refine hn.mono ?_)
      rintro e w3 ⟨rfl, hb3⟩
      go_wp2_with fail
      go_ret
      exact ⟨ret_bool HF.out.symm, b2.trans (hb3.mono (by omega))⟩
    · have hn := sname_any u.nm w2 hns
      rw [q1] at hn
      have Q1 := Lib.hid q1
      clear q1
      go_wp2_with fail
      (with_reducible refine hn.mono ?_)
      clear hn
      rintro e w3 ⟨rfl, hb3⟩
      have y3 := hb3.size
      have hIL3 := hIL.below hb3
      have b3 := b2.trans (hb3.mono (by omega))
      have hu3 := hin.below (b3.mono hB)
      have a0 := (hb3.cell (p := ⟨w.heap.size, 0, none⟩) (show w.heap.size < w2.heap.size by omega)).trans a0
      have a1 := (hb3.cell (p := ⟨w.heap.size, 1, none⟩) (show w.heap.size < w2.heap.size by omega)).trans a1
      have a2 := (hb3.cell (p := ⟨w.heap.size, 2, none⟩) (show w.heap.size < w2.heap.size by omega)).trans a2
      have a3 := (hb3.cell (p := ⟨w.heap.size, 3, none⟩) (show w.heap.size < w2.heap.size by omega)).trans a3
      have a4 := (hb3.cell (p := ⟨w.heap.size, 4, none⟩) (show w.heap.size < w2.heap.size by omega)).trans a4
      have a5 := (hb3.cell (p := ⟨w.heap.size, 5, none⟩) (show w.heap.size < w2.heap.size by omega)).trans a5
      have a6 := (hb3.cell (p := ⟨w.heap.size, 6, none⟩) (show w.heap.size < w2.heap.size by omega)).trans a6
      have a7 := (hb3.cell (p := ⟨w.heap.size, 7, none⟩) (show w.heap.size < w2.heap.size by omega)).trans a7
      have a8 := (hb3.cell (p := ⟨w.heap.size, 8, none⟩) (show w.heap.size < w2.heap.size by omega)).trans a8
      have a9 := (hb3.cell (p := ⟨w.heap.size, 9, none⟩) (show w.heap.size < w2.heap.size by omega)).trans a9
      cases q2 : uniqK [] L
      · have hn := specUniq_any A6 c6 L _ w3 hIL3
        rw [q2] at hn
        have HF : Hid (u.fits g = false) := Un.fits_not (by rw [← HL.out]; exact q2)
        clear q2
        go_wp2_with fail
        (with_reducible refine hn.mono ?_)
        rintro e w4 ⟨rfl, hw4⟩
        obtain rfl := hw4.symm
        go_wp2_with fail
        go_ret
        exact ⟨ret_bool HF.out.symm, b3⟩
      · have hn := specUniq_any A6 c6 L _ w3 hIL3
        rw [q2] at hn
        clear q2
        go_wp2_with fail
        (with_reducible refine hn.mono ?_)
        clear hn
        rintro e w4 ⟨rfl, hw4⟩
        obtain rfl := hw4.symm
        obtain ⟨V, hV⟩ : ∃ V, V = u.b.isCore L := ⟨_, rfl⟩
        have HF : Hid (u.fits g = V) := by show _ = _; unfold Un.fits; rw [Q1.out, ← HL.out, hV]; rfl
        have hcon := specIsc_any u.b A6 c6 L w3.heap.size w3 (Elem.In.more (Un.E_in hu3).b (by omega)) (hIL3.more y3) (Nat.le_refl _) (by omega) hLl
        rw [← hV] at hcon
        clear hV
        unfold Ko.val at hcon
        go_wp2_with fail
        (with_reducible refine hcon.mono ?_)
        clear hcon
        rintro e w5 ⟨rfl, hb5⟩
        go_wp2_with fail
        go_ret
        exact ⟨ret_bool HF.out.symm, b3.trans (hb5.mono (by omega))⟩)

theorem implUf_c (u : Un) {u0 : Un} (A : Option Addr) (c : Nat) (g : List Int) (B : Nat) (w : World) (hu : u.er = u0.er) {X : Bool} (hX : X = u0.fits g) (hb : u0.bulk ≤ 1500000) (hl : g.length ≤ 1500000) (hin : Un.E.In w B u) (hg : IIn w B A c g) (hB : B ≤ w.heap.size) :
    Calls Try.prog 32 #[Un.val u, .slice A g.length c] w fun e w' => e = .returned (.bool X) ∧ Below w.heap.size w w' := by
  rw [hX, ← Un.fits_er hu]
  exact implUf_any u A c g B w hin hg hB (by rw [Un.bulk_of_er hu]; exact hb) hl
theorem specUf_c (u : Un) {u0 : Un} (A : Option Addr) (c : Nat) (g : List Int) (B : Nat) (w : World) (hu : u.er = u0.er) {X : Bool} (hX : X = u0.fits g) (hb : u0.bulk ≤ 1500000) (hl : g.length ≤ 1500000) (hin : Un.E.In w B u) (hg : IIn w B A c g) (hB : B ≤ w.heap.size) :
    Calls Try.prog 29 #[Un.val u, .slice A g.length c] w fun e w' => e = .returned (.bool X) ∧ Below w.heap.size w w' := by
  rw [hX, ← Un.fits_er hu]
  exact specUf_any u A c g B w hin hg hB (by rw [Un.bulk_of_er hu]; exact hb) hl
end Go.Proofs.Ytndckeodpoommaa
