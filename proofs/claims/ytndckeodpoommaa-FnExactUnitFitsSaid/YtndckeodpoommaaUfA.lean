/-
  Names; UnitFits, the program's and the model's (written by gen/uf.py).
-/
import Derived.Test.YtndckeodpoommaaUnQ
import Derived.Test.YtndckeodpoommaaKcIsc
import Derived.Test.YtndckeodpoommaaKcFits
import Derived.Test.YtndckeodpoommaaScTops
import Derived.Test.YtndckeodpoommaaWords
import Derived.Test.YtndckeodpoommaaNear
import Derived.Deep.RegionHeld3
import Derived.Deep.DeepCutAuto
namespace Go.Proofs.Ytndckeodpoommaa
open Go.RowKit

def nameB (s : ByteArray) : Bool := decide (s.size ≤ 8) && symB s

set_option maxHeartbeats 1000000 in
theorem iname_any (s : ByteArray) (w : World) (hs : s.size ≤ 9223372036854775807) : Calls Try.prog 63 #[.string s] w fun e w' => e = .returned (.bool (nameB s)) ∧ Below w.heap.size w w' := by
  by_cases h : s.size ≤ 8
  · have g : (s.size : Int) ≤ 8 := by omega
    have HQ : Hid (nameB s = symB s) := by show _ = _; unfold nameB; rw [decide_eq_true h]; rfl
    clear h
    go_enter Try.func63, Try.ntmps63
    go_wp2_with fail
    refine (implSymbol_any s _).mono ?_
    rintro e w1 ⟨rfl, hb1⟩
    rw [← HQ.out]
    go_wp2_with fail
    go_ret
    exact ⟨rfl, hb1⟩
  · have g : ¬ (s.size : Int) ≤ 8 := by omega
    have HQ : Hid (nameB s = false) := by show _ = _; unfold nameB; rw [decide_eq_false h]; rfl
    clear h
    go_enter Try.func63, Try.ntmps63
    go_wp2_with fail
    go_ret
    exact ⟨ret_bool HQ.out.symm, Below.refl _ _⟩

set_option maxHeartbeats 1000000 in
theorem sname_any (s : ByteArray) (w : World) (hs : s.size ≤ 9223372036854775807) : Calls Try.prog 59 #[.string s] w fun e w' => e = .returned (.bool (nameB s)) ∧ Below w.heap.size w w' := by
  by_cases h : s.size ≤ 8
  · have g : (s.size : Int) ≤ 8 := by omega
    have HQ : Hid (nameB s = symB s) := by show _ = _; unfold nameB; rw [decide_eq_true h]; rfl
    clear h
    go_enter Try.func59, Try.ntmps59
    go_wp2_with fail
    refine (specSymbol_any s _).mono ?_
    rintro e w1 ⟨rfl, hb1⟩
    obtain rfl := hb1.symm
    rw [← HQ.out]
    go_wp2_with fail
    go_ret
    exact ⟨rfl, Below.refl _ _⟩
  · have g : ¬ (s.size : Int) ≤ 8 := by omega
    have HQ : Hid (nameB s = false) := by show _ = _; unfold nameB; rw [decide_eq_false h]; rfl
    clear h
    go_enter Try.func59, Try.ntmps59
    go_wp2_with fail
    go_ret
    exact ⟨ret_bool HQ.out.symm, Below.refl _ _⟩

theorem cat2u (A A' : Option Addr) (c c' : Nat) (l l' : List Int) (B : Nat) (W : World) (H : Nat) (hH : W.heap.size = H) (hll : l.length + l'.length ≤ 8000000) (hin : IIn W B A c l) (hin' : IIn W B A' c' l') (hB : B ≤ H) :
    Calls Try.prog 65 #[.slice (some ⟨H, 0, none⟩) 2 2] (W.alloc (.cells #[.slice A l.length c, .slice A' l'.length c'] 28)) (RetI (l ++ l') W) := by
  subst hH
  obtain ⟨W2, hW2⟩ : ∃ W2, W2 = W.alloc (.cells #[.slice A l.length c, .slice A' l'.length c'] 28) := ⟨_, rfl⟩
  have hb : Below W.heap.size W W2 := by rw [hW2]; exact (Below.refl _ _).alloc (Nat.le_refl _) _
  have hz2 : W2.heap.size = W.heap.size + 1 := by rw [hW2]; simp
  have ho : W2.heap[W.heap.size]? = some (.cells #[.slice A l.length c, .slice A' l'.length c'] 28 (0, 0)) := by
    rw [hW2]; exact heap_alloc_new _ _
  rw [← hW2]
  clear hW2
  have hc := concat_any W.heap.size 2 [⟨A, c, l⟩, ⟨A', c', l'⟩] B W2 (by simp) (by simp) (by omega)
    (fun j r hr => by
      rw [cell_of_row _ _ _ _ _ _ ho]
      match j, hr with
      | 0, hr => simp at hr; subst hr; simp [IR.val]
      | 1, hr => simp at hr; subst hr; simp [IR.val]
      | j + 2, hr => simp at hr)
    (fun r hr => by
      simp at hr
      rcases hr with rfl | rfl
      · exact hin.below (hb.mono hB)
      · exact hin'.below (hb.mono hB))
    (by omega) (by simp [catR]; omega)
  refine hc.mono ?_
  rintro e w' ⟨A6, c6, rfl, hown, hb'⟩
  have e3 : catR [⟨A, c, l⟩, ⟨A', c', l'⟩] = l ++ l' := by simp [catR]
  rw [e3] at hown ⊢
  exact ⟨A6, c6, rfl, hown.wide (by omega) (Nat.le_refl _), hb.trans (hb'.mono (by omega))⟩
/-- What UnitFits answers. -/
def Un.fits (u : Un) (g : List Int) : Bool := nameB u.nm && u.b.isCore (g ++ u.g)
theorem Un.fits_er {x y : Un} (h : x.er = y.er) (g : List Int) : x.fits g = y.fits g := by
  obtain ⟨e_nm, e_g, e_b⟩ := Un.er_parts h
  unfold Un.fits
  rw [e_nm, e_g, Tr.isCore_er e_b]
theorem Tr.isCore_uniq {d : Tr Ko} {gl : List Int} (h : d.isCore gl = true) : uniqK [] gl = true := by
  unfold Tr.isCore at h
  simp only [Bool.and_eq_true] at h
  have h2 := h.2.1
  rw [uniqK_append, Bool.and_eq_true] at h2
  exact h2.1
theorem Un.fits_not {u : Un} {g : List Int} (h : uniqK [] (g ++ u.g) = false) : u.fits g = false := by
  unfold Un.fits
  cases hc : u.b.isCore (g ++ u.g) with
  | false => simp
  | true => rw [Tr.isCore_uniq hc] at h; cases h

set_option maxRecDepth 100000 in
set_option maxHeartbeats 8000000 in
theorem implUf_any (u : Un) (A : Option Addr) (c : Nat) (g : List Int) (B : Nat) (w : World) (hin : Un.E.In w B u) (hg : IIn w B A c g) (hB : B ≤ w.heap.size) (hb : u.bulk ≤ 1500000) (hl : g.length ≤ 1500000) :
    Calls Try.prog 32 #[Un.val u, .slice A g.length c] w fun e w' => e = .returned (.bool (u.fits g)) ∧ Below w.heap.size w w' := by
  have hub : u.nm.size + u.g.length + u.b.bulk Ko.bulk ≤ 1500000 := hb
  have hns := (Un.E_in hin).nm
  have hcap := hg.cap
  have hcap2 := (Un.E_in hin).g.cap
  obtain ⟨W, hW⟩ : ∃ W, W = w.alloc (.cells #[.string u.nm, .slice u.gA u.g.length u.gC, .int .i64 u.b.a.k, .int .i64 u.b.a.n, .slice u.b.a.sA u.b.a.s.length u.b.a.sC, .int .i64 u.b.a.d.k, .int .i64 u.b.a.d.n, .string u.b.a.d.t, .slice u.b.a.d.A u.b.a.d.l.length u.b.a.d.c, .slice u.b.A u.b.l.length u.b.c] 77) := ⟨_, rfl⟩
  have zW : W.heap.size = w.heap.size + 1 := by rw [hW]; simp
  have b0 : Below w.heap.size w W := by rw [hW]; exact (Below.refl _ _).alloc (Nat.le_refl _) _
  have X0 : Un.Box W w.heap.size u := by rw [hW]; exact Un.Box.new _ _ _
  have lx : w.heap.size < W.heap.size := by omega
  have lB : B ≤ W.heap.size := by omega
  have hinW : ∀ z : World, Below W.heap.size W z → Un.In z B u := fun z hz => Un.E_in (Elem.In.below hin ((b0.trans (hz.mono (by omega))).mono hB))
  have hgW : ∀ z : World, Below W.heap.size W z → IIn z B A c g := fun z hz => hg.below ((b0.trans (hz.mono (by omega))).mono hB)
  unfold Un.val
  cases q1 : nameB u.nm
  · have HF : Hid (u.fits g = false) := by show _ = _; unfold Un.fits; rw [q1]; rfl
    have HC1 : Hid (∀ z : Near W, Calls Try.prog 63 #[.string u.nm] z.at_ fun e w' => e = .returned (.bool false) ∧ Below z.at_.heap.size z.at_ w') := fun z => by have h := iname_any u.nm z.at_ hns; rw [q1] at h; exact h
    clear q1
    have d0 : ∀ z : Near W, z.at_.cell? ⟨w.heap.size, 0, none⟩ = some (.string u.nm) := fun z => z.cell 0 X0.c0 lx
    have d1 : ∀ z : Near W, z.at_.cell? ⟨w.heap.size, 1, none⟩ = some (.slice u.gA u.g.length u.gC) := fun z => z.cell 1 X0.c1 lx
    have d2 : ∀ z : Near W, z.at_.cell? ⟨w.heap.size, 2, none⟩ = some (.int .i64 u.b.a.k) := fun z => z.cell 2 X0.c2 lx
    have d3 : ∀ z : Near W, z.at_.cell? ⟨w.heap.size, 3, none⟩ = some (.int .i64 u.b.a.n) := fun z => z.cell 3 X0.c3 lx
    have d4 : ∀ z : Near W, z.at_.cell? ⟨w.heap.size, 4, none⟩ = some (.slice u.b.a.sA u.b.a.s.length u.b.a.sC) := fun z => z.cell 4 X0.c4 lx
    have d5 : ∀ z : Near W, z.at_.cell? ⟨w.heap.size, 5, none⟩ = some (.int .i64 u.b.a.d.k) := fun z => z.cell 5 X0.c5 lx
    have d6 : ∀ z : Near W, z.at_.cell? ⟨w.heap.size, 6, none⟩ = some (.int .i64 u.b.a.d.n) := fun z => z.cell 6 X0.c6 lx
    have d7 : ∀ z : Near W, z.at_.cell? ⟨w.heap.size, 7, none⟩ = some (.string u.b.a.d.t) := fun z => z.cell 7 X0.c7 lx
    have d8 : ∀ z : Near W, z.at_.cell? ⟨w.heap.size, 8, none⟩ = some (.slice u.b.a.d.A u.b.a.d.l.length u.b.a.d.c) := fun z => z.cell 8 X0.c8 lx
    have d9 : ∀ z : Near W, z.at_.cell? ⟨w.heap.size, 9, none⟩ = some (.slice u.b.A u.b.l.length u.b.c) := fun z => z.cell 9 X0.c9 lx
    go_enter Try.func32, Try.ntmps32
    go_upto_region 1 with fail
    rw [← hW]
    clear hW
    refine wp_region_near (by kernel_rfl) (by kernel_rfl) ?_
    repeat (go_big_quiet_step (first | (go_at_call 63; with_reducible exact Calls.near (HC1.out _))))
    refine wpQuiet_nil ?_
    intro _ hw1
    obtain ⟨nx, hw2⟩ := hw1
    subst hw2
    go_wp2_with fail
    go_ret
    exact ⟨ret_bool HF.out.symm, b0.trans (nx.below.mono (by omega))⟩
  · have HC1 : Hid (∀ z : World, Calls Try.prog 63 #[.string u.nm] z fun e w' => e = .returned (.bool true) ∧ Below z.heap.size z w') := fun z => by have h := iname_any u.nm z hns; rw [q1] at h; exact h
    obtain ⟨V, hV⟩ : ∃ V, V = u.b.isCore (g ++ u.g) := ⟨_, rfl⟩
    have HF : Hid (u.fits g = V) := by show _ = _; unfold Un.fits; rw [q1, hV]; rfl
    obtain ⟨L, hL⟩ : ∃ L, L = g ++ u.g := ⟨_, rfl⟩
    rw [← hL] at hV
    have HV := Lib.hid hV
    clear hV q1
    have HL := Lib.hid hL
    have hLl : L.length ≤ 4000000 := by rw [hL, List.length_append]; omega
    clear hL
    obtain ⟨p0, p1, p2, p3, p4, p5, p6, p7, p8, p9⟩ := X0
    have a0 := p0
    have a1 := p1
    have a2 := p2
    have a3 := p3
    have a4 := p4
    have a5 := p5
    have a6 := p6
    have a7 := p7
    have a8 := p8
    have a9 := p9
    go_enter Try.func32, Try.ntmps32
    go_upto_region 1 with fail
    rw [← hW]
    clear hW
    have tok0 : True := trivial
    go_region_held3 (fun w' => w'.cell? ⟨w.heap.size, 0, none⟩ = some (.string u.nm) ∧ w'.cell? ⟨w.heap.size, 1, none⟩ = some (.slice u.gA u.g.length u.gC) ∧ w'.cell? ⟨w.heap.size, 2, none⟩ = some (.int .i64 u.b.a.k) ∧ w'.cell? ⟨w.heap.size, 3, none⟩ = some (.int .i64 u.b.a.n) ∧ w'.cell? ⟨w.heap.size, 4, none⟩ = some (.slice u.b.a.sA u.b.a.s.length u.b.a.sC) ∧ w'.cell? ⟨w.heap.size, 5, none⟩ = some (.int .i64 u.b.a.d.k) ∧ w'.cell? ⟨w.heap.size, 6, none⟩ = some (.int .i64 u.b.a.d.n) ∧ w'.cell? ⟨w.heap.size, 7, none⟩ = some (.string u.b.a.d.t) ∧ w'.cell? ⟨w.heap.size, 8, none⟩ = some (.slice u.b.a.d.A u.b.a.d.l.length u.b.a.d.c) ∧ w'.cell? ⟨w.heap.size, 9, none⟩ = some (.slice u.b.A u.b.l.length u.b.c)) (go_keep) (first
      | (go_at_call 63; (with_reducible refine (HC1.out _).mono ?_); rintro e w1 ⟨rfl, hb1⟩; have hb1 : Below W.heap.size W w1 := below_undrew hb1; have y1 := hb1.size; have a0 := (hb1.cell (p := ⟨w.heap.size, 0, none⟩) lx).trans p0; have a1 := (hb1.cell (p := ⟨w.heap.size, 1, none⟩) lx).trans p1; have a2 := (hb1.cell (p := ⟨w.heap.size, 2, none⟩) lx).trans p2; have a3 := (hb1.cell (p := ⟨w.heap.size, 3, none⟩) lx).trans p3; have a4 := (hb1.cell (p := ⟨w.heap.size, 4, none⟩) lx).trans p4; have a5 := (hb1.cell (p := ⟨w.heap.size, 5, none⟩) lx).trans p5; have a6 := (hb1.cell (p := ⟨w.heap.size, 6, none⟩) lx).trans p6; have a7 := (hb1.cell (p := ⟨w.heap.size, 7, none⟩) lx).trans p7; have a8 := (hb1.cell (p := ⟨w.heap.size, 8, none⟩) lx).trans p8; have a9 := (hb1.cell (p := ⟨w.heap.size, 9, none⟩) lx).trans p9)
      | (go_simp; go_at_call 65; have hcat := cat2u A u.gA c u.gC g u.g B w1 w1.heap.size rfl (by omega) (hgW w1 hb1) (hinW w1 hb1).g (by omega); rw [← HL.out] at hcat; (with_reducible refine hcat.mono ?_); clear hcat; rintro e w2 ⟨A6, c6, rfl, ho6, hk2⟩; have hb2 := hb1.trans (hk2.mono y1); have y2 := hb2.size; have y3 := hk2.size; have a0 := (hb2.cell (p := ⟨w.heap.size, 0, none⟩) lx).trans p0; have a1 := (hb2.cell (p := ⟨w.heap.size, 1, none⟩) lx).trans p1; have a2 := (hb2.cell (p := ⟨w.heap.size, 2, none⟩) lx).trans p2; have a3 := (hb2.cell (p := ⟨w.heap.size, 3, none⟩) lx).trans p3; have a4 := (hb2.cell (p := ⟨w.heap.size, 4, none⟩) lx).trans p4; have a5 := (hb2.cell (p := ⟨w.heap.size, 5, none⟩) lx).trans p5; have a6 := (hb2.cell (p := ⟨w.heap.size, 6, none⟩) lx).trans p6; have a7 := (hb2.cell (p := ⟨w.heap.size, 7, none⟩) lx).trans p7; have a8 := (hb2.cell (p := ⟨w.heap.size, 8, none⟩) lx).trans p8; have a9 := (hb2.cell (p := ⟨w.heap.size, 9, none⟩) lx).trans p9)
      | (go_simp; go_at_call 64; have hcon := implIsc_any u.b A6 c6 L w2.heap.size w2 (Elem.In.more (hinW w2 hb2).b (by omega)) ho6.inn (Nat.le_refl _) (by omega) hLl; rw [← HV.out] at hcon; unfold Ko.val at hcon; (with_reducible refine hcon.mono ?_); clear hcon; rintro e w3 ⟨rfl, hk3⟩; have hb3 := hb2.trans (hk3.mono y2); have a0 := (hb3.cell (p := ⟨w.heap.size, 0, none⟩) lx).trans p0; have a1 := (hb3.cell (p := ⟨w.heap.size, 1, none⟩) lx).trans p1; have a2 := (hb3.cell (p := ⟨w.heap.size, 2, none⟩) lx).trans p2; have a3 := (hb3.cell (p := ⟨w.heap.size, 3, none⟩) lx).trans p3; have a4 := (hb3.cell (p := ⟨w.heap.size, 4, none⟩) lx).trans p4; have a5 := (hb3.cell (p := ⟨w.heap.size, 5, none⟩) lx).trans p5; have a6 := (hb3.cell (p := ⟨w.heap.size, 6, none⟩) lx).trans p6; have a7 := (hb3.cell (p := ⟨w.heap.size, 7, none⟩) lx).trans p7; have a8 := (hb3.cell (p := ⟨w.heap.size, 8, none⟩) lx).trans p8; have a9 := (hb3.cell (p := ⟨w.heap.size, 9, none⟩) lx).trans p9)
      | fail)
    all_goals go_wp2_with fail
    all_goals go_ret
    all_goals exact ⟨ret_bool HF.out.symm, b0.trans (hb3.mono (by omega))⟩
end Go.Proofs.Ytndckeodpoommaa
