/-
  A valid term: within the bounds, and no variable but its free ones and its own.
-/
import Derived.Test.YtpigpncbjckbcaaGreatKcFits
import Derived.Test.YtpigpncbjckbcaaGreatNear
import Derived.Deep.RegionHeld3
import Derived.Test.YtpigpncbjckbcaaGreatKcIsc
namespace Go.Proofs.YtpigpncbjckbcaaGreat
open Go.RowKit
def Tr.validB (d : Tr Ko) : Bool := d.fitB 3000 150 && d.binds (d.free [] [])
set_option maxRecDepth 100000 in
set_option maxHeartbeats 1000000 in
theorem valid_any (d : Tr Ko) (B : Nat) (w : World) (hin : Ko.E.In w B d) (hB : B ≤ w.heap.size) (hb : d.bulk Ko.bulk ≤ 1500000) :
    Calls Tryz.prog 92 #[Ko.val d] w fun e w' => e = .returned (.bool d.validB) ∧ Below w.heap.size w w' := by
  obtain ⟨W, hW⟩ : ∃ W, W = w.alloc (.cells #[.int .i64 d.a.k, .int .i64 d.a.n, .slice d.a.sA d.a.s.length d.a.sC, .int .i64 d.a.d.k, .int .i64 d.a.d.n, .string d.a.d.t, .slice d.a.d.A d.a.d.l.length d.a.d.c, .slice d.A d.l.length d.c] 35) := ⟨_, rfl⟩
  have zW : W.heap.size = w.heap.size + 1 := by rw [hW]; simp
  have b1 : Below w.heap.size w W := by rw [hW]; exact (Below.refl _ _).alloc (Nat.le_refl _) _
  have X0 : Ko.Box W w.heap.size d := by rw [hW]; exact Ko.Box.new _ _ _
  have hinW : ∀ z : World, Below W.heap.size W z → Ko.E.In z B d := fun z hz => Elem.In.below hin ((b1.trans (hz.mono (by omega))).mono hB)
  have lw : w.heap.size < W.heap.size := by omega
  have lB : B ≤ W.heap.size := by omega
  cases q1 : d.fitB 3000 150
  · have HF : Hid (d.validB = false) := by show _ = _; unfold Tr.validB; rw [q1]; rfl
    have HC1 : Hid (∀ z : Near W, Calls Tryz.prog 157 #[.agg #[.int .i64 d.a.k, .int .i64 d.a.n, .slice d.a.sA d.a.s.length d.a.sC, .int .i64 d.a.d.k, .int .i64 d.a.d.n, .string d.a.d.t, .slice d.a.d.A d.a.d.l.length d.a.d.c, .slice d.A d.l.length d.c]] z.at_ fun e w' => e = .returned (.bool false) ∧ Below z.at_.heap.size z.at_ w') := fun z => by have h := isTerm_any d B z.at_ (hinW _ z.below) (Nat.le_trans lB z.size) hb; rw [q1] at h; exact h
    clear q1
    unfold Ko.val
    have d0 : ∀ z : Near W, z.at_.cell? ⟨w.heap.size, 0, none⟩ = some (.int .i64 d.a.k) := fun z => z.cell 0 X0.c0 lw
    have d1 : ∀ z : Near W, z.at_.cell? ⟨w.heap.size, 1, none⟩ = some (.int .i64 d.a.n) := fun z => z.cell 1 X0.c1 lw
    have d2 : ∀ z : Near W, z.at_.cell? ⟨w.heap.size, 2, none⟩ = some (.slice d.a.sA d.a.s.length d.a.sC) := fun z => z.cell 2 X0.c2 lw
    have d3 : ∀ z : Near W, z.at_.cell? ⟨w.heap.size, 3, none⟩ = some (.int .i64 d.a.d.k) := fun z => z.cell 3 X0.c3 lw
    have d4 : ∀ z : Near W, z.at_.cell? ⟨w.heap.size, 4, none⟩ = some (.int .i64 d.a.d.n) := fun z => z.cell 4 X0.c4 lw
    have d5 : ∀ z : Near W, z.at_.cell? ⟨w.heap.size, 5, none⟩ = some (.string d.a.d.t) := fun z => z.cell 5 X0.c5 lw
    have d6 : ∀ z : Near W, z.at_.cell? ⟨w.heap.size, 6, none⟩ = some (.slice d.a.d.A d.a.d.l.length d.a.d.c) := fun z => z.cell 6 X0.c6 lw
    have d7 : ∀ z : Near W, z.at_.cell? ⟨w.heap.size, 7, none⟩ = some (.slice d.A d.l.length d.c) := fun z => z.cell 7 X0.c7 lw
    go_enter Tryz.func92, Tryz.ntmps92
    go_upto_region 1 with fail
    rw [← hW]
    clear hW X0
    refine wp_region_near (by kernel_rfl) (by kernel_rfl) ?_
    repeat (go_big_quiet_step (first | (go_at_call 157; with_reducible exact Calls.near (HC1.out _))))
    refine wpQuiet_nil ?_
    intro _ hw1
    obtain ⟨nx, hw2⟩ := hw1
    subst hw2
    go_wp2_with fail
    go_ret
    exact ⟨ret_bool HF.out.symm, b1.trans (nx.below.mono (by omega))⟩
  · obtain ⟨f, hf⟩ : ∃ f, f = d.free [] [] := ⟨_, rfl⟩
    have hfl : f.length ≤ 1500001 := by rw [hf]; have := Ko.freeV_len d; omega
    obtain ⟨V, hV⟩ : ∃ V, V = d.binds f := ⟨_, rfl⟩
    have HF : Hid (d.validB = V) := by show _ = _; unfold Tr.validB; rw [q1, ← hf, ← hV]; rfl
    have HT : Hid (∀ z : World, Ko.E.In z B d → B ≤ z.heap.size → Calls Tryz.prog 157 #[.agg #[.int .i64 d.a.k, .int .i64 d.a.n, .slice d.a.sA d.a.s.length d.a.sC, .int .i64 d.a.d.k, .int .i64 d.a.d.n, .string d.a.d.t, .slice d.a.d.A d.a.d.l.length d.a.d.c, .slice d.A d.l.length d.c]] z fun e w' => e = .returned (.bool true) ∧ Below z.heap.size z w') := fun z hz hB2 => by have h := isTerm_any d B z hz hB2 hb; rw [q1] at h; exact h
    have HR : Hid (∀ z : World, Ko.E.In z B d → B ≤ z.heap.size → Calls Tryz.prog 106 #[.agg #[.int .i64 d.a.k, .int .i64 d.a.n, .slice d.a.sA d.a.s.length d.a.sC, .int .i64 d.a.d.k, .int .i64 d.a.d.n, .string d.a.d.t, .slice d.a.d.A d.a.d.l.length d.a.d.c, .slice d.A d.l.length d.c]] z (RetI f z)) := fun z hz hB2 => by have h := implFre_any d B z hz hB2 hb; rw [← hf] at h; exact h
    have HN : Hid (∀ (z : World) (A : Option Addr) (c : Nat), Ko.E.In z z.heap.size d → IIn z z.heap.size A c f → Calls Tryz.prog 158 #[.agg #[.int .i64 d.a.k, .int .i64 d.a.n, .slice d.a.sA d.a.s.length d.a.sC, .int .i64 d.a.d.k, .int .i64 d.a.d.n, .string d.a.d.t, .slice d.a.d.A d.a.d.l.length d.a.d.c, .slice d.A d.l.length d.c], .slice A f.length c] z fun e w' => e = .returned (.bool V) ∧ Below z.heap.size z w') := fun z A c hz hg => by have h := bindsAll_any d A c f z.heap.size z hz hg (Nat.le_refl _) hb (by omega); rw [← hV] at h; exact h
    clear q1 hf hV
    unfold Ko.val
    have X0q := X0
    obtain ⟨p0, p1, p2, p3, p4, p5, p6, p7⟩ := X0q
    have a0 := p0
    have a1 := p1
    have a2 := p2
    have a3 := p3
    have a4 := p4
    have a5 := p5
    have a6 := p6
    have a7 := p7
    go_enter Tryz.func92, Tryz.ntmps92
    go_upto_region 1 with fail
    rw [← hW]
    clear hW X0
    go_region_held3 (fun w' => w'.cell? ⟨w.heap.size, 0, none⟩ = some (.int .i64 d.a.k) ∧ w'.cell? ⟨w.heap.size, 1, none⟩ = some (.int .i64 d.a.n) ∧ w'.cell? ⟨w.heap.size, 2, none⟩ = some (.slice d.a.sA d.a.s.length d.a.sC) ∧ w'.cell? ⟨w.heap.size, 3, none⟩ = some (.int .i64 d.a.d.k) ∧ w'.cell? ⟨w.heap.size, 4, none⟩ = some (.int .i64 d.a.d.n) ∧ w'.cell? ⟨w.heap.size, 5, none⟩ = some (.string d.a.d.t) ∧ w'.cell? ⟨w.heap.size, 6, none⟩ = some (.slice d.a.d.A d.a.d.l.length d.a.d.c) ∧ w'.cell? ⟨w.heap.size, 7, none⟩ = some (.slice d.A d.l.length d.c)) (go_keep) (first
      | (go_at_call 157; refine (HT.out _ ?_ ?_).mono ?_; exact Elem.In.drew (hinW W (Below.refl _ _)); (show B ≤ W.heap.size); omega; rintro e w1 ⟨rfl, hb1⟩; have hb1 : Below W.heap.size W w1 := below_undrew hb1; have z1 := hb1.size; have a0 := (hb1.cell (p := ⟨w.heap.size, 0, none⟩) lw).trans p0; have a1 := (hb1.cell (p := ⟨w.heap.size, 1, none⟩) lw).trans p1; have a2 := (hb1.cell (p := ⟨w.heap.size, 2, none⟩) lw).trans p2; have a3 := (hb1.cell (p := ⟨w.heap.size, 3, none⟩) lw).trans p3; have a4 := (hb1.cell (p := ⟨w.heap.size, 4, none⟩) lw).trans p4; have a5 := (hb1.cell (p := ⟨w.heap.size, 5, none⟩) lw).trans p5; have a6 := (hb1.cell (p := ⟨w.heap.size, 6, none⟩) lw).trans p6; have a7 := (hb1.cell (p := ⟨w.heap.size, 7, none⟩) lw).trans p7)
      | (go_at_call 106; refine (HR.out w1 (hinW _ hb1) (by omega)).mono ?_; rintro e w2 ⟨A2, c2, rfl, ho2, hc2⟩; have hb2 := hb1.trans (hc2.mono z1); have z2 := hb2.size; have a0 := (hb2.cell (p := ⟨w.heap.size, 0, none⟩) lw).trans p0; have a1 := (hb2.cell (p := ⟨w.heap.size, 1, none⟩) lw).trans p1; have a2 := (hb2.cell (p := ⟨w.heap.size, 2, none⟩) lw).trans p2; have a3 := (hb2.cell (p := ⟨w.heap.size, 3, none⟩) lw).trans p3; have a4 := (hb2.cell (p := ⟨w.heap.size, 4, none⟩) lw).trans p4; have a5 := (hb2.cell (p := ⟨w.heap.size, 5, none⟩) lw).trans p5; have a6 := (hb2.cell (p := ⟨w.heap.size, 6, none⟩) lw).trans p6; have a7 := (hb2.cell (p := ⟨w.heap.size, 7, none⟩) lw).trans p7)
      | (go_at_call 158; refine (HN.out w2 A2 c2 ((hinW _ hb2).more (by omega)) ho2.inn).mono ?_; rintro e w3 ⟨rfl, hc3⟩; have hb3 := hb2.trans (hc3.mono z2); have z3 := hb3.size; have a0 := (hb3.cell (p := ⟨w.heap.size, 0, none⟩) lw).trans p0; have a1 := (hb3.cell (p := ⟨w.heap.size, 1, none⟩) lw).trans p1; have a2 := (hb3.cell (p := ⟨w.heap.size, 2, none⟩) lw).trans p2; have a3 := (hb3.cell (p := ⟨w.heap.size, 3, none⟩) lw).trans p3; have a4 := (hb3.cell (p := ⟨w.heap.size, 4, none⟩) lw).trans p4; have a5 := (hb3.cell (p := ⟨w.heap.size, 5, none⟩) lw).trans p5; have a6 := (hb3.cell (p := ⟨w.heap.size, 6, none⟩) lw).trans p6; have a7 := (hb3.cell (p := ⟨w.heap.size, 7, none⟩) lw).trans p7))
    go_wp2_with fail
    go_ret
    exact ⟨ret_bool HF.out.symm, b1.trans (hb3.mono (by omega))⟩
end Go.Proofs.YtpigpncbjckbcaaGreat
namespace Go.Proofs.YtpigpncbjckbcaaGreat
open Go.RowKit
theorem Tr.valid_isCore (d : Tr Ko) : d.validB = d.isCore (d.free [] []) := (Tr.isCore_eq d _).symm
set_option maxRecDepth 100000 in
set_option maxHeartbeats 1000000 in
theorem specValid_any (d : Tr Ko) (B : Nat) (w : World) (hin : Ko.E.In w B d) (hB : B ≤ w.heap.size) (hb : d.bulk Ko.bulk ≤ 1500000) :
    Calls Tryz.prog 42 #[Ko.val d] w fun e w' => e = .returned (.bool d.validB) ∧ Below w.heap.size w w' := by
  obtain ⟨W, hW⟩ : ∃ W, W = w.alloc (.cells #[.int .i64 d.a.k, .int .i64 d.a.n, .slice d.a.sA d.a.s.length d.a.sC, .int .i64 d.a.d.k, .int .i64 d.a.d.n, .string d.a.d.t, .slice d.a.d.A d.a.d.l.length d.a.d.c, .slice d.A d.l.length d.c] 35) := ⟨_, rfl⟩
  have zW : W.heap.size = w.heap.size + 1 := by rw [hW]; simp
  have b1 : Below w.heap.size w W := by rw [hW]; exact (Below.refl _ _).alloc (Nat.le_refl _) _
  have X0 : Ko.Box W w.heap.size d := by rw [hW]; exact Ko.Box.new _ _ _
  have hinW : ∀ z : World, Below W.heap.size W z → Ko.E.In z B d := fun z hz => Elem.In.below hin ((b1.trans (hz.mono (by omega))).mono hB)
  have lw : w.heap.size < W.heap.size := by omega
  have lB : B ≤ W.heap.size := by omega
  cases q1 : decide (d.size ≤ 3000)
  · have HF : Hid (d.validB = false) := by show _ = _; rw [Tr.valid_isCore]; unfold Tr.isCore; rw [q1]; rfl
    have HC1 : Hid (∀ z : Near W, Calls Tryz.prog 95 #[.agg #[.int .i64 d.a.k, .int .i64 d.a.n, .slice d.a.sA d.a.s.length d.a.sC, .int .i64 d.a.d.k, .int .i64 d.a.d.n, .string d.a.d.t, .slice d.a.d.A d.a.d.l.length d.a.d.c, .slice d.A d.l.length d.c]] z.at_ fun e w' => e = .returned (.bool false) ∧ Below z.at_.heap.size z.at_ w') := fun z => by have h := kSmall_any d B z.at_ (hinW _ z.below) (Nat.le_trans lB z.size); rw [q1] at h; exact h
    clear q1
    unfold Ko.val
    have d0 : ∀ z : Near W, z.at_.cell? ⟨w.heap.size, 0, none⟩ = some (.int .i64 d.a.k) := fun z => z.cell 0 X0.c0 lw
    have d1 : ∀ z : Near W, z.at_.cell? ⟨w.heap.size, 1, none⟩ = some (.int .i64 d.a.n) := fun z => z.cell 1 X0.c1 lw
    have d2 : ∀ z : Near W, z.at_.cell? ⟨w.heap.size, 2, none⟩ = some (.slice d.a.sA d.a.s.length d.a.sC) := fun z => z.cell 2 X0.c2 lw
    have d3 : ∀ z : Near W, z.at_.cell? ⟨w.heap.size, 3, none⟩ = some (.int .i64 d.a.d.k) := fun z => z.cell 3 X0.c3 lw
    have d4 : ∀ z : Near W, z.at_.cell? ⟨w.heap.size, 4, none⟩ = some (.int .i64 d.a.d.n) := fun z => z.cell 4 X0.c4 lw
    have d5 : ∀ z : Near W, z.at_.cell? ⟨w.heap.size, 5, none⟩ = some (.string d.a.d.t) := fun z => z.cell 5 X0.c5 lw
    have d6 : ∀ z : Near W, z.at_.cell? ⟨w.heap.size, 6, none⟩ = some (.slice d.a.d.A d.a.d.l.length d.a.d.c) := fun z => z.cell 6 X0.c6 lw
    have d7 : ∀ z : Near W, z.at_.cell? ⟨w.heap.size, 7, none⟩ = some (.slice d.A d.l.length d.c) := fun z => z.cell 7 X0.c7 lw
    go_enter Tryz.func42, Tryz.ntmps42
    go_upto_region 1 with fail
    rw [← hW]
    clear hW X0
    refine wp_region_near (by kernel_rfl) (by kernel_rfl) ?_
    repeat (go_big_quiet_step (first | (go_at_call 95; with_reducible exact Calls.near (HC1.out _))))
    refine wpQuiet_nil ?_
    intro _ hw1
    obtain ⟨nx, hw2⟩ := hw1
    subst hw2
    go_wp2_with fail
    go_ret
    exact ⟨ret_bool HF.out.symm, b1.trans (nx.below.mono (by omega))⟩
  · obtain ⟨f, hf⟩ : ∃ f, f = d.free [] [] := ⟨_, rfl⟩
    have hfl : f.length ≤ 1500001 := by rw [hf]; have := Ko.freeV_len d; omega
    obtain ⟨V, hV⟩ : ∃ V, V = d.isCore f := ⟨_, rfl⟩
    have HF : Hid (d.validB = V) := by show _ = _; rw [Tr.valid_isCore, ← hf, ← hV]
    have HT : Hid (∀ z : World, Ko.E.In z B d → B ≤ z.heap.size → Calls Tryz.prog 95 #[.agg #[.int .i64 d.a.k, .int .i64 d.a.n, .slice d.a.sA d.a.s.length d.a.sC, .int .i64 d.a.d.k, .int .i64 d.a.d.n, .string d.a.d.t, .slice d.a.d.A d.a.d.l.length d.a.d.c, .slice d.A d.l.length d.c]] z fun e w' => e = .returned (.bool true) ∧ Below z.heap.size z w') := fun z hz hB2 => by have h := kSmall_any d B z hz hB2; rw [q1] at h; exact h
    have HR : Hid (∀ z : World, Ko.E.In z B d → B ≤ z.heap.size → Calls Tryz.prog 46 #[.agg #[.int .i64 d.a.k, .int .i64 d.a.n, .slice d.a.sA d.a.s.length d.a.sC, .int .i64 d.a.d.k, .int .i64 d.a.d.n, .string d.a.d.t, .slice d.a.d.A d.a.d.l.length d.a.d.c, .slice d.A d.l.length d.c]] z (RetI f z)) := fun z hz hB2 => by have h := specFreV_any d B z hz hB2 hb; rw [← hf] at h; exact h
    have HN : Hid (∀ (z : World) (A : Option Addr) (c : Nat), Ko.E.In z z.heap.size d → IIn z z.heap.size A c f → Calls Tryz.prog 96 #[.agg #[.int .i64 d.a.k, .int .i64 d.a.n, .slice d.a.sA d.a.s.length d.a.sC, .int .i64 d.a.d.k, .int .i64 d.a.d.n, .string d.a.d.t, .slice d.a.d.A d.a.d.l.length d.a.d.c, .slice d.A d.l.length d.c], .slice A f.length c] z fun e w' => e = .returned (.bool V) ∧ Below z.heap.size z w') := fun z A c hz hg => by have h := specIsc_any d A c f z.heap.size z hz hg (Nat.le_refl _) hb (by omega); rw [← hV] at h; exact h
    clear q1 hf hV
    unfold Ko.val
    have X0q := X0
    obtain ⟨p0, p1, p2, p3, p4, p5, p6, p7⟩ := X0q
    have a0 := p0
    have a1 := p1
    have a2 := p2
    have a3 := p3
    have a4 := p4
    have a5 := p5
    have a6 := p6
    have a7 := p7
    go_enter Tryz.func42, Tryz.ntmps42
    go_upto_region 1 with fail
    rw [← hW]
    clear hW X0
    go_region_held3 (fun w' => w'.cell? ⟨w.heap.size, 0, none⟩ = some (.int .i64 d.a.k) ∧ w'.cell? ⟨w.heap.size, 1, none⟩ = some (.int .i64 d.a.n) ∧ w'.cell? ⟨w.heap.size, 2, none⟩ = some (.slice d.a.sA d.a.s.length d.a.sC) ∧ w'.cell? ⟨w.heap.size, 3, none⟩ = some (.int .i64 d.a.d.k) ∧ w'.cell? ⟨w.heap.size, 4, none⟩ = some (.int .i64 d.a.d.n) ∧ w'.cell? ⟨w.heap.size, 5, none⟩ = some (.string d.a.d.t) ∧ w'.cell? ⟨w.heap.size, 6, none⟩ = some (.slice d.a.d.A d.a.d.l.length d.a.d.c) ∧ w'.cell? ⟨w.heap.size, 7, none⟩ = some (.slice d.A d.l.length d.c)) (go_keep) (first
      | (go_at_call 95; refine (HT.out _ ?_ ?_).mono ?_; exact Elem.In.drew (hinW W (Below.refl _ _)); (show B ≤ W.heap.size); omega; rintro e w1 ⟨rfl, hb1⟩; have hb1 : Below W.heap.size W w1 := below_undrew hb1; have z1 := hb1.size; have a0 := (hb1.cell (p := ⟨w.heap.size, 0, none⟩) lw).trans p0; have a1 := (hb1.cell (p := ⟨w.heap.size, 1, none⟩) lw).trans p1; have a2 := (hb1.cell (p := ⟨w.heap.size, 2, none⟩) lw).trans p2; have a3 := (hb1.cell (p := ⟨w.heap.size, 3, none⟩) lw).trans p3; have a4 := (hb1.cell (p := ⟨w.heap.size, 4, none⟩) lw).trans p4; have a5 := (hb1.cell (p := ⟨w.heap.size, 5, none⟩) lw).trans p5; have a6 := (hb1.cell (p := ⟨w.heap.size, 6, none⟩) lw).trans p6; have a7 := (hb1.cell (p := ⟨w.heap.size, 7, none⟩) lw).trans p7)
      | (go_at_call 46; refine (HR.out w1 (hinW _ hb1) (by omega)).mono ?_; rintro e w2 ⟨A2, c2, rfl, ho2, hc2⟩; have hb2 := hb1.trans (hc2.mono z1); have z2 := hb2.size; have a0 := (hb2.cell (p := ⟨w.heap.size, 0, none⟩) lw).trans p0; have a1 := (hb2.cell (p := ⟨w.heap.size, 1, none⟩) lw).trans p1; have a2 := (hb2.cell (p := ⟨w.heap.size, 2, none⟩) lw).trans p2; have a3 := (hb2.cell (p := ⟨w.heap.size, 3, none⟩) lw).trans p3; have a4 := (hb2.cell (p := ⟨w.heap.size, 4, none⟩) lw).trans p4; have a5 := (hb2.cell (p := ⟨w.heap.size, 5, none⟩) lw).trans p5; have a6 := (hb2.cell (p := ⟨w.heap.size, 6, none⟩) lw).trans p6; have a7 := (hb2.cell (p := ⟨w.heap.size, 7, none⟩) lw).trans p7)
      | (go_at_call 96; refine (HN.out w2 A2 c2 ((hinW _ hb2).more (by omega)) ho2.inn).mono ?_; rintro e w3 ⟨rfl, hc3⟩; have hb3 := hb2.trans (hc3.mono z2); have z3 := hb3.size; have a0 := (hb3.cell (p := ⟨w.heap.size, 0, none⟩) lw).trans p0; have a1 := (hb3.cell (p := ⟨w.heap.size, 1, none⟩) lw).trans p1; have a2 := (hb3.cell (p := ⟨w.heap.size, 2, none⟩) lw).trans p2; have a3 := (hb3.cell (p := ⟨w.heap.size, 3, none⟩) lw).trans p3; have a4 := (hb3.cell (p := ⟨w.heap.size, 4, none⟩) lw).trans p4; have a5 := (hb3.cell (p := ⟨w.heap.size, 5, none⟩) lw).trans p5; have a6 := (hb3.cell (p := ⟨w.heap.size, 6, none⟩) lw).trans p6; have a7 := (hb3.cell (p := ⟨w.heap.size, 7, none⟩) lw).trans p7))
    go_wp2_with fail
    go_ret
    exact ⟨ret_bool HF.out.symm, b1.trans (hb3.mono (by omega))⟩
end Go.Proofs.YtpigpncbjckbcaaGreat
