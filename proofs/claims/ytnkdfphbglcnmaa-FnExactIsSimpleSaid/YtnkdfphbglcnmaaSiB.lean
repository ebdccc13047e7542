/-
  IsSimple, the model's and the program's.
-/
import Derived.Test.YtnkdfphbglcnmaaSiA
import Derived.Test.YtnkdfphbglcnmaaNear
import Derived.Deep.RegionHeld3
namespace Go.Proofs.Ytnkdfphbglcnmaa
open Go.RowKit Go.Maps Go.WideMaps Go.ChangeMaps

def Tr.simple (d : Tr Ko) (g : List Int) : Bool := d.validB && d.a.simpB g

set_option maxRecDepth 100000 in
set_option maxHeartbeats 2000000 in
theorem specIsS_any (d : Tr Ko) (A : Option Addr) (c : Nat) (g : List Int) (B : Nat) (w : World) (hin : Ko.E.In w B d) (hg : IIn w B A c g) (hB : B ≤ w.heap.size) (hbk : d.bulk Ko.bulk ≤ 1500000) :
    Calls Try.prog 6 #[Ko.val d, .slice A g.length c] w fun e w' => e = .returned (.bool (d.simple g)) ∧ Below w.heap.size w w' := by
  obtain ⟨W, hW⟩ : ∃ W, W = w.alloc (.cells #[.int .i64 d.a.k, .int .i64 d.a.n, .slice d.a.sA d.a.s.length d.a.sC, .int .i64 d.a.d.k, .int .i64 d.a.d.n, .string d.a.d.t, .slice d.a.d.A d.a.d.l.length d.a.d.c, .slice d.A d.l.length d.c] 36) := ⟨_, rfl⟩
  have zW : W.heap.size = w.heap.size + 1 := by rw [hW]; simp
  have zl : w.heap.size < W.heap.size := by omega
  have hcur : Below w.heap.size w W := by rw [hW]; exact (Below.refl _ _).alloc (Nat.le_refl _) _
  have X : Ko.Box W w.heap.size d := by rw [hW]; exact Ko.Box.new _ _ _
  have lB : B ≤ W.heap.size := by omega
  have hinW : ∀ z : World, Below W.heap.size W z → Ko.E.In z B d := fun z hz => Elem.In.below hin ((hcur.trans (hz.mono (by omega))).mono hB)
  have hgW : ∀ z : World, Below W.heap.size W z → IIn z B A c g := fun z hz => hg.below ((hcur.trans (hz.mono (by omega))).mono hB)
  have HF : Hid (d.simple g = (d.validB && d.a.simpB g)) := rfl
  have hval := specValid_any d B W (hinW W (Below.refl _ _)) lB hbk
  have HS := Lib.hid (fun (z : World) (hz : Below W.heap.size W z) => specSimp_any d g z (hgW z hz) (Nat.le_trans lB hz.size))
  obtain ⟨a0, a1, a2, a3, a4, a5, a6, a7⟩ := id X
  unfold Ko.val at hval HS ⊢
  clear hinW hgW zW
  cases qv : d.validB
  all_goals
    rw [qv] at HF hval
    have HV := Lib.hid qv
    clear qv
    go_enter Try.func6, Try.ntmps6
    go_upto_region 1 with fail
    rw [← hW]
    clear hW
    go_wp2_with (first | (go_at_call 26; with_reducible refine hval.mono ?_; rintro e w1 ⟨rfl, hb1⟩; have hz1 := hb1.size; obtain ⟨a0, a1, a2, a3, a4, a5, a6, a7⟩ := X.below hb1 zl) | (go_at_call 27; with_reducible refine (HS.out _ hb1).mono ?_; rintro e w2 ⟨rfl, hb2⟩; have hb1 := hb1.trans (hb2.mono hz1)))
    go_ret
    exact ⟨ret_bool (by rw [HF.out]; rfl), hcur.trans (hb1.mono (Nat.le_of_lt zl))⟩

set_option maxRecDepth 100000 in
set_option maxHeartbeats 4000000 in
theorem implIsS_any (d : Tr Ko) (A : Option Addr) (c : Nat) (g : List Int) (B : Nat) (w : World) (hin : Ko.E.In w B d) (hg : IIn w B A c g) (hB : B ≤ w.heap.size) (hbk : d.bulk Ko.bulk ≤ 1500000) (hgl : g.length ≤ 2000000) (hwf : ∀ i ∈ g, (Lit.int .i64 i).wf = true) :
    Calls Try.prog 9 #[Ko.val d, .slice A g.length c] w fun e w' => e = .returned (.bool (d.simple g)) ∧ Below w.heap.size w w' := by
  have hwfn := (Ko.E_in hin).1.wf.1
  obtain ⟨W, hW⟩ : ∃ W, W = w.alloc (.cells #[.int .i64 d.a.k, .int .i64 d.a.n, .slice d.a.sA d.a.s.length d.a.sC, .int .i64 d.a.d.k, .int .i64 d.a.d.n, .string d.a.d.t, .slice d.a.d.A d.a.d.l.length d.a.d.c, .slice d.A d.l.length d.c] 36) := ⟨_, rfl⟩
  have zW : W.heap.size = w.heap.size + 1 := by rw [hW]; simp
  have zl : w.heap.size < W.heap.size := by omega
  have hcur : Below w.heap.size w W := by rw [hW]; exact (Below.refl _ _).alloc (Nat.le_refl _) _
  have X : Ko.Box W w.heap.size d := by rw [hW]; exact Ko.Box.new _ _ _
  have lB : B ≤ W.heap.size := by omega
  have hinW : ∀ z : World, Below W.heap.size W z → Ko.E.In z B d := fun z hz => Elem.In.below hin ((hcur.trans (hz.mono (by omega))).mono hB)
  have hgW : ∀ z : World, Below W.heap.size W z → IIn z B A c g := fun z hz => hg.below ((hcur.trans (hz.mono (by omega))).mono hB)
  have HF : Hid (d.simple g = (d.validB && d.a.simpB g)) := rfl
  cases qv : d.validB
  · have HC : Hid (∀ z : Near W, Calls Try.prog 29 #[.agg #[.int .i64 d.a.k, .int .i64 d.a.n, .slice d.a.sA d.a.s.length d.a.sC, .int .i64 d.a.d.k, .int .i64 d.a.d.n, .string d.a.d.t, .slice d.a.d.A d.a.d.l.length d.a.d.c, .slice d.A d.l.length d.c]] z.at_ fun e w' => e = .returned (.bool false) ∧ Below z.at_.heap.size z.at_ w') := fun z => by
      have h := valid_any d B z.at_ (hinW _ z.below) (Nat.le_trans lB z.size) hbk
      rw [qv] at h; exact h
    rw [qv] at HF
    unfold Ko.val
    have d0 : ∀ z : Near W, z.at_.cell? ⟨w.heap.size, 0, none⟩ = some (.int .i64 d.a.k) := fun z => z.cell 0 X.c0 zl
    have d1 : ∀ z : Near W, z.at_.cell? ⟨w.heap.size, 1, none⟩ = some (.int .i64 d.a.n) := fun z => z.cell 1 X.c1 zl
    have d2 : ∀ z : Near W, z.at_.cell? ⟨w.heap.size, 2, none⟩ = some (.slice d.a.sA d.a.s.length d.a.sC) := fun z => z.cell 2 X.c2 zl
    have d3 : ∀ z : Near W, z.at_.cell? ⟨w.heap.size, 3, none⟩ = some (.int .i64 d.a.d.k) := fun z => z.cell 3 X.c3 zl
    have d4 : ∀ z : Near W, z.at_.cell? ⟨w.heap.size, 4, none⟩ = some (.int .i64 d.a.d.n) := fun z => z.cell 4 X.c4 zl
    have d5 : ∀ z : Near W, z.at_.cell? ⟨w.heap.size, 5, none⟩ = some (.string d.a.d.t) := fun z => z.cell 5 X.c5 zl
    have d6 : ∀ z : Near W, z.at_.cell? ⟨w.heap.size, 6, none⟩ = some (.slice d.a.d.A d.a.d.l.length d.a.d.c) := fun z => z.cell 6 X.c6 zl
    have d7 : ∀ z : Near W, z.at_.cell? ⟨w.heap.size, 7, none⟩ = some (.slice d.A d.l.length d.c) := fun z => z.cell 7 X.c7 zl
    clear qv hwfn
    go_enter Try.func9, Try.ntmps9
    go_upto_region 1 with fail
    rw [← hW]
    clear hW
    refine wp_region_near (by kernel_rfl) (by kernel_rfl) ?_
    repeat (go_big_quiet_step (first | (go_at_call 29; with_reducible exact Calls.near (HC.out _))))
    refine wpQuiet_nil ?_
    intro _ hw1
    obtain ⟨nx, hw2⟩ := hw1
    subst hw2
    go_wp2_with fail
    go_ret
    exact ⟨ret_bool (by rw [HF.out]; rfl), hcur.trans (nx.below.mono (by omega))⟩
  · rw [qv] at HF
    have QV := Lib.hid qv
    have HWF := Lib.hid hwf
    clear qv hwf
    obtain ⟨p0, p1, p2, p3, p4, p5, p6, p7⟩ := X
    have a0 := p0
    have a1 := p1
    have a2 := p2
    have a3 := p3
    have a4 := p4
    have a5 := p5
    have a6 := p6
    have a7 := p7
    unfold Ko.val
    obtain ⟨V, hV⟩ : ∃ V, V = d.a.simpB g := ⟨_, rfl⟩
    rw [← hV] at HF
    have HV := Lib.hid hV
    have tok0 : True := trivial
    have tok1 : True := trivial
    have tok2 : True := trivial
    clear hV
    go_enter Try.func9, Try.ntmps9
    go_upto_region 1 with fail
    rw [← hW]
    clear hW
    go_region_held3 (fun w' => w'.cell? ⟨w.heap.size, 0, none⟩ = some (.int .i64 d.a.k) ∧ w'.cell? ⟨w.heap.size, 1, none⟩ = some (.int .i64 d.a.n) ∧ w'.cell? ⟨w.heap.size, 2, none⟩ = some (.slice d.a.sA d.a.s.length d.a.sC) ∧ w'.cell? ⟨w.heap.size, 3, none⟩ = some (.int .i64 d.a.d.k) ∧ w'.cell? ⟨w.heap.size, 4, none⟩ = some (.int .i64 d.a.d.n) ∧ w'.cell? ⟨w.heap.size, 5, none⟩ = some (.string d.a.d.t) ∧ w'.cell? ⟨w.heap.size, 6, none⟩ = some (.slice d.a.d.A d.a.d.l.length d.a.d.c) ∧ w'.cell? ⟨w.heap.size, 7, none⟩ = some (.slice d.A d.l.length d.c)) (go_keep) (first
      | (go_simp; go_at_call 29; have _t := tok0; have hcon := valid_any d B W.drew (Elem.In.drew (hinW W (Below.refl _ _))) (show B ≤ W.heap.size from lB) hbk; rw [QV.out] at hcon; unfold Ko.val at hcon; (with_reducible refine hcon.mono ?_); clear hcon tok0; rintro e w1 ⟨rfl, hb1⟩; have hb1 : Below W.heap.size W w1 := below_undrew hb1; have y1 := hb1.size; have a0 := (hb1.cell (p := ⟨w.heap.size, 0, none⟩) zl).trans p0; have a1 := (hb1.cell (p := ⟨w.heap.size, 1, none⟩) zl).trans p1; have a2 := (hb1.cell (p := ⟨w.heap.size, 2, none⟩) zl).trans p2; have a3 := (hb1.cell (p := ⟨w.heap.size, 3, none⟩) zl).trans p3; have a4 := (hb1.cell (p := ⟨w.heap.size, 4, none⟩) zl).trans p4; have a5 := (hb1.cell (p := ⟨w.heap.size, 5, none⟩) zl).trans p5; have a6 := (hb1.cell (p := ⟨w.heap.size, 6, none⟩) zl).trans p6; have a7 := (hb1.cell (p := ⟨w.heap.size, 7, none⟩) zl).trans p7)
      | (go_simp; go_at_call 31; have _t := tok1; have hcon := setOf_any A c g B w1 (hgW w1 hb1) (Nat.le_trans lB y1) hgl HWF.out; (with_reducible refine hcon.mono ?_); clear hcon tok1; rintro e w2 ⟨M, rfl, hM, hm2, hk2⟩; have hb2 := hb1.trans (hk2.mono y1); have y2 := hb2.size; have HM2 := Lib.hid hm2; clear hm2; have a0 := (hb2.cell (p := ⟨w.heap.size, 0, none⟩) zl).trans p0; have a1 := (hb2.cell (p := ⟨w.heap.size, 1, none⟩) zl).trans p1; have a2 := (hb2.cell (p := ⟨w.heap.size, 2, none⟩) zl).trans p2; have a3 := (hb2.cell (p := ⟨w.heap.size, 3, none⟩) zl).trans p3; have a4 := (hb2.cell (p := ⟨w.heap.size, 4, none⟩) zl).trans p4; have a5 := (hb2.cell (p := ⟨w.heap.size, 5, none⟩) zl).trans p5; have a6 := (hb2.cell (p := ⟨w.heap.size, 6, none⟩) zl).trans p6; have a7 := (hb2.cell (p := ⟨w.heap.size, 7, none⟩) zl).trans p7)
      | (go_simp; go_at_call 30; have _t := tok2; have hcon := implSimp_any d g w2 HM2.out hwfn; rw [← HV.out] at hcon; unfold Ko.val at hcon; (with_reducible refine hcon.mono ?_); clear hcon tok2; rintro e w3 ⟨rfl, hk3⟩; have hb3 := hb2.trans (hk3.mono y2); have a0 := (hb3.cell (p := ⟨w.heap.size, 0, none⟩) zl).trans p0; have a1 := (hb3.cell (p := ⟨w.heap.size, 1, none⟩) zl).trans p1; have a2 := (hb3.cell (p := ⟨w.heap.size, 2, none⟩) zl).trans p2; have a3 := (hb3.cell (p := ⟨w.heap.size, 3, none⟩) zl).trans p3; have a4 := (hb3.cell (p := ⟨w.heap.size, 4, none⟩) zl).trans p4; have a5 := (hb3.cell (p := ⟨w.heap.size, 5, none⟩) zl).trans p5; have a6 := (hb3.cell (p := ⟨w.heap.size, 6, none⟩) zl).trans p6; have a7 := (hb3.cell (p := ⟨w.heap.size, 7, none⟩) zl).trans p7)
      | fail)
    all_goals go_wp2_with fail
    all_goals go_ret
    all_goals exact ⟨ret_bool (by rw [HF.out]; simp), hcur.trans (hb3.mono (Nat.le_of_lt zl))⟩

theorem Tr.simple_er {d d0 : Tr Ko} (h : d.er Ko.er = d0.er Ko.er) (g : List Int) : d.simple g = d0.simple g := by
  unfold Tr.simple
  rw [Tr.simp_er h g, Tr.valid_isCore, Tr.valid_isCore, Tr.isCore_er h, Tr.free_of_er d d0 h]
theorem specIsS_c (d : Tr Ko) {d0 : Tr Ko} (A : Option Addr) (c : Nat) (g : List Int) (B : Nat) (w : World) (he : d.er Ko.er = d0.er Ko.er) {X : Bool} (hX : X = d0.simple g) (hin : Ko.E.In w B d) (hg : IIn w B A c g) (hB : B ≤ w.heap.size) (hbk : d0.bulk Ko.bulk ≤ 1500000) :
    Calls Try.prog 6 #[Ko.val d, .slice A g.length c] w fun e w' => e = .returned (.bool X) ∧ Below w.heap.size w w' := by
  rw [hX, ← Tr.simple_er he g]
  exact specIsS_any d A c g B w hin hg hB (by rw [Tr.bulk_of_er (fun _ _ h => Ko.bulk_of_er h) _ _ he]; exact hbk)

theorem implIsS_c (d : Tr Ko) {d0 : Tr Ko} (A : Option Addr) (c : Nat) (g : List Int) (B : Nat) (w : World) (he : d.er Ko.er = d0.er Ko.er) {X : Bool} (hX : X = d0.simple g) (hin : Ko.E.In w B d) (hg : IIn w B A c g) (hB : B ≤ w.heap.size) (hbk : d0.bulk Ko.bulk ≤ 1500000) (hgl : g.length ≤ 2000000) (hwf : ∀ i ∈ g, (Lit.int .i64 i).wf = true) :
    Calls Try.prog 9 #[Ko.val d, .slice A g.length c] w fun e w' => e = .returned (.bool X) ∧ Below w.heap.size w w' := by
  rw [hX, ← Tr.simple_er he g]
  exact implIsS_any d A c g B w hin hg hB (by rw [Tr.bulk_of_er (fun _ _ h => Ko.bulk_of_er h) _ _ he]; exact hbk) hgl hwf
end Go.Proofs.Ytnkdfphbglcnmaa
