/-
  canRenumber (written by gen/kocanr.py).
-/
import Derived.Test.YtpigpncbjckbcaaGreatGKs
import Derived.Test.YtpigpncbjckbcaaGreatKoFree
import Derived.Test.YtpigpncbjckbcaaGreatKcIsc
import Derived.Test.YtpigpncbjckbcaaGreatNear
import Derived.Deep.RegionHeld3
namespace Go.Proofs.YtpigpncbjckbcaaGreat
open Go.RowKit
def Tr.canRn (d : Tr Ko) (first : Int) : Bool := inR first && (d.validB && (!((d.free [] []).any fun n => decide (first ≤ n)) && decide (first + ((Tr.binders d).length : Int) ≤ 99999)))
set_option maxHeartbeats 400000 in
theorem taken_any (x first : Int) (q : Nat) (w : World) (hc : w.cell? ⟨q, 0, none⟩ = some (.int .i64 first)) : Calls Tryz.prog 103 #[.int .i64 x, .pointer (some ⟨q, 0, none⟩)] w fun e w' => e = .returned (.bool (decide (first ≤ x))) ∧ w' = w := by
  cases h : decide (first ≤ x)
  · have h2 : ¬ (first ≤ x) := of_decide_eq_false h
    go_enter Tryz.func103, Tryz.ntmps103
    go_wp2_with fail
    go_ret
    exact ⟨rfl, rfl⟩
  · have h2 : first ≤ x := of_decide_eq_true h
    go_enter Tryz.func103, Tryz.ntmps103
    go_wp2_with fail
    go_ret
    exact ⟨rfl, rfl⟩
set_option maxHeartbeats 800000 in
theorem takenAny (A : Option Addr) (c : Nat) (l : List Int) (first : Int) (q B : Nat) (w : World) (hin : IIn w B A c l) (hq : q < w.heap.size) (hc : w.cell? ⟨q, 0, none⟩ = some (.int .i64 first)) :
    Calls Tryz.prog 105 #[.slice A l.length c, .func (.func 103) #[] #[.pointer (some ⟨q, 0, none⟩)]] w fun e w' => e = .returned (.bool (l.any fun n => decide (first ≤ n))) ∧ Below w.heap.size w w' := by
  have hcap := hin.cap
  by_cases hl : l = []
  · subst hl
    refine (Tryz.slices_ContainsFunc_empty_f105 (α := Int) A c _ _).mono ?_
    rintro e w' ⟨rfl, rfl⟩
    exact ⟨rfl, Below.refl _ _⟩
  · obtain ⟨b, o, rfl, hb, hcs⟩ := hin.mem hl
    have eg : ∀ args w, (callFunc 103 args).run Tryz.prog w = .ok (.enter 103 args) w := enters_of Tryz.func103 (by kernel_rfl) rfl
    have hp : PredAt Tryz.prog 103 #[.pointer (some ⟨q, 0, none⟩)] (Value.int .i64) (fun n => decide (first ≤ n)) w := fun W x hW => by
      show Calls Tryz.prog 103 #[.int .i64 x, .pointer (some ⟨q, 0, none⟩)] W _
      refine (taken_any x first q W ((hW.cell (p := ⟨q, 0, none⟩) hq).trans hc)).mono ?_
      rintro e w' ⟨rfl, rfl⟩
      exact ⟨rfl, 0, rfl⟩
    have hcon := Tryz.slices_ContainsFunc_f105 (α := Int) (Value.int .i64) (fun n => decide (first ≤ n)) 103 #[.pointer (some ⟨q, 0, none⟩)] eg b o l.length c l w hp (Nat.le_refl _) (by omega) (fun j hj => by rw [hcs j _ (List.getElem?_eq_getElem hj)]; simp [hj])
    refine hcon.mono ?_
    rintro e w' ⟨rfl, n, rfl⟩
    exact ⟨by rw [List.take_length], below_drewN (Below.refl _ _) n⟩
set_option maxRecDepth 100000 in
set_option maxHeartbeats 8000000 in
theorem implCanRn_any (d : Tr Ko) (first : Int) (B : Nat) (w : World) (hd : Ko.E.In w B d) (hB : B ≤ w.heap.size) (hbk : d.bulk Ko.bulk ≤ 1500000) :
    Calls Tryz.prog 51 #[Ko.val d, .int .i64 first] w fun e w' => e = .returned (.bool (d.canRn first)) ∧ Below w.heap.size w w' := by
  have hbl := Tr.binders_len d
  have HF : Hid (d.canRn first = (inR first && (d.validB && (!((d.free [] []).any fun n => decide (first ≤ n)) && decide (first + ((Tr.binders d).length : Int) ≤ 99999))))) := rfl
  obtain ⟨W1, hW1⟩ : ∃ W1, W1 = w.alloc (.cells #[.int .i64 d.a.k, .int .i64 d.a.n, .slice d.a.sA d.a.s.length d.a.sC, .int .i64 d.a.d.k, .int .i64 d.a.d.n, .string d.a.d.t, .slice d.a.d.A d.a.d.l.length d.a.d.c, .slice d.A d.l.length d.c] 35) := ⟨_, rfl⟩
  obtain ⟨W2, hW2⟩ : ∃ W2, W2 = W1.alloc (.cells #[.int .i64 first] 3) := ⟨_, rfl⟩
  have z1 : W1.heap.size = w.heap.size + 1 := by rw [hW1]; simp
  have z2 : W2.heap.size = w.heap.size + 1 + 1 := by rw [hW2]; simp [z1]
  have B1 : Below w.heap.size w W1 := by rw [hW1]; exact (Below.refl _ _).alloc (Nat.le_refl _) _
  have B2 : Below W1.heap.size W1 W2 := by rw [hW2]; exact (Below.refl _ _).alloc (Nat.le_refl _) _
  have X0 : Ko.Box W1 w.heap.size d := by rw [hW1]; exact Ko.Box.new _ _ _
  have X0 := X0.below B2 (by omega)
  have Y0 : D.Blk W2 (w.heap.size + 1) 3 #[.int .i64 first] := by rw [hW2, ← z1]; exact D.Blk.new _ _ _
  have y0 : W2.cell? ⟨w.heap.size + 1, 0, none⟩ = some (.int .i64 first) := Y0.cell 0
  have b0 : Below w.heap.size w W2 := B1.trans (B2.mono (by omega))
  have lx : w.heap.size < W2.heap.size := by omega
  have ly : w.heap.size + 1 < W2.heap.size := by omega
  have lB : B ≤ W2.heap.size := by omega
  have hxW : ∀ z : World, Below W2.heap.size W2 z → Ko.E.In z B d := fun z hz => Elem.In.below hd ((b0.trans (hz.mono (by omega))).mono hB)
  have HC0 : Hid (∀ z : Near W2, Calls Tryz.prog 104 #[.int .i64 first] z.at_ fun e w' => e = .returned (.bool (inR first)) ∧ Below z.at_.heap.size z.at_ w') := fun z => (implVarR_any first z.at_).mono fun e w' hh => ⟨hh.1, by rw [hh.2]; exact Below.refl _ _⟩
  have HC1 : Hid (∀ z : Near W2, Calls Tryz.prog 92 #[.agg #[.int .i64 d.a.k, .int .i64 d.a.n, .slice d.a.sA d.a.s.length d.a.sC, .int .i64 d.a.d.k, .int .i64 d.a.d.n, .string d.a.d.t, .slice d.a.d.A d.a.d.l.length d.a.d.c, .slice d.A d.l.length d.c]] z.at_ fun e w' => e = .returned (.bool d.validB) ∧ Below z.at_.heap.size z.at_ w') := fun z => valid_any d B z.at_ (hxW _ z.below) (Nat.le_trans lB z.size) hbk
  unfold Ko.val
  have d0 : ∀ z : Near W2, z.at_.cell? ⟨w.heap.size, 0, none⟩ = some (.int .i64 d.a.k) := fun z => z.cell 0 X0.c0 lx
  have d1 : ∀ z : Near W2, z.at_.cell? ⟨w.heap.size, 1, none⟩ = some (.int .i64 d.a.n) := fun z => z.cell 1 X0.c1 lx
  have d2 : ∀ z : Near W2, z.at_.cell? ⟨w.heap.size, 2, none⟩ = some (.slice d.a.sA d.a.s.length d.a.sC) := fun z => z.cell 2 X0.c2 lx
  have d3 : ∀ z : Near W2, z.at_.cell? ⟨w.heap.size, 3, none⟩ = some (.int .i64 d.a.d.k) := fun z => z.cell 3 X0.c3 lx
  have d4 : ∀ z : Near W2, z.at_.cell? ⟨w.heap.size, 4, none⟩ = some (.int .i64 d.a.d.n) := fun z => z.cell 4 X0.c4 lx
  have d5 : ∀ z : Near W2, z.at_.cell? ⟨w.heap.size, 5, none⟩ = some (.string d.a.d.t) := fun z => z.cell 5 X0.c5 lx
  have d6 : ∀ z : Near W2, z.at_.cell? ⟨w.heap.size, 6, none⟩ = some (.slice d.a.d.A d.a.d.l.length d.a.d.c) := fun z => z.cell 6 X0.c6 lx
  have d7 : ∀ z : Near W2, z.at_.cell? ⟨w.heap.size, 7, none⟩ = some (.slice d.A d.l.length d.c) := fun z => z.cell 7 X0.c7 lx
  have ey : ∀ z : Near W2, z.at_.cell? ⟨w.heap.size + 1, 0, none⟩ = some (.int .i64 first) := fun z => z.cell 0 y0 ly
  cases q0 : inR first
  · rw [q0] at HF HC0
    clear q0
    go_enter Tryz.func51, Tryz.ntmps51
    go_upto_region 2 with fail
    rw [← hW1, ← hW2]
    clear hW1 hW2 B1 B2 z1 z2
    refine wp_region_near (by kernel_rfl) (by kernel_rfl) ?_
    repeat (go_big_quiet_step (first | (go_at_call 104; with_reducible exact Calls.near (HC0.out _))))
    refine wpQuiet_nil ?_
    intro _ hw1
    obtain ⟨nx, hw2⟩ := hw1
    subst hw2
    go_wp2_with fail
    go_ret
    exact ⟨ret_bool (by rw [HF.out]; rfl), b0.trans (nx.below.mono (by omega))⟩
  cases q1 : d.validB
  · rw [q0, q1] at HF
    rw [q0] at HC0
    rw [q1] at HC1
    clear q0 q1
    go_enter Tryz.func51, Tryz.ntmps51
    go_upto_region 2 with fail
    rw [← hW1, ← hW2]
    clear hW1 hW2 B1 B2 z1 z2
    refine wp_region_near (by kernel_rfl) (by kernel_rfl) ?_
    repeat (go_big_quiet_step (first | (go_at_call 104; with_reducible exact Calls.near (HC0.out _)) | (go_at_call 92; with_reducible exact Calls.near (HC1.out _))))
    refine wpQuiet_nil ?_
    intro _ hw1
    obtain ⟨nx, hw2⟩ := hw1
    subst hw2
    go_wp2_with fail
    go_ret
    exact ⟨ret_bool (by rw [HF.out]; rfl), b0.trans (nx.below.mono (by omega))⟩
  rw [q0, q1] at HF
  have Q0 := Lib.hid q0
  have Q1 := Lib.hid q1
  clear q0 q1 ey d0 d1 d2 d3 d4 d5 d6 d7 HC0 HC1
  obtain ⟨p0, p1, p2, p3, p4, p5, p6, p7⟩ := id X0
  have yc0 := y0
  have a0 := p0
  have a1 := p1
  have a2 := p2
  have a3 := p3
  have a4 := p4
  have a5 := p5
  have a6 := p6
  have a7 := p7
  cases q2 : (d.free [] []).any fun n => decide (first ≤ n)
  · rw [q2] at HF
    have Q2 := Lib.hid q2
    clear q2
    cases q3 : decide (first + ((Tr.binders d).length : Int) ≤ 99999)
    all_goals
      rw [q3] at HF
      have q4 := q3
      obtain ⟨hle0, hle1⟩ : 0 ≤ first ∧ first ≤ 99999 := by have := Q0.out; unfold inR at this; exact of_decide_eq_true this
      have hs0 : 0 ≤ first + ((Tr.binders d).length : Int) := by omega
      have hs1 : first + ((Tr.binders d).length : Int) ≤ 2000000 := by omega
      have tok0 : True := trivial
      have tok1 : True := trivial
      have tok2 : True := trivial
      have tok3 : True := trivial
      have tok4 : True := trivial
      go_enter Tryz.func51, Tryz.ntmps51
      go_upto_region 2 with fail
      rw [← hW1, ← hW2]
      clear hW1 hW2 B1 B2 z1 z2
      go_region_held3 (fun w' => w'.cell? ⟨w.heap.size, 0, none⟩ = some (.int .i64 d.a.k) ∧ w'.cell? ⟨w.heap.size, 1, none⟩ = some (.int .i64 d.a.n) ∧ w'.cell? ⟨w.heap.size, 2, none⟩ = some (.slice d.a.sA d.a.s.length d.a.sC) ∧ w'.cell? ⟨w.heap.size, 3, none⟩ = some (.int .i64 d.a.d.k) ∧ w'.cell? ⟨w.heap.size, 4, none⟩ = some (.int .i64 d.a.d.n) ∧ w'.cell? ⟨w.heap.size, 5, none⟩ = some (.string d.a.d.t) ∧ w'.cell? ⟨w.heap.size, 6, none⟩ = some (.slice d.a.d.A d.a.d.l.length d.a.d.c) ∧ w'.cell? ⟨w.heap.size, 7, none⟩ = some (.slice d.A d.l.length d.c) ∧ w'.cell? ⟨w.heap.size + 1, 0, none⟩ = some (.int .i64 first)) (go_keep) (first
        | (go_simp; go_at_call 104; have _t := tok0; have hcon := implVarR_any first W2.drew; rw [Q0.out] at hcon; (with_reducible refine hcon.mono ?_); clear hcon tok0; rintro e w1 ⟨rfl, hw⟩; have hb1 : Below W2.heap.size W2 w1 := (by rw [hw]; exact (Below.refl _ _).drew); clear hw; have y1 := hb1.size; have a0 := (hb1.cell (p := ⟨w.heap.size, 0, none⟩) lx).trans p0; have a1 := (hb1.cell (p := ⟨w.heap.size, 1, none⟩) lx).trans p1; have a2 := (hb1.cell (p := ⟨w.heap.size, 2, none⟩) lx).trans p2; have a3 := (hb1.cell (p := ⟨w.heap.size, 3, none⟩) lx).trans p3; have a4 := (hb1.cell (p := ⟨w.heap.size, 4, none⟩) lx).trans p4; have a5 := (hb1.cell (p := ⟨w.heap.size, 5, none⟩) lx).trans p5; have a6 := (hb1.cell (p := ⟨w.heap.size, 6, none⟩) lx).trans p6; have a7 := (hb1.cell (p := ⟨w.heap.size, 7, none⟩) lx).trans p7; have yc0 := (hb1.cell (p := ⟨w.heap.size + 1, 0, none⟩) ly).trans y0)
        | (go_simp; go_at_call 92; have _t := tok1; have hcon := valid_any d B w1 (hxW w1 hb1) (by omega) hbk; rw [Q1.out] at hcon; unfold Ko.val at hcon; (with_reducible refine hcon.mono ?_); clear hcon tok1; rintro e w2 ⟨rfl, hk2⟩; have hb2 := hb1.trans (hk2.mono y1); have y2 := hb2.size; have a0 := (hb2.cell (p := ⟨w.heap.size, 0, none⟩) lx).trans p0; have a1 := (hb2.cell (p := ⟨w.heap.size, 1, none⟩) lx).trans p1; have a2 := (hb2.cell (p := ⟨w.heap.size, 2, none⟩) lx).trans p2; have a3 := (hb2.cell (p := ⟨w.heap.size, 3, none⟩) lx).trans p3; have a4 := (hb2.cell (p := ⟨w.heap.size, 4, none⟩) lx).trans p4; have a5 := (hb2.cell (p := ⟨w.heap.size, 5, none⟩) lx).trans p5; have a6 := (hb2.cell (p := ⟨w.heap.size, 6, none⟩) lx).trans p6; have a7 := (hb2.cell (p := ⟨w.heap.size, 7, none⟩) lx).trans p7; have yc0 := (hb2.cell (p := ⟨w.heap.size + 1, 0, none⟩) ly).trans y0)
        | (go_simp; go_at_call 106; have _t := tok2; have hcon := implFre_any d B w2 (hxW w2 hb2) (by omega) hbk; unfold Ko.val at hcon; (with_reducible refine hcon.mono ?_); clear hcon tok2; rintro e w3 ⟨A1, cc1, rfl, o1, hk3⟩; have hb3 := hb2.trans (hk3.mono y2); have y3 := hb3.size; have a0 := (hb3.cell (p := ⟨w.heap.size, 0, none⟩) lx).trans p0; have a1 := (hb3.cell (p := ⟨w.heap.size, 1, none⟩) lx).trans p1; have a2 := (hb3.cell (p := ⟨w.heap.size, 2, none⟩) lx).trans p2; have a3 := (hb3.cell (p := ⟨w.heap.size, 3, none⟩) lx).trans p3; have a4 := (hb3.cell (p := ⟨w.heap.size, 4, none⟩) lx).trans p4; have a5 := (hb3.cell (p := ⟨w.heap.size, 5, none⟩) lx).trans p5; have a6 := (hb3.cell (p := ⟨w.heap.size, 6, none⟩) lx).trans p6; have a7 := (hb3.cell (p := ⟨w.heap.size, 7, none⟩) lx).trans p7; have yc0 := (hb3.cell (p := ⟨w.heap.size + 1, 0, none⟩) ly).trans y0)
        | (go_simp; go_at_call 105; have _t := tok3; have hcon := takenAny A1 cc1 (d.free [] []) first (w.heap.size + 1) w3.heap.size w3 o1.inn (by omega) yc0; rw [Q2.out] at hcon; (with_reducible refine hcon.mono ?_); clear hcon tok3; rintro e w4 ⟨rfl, hk4⟩; have hb4 := hb3.trans (hk4.mono y3); have y4 := hb4.size; have a0 := (hb4.cell (p := ⟨w.heap.size, 0, none⟩) lx).trans p0; have a1 := (hb4.cell (p := ⟨w.heap.size, 1, none⟩) lx).trans p1; have a2 := (hb4.cell (p := ⟨w.heap.size, 2, none⟩) lx).trans p2; have a3 := (hb4.cell (p := ⟨w.heap.size, 3, none⟩) lx).trans p3; have a4 := (hb4.cell (p := ⟨w.heap.size, 4, none⟩) lx).trans p4; have a5 := (hb4.cell (p := ⟨w.heap.size, 5, none⟩) lx).trans p5; have a6 := (hb4.cell (p := ⟨w.heap.size, 6, none⟩) lx).trans p6; have a7 := (hb4.cell (p := ⟨w.heap.size, 7, none⟩) lx).trans p7; have yc0 := (hb4.cell (p := ⟨w.heap.size + 1, 0, none⟩) ly).trans y0)
        | (go_simp; go_at_call 54; have _t := tok4; have hcon := implBnd_any d B w4 (hxW w4 hb4) (by omega) hbk; rw [Tr.walk_binders, List.nil_append] at hcon; unfold Ko.val at hcon; (with_reducible refine hcon.mono ?_); clear hcon tok4; rintro e w5 ⟨A2, cc2, rfl, o2, hk5⟩; have hb5 := hb4.trans (hk5.mono y4); have y5 := hb5.size; have a0 := (hb5.cell (p := ⟨w.heap.size, 0, none⟩) lx).trans p0; have a1 := (hb5.cell (p := ⟨w.heap.size, 1, none⟩) lx).trans p1; have a2 := (hb5.cell (p := ⟨w.heap.size, 2, none⟩) lx).trans p2; have a3 := (hb5.cell (p := ⟨w.heap.size, 3, none⟩) lx).trans p3; have a4 := (hb5.cell (p := ⟨w.heap.size, 4, none⟩) lx).trans p4; have a5 := (hb5.cell (p := ⟨w.heap.size, 5, none⟩) lx).trans p5; have a6 := (hb5.cell (p := ⟨w.heap.size, 6, none⟩) lx).trans p6; have a7 := (hb5.cell (p := ⟨w.heap.size, 7, none⟩) lx).trans p7; have yc0 := (hb5.cell (p := ⟨w.heap.size + 1, 0, none⟩) ly).trans y0)
        | fail)
      all_goals go_wp2_with fail
      all_goals go_ret
      all_goals exact ⟨ret_bool (by first | (rw [HF.out, IntWalk.i64_in _ (by omega), q4]; rfl) | (rw [HF.out]; simp only [IntWalk.i64_in _ (show -9223372036854775808 ≤ first + ((Tr.binders d).length : Int) ∧ first + ((Tr.binders d).length : Int) ≤ 9223372036854775807 by omega)]; rw [q4]; rfl) | (rw [HF.out]; simp)), b0.trans (hb5.mono (by omega))⟩
  · rw [q2] at HF
    have Q2 := Lib.hid q2
    clear q2
    have tok0 : True := trivial
    have tok1 : True := trivial
    have tok2 : True := trivial
    have tok3 : True := trivial
    go_enter Tryz.func51, Tryz.ntmps51
    go_upto_region 2 with fail
    rw [← hW1, ← hW2]
    clear hW1 hW2 B1 B2 z1 z2
    go_region_law (first
      | (go_simp; go_at_call 104; have _t := tok0; have hcon := implVarR_any first W2.drew; rw [Q0.out] at hcon; (with_reducible refine hcon.mono ?_); clear hcon tok0; rintro e w1 ⟨rfl, hw⟩; have hb1 : Below W2.heap.size W2 w1 := (by rw [hw]; exact (Below.refl _ _).drew); clear hw; have y1 := hb1.size; have a0 := (hb1.cell (p := ⟨w.heap.size, 0, none⟩) lx).trans p0; have a1 := (hb1.cell (p := ⟨w.heap.size, 1, none⟩) lx).trans p1; have a2 := (hb1.cell (p := ⟨w.heap.size, 2, none⟩) lx).trans p2; have a3 := (hb1.cell (p := ⟨w.heap.size, 3, none⟩) lx).trans p3; have a4 := (hb1.cell (p := ⟨w.heap.size, 4, none⟩) lx).trans p4; have a5 := (hb1.cell (p := ⟨w.heap.size, 5, none⟩) lx).trans p5; have a6 := (hb1.cell (p := ⟨w.heap.size, 6, none⟩) lx).trans p6; have a7 := (hb1.cell (p := ⟨w.heap.size, 7, none⟩) lx).trans p7; have yc0 := (hb1.cell (p := ⟨w.heap.size + 1, 0, none⟩) ly).trans y0)
      | (go_simp; go_at_call 92; have _t := tok1; have hcon := valid_any d B w1 (hxW w1 hb1) (by omega) hbk; rw [Q1.out] at hcon; unfold Ko.val at hcon; (with_reducible refine hcon.mono ?_); clear hcon tok1; rintro e w2 ⟨rfl, hk2⟩; have hb2 := hb1.trans (hk2.mono y1); have y2 := hb2.size; have a0 := (hb2.cell (p := ⟨w.heap.size, 0, none⟩) lx).trans p0; have a1 := (hb2.cell (p := ⟨w.heap.size, 1, none⟩) lx).trans p1; have a2 := (hb2.cell (p := ⟨w.heap.size, 2, none⟩) lx).trans p2; have a3 := (hb2.cell (p := ⟨w.heap.size, 3, none⟩) lx).trans p3; have a4 := (hb2.cell (p := ⟨w.heap.size, 4, none⟩) lx).trans p4; have a5 := (hb2.cell (p := ⟨w.heap.size, 5, none⟩) lx).trans p5; have a6 := (hb2.cell (p := ⟨w.heap.size, 6, none⟩) lx).trans p6; have a7 := (hb2.cell (p := ⟨w.heap.size, 7, none⟩) lx).trans p7; have yc0 := (hb2.cell (p := ⟨w.heap.size + 1, 0, none⟩) ly).trans y0)
      | (go_simp; go_at_call 106; have _t := tok2; have hcon := implFre_any d B w2 (hxW w2 hb2) (by omega) hbk; unfold Ko.val at hcon; (with_reducible refine hcon.mono ?_); clear hcon tok2; rintro e w3 ⟨A1, cc1, rfl, o1, hk3⟩; have hb3 := hb2.trans (hk3.mono y2); have y3 := hb3.size; have a0 := (hb3.cell (p := ⟨w.heap.size, 0, none⟩) lx).trans p0; have a1 := (hb3.cell (p := ⟨w.heap.size, 1, none⟩) lx).trans p1; have a2 := (hb3.cell (p := ⟨w.heap.size, 2, none⟩) lx).trans p2; have a3 := (hb3.cell (p := ⟨w.heap.size, 3, none⟩) lx).trans p3; have a4 := (hb3.cell (p := ⟨w.heap.size, 4, none⟩) lx).trans p4; have a5 := (hb3.cell (p := ⟨w.heap.size, 5, none⟩) lx).trans p5; have a6 := (hb3.cell (p := ⟨w.heap.size, 6, none⟩) lx).trans p6; have a7 := (hb3.cell (p := ⟨w.heap.size, 7, none⟩) lx).trans p7; have yc0 := (hb3.cell (p := ⟨w.heap.size + 1, 0, none⟩) ly).trans y0)
      | (go_simp; go_at_call 105; have _t := tok3; have hcon := takenAny A1 cc1 (d.free [] []) first (w.heap.size + 1) w3.heap.size w3 o1.inn (by omega) yc0; rw [Q2.out] at hcon; (with_reducible refine hcon.mono ?_); clear hcon tok3; rintro e w4 ⟨rfl, hk4⟩; have hb4 := hb3.trans (hk4.mono y3); have y4 := hb4.size; have a0 := (hb4.cell (p := ⟨w.heap.size, 0, none⟩) lx).trans p0; have a1 := (hb4.cell (p := ⟨w.heap.size, 1, none⟩) lx).trans p1; have a2 := (hb4.cell (p := ⟨w.heap.size, 2, none⟩) lx).trans p2; have a3 := (hb4.cell (p := ⟨w.heap.size, 3, none⟩) lx).trans p3; have a4 := (hb4.cell (p := ⟨w.heap.size, 4, none⟩) lx).trans p4; have a5 := (hb4.cell (p := ⟨w.heap.size, 5, none⟩) lx).trans p5; have a6 := (hb4.cell (p := ⟨w.heap.size, 6, none⟩) lx).trans p6; have a7 := (hb4.cell (p := ⟨w.heap.size, 7, none⟩) lx).trans p7; have yc0 := (hb4.cell (p := ⟨w.heap.size + 1, 0, none⟩) ly).trans y0)
      | fail)
    all_goals go_wp2_with fail
    all_goals go_ret
    all_goals exact ⟨ret_bool (by rw [HF.out]; simp), b0.trans (hb4.mono (by omega))⟩
end Go.Proofs.YtpigpncbjckbcaaGreat
