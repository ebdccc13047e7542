/-
  AlphaEqual, the model's and the program's (written by gen/koalp2.py).
-/
import Derived.Test.YtfbfmajjooannaaKvI
import Derived.Test.YtfbfmajjooannaaKvRen
import Derived.Test.YtfbfmajjooannaaKvVal
import Derived.Test.YtfbfmajjooannaaKoE
import Derived.Test.YtfbfmajjooannaaNear
import Derived.Deep.RegionHeld3
import Derived.Test.YtfbfmajjooannaaKoCopy
namespace Go.Proofs.Ytfbfmajjooannaa
open Go.RowKit

theorem iin_none (w : World) (B : Nat) : IIn w B none 0 ([] : List Int) := (IOwn.nil_ (lo := B) (hi := B) (w := w) (by omega) (fun _ => rfl)).inn
theorem Tr.valid_binders {d : Tr Ko} (h : d.validB = true) : (Tr.binders d).Nodup ∧ ∀ x ∈ Tr.binders d, 0 ≤ x ∧ x < 100000 := by
  unfold validB binds at h
  simp only [Bool.and_eq_true, walk_binders, List.nil_append] at h
  have h2 := uniqK_out h.2.2.2
  exact ⟨h2.1, fun x hx => (h2.2 x hx).2⟩

mutual
theorem Tr.alphaB_er : ∀ (d e : Tr Ko) (xs ys : List Int), alphaB d e xs ys = alphaB (d.er Ko.er) (e.er Ko.er) xs ys
  | .mk a _ _ l, .mk b _ _ m, xs, ys => by
    have h1 := Tr.alphaL_er l m (xs ++ a.s) (ys ++ b.s)
    have h2 : l.length = (Tr.erL Ko.er l).length := (Tr.erL_length Ko.er l).symm
    have h3 : m.length = (Tr.erL Ko.er m).length := (Tr.erL_length Ko.er m).symm
    simp only [Tr.er, alphaB, h1, ← h2, ← h3]
    simp only [Ko.er, Ko.alphaN, Ko.isVar, ← D.eqB_er]
    rfl
theorem Tr.alphaL_er : ∀ (l m : List (Tr Ko)) (xs ys : List Int), alphaL l m xs ys = alphaL (Tr.erL Ko.er l) (Tr.erL Ko.er m) xs ys
  | [], [], _, _ => rfl
  | [], _ :: _, _, _ => rfl
  | _ :: _, [], _, _ => rfl
  | d :: r, e :: t, xs, ys => by
    simp only [Tr.erL, alphaL, Tr.alphaB_er d e xs ys, Tr.alphaL_er r t xs ys]
end
theorem Tr.valid_of_er {d e : Tr Ko} (h : d.er Ko.er = e.er Ko.er) : d.validB = e.validB := by
  rw [Tr.valid_isCore, Tr.valid_isCore, Tr.isCore_er h, Tr.free_of_er d e h]
theorem Tr.alpha_er {x y x0 y0 : Tr Ko} (hx : x.er Ko.er = x0.er Ko.er) (hy : y.er Ko.er = y0.er Ko.er) : Tr.alpha x y = Tr.alpha x0 y0 := by
  unfold Tr.alpha
  rw [Tr.valid_of_er hx, Tr.valid_of_er hy, Tr.alphaB_er x y, Tr.alphaB_er x0 y0, hx, hy]

set_option maxRecDepth 100000 in
set_option maxHeartbeats 4000000 in
theorem specAlpha_any (x y : Tr Ko) (B : Nat) (w : World) (hx : Ko.E.In w B x) (hy : Ko.E.In w B y) (hB : B ≤ w.heap.size) (hbx : x.bulk Ko.bulk ≤ 1500000) (hby : y.bulk Ko.bulk ≤ 1500000) :
    Calls Try.prog 20 #[Ko.val x, Ko.val y] w fun e w' => e = .returned (.bool (Tr.alpha x y)) ∧ Below w.heap.size w w' := by
  have h_x := Elem.In.more hx hB
  have h_y := Elem.In.more hy hB
  have HF : Hid (Tr.alpha x y = (x.validB && (y.validB && Tr.alphaB x y [] []))) := rfl
  unfold Ko.val
  have b0 : Below w.heap.size w w := Below.refl _ _
  have i_x := h_x
  have i_y := h_y
  go_enter Try.func20, Try.ntmps20
  go_wp2_with fail
  obtain ⟨w2, hw2⟩ : ∃ W, W = (w.alloc (.cells #[.int .i64 x.a.k, .int .i64 x.a.n, .slice x.a.sA x.a.s.length x.a.sC, .int .i64 x.a.d.k, .int .i64 x.a.d.n, .string x.a.d.t, .slice x.a.d.A x.a.d.l.length x.a.d.c, .slice x.A x.l.length x.c] 53)).alloc (.cells #[.int .i64 y.a.k, .int .i64 y.a.n, .slice y.a.sA y.a.s.length y.a.sC, .int .i64 y.a.d.k, .int .i64 y.a.d.n, .string y.a.d.t, .slice y.a.d.A y.a.d.l.length y.a.d.c, .slice y.A y.l.length y.c] 53) := ⟨_, rfl⟩
  rw [← hw2]
  have hb2 : Below w.heap.size w w2 := by rw [hw2]; exact ((Below.refl _ _).alloc (Nat.le_refl _) _).alloc (by simp) _
  have z2 : w.heap.size + 2 ≤ w2.heap.size := by rw [hw2]; simp
  have xa : Ko.Box w2 w.heap.size x := by rw [hw2]; exact (Ko.Box.new w x _).below ((Below.refl (w.heap.size + 1) _).alloc (by simp) _) (by omega)
  have xb : Ko.Box w2 (w.heap.size + 1) y := by rw [hw2]; have := Ko.Box.new (w.alloc (.cells #[.int .i64 x.a.k, .int .i64 x.a.n, .slice x.a.sA x.a.s.length x.a.sC, .int .i64 x.a.d.k, .int .i64 x.a.d.n, .string x.a.d.t, .slice x.a.d.A x.a.d.l.length x.a.d.c, .slice x.A x.l.length x.c] 53)) y 53; simpa using this
  clear hw2
  have b2 := b0.trans (hb2.mono (by omega))
  have i_x := h_x.below b2
  have i_y := h_y.below b2
  clear hb2 b0
  have xaq := xa
  obtain ⟨xa_0, xa_1, xa_2, xa_3, xa_4, xa_5, xa_6, xa_7⟩ := xaq
  have xalt : w.heap.size < w2.heap.size := (by omega)
  have xbq := xb
  obtain ⟨xb_0, xb_1, xb_2, xb_3, xb_4, xb_5, xb_6, xb_7⟩ := xbq
  have xblt : w.heap.size + 1 < w2.heap.size := (by omega)
  go_wp2_with fail
  clear xa_0 xa_1 xa_2 xa_3 xa_4 xa_5 xa_6 xa_7 xalt
  clear xb_0 xb_1 xb_2 xb_3 xb_4 xb_5 xb_6 xb_7 xblt
  refine (specValid_any x w.heap.size _ i_x (by omega) hbx).mono ?_
  rintro e w3 ⟨rfl, hb3⟩
  have z3 := hb3.size
  have xa := xa.below hb3 (by omega)
  have xb := xb.below hb3 (by omega)
  have b3 := b2.trans (hb3.mono (by omega))
  have i_x := h_x.below b3
  have i_y := h_y.below b3
  clear hb3
  cases hq : x.validB
  · have H := Lib.hid hq
    clear hq
    have xaq := xa
    obtain ⟨xa_0, xa_1, xa_2, xa_3, xa_4, xa_5, xa_6, xa_7⟩ := xaq
    have xalt : w.heap.size < w3.heap.size := (by omega)
    have xbq := xb
    obtain ⟨xb_0, xb_1, xb_2, xb_3, xb_4, xb_5, xb_6, xb_7⟩ := xbq
    have xblt : w.heap.size + 1 < w3.heap.size := (by omega)
    go_wp2_with fail
    clear xa_0 xa_1 xa_2 xa_3 xa_4 xa_5 xa_6 xa_7 xalt
    clear xb_0 xb_1 xb_2 xb_3 xb_4 xb_5 xb_6 xb_7 xblt
    go_ret
    exact ⟨ret_bool (by rw [HF.out, H.out]; rfl), b3⟩
  have Q0 := Lib.hid hq
  clear hq
  have xaq := xa
  obtain ⟨xa_0, xa_1, xa_2, xa_3, xa_4, xa_5, xa_6, xa_7⟩ := xaq
  have xalt : w.heap.size < w3.heap.size := (by omega)
  have xbq := xb
  obtain ⟨xb_0, xb_1, xb_2, xb_3, xb_4, xb_5, xb_6, xb_7⟩ := xbq
  have xblt : w.heap.size + 1 < w3.heap.size := (by omega)
  go_wp2_with fail
  clear xa_0 xa_1 xa_2 xa_3 xa_4 xa_5 xa_6 xa_7 xalt
  clear xb_0 xb_1 xb_2 xb_3 xb_4 xb_5 xb_6 xb_7 xblt
  refine (specValid_any y w.heap.size _ i_y (by omega) hby).mono ?_
  rintro e w4 ⟨rfl, hb4⟩
  have z4 := hb4.size
  have xa := xa.below hb4 (by omega)
  have xb := xb.below hb4 (by omega)
  have b4 := b3.trans (hb4.mono (by omega))
  have i_x := h_x.below b4
  have i_y := h_y.below b4
  clear hb4
  cases hq : y.validB
  · have H := Lib.hid hq
    clear hq
    have xaq := xa
    obtain ⟨xa_0, xa_1, xa_2, xa_3, xa_4, xa_5, xa_6, xa_7⟩ := xaq
    have xalt : w.heap.size < w4.heap.size := (by omega)
    have xbq := xb
    obtain ⟨xb_0, xb_1, xb_2, xb_3, xb_4, xb_5, xb_6, xb_7⟩ := xbq
    have xblt : w.heap.size + 1 < w4.heap.size := (by omega)
    go_wp2_with fail
    clear xa_0 xa_1 xa_2 xa_3 xa_4 xa_5 xa_6 xa_7 xalt
    clear xb_0 xb_1 xb_2 xb_3 xb_4 xb_5 xb_6 xb_7 xblt
    go_ret
    exact ⟨ret_bool (by rw [HF.out, Q0.out, H.out]; rfl), b4⟩
  have Q1 := Lib.hid hq
  clear hq
  have xaq := xa
  obtain ⟨xa_0, xa_1, xa_2, xa_3, xa_4, xa_5, xa_6, xa_7⟩ := xaq
  have xalt : w.heap.size < w4.heap.size := (by omega)
  have xbq := xb
  obtain ⟨xb_0, xb_1, xb_2, xb_3, xb_4, xb_5, xb_6, xb_7⟩ := xbq
  have xblt : w.heap.size + 1 < w4.heap.size := (by omega)
  go_wp2_with fail
  clear xa_0 xa_1 xa_2 xa_3 xa_4 xa_5 xa_6 xa_7 xalt
  clear xb_0 xb_1 xb_2 xb_3 xb_4 xb_5 xb_6 xb_7 xblt
  refine (alphaM_any _ x y none 0 [] none 0 [] w.heap.size _ (Nat.le_refl _) i_x i_y (iin_none _ _) (iin_none _ _) (by omega) (by simpa using hbx) (by simpa using hby)).mono ?_
  rintro e w5 ⟨rfl, hb5⟩
  have z5 := hb5.size
  have xa := xa.below hb5 (by omega)
  have xb := xb.below hb5 (by omega)
  have b5 := b4.trans (hb5.mono (by omega))
  have i_x := h_x.below b5
  have i_y := h_y.below b5
  clear hb5
  obtain ⟨V, hV⟩ : ∃ V, V = Tr.alphaB x y [] [] := ⟨_, rfl⟩
  rw [← hV]
  have HV := Lib.hid hV
  clear hV
  have xaq := xa
  obtain ⟨xa_0, xa_1, xa_2, xa_3, xa_4, xa_5, xa_6, xa_7⟩ := xaq
  have xalt : w.heap.size < w5.heap.size := (by omega)
  have xbq := xb
  obtain ⟨xb_0, xb_1, xb_2, xb_3, xb_4, xb_5, xb_6, xb_7⟩ := xbq
  have xblt : w.heap.size + 1 < w5.heap.size := (by omega)
  go_wp2_with fail
  clear xa_0 xa_1 xa_2 xa_3 xa_4 xa_5 xa_6 xa_7 xalt
  clear xb_0 xb_1 xb_2 xb_3 xb_4 xb_5 xb_6 xb_7 xblt
  go_ret
  exact ⟨ret_bool (by rw [HF.out, Q0.out, Q1.out, HV.out]; rfl), b5⟩

set_option maxRecDepth 100000 in
set_option maxHeartbeats 8000000 in
theorem implAlpha_any (x y : Tr Ko) (B : Nat) (w : World) (hx : Ko.E.In w B x) (hy : Ko.E.In w B y) (hB : B ≤ w.heap.size) (hbx : x.bulk Ko.bulk ≤ 1500000) (hby : y.bulk Ko.bulk ≤ 1500000) :
    Calls Try.prog 22 #[Ko.val x, Ko.val y] w fun e w' => e = .returned (.bool (Tr.alpha x y)) ∧ Below w.heap.size w w' := by
  obtain ⟨W1, hW1⟩ : ∃ W1, W1 = w.alloc (.cells #[.int .i64 x.a.k, .int .i64 x.a.n, .slice x.a.sA x.a.s.length x.a.sC, .int .i64 x.a.d.k, .int .i64 x.a.d.n, .string x.a.d.t, .slice x.a.d.A x.a.d.l.length x.a.d.c, .slice x.A x.l.length x.c] 53) := ⟨_, rfl⟩
  obtain ⟨W2, hW2⟩ : ∃ W2, W2 = W1.alloc (.cells #[.int .i64 y.a.k, .int .i64 y.a.n, .slice y.a.sA y.a.s.length y.a.sC, .int .i64 y.a.d.k, .int .i64 y.a.d.n, .string y.a.d.t, .slice y.a.d.A y.a.d.l.length y.a.d.c, .slice y.A y.l.length y.c] 53) := ⟨_, rfl⟩
  have z1 : W1.heap.size = w.heap.size + 1 := by rw [hW1]; simp
  have z2 : W2.heap.size = w.heap.size + 1 + 1 := by rw [hW2]; simp [z1]
  have B1 : Below w.heap.size w W1 := by rw [hW1]; exact (Below.refl _ _).alloc (Nat.le_refl _) _
  have B2 : Below W1.heap.size W1 W2 := by rw [hW2]; exact (Below.refl _ _).alloc (Nat.le_refl _) _
  have X0 : Ko.Box W1 w.heap.size x := by rw [hW1]; exact Ko.Box.new _ _ _
  have X0 := X0.below B2 (by omega)
  have Y0 : Ko.Box W2 (w.heap.size + 1) y := by rw [hW2, ← z1]; exact Ko.Box.new _ _ _
  have b0 : Below w.heap.size w W2 := B1.trans (B2.mono (by omega))
  clear B1 B2
  have lx : w.heap.size < W2.heap.size := by omega
  have ly : w.heap.size + 1 < W2.heap.size := by omega
  have lB : B ≤ W2.heap.size := by omega
  have hxW : ∀ z : World, Below W2.heap.size W2 z → Ko.E.In z B x := fun z hz => Elem.In.below hx ((b0.trans (hz.mono (by omega))).mono hB)
  have hyW : ∀ z : World, Below W2.heap.size W2 z → Ko.E.In z B y := fun z hz => Elem.In.below hy ((b0.trans (hz.mono (by omega))).mono hB)
  have HC1 : Hid (∀ z : Near W2, Calls Try.prog 58 #[.agg #[.int .i64 x.a.k, .int .i64 x.a.n, .slice x.a.sA x.a.s.length x.a.sC, .int .i64 x.a.d.k, .int .i64 x.a.d.n, .string x.a.d.t, .slice x.a.d.A x.a.d.l.length x.a.d.c, .slice x.A x.l.length x.c]] z.at_ fun e w' => e = .returned (.bool x.validB) ∧ Below z.at_.heap.size z.at_ w') := fun z => valid_any x B _ (hxW _ z.below) (Nat.le_trans lB z.size) hbx
  have HC2 : Hid (∀ z : Near W2, Calls Try.prog 58 #[.agg #[.int .i64 y.a.k, .int .i64 y.a.n, .slice y.a.sA y.a.s.length y.a.sC, .int .i64 y.a.d.k, .int .i64 y.a.d.n, .string y.a.d.t, .slice y.a.d.A y.a.d.l.length y.a.d.c, .slice y.A y.l.length y.c]] z.at_ fun e w' => e = .returned (.bool y.validB) ∧ Below z.at_.heap.size z.at_ w') := fun z => valid_any y B _ (hyW _ z.below) (Nat.le_trans lB z.size) hby
  have d0 : ∀ z : Near W2, z.at_.cell? ⟨w.heap.size, 0, none⟩ = some (.int .i64 x.a.k) := fun z => z.cell 0 X0.c0 lx
  have d1 : ∀ z : Near W2, z.at_.cell? ⟨w.heap.size, 1, none⟩ = some (.int .i64 x.a.n) := fun z => z.cell 1 X0.c1 lx
  have d2 : ∀ z : Near W2, z.at_.cell? ⟨w.heap.size, 2, none⟩ = some (.slice x.a.sA x.a.s.length x.a.sC) := fun z => z.cell 2 X0.c2 lx
  have d3 : ∀ z : Near W2, z.at_.cell? ⟨w.heap.size, 3, none⟩ = some (.int .i64 x.a.d.k) := fun z => z.cell 3 X0.c3 lx
  have d4 : ∀ z : Near W2, z.at_.cell? ⟨w.heap.size, 4, none⟩ = some (.int .i64 x.a.d.n) := fun z => z.cell 4 X0.c4 lx
  have d5 : ∀ z : Near W2, z.at_.cell? ⟨w.heap.size, 5, none⟩ = some (.string x.a.d.t) := fun z => z.cell 5 X0.c5 lx
  have d6 : ∀ z : Near W2, z.at_.cell? ⟨w.heap.size, 6, none⟩ = some (.slice x.a.d.A x.a.d.l.length x.a.d.c) := fun z => z.cell 6 X0.c6 lx
  have d7 : ∀ z : Near W2, z.at_.cell? ⟨w.heap.size, 7, none⟩ = some (.slice x.A x.l.length x.c) := fun z => z.cell 7 X0.c7 lx
  have e0 : ∀ z : Near W2, z.at_.cell? ⟨w.heap.size + 1, 0, none⟩ = some (.int .i64 y.a.k) := fun z => z.cell 0 Y0.c0 ly
  have e1 : ∀ z : Near W2, z.at_.cell? ⟨w.heap.size + 1, 1, none⟩ = some (.int .i64 y.a.n) := fun z => z.cell 1 Y0.c1 ly
  have e2 : ∀ z : Near W2, z.at_.cell? ⟨w.heap.size + 1, 2, none⟩ = some (.slice y.a.sA y.a.s.length y.a.sC) := fun z => z.cell 2 Y0.c2 ly
  have e3 : ∀ z : Near W2, z.at_.cell? ⟨w.heap.size + 1, 3, none⟩ = some (.int .i64 y.a.d.k) := fun z => z.cell 3 Y0.c3 ly
  have e4 : ∀ z : Near W2, z.at_.cell? ⟨w.heap.size + 1, 4, none⟩ = some (.int .i64 y.a.d.n) := fun z => z.cell 4 Y0.c4 ly
  have e5 : ∀ z : Near W2, z.at_.cell? ⟨w.heap.size + 1, 5, none⟩ = some (.string y.a.d.t) := fun z => z.cell 5 Y0.c5 ly
  have e6 : ∀ z : Near W2, z.at_.cell? ⟨w.heap.size + 1, 6, none⟩ = some (.slice y.a.d.A y.a.d.l.length y.a.d.c) := fun z => z.cell 6 Y0.c6 ly
  have e7 : ∀ z : Near W2, z.at_.cell? ⟨w.heap.size + 1, 7, none⟩ = some (.slice y.A y.l.length y.c) := fun z => z.cell 7 Y0.c7 ly
  unfold Ko.val
  cases q1 : x.validB
  · have HF : Hid (Tr.alpha x y = false) := by show _ = _; unfold Tr.alpha; rw [q1]; rfl
    have HC1 : Hid (∀ z : Near W2, Calls Try.prog 58 #[.agg #[.int .i64 x.a.k, .int .i64 x.a.n, .slice x.a.sA x.a.s.length x.a.sC, .int .i64 x.a.d.k, .int .i64 x.a.d.n, .string x.a.d.t, .slice x.a.d.A x.a.d.l.length x.a.d.c, .slice x.A x.l.length x.c]] z.at_ fun e w' => e = .returned (.bool false) ∧ Below z.at_.heap.size z.at_ w') := by have h := HC1.out; rw [q1] at h; exact h
    clear q1
    go_enter Try.func22, Try.ntmps22
    go_upto_region 1 with fail
    rw [← hW1, ← hW2]
    clear hW1 hW2
    refine wp_region_near (by kernel_rfl) (by kernel_rfl) ?_
    repeat (go_big_quiet_step (first | (go_at_call 58; with_reducible exact Calls.near (HC1.out _))))
    refine wpQuiet_nil ?_
    intro _ hw1
    obtain ⟨nx, hw2⟩ := hw1
    subst hw2
    go_wp2_with fail
    go_ret
    exact ⟨ret_bool HF.out.symm, b0.trans (nx.below.mono (by omega))⟩
  have HC1 : Hid (∀ z : Near W2, Calls Try.prog 58 #[.agg #[.int .i64 x.a.k, .int .i64 x.a.n, .slice x.a.sA x.a.s.length x.a.sC, .int .i64 x.a.d.k, .int .i64 x.a.d.n, .string x.a.d.t, .slice x.a.d.A x.a.d.l.length x.a.d.c, .slice x.A x.l.length x.c]] z.at_ fun e w' => e = .returned (.bool true) ∧ Below z.at_.heap.size z.at_ w') := by have h := HC1.out; rw [q1] at h; exact h
  have Q1 := Lib.hid q1
  clear q1
  cases q2 : y.validB
  · have HF : Hid (Tr.alpha x y = false) := by show _ = _; unfold Tr.alpha; rw [Q1.out, q2]; rfl
    have HC2 : Hid (∀ z : Near W2, Calls Try.prog 58 #[.agg #[.int .i64 y.a.k, .int .i64 y.a.n, .slice y.a.sA y.a.s.length y.a.sC, .int .i64 y.a.d.k, .int .i64 y.a.d.n, .string y.a.d.t, .slice y.a.d.A y.a.d.l.length y.a.d.c, .slice y.A y.l.length y.c]] z.at_ fun e w' => e = .returned (.bool false) ∧ Below z.at_.heap.size z.at_ w') := by have h := HC2.out; rw [q2] at h; exact h
    clear q2
    go_enter Try.func22, Try.ntmps22
    go_upto_region 1 with fail
    rw [← hW1, ← hW2]
    clear hW1 hW2
    refine wp_region_near (by kernel_rfl) (by kernel_rfl) ?_
    repeat (go_big_quiet_step (first | (go_at_call 58; with_reducible exact Calls.near (HC1.out _)) | (go_at_call 58; with_reducible exact Calls.near (HC2.out _))))
    refine wpQuiet_nil ?_
    intro _ hw1
    obtain ⟨nx, hw2⟩ := hw1
    subst hw2
    go_wp2_with fail
    go_ret
    exact ⟨ret_bool HF.out.symm, b0.trans (nx.below.mono (by omega))⟩
  have Q2 := Lib.hid q2
  clear q2 d0 e0 d1 e1 d2 e2 d3 e3 d4 e4 d5 e5 d6 e6 d7 e7 HC1 HC2
  have vx := Tr.valid_binders Q1.out
  have vy := Tr.valid_binders Q2.out
  obtain ⟨X, hX⟩ : ∃ X, X = Tr.eqB Ko.eqB (x.ren (numF 100000 (Tr.binders x))) (y.ren (numF 100000 (Tr.binders y))) := ⟨_, rfl⟩
  have HF : Hid (Tr.alpha x y = X) := by show _ = _; rw [Tr.alpha_eq, Q1.out, Q2.out, hX]; rfl
  have HX := Lib.hid hX
  have HVX := Lib.hid vx
  have HVY := Lib.hid vy
  clear hX vx vy
  obtain ⟨p0, p1, p2, p3, p4, p5, p6, p7⟩ := X0
  obtain ⟨q0, q1, q2, q3, q4, q5, q6, q7⟩ := Y0
  have a0 := p0
  have a1 := p1
  have a2 := p2
  have a3 := p3
  have a4 := p4
  have a5 := p5
  have a6 := p6
  have a7 := p7
  have c0 := q0
  have c1 := q1
  have c2 := q2
  have c3 := q3
  have c4 := q4
  have c5 := q5
  have c6 := q6
  have c7 := q7
  have tok0 : True := trivial
  have tok1 : True := trivial
  have tok2 : True := trivial
  have tok3 : True := trivial
  go_enter Try.func22, Try.ntmps22
  go_upto_region 1 with fail
  rw [← hW1, ← hW2]
  clear hW1 hW2
  go_region_held3 (fun w' => w'.cell? ⟨w.heap.size, 0, none⟩ = some (.int .i64 x.a.k) ∧ w'.cell? ⟨w.heap.size, 1, none⟩ = some (.int .i64 x.a.n) ∧ w'.cell? ⟨w.heap.size, 2, none⟩ = some (.slice x.a.sA x.a.s.length x.a.sC) ∧ w'.cell? ⟨w.heap.size, 3, none⟩ = some (.int .i64 x.a.d.k) ∧ w'.cell? ⟨w.heap.size, 4, none⟩ = some (.int .i64 x.a.d.n) ∧ w'.cell? ⟨w.heap.size, 5, none⟩ = some (.string x.a.d.t) ∧ w'.cell? ⟨w.heap.size, 6, none⟩ = some (.slice x.a.d.A x.a.d.l.length x.a.d.c) ∧ w'.cell? ⟨w.heap.size, 7, none⟩ = some (.slice x.A x.l.length x.c) ∧ w'.cell? ⟨w.heap.size + 1, 0, none⟩ = some (.int .i64 y.a.k) ∧ w'.cell? ⟨w.heap.size + 1, 1, none⟩ = some (.int .i64 y.a.n) ∧ w'.cell? ⟨w.heap.size + 1, 2, none⟩ = some (.slice y.a.sA y.a.s.length y.a.sC) ∧ w'.cell? ⟨w.heap.size + 1, 3, none⟩ = some (.int .i64 y.a.d.k) ∧ w'.cell? ⟨w.heap.size + 1, 4, none⟩ = some (.int .i64 y.a.d.n) ∧ w'.cell? ⟨w.heap.size + 1, 5, none⟩ = some (.string y.a.d.t) ∧ w'.cell? ⟨w.heap.size + 1, 6, none⟩ = some (.slice y.a.d.A y.a.d.l.length y.a.d.c) ∧ w'.cell? ⟨w.heap.size + 1, 7, none⟩ = some (.slice y.A y.l.length y.c)) (go_keep) (first
    | (go_simp; go_at_call 58; have _t := tok0; have hcon := valid_any x B W2.drew (Elem.In.drew (hxW W2 (Below.refl _ _))) (show B ≤ W2.heap.size by omega) hbx; rw [Q1.out] at hcon; unfold Ko.val at hcon; (with_reducible refine hcon.mono ?_); clear hcon tok0; rintro e w1 ⟨rfl, hb1⟩; have hb1 : Below W2.heap.size W2 w1 := below_undrew hb1; have y1 := hb1.size; have a0 := (hb1.cell (p := ⟨w.heap.size, 0, none⟩) lx).trans p0; have a1 := (hb1.cell (p := ⟨w.heap.size, 1, none⟩) lx).trans p1; have a2 := (hb1.cell (p := ⟨w.heap.size, 2, none⟩) lx).trans p2; have a3 := (hb1.cell (p := ⟨w.heap.size, 3, none⟩) lx).trans p3; have a4 := (hb1.cell (p := ⟨w.heap.size, 4, none⟩) lx).trans p4; have a5 := (hb1.cell (p := ⟨w.heap.size, 5, none⟩) lx).trans p5; have a6 := (hb1.cell (p := ⟨w.heap.size, 6, none⟩) lx).trans p6; have a7 := (hb1.cell (p := ⟨w.heap.size, 7, none⟩) lx).trans p7; have c0 := (hb1.cell (p := ⟨w.heap.size + 1, 0, none⟩) ly).trans q0; have c1 := (hb1.cell (p := ⟨w.heap.size + 1, 1, none⟩) ly).trans q1; have c2 := (hb1.cell (p := ⟨w.heap.size + 1, 2, none⟩) ly).trans q2; have c3 := (hb1.cell (p := ⟨w.heap.size + 1, 3, none⟩) ly).trans q3; have c4 := (hb1.cell (p := ⟨w.heap.size + 1, 4, none⟩) ly).trans q4; have c5 := (hb1.cell (p := ⟨w.heap.size + 1, 5, none⟩) ly).trans q5; have c6 := (hb1.cell (p := ⟨w.heap.size + 1, 6, none⟩) ly).trans q6; have c7 := (hb1.cell (p := ⟨w.heap.size + 1, 7, none⟩) ly).trans q7)
    | (go_simp; go_at_call 58; have _t := tok1; have hcon := valid_any y B w1 (hyW w1 hb1) (by omega) hby; rw [Q2.out] at hcon; unfold Ko.val at hcon; (with_reducible refine hcon.mono ?_); clear hcon tok1; rintro e w2 ⟨rfl, hk2⟩; have hb2 := hb1.trans (hk2.mono y1); have y2 := hb2.size; have a0 := (hb2.cell (p := ⟨w.heap.size, 0, none⟩) lx).trans p0; have a1 := (hb2.cell (p := ⟨w.heap.size, 1, none⟩) lx).trans p1; have a2 := (hb2.cell (p := ⟨w.heap.size, 2, none⟩) lx).trans p2; have a3 := (hb2.cell (p := ⟨w.heap.size, 3, none⟩) lx).trans p3; have a4 := (hb2.cell (p := ⟨w.heap.size, 4, none⟩) lx).trans p4; have a5 := (hb2.cell (p := ⟨w.heap.size, 5, none⟩) lx).trans p5; have a6 := (hb2.cell (p := ⟨w.heap.size, 6, none⟩) lx).trans p6; have a7 := (hb2.cell (p := ⟨w.heap.size, 7, none⟩) lx).trans p7; have c0 := (hb2.cell (p := ⟨w.heap.size + 1, 0, none⟩) ly).trans q0; have c1 := (hb2.cell (p := ⟨w.heap.size + 1, 1, none⟩) ly).trans q1; have c2 := (hb2.cell (p := ⟨w.heap.size + 1, 2, none⟩) ly).trans q2; have c3 := (hb2.cell (p := ⟨w.heap.size + 1, 3, none⟩) ly).trans q3; have c4 := (hb2.cell (p := ⟨w.heap.size + 1, 4, none⟩) ly).trans q4; have c5 := (hb2.cell (p := ⟨w.heap.size + 1, 5, none⟩) ly).trans q5; have c6 := (hb2.cell (p := ⟨w.heap.size + 1, 6, none⟩) ly).trans q6; have c7 := (hb2.cell (p := ⟨w.heap.size + 1, 7, none⟩) ly).trans q7)
    | (go_simp; go_at_call 60; have _t := tok2; have hcon := renum_any x B w2 hbx (hxW w2 hb2) (by omega) HVX.out.1 HVX.out.2; unfold Ko.val at hcon; (with_reducible refine hcon.mono ?_); clear hcon tok2; rintro e w3 ⟨dx, rfl, hex, hox, hk3⟩; have hb3 := hb2.trans (hk3.mono y2); have y3 := hb3.size; have HEX := Lib.hid hex; clear hex; have a0 := (hb3.cell (p := ⟨w.heap.size, 0, none⟩) lx).trans p0; have a1 := (hb3.cell (p := ⟨w.heap.size, 1, none⟩) lx).trans p1; have a2 := (hb3.cell (p := ⟨w.heap.size, 2, none⟩) lx).trans p2; have a3 := (hb3.cell (p := ⟨w.heap.size, 3, none⟩) lx).trans p3; have a4 := (hb3.cell (p := ⟨w.heap.size, 4, none⟩) lx).trans p4; have a5 := (hb3.cell (p := ⟨w.heap.size, 5, none⟩) lx).trans p5; have a6 := (hb3.cell (p := ⟨w.heap.size, 6, none⟩) lx).trans p6; have a7 := (hb3.cell (p := ⟨w.heap.size, 7, none⟩) lx).trans p7; have c0 := (hb3.cell (p := ⟨w.heap.size + 1, 0, none⟩) ly).trans q0; have c1 := (hb3.cell (p := ⟨w.heap.size + 1, 1, none⟩) ly).trans q1; have c2 := (hb3.cell (p := ⟨w.heap.size + 1, 2, none⟩) ly).trans q2; have c3 := (hb3.cell (p := ⟨w.heap.size + 1, 3, none⟩) ly).trans q3; have c4 := (hb3.cell (p := ⟨w.heap.size + 1, 4, none⟩) ly).trans q4; have c5 := (hb3.cell (p := ⟨w.heap.size + 1, 5, none⟩) ly).trans q5; have c6 := (hb3.cell (p := ⟨w.heap.size + 1, 6, none⟩) ly).trans q6; have c7 := (hb3.cell (p := ⟨w.heap.size + 1, 7, none⟩) ly).trans q7)
    | (go_simp; go_at_call 60; have _t := tok3; have hcon := renum_any y B w3 hby (hyW w3 hb3) (by omega) HVY.out.1 HVY.out.2; unfold Ko.val at hcon; (with_reducible refine hcon.mono ?_); clear hcon tok3; rintro e w4 ⟨dy, rfl, hey, hoy, hk4⟩; have hb4 := hb3.trans (hk4.mono y3); have y4 := hb4.size; have x4 := hk4.size; have HEY := Lib.hid hey; clear hey; have hix := hox.inn.below hk4; have a0 := (hb4.cell (p := ⟨w.heap.size, 0, none⟩) lx).trans p0; have a1 := (hb4.cell (p := ⟨w.heap.size, 1, none⟩) lx).trans p1; have a2 := (hb4.cell (p := ⟨w.heap.size, 2, none⟩) lx).trans p2; have a3 := (hb4.cell (p := ⟨w.heap.size, 3, none⟩) lx).trans p3; have a4 := (hb4.cell (p := ⟨w.heap.size, 4, none⟩) lx).trans p4; have a5 := (hb4.cell (p := ⟨w.heap.size, 5, none⟩) lx).trans p5; have a6 := (hb4.cell (p := ⟨w.heap.size, 6, none⟩) lx).trans p6; have a7 := (hb4.cell (p := ⟨w.heap.size, 7, none⟩) lx).trans p7; have c0 := (hb4.cell (p := ⟨w.heap.size + 1, 0, none⟩) ly).trans q0; have c1 := (hb4.cell (p := ⟨w.heap.size + 1, 1, none⟩) ly).trans q1; have c2 := (hb4.cell (p := ⟨w.heap.size + 1, 2, none⟩) ly).trans q2; have c3 := (hb4.cell (p := ⟨w.heap.size + 1, 3, none⟩) ly).trans q3; have c4 := (hb4.cell (p := ⟨w.heap.size + 1, 4, none⟩) ly).trans q4; have c5 := (hb4.cell (p := ⟨w.heap.size + 1, 5, none⟩) ly).trans q5; have c6 := (hb4.cell (p := ⟨w.heap.size + 1, 6, none⟩) ly).trans q6; have c7 := (hb4.cell (p := ⟨w.heap.size + 1, 7, none⟩) ly).trans q7)
    | (go_simp; go_at_call 59; have hcon := implKo_c dx dy w4.heap.size w4 HEX.out HEY.out HX.out (Ko.E.more hix x4) hoy.inn (Nat.le_refl _); (first | (with_reducible refine hcon.mono ?_) | (unfold Ko.val at hcon; with_reducible refine hcon.mono ?_)); clear hcon; rintro e w5 ⟨rfl, hk5⟩; have hb5 := hb4.trans (hk5.mono y4); have a0 := (hb5.cell (p := ⟨w.heap.size, 0, none⟩) lx).trans p0; have a1 := (hb5.cell (p := ⟨w.heap.size, 1, none⟩) lx).trans p1; have a2 := (hb5.cell (p := ⟨w.heap.size, 2, none⟩) lx).trans p2; have a3 := (hb5.cell (p := ⟨w.heap.size, 3, none⟩) lx).trans p3; have a4 := (hb5.cell (p := ⟨w.heap.size, 4, none⟩) lx).trans p4; have a5 := (hb5.cell (p := ⟨w.heap.size, 5, none⟩) lx).trans p5; have a6 := (hb5.cell (p := ⟨w.heap.size, 6, none⟩) lx).trans p6; have a7 := (hb5.cell (p := ⟨w.heap.size, 7, none⟩) lx).trans p7; have c0 := (hb5.cell (p := ⟨w.heap.size + 1, 0, none⟩) ly).trans q0; have c1 := (hb5.cell (p := ⟨w.heap.size + 1, 1, none⟩) ly).trans q1; have c2 := (hb5.cell (p := ⟨w.heap.size + 1, 2, none⟩) ly).trans q2; have c3 := (hb5.cell (p := ⟨w.heap.size + 1, 3, none⟩) ly).trans q3; have c4 := (hb5.cell (p := ⟨w.heap.size + 1, 4, none⟩) ly).trans q4; have c5 := (hb5.cell (p := ⟨w.heap.size + 1, 5, none⟩) ly).trans q5; have c6 := (hb5.cell (p := ⟨w.heap.size + 1, 6, none⟩) ly).trans q6; have c7 := (hb5.cell (p := ⟨w.heap.size + 1, 7, none⟩) ly).trans q7)
    | fail)
  all_goals go_wp2_with fail
  all_goals go_ret
  all_goals exact ⟨ret_bool HF.out.symm, b0.trans (hb5.mono (by omega))⟩

theorem specAlpha_c (x y : Tr Ko) {x0 y0 : Tr Ko} (B : Nat) (w : World) (hxe : x.er Ko.er = x0.er Ko.er) (hye : y.er Ko.er = y0.er Ko.er) {X : Bool} (hX : X = Tr.alpha x0 y0) (hbx0 : x0.bulk Ko.bulk ≤ 1500000) (hby0 : y0.bulk Ko.bulk ≤ 1500000) (hx : Ko.E.In w B x) (hy : Ko.E.In w B y) (hB : B ≤ w.heap.size) :
    Calls Try.prog 20 #[Ko.val x, Ko.val y] w fun e w' => e = .returned (.bool X) ∧ Below w.heap.size w w' := by
  rw [hX, ← Tr.alpha_er hxe hye]
  exact specAlpha_any x y B w hx hy hB (by rw [Tr.bulk_of_er (fun _ _ h => Ko.bulk_of_er h) _ _ hxe]; exact hbx0) (by rw [Tr.bulk_of_er (fun _ _ h => Ko.bulk_of_er h) _ _ hye]; exact hby0)

theorem implAlpha_c (x y : Tr Ko) {x0 y0 : Tr Ko} (B : Nat) (w : World) (hxe : x.er Ko.er = x0.er Ko.er) (hye : y.er Ko.er = y0.er Ko.er) {X : Bool} (hX : X = Tr.alpha x0 y0) (hbx0 : x0.bulk Ko.bulk ≤ 1500000) (hby0 : y0.bulk Ko.bulk ≤ 1500000) (hx : Ko.E.In w B x) (hy : Ko.E.In w B y) (hB : B ≤ w.heap.size) :
    Calls Try.prog 22 #[Ko.val x, Ko.val y] w fun e w' => e = .returned (.bool X) ∧ Below w.heap.size w w' := by
  rw [hX, ← Tr.alpha_er hxe hye]
  exact implAlpha_any x y B w hx hy hB (by rw [Tr.bulk_of_er (fun _ _ h => Ko.bulk_of_er h) _ _ hxe]; exact hbx0) (by rw [Tr.bulk_of_er (fun _ _ h => Ko.bulk_of_er h) _ _ hye]; exact hby0)
end Go.Proofs.Ytfbfmajjooannaa

namespace Go.Proofs.Ytfbfmajjooannaa
open Go.RowKit

set_option maxRecDepth 100000 in
set_option maxHeartbeats 4000000 in
theorem law_kv (a : Tr Ko) (b : Tr Ko) (w : World) (h_a : Ko.E.In w w.heap.size a) (h_b : Ko.E.In w w.heap.size b) : Calls Try.prog 6 #[Ko.val a, Ko.val b] w fun e w' => e = .returned (.bool true) ∧ Below w.heap.size w w' := by
  unfold Ko.val
  by_cases hz_a : (a.bulk Ko.bulk : Int) ≤ 1048576
  · have hs_a : a.size ≤ 2000000 := by have := Tr.size_le_bulk Ko.bulk a; omega
    have hk_a : a.bulk Ko.bulk ≤ 1048576 := by omega
    by_cases hz_b : (b.bulk Ko.bulk : Int) ≤ 1048576 - (a.bulk Ko.bulk : Int)
    · have hs_b : b.size ≤ 2000000 := by have := Tr.size_le_bulk Ko.bulk b; omega
      have hk_b : b.bulk Ko.bulk ≤ 1048576 := by omega
      obtain ⟨X, hX⟩ : ∃ X, X = Tr.alpha a b := ⟨_, rfl⟩
      have HX := Lib.hid hX
      clear hX
      have nq : (X != X) = false := by simp
      have b0 : Below w.heap.size w w := Below.refl _ _
      have i_a := h_a
      have i_b := h_b
      go_enter Try.func6, Try.ntmps6
      go_wp2_with fail
      obtain ⟨w1, hw1⟩ : ∃ W, W = w.alloc (.cells #[.int .i64 a.a.k, .int .i64 a.a.n, .slice a.a.sA a.a.s.length a.a.sC, .int .i64 a.a.d.k, .int .i64 a.a.d.n, .string a.a.d.t, .slice a.a.d.A a.a.d.l.length a.a.d.c, .slice a.A a.l.length a.c] 45) := ⟨_, rfl⟩
      rw [← hw1]
      have hb1 : Below w.heap.size w w1 := by rw [hw1]; exact (Below.refl _ _).alloc (Nat.le_refl _) _
      have z1 : w.heap.size + 1 ≤ w1.heap.size := by rw [hw1]; simp
      have y1 : w1.heap.size ≤ w.heap.size + 1 := by rw [hw1]; simp
      have a_a : Ko.Box w1 w.heap.size a := by rw [hw1]; exact Ko.Box.new _ _ _
      clear hw1
      have b1 := b0.trans (hb1.mono (by omega))
      have i_a := h_a.below b1
      have i_b := h_b.below b1
      clear hb1
      obtain ⟨w2, hw2⟩ : ∃ W, W = w1.alloc (.cells #[.int .i64 b.a.k, .int .i64 b.a.n, .slice b.a.sA b.a.s.length b.a.sC, .int .i64 b.a.d.k, .int .i64 b.a.d.n, .string b.a.d.t, .slice b.a.d.A b.a.d.l.length b.a.d.c, .slice b.A b.l.length b.c] 45) := ⟨_, rfl⟩
      rw [← hw2]
      have hb2 : Below w1.heap.size w1 w2 := by rw [hw2]; exact (Below.refl _ _).alloc (Nat.le_refl _) _
      have z2 : w1.heap.size + 1 ≤ w2.heap.size := by rw [hw2]; simp
      have y2 : w2.heap.size ≤ w1.heap.size + 1 := by rw [hw2]; simp
      have a_b : Ko.Box w2 w1.heap.size b := by rw [hw2]; exact Ko.Box.new _ _ _
      clear hw2
      have a_a := a_a.below hb2 (by omega)
      have b2 := b1.trans (hb2.mono (by omega))
      have i_a := h_a.below b2
      have i_b := h_b.below b2
      clear hb2
      have e_a_b : w1.heap.size = w.heap.size + 1 := by omega
      rw [e_a_b] at a_b
      clear e_a_b
      refine (Ko_sz_any 2000000 a w.heap.size _ 1048576 hs_a (by omega) (by omega) i_a (by omega)).mono ?_
      rintro e w3 ⟨rfl, hb3⟩
      have z3 := hb3.size
      have a_a := a_a.below hb3 (by omega)
      have a_b := a_b.below hb3 (by omega)
      have b3 := b2.trans (hb3.mono (by omega))
      have i_a := h_a.below b3
      have i_b := h_b.below b3
      clear hb3
      rw [szR_yes (by omega)]
      have n1_a : ¬ (1048576 - (a.bulk Ko.bulk : Int) < 0) := by omega
      have a_aq := a_a
      obtain ⟨a_a_0, a_a_1, a_a_2, a_a_3, a_a_4, a_a_5, a_a_6, a_a_7⟩ := a_aq
      have a_alt : w.heap.size < w3.heap.size := (by omega)
      have a_bq := a_b
      obtain ⟨a_b_0, a_b_1, a_b_2, a_b_3, a_b_4, a_b_5, a_b_6, a_b_7⟩ := a_bq
      have a_blt : w.heap.size + 1 < w3.heap.size := (by omega)
      go_wp2_with fail
      clear a_a_0 a_a_1 a_a_2 a_a_3 a_a_4 a_a_5 a_a_6 a_a_7 a_alt
      clear a_b_0 a_b_1 a_b_2 a_b_3 a_b_4 a_b_5 a_b_6 a_b_7 a_blt
      refine (Ko_sz_any 2000000 b w.heap.size _ (1048576 - (a.bulk Ko.bulk : Int)) hs_b (by omega) (by omega) i_b (by omega)).mono ?_
      rintro e w4 ⟨rfl, hb4⟩
      have z4 := hb4.size
      have a_a := a_a.below hb4 (by omega)
      have a_b := a_b.below hb4 (by omega)
      have b4 := b3.trans (hb4.mono (by omega))
      have i_a := h_a.below b4
      have i_b := h_b.below b4
      clear hb4
      rw [szR_yes (by omega)]
      have n1_b : ¬ (1048576 - (a.bulk Ko.bulk : Int) - (b.bulk Ko.bulk : Int) < 0) := by omega
      have a_aq := a_a
      obtain ⟨a_a_0, a_a_1, a_a_2, a_a_3, a_a_4, a_a_5, a_a_6, a_a_7⟩ := a_aq
      have a_alt : w.heap.size < w4.heap.size := (by omega)
      have a_bq := a_b
      obtain ⟨a_b_0, a_b_1, a_b_2, a_b_3, a_b_4, a_b_5, a_b_6, a_b_7⟩ := a_bq
      have a_blt : w.heap.size + 1 < w4.heap.size := (by omega)
      go_wp2_with fail
      clear a_a_0 a_a_1 a_a_2 a_a_3 a_a_4 a_a_5 a_a_6 a_a_7 a_alt
      clear a_b_0 a_b_1 a_b_2 a_b_3 a_b_4 a_b_5 a_b_6 a_b_7 a_blt
      have a_aq := a_a
      obtain ⟨a_a_0, a_a_1, a_a_2, a_a_3, a_a_4, a_a_5, a_a_6, a_a_7⟩ := a_aq
      have a_alt : w.heap.size < w4.heap.size := (by omega)
      have a_bq := a_b
      obtain ⟨a_b_0, a_b_1, a_b_2, a_b_3, a_b_4, a_b_5, a_b_6, a_b_7⟩ := a_bq
      have a_blt : w.heap.size + 1 < w4.heap.size := (by omega)
      have tok0 : True := trivial
      have tok1 : True := trivial
      have tok2 : True := trivial
      go_region_held3 (fun w' => w'.cell? ⟨w.heap.size, 0, none⟩ = some (.int .i64 a.a.k) ∧ w'.cell? ⟨w.heap.size, 1, none⟩ = some (.int .i64 a.a.n) ∧ w'.cell? ⟨w.heap.size, 2, none⟩ = some (.slice a.a.sA a.a.s.length a.a.sC) ∧ w'.cell? ⟨w.heap.size, 3, none⟩ = some (.int .i64 a.a.d.k) ∧ w'.cell? ⟨w.heap.size, 4, none⟩ = some (.int .i64 a.a.d.n) ∧ w'.cell? ⟨w.heap.size, 5, none⟩ = some (.string a.a.d.t) ∧ w'.cell? ⟨w.heap.size, 6, none⟩ = some (.slice a.a.d.A a.a.d.l.length a.a.d.c) ∧ w'.cell? ⟨w.heap.size, 7, none⟩ = some (.slice a.A a.l.length a.c) ∧ w'.cell? ⟨w.heap.size + 1, 0, none⟩ = some (.int .i64 b.a.k) ∧ w'.cell? ⟨w.heap.size + 1, 1, none⟩ = some (.int .i64 b.a.n) ∧ w'.cell? ⟨w.heap.size + 1, 2, none⟩ = some (.slice b.a.sA b.a.s.length b.a.sC) ∧ w'.cell? ⟨w.heap.size + 1, 3, none⟩ = some (.int .i64 b.a.d.k) ∧ w'.cell? ⟨w.heap.size + 1, 4, none⟩ = some (.int .i64 b.a.d.n) ∧ w'.cell? ⟨w.heap.size + 1, 5, none⟩ = some (.string b.a.d.t) ∧ w'.cell? ⟨w.heap.size + 1, 6, none⟩ = some (.slice b.a.d.A b.a.d.l.length b.a.d.c) ∧ w'.cell? ⟨w.heap.size + 1, 7, none⟩ = some (.slice b.A b.l.length b.c)) (go_keep)
        (first
          | (go_simp; go_at_call 21; have _t := tok0; have hcon := Ko_to_any 2000000 a w.heap.size w4.drew (by omega) hs_a i_a.drew (show w.heap.size ≤ w4.heap.size by omega); (first | (with_reducible refine hcon.mono ?_) | (simp only [Ko.val] at hcon; with_reducible refine hcon.mono ?_)); clear hcon; rintro e w5 ⟨d1_a, rfl, hed1_a, od1_a, hb5⟩; have hb5 : Below w4.heap.size w4 w5 := below_undrew hb5; have z5 : w4.heap.size ≤ w5.heap.size := hb5.size; clear tok0; have Qd1_a := Lib.hid hed1_a; have sd1_a : d1_a.size ≤ 2000000 := (by rw [Tr.size_of_er _ _ Qd1_a.out]; exact hs_a); have kd1_a : d1_a.bulk Ko.bulk ≤ 1048576 := (by rw [Tr.bulk_of_er (fun _ _ => Ko.bulk_of_er) _ _ Qd1_a.out]; exact hk_a); clear hed1_a; clear a_a_0 a_a_1 a_a_2 a_a_3 a_a_4 a_a_5 a_a_6 a_a_7 a_alt; clear a_b_0 a_b_1 a_b_2 a_b_3 a_b_4 a_b_5 a_b_6 a_b_7 a_blt; have a_a := a_a.below hb5 (by omega); have a_b := a_b.below hb5 (by omega); have b5 := b4.trans (hb5.mono (by omega)); have i_a := h_a.below b5; have i_b := h_b.below b5; clear hb5; have a_aq := a_a; obtain ⟨a_a_0, a_a_1, a_a_2, a_a_3, a_a_4, a_a_5, a_a_6, a_a_7⟩ := a_aq; have a_alt : w.heap.size < w5.heap.size := (by omega); have a_bq := a_b; obtain ⟨a_b_0, a_b_1, a_b_2, a_b_3, a_b_4, a_b_5, a_b_6, a_b_7⟩ := a_bq; have a_blt : w.heap.size + 1 < w5.heap.size := (by omega))
          | (go_simp; go_at_call 21; have _t := tok1; have hcon := Ko_to_any 2000000 b w.heap.size w5 (by omega) hs_b i_b (by omega); (first | (with_reducible refine hcon.mono ?_) | (simp only [Ko.val] at hcon; with_reducible refine hcon.mono ?_)); clear hcon; rintro e w6 ⟨d1_b, rfl, hed1_b, od1_b, hb6⟩; have z6 : w5.heap.size ≤ w6.heap.size := hb6.size; clear tok1; have Qd1_b := Lib.hid hed1_b; have sd1_b : d1_b.size ≤ 2000000 := (by rw [Tr.size_of_er _ _ Qd1_b.out]; exact hs_b); have kd1_b : d1_b.bulk Ko.bulk ≤ 1048576 := (by rw [Tr.bulk_of_er (fun _ _ => Ko.bulk_of_er) _ _ Qd1_b.out]; exact hk_b); clear hed1_b; clear a_a_0 a_a_1 a_a_2 a_a_3 a_a_4 a_a_5 a_a_6 a_a_7 a_alt; clear a_b_0 a_b_1 a_b_2 a_b_3 a_b_4 a_b_5 a_b_6 a_b_7 a_blt; have a_a := a_a.below hb6 (by omega); have a_b := a_b.below hb6 (by omega); have od1_a := od1_a.below (hb6.mono (by omega)); have b6 := b5.trans (hb6.mono (by omega)); have i_a := h_a.below b6; have i_b := h_b.below b6; clear hb6; have a_aq := a_a; obtain ⟨a_a_0, a_a_1, a_a_2, a_a_3, a_a_4, a_a_5, a_a_6, a_a_7⟩ := a_aq; have a_alt : w.heap.size < w6.heap.size := (by omega); have a_bq := a_b; obtain ⟨a_b_0, a_b_1, a_b_2, a_b_3, a_b_4, a_b_5, a_b_6, a_b_7⟩ := a_bq; have a_blt : w.heap.size + 1 < w6.heap.size := (by omega))
          | (go_simp; go_at_call 20; have _t := tok2; have hcon := specAlpha_c d1_a d1_b w6.heap.size w6 Qd1_a.out Qd1_b.out HX.out (by omega) (by omega) (od1_a.inn.more (by omega)) (od1_b.inn.more (by omega)) (by omega); (first | (with_reducible refine hcon.mono ?_) | (simp only [Ko.val] at hcon; with_reducible refine hcon.mono ?_)); clear hcon; rintro e w7 ⟨rfl, hb7⟩; have z7 : w6.heap.size ≤ w7.heap.size := hb7.size; clear tok2; clear a_a_0 a_a_1 a_a_2 a_a_3 a_a_4 a_a_5 a_a_6 a_a_7 a_alt; clear a_b_0 a_b_1 a_b_2 a_b_3 a_b_4 a_b_5 a_b_6 a_b_7 a_blt; have a_a := a_a.below hb7 (by omega); have a_b := a_b.below hb7 (by omega); have od1_a := od1_a.below (hb7.mono (by omega)); have od1_b := od1_b.below (hb7.mono (by omega)); have b7 := b6.trans (hb7.mono (by omega)); have i_a := h_a.below b7; have i_b := h_b.below b7; clear hb7; have a_aq := a_a; obtain ⟨a_a_0, a_a_1, a_a_2, a_a_3, a_a_4, a_a_5, a_a_6, a_a_7⟩ := a_aq; have a_alt : w.heap.size < w7.heap.size := (by omega); have a_bq := a_b; obtain ⟨a_b_0, a_b_1, a_b_2, a_b_3, a_b_4, a_b_5, a_b_6, a_b_7⟩ := a_bq; have a_blt : w.heap.size + 1 < w7.heap.size := (by omega))
          | fail)
      clear a_a_0 a_a_1 a_a_2 a_a_3 a_a_4 a_a_5 a_a_6 a_a_7 a_alt
      clear a_b_0 a_b_1 a_b_2 a_b_3 a_b_4 a_b_5 a_b_6 a_b_7 a_blt
      clear od1_a
      clear od1_b
      have a_aq := a_a
      obtain ⟨a_a_0, a_a_1, a_a_2, a_a_3, a_a_4, a_a_5, a_a_6, a_a_7⟩ := a_aq
      have a_alt : w.heap.size < w7.heap.size := (by omega)
      have a_bq := a_b
      obtain ⟨a_b_0, a_b_1, a_b_2, a_b_3, a_b_4, a_b_5, a_b_6, a_b_7⟩ := a_bq
      have a_blt : w.heap.size + 1 < w7.heap.size := (by omega)
      go_wp2_with fail
      clear a_a_0 a_a_1 a_a_2 a_a_3 a_a_4 a_a_5 a_a_6 a_a_7 a_alt
      clear a_b_0 a_b_1 a_b_2 a_b_3 a_b_4 a_b_5 a_b_6 a_b_7 a_blt
      refine (Ko_to_any 2000000 a w.heap.size _ (by omega) hs_a i_a (by omega)).mono ?_
      rintro e w8 ⟨x_a, rfl, hex_a, ox_a, hb8⟩
      have z8 := hb8.size
      have a_a := a_a.below hb8 (by omega)
      have a_b := a_b.below hb8 (by omega)
      have b8 := b7.trans (hb8.mono (by omega))
      have i_a := h_a.below b8
      have i_b := h_b.below b8
      clear hb8
      have Qx_a := Lib.hid hex_a
      have sx_a : x_a.size ≤ 2000000 := (by rw [Tr.size_of_er _ _ Qx_a.out]; exact hs_a)
      have kx_a : x_a.bulk Ko.bulk ≤ 1048576 := (by rw [Tr.bulk_of_er (fun _ _ => Ko.bulk_of_er) _ _ Qx_a.out]; exact hk_a)
      clear hex_a
      simp only [Ko.val]
      have a_aq := a_a
      obtain ⟨a_a_0, a_a_1, a_a_2, a_a_3, a_a_4, a_a_5, a_a_6, a_a_7⟩ := a_aq
      have a_alt : w.heap.size < w8.heap.size := (by omega)
      have a_bq := a_b
      obtain ⟨a_b_0, a_b_1, a_b_2, a_b_3, a_b_4, a_b_5, a_b_6, a_b_7⟩ := a_bq
      have a_blt : w.heap.size + 1 < w8.heap.size := (by omega)
      go_wp2_with fail
      clear a_a_0 a_a_1 a_a_2 a_a_3 a_a_4 a_a_5 a_a_6 a_a_7 a_alt
      clear a_b_0 a_b_1 a_b_2 a_b_3 a_b_4 a_b_5 a_b_6 a_b_7 a_blt
      obtain ⟨w9, hw9⟩ : ∃ W, W = w8.alloc (.cells #[.int .i64 x_a.a.k, .int .i64 x_a.a.n, .slice x_a.a.sA x_a.a.s.length x_a.a.sC, .int .i64 x_a.a.d.k, .int .i64 x_a.a.d.n, .string x_a.a.d.t, .slice x_a.a.d.A x_a.a.d.l.length x_a.a.d.c, .slice x_a.A x_a.l.length x_a.c] 53) := ⟨_, rfl⟩
      rw [← hw9]
      have hb9 : Below w8.heap.size w8 w9 := by rw [hw9]; exact (Below.refl _ _).alloc (Nat.le_refl _) _
      have z9 : w8.heap.size + 1 ≤ w9.heap.size := by rw [hw9]; simp
      have y9 : w9.heap.size ≤ w8.heap.size + 1 := by rw [hw9]; simp
      have xb_a : Ko.Box w9 w8.heap.size x_a := by rw [hw9]; exact Ko.Box.new _ _ _
      clear hw9
      have a_a := a_a.below hb9 (by omega)
      have a_b := a_b.below hb9 (by omega)
      have ox_a := ox_a.below (hb9.mono (by omega))
      have b9 := b8.trans (hb9.mono (by omega))
      have i_a := h_a.below b9
      have i_b := h_b.below b9
      clear hb9
      refine (Ko_to_any 2000000 b w.heap.size _ (by omega) hs_b i_b (by omega)).mono ?_
      rintro e w10 ⟨x_b, rfl, hex_b, ox_b, hb10⟩
      have z10 := hb10.size
      have a_a := a_a.below hb10 (by omega)
      have a_b := a_b.below hb10 (by omega)
      have xb_a := xb_a.below hb10 (by omega)
      have ox_a := ox_a.below (hb10.mono (by omega))
      have b10 := b9.trans (hb10.mono (by omega))
      have i_a := h_a.below b10
      have i_b := h_b.below b10
      clear hb10
      have Qx_b := Lib.hid hex_b
      have sx_b : x_b.size ≤ 2000000 := (by rw [Tr.size_of_er _ _ Qx_b.out]; exact hs_b)
      have kx_b : x_b.bulk Ko.bulk ≤ 1048576 := (by rw [Tr.bulk_of_er (fun _ _ => Ko.bulk_of_er) _ _ Qx_b.out]; exact hk_b)
      clear hex_b
      simp only [Ko.val]
      have a_aq := a_a
      obtain ⟨a_a_0, a_a_1, a_a_2, a_a_3, a_a_4, a_a_5, a_a_6, a_a_7⟩ := a_aq
      have a_alt : w.heap.size < w10.heap.size := (by omega)
      have a_bq := a_b
      obtain ⟨a_b_0, a_b_1, a_b_2, a_b_3, a_b_4, a_b_5, a_b_6, a_b_7⟩ := a_bq
      have a_blt : w.heap.size + 1 < w10.heap.size := (by omega)
      have xb_aq := xb_a
      obtain ⟨xb_a_0, xb_a_1, xb_a_2, xb_a_3, xb_a_4, xb_a_5, xb_a_6, xb_a_7⟩ := xb_aq
      have xb_alt : w8.heap.size < w10.heap.size := (by omega)
      go_wp2_with fail
      clear a_a_0 a_a_1 a_a_2 a_a_3 a_a_4 a_a_5 a_a_6 a_a_7 a_alt
      clear a_b_0 a_b_1 a_b_2 a_b_3 a_b_4 a_b_5 a_b_6 a_b_7 a_blt
      clear xb_a_0 xb_a_1 xb_a_2 xb_a_3 xb_a_4 xb_a_5 xb_a_6 xb_a_7 xb_alt
      obtain ⟨w11, hw11⟩ : ∃ W, W = w10.alloc (.cells #[.int .i64 x_b.a.k, .int .i64 x_b.a.n, .slice x_b.a.sA x_b.a.s.length x_b.a.sC, .int .i64 x_b.a.d.k, .int .i64 x_b.a.d.n, .string x_b.a.d.t, .slice x_b.a.d.A x_b.a.d.l.length x_b.a.d.c, .slice x_b.A x_b.l.length x_b.c] 53) := ⟨_, rfl⟩
      rw [← hw11]
      have hb11 : Below w10.heap.size w10 w11 := by rw [hw11]; exact (Below.refl _ _).alloc (Nat.le_refl _) _
      have z11 : w10.heap.size + 1 ≤ w11.heap.size := by rw [hw11]; simp
      have y11 : w11.heap.size ≤ w10.heap.size + 1 := by rw [hw11]; simp
      have xb_b : Ko.Box w11 w10.heap.size x_b := by rw [hw11]; exact Ko.Box.new _ _ _
      clear hw11
      have a_a := a_a.below hb11 (by omega)
      have a_b := a_b.below hb11 (by omega)
      have xb_a := xb_a.below hb11 (by omega)
      have ox_a := ox_a.below (hb11.mono (by omega))
      have ox_b := ox_b.below (hb11.mono (by omega))
      have b11 := b10.trans (hb11.mono (by omega))
      have i_a := h_a.below b11
      have i_b := h_b.below b11
      clear hb11
      refine (implAlpha_c x_a x_b w11.heap.size _ Qx_a.out Qx_b.out HX.out (by omega) (by omega) (ox_a.inn.more (by omega)) (ox_b.inn.more (by omega)) (by omega)).mono ?_
      rintro e w12 ⟨rfl, hb12⟩
      have z12 := hb12.size
      have a_a := a_a.below hb12 (by omega)
      have a_b := a_b.below hb12 (by omega)
      have xb_a := xb_a.below hb12 (by omega)
      have xb_b := xb_b.below hb12 (by omega)
      have ox_a := ox_a.below (hb12.mono (by omega))
      have ox_b := ox_b.below (hb12.mono (by omega))
      have b12 := b11.trans (hb12.mono (by omega))
      have i_a := h_a.below b12
      have i_b := h_b.below b12
      clear hb12
      have a_aq := a_a
      obtain ⟨a_a_0, a_a_1, a_a_2, a_a_3, a_a_4, a_a_5, a_a_6, a_a_7⟩ := a_aq
      have a_alt : w.heap.size < w12.heap.size := (by omega)
      have a_bq := a_b
      obtain ⟨a_b_0, a_b_1, a_b_2, a_b_3, a_b_4, a_b_5, a_b_6, a_b_7⟩ := a_bq
      have a_blt : w.heap.size + 1 < w12.heap.size := (by omega)
      have xb_aq := xb_a
      obtain ⟨xb_a_0, xb_a_1, xb_a_2, xb_a_3, xb_a_4, xb_a_5, xb_a_6, xb_a_7⟩ := xb_aq
      have xb_alt : w8.heap.size < w12.heap.size := (by omega)
      have xb_bq := xb_b
      obtain ⟨xb_b_0, xb_b_1, xb_b_2, xb_b_3, xb_b_4, xb_b_5, xb_b_6, xb_b_7⟩ := xb_bq
      have xb_blt : w10.heap.size < w12.heap.size := (by omega)
      go_wp2_with fail
      clear a_a_0 a_a_1 a_a_2 a_a_3 a_a_4 a_a_5 a_a_6 a_a_7 a_alt
      clear a_b_0 a_b_1 a_b_2 a_b_3 a_b_4 a_b_5 a_b_6 a_b_7 a_blt
      clear xb_a_0 xb_a_1 xb_a_2 xb_a_3 xb_a_4 xb_a_5 xb_a_6 xb_a_7 xb_alt
      clear xb_b_0 xb_b_1 xb_b_2 xb_b_3 xb_b_4 xb_b_5 xb_b_6 xb_b_7 xb_blt
      have a_aq := a_a
      obtain ⟨a_a_0, a_a_1, a_a_2, a_a_3, a_a_4, a_a_5, a_a_6, a_a_7⟩ := a_aq
      have a_alt : w.heap.size < w12.heap.size := (by omega)
      have a_bq := a_b
      obtain ⟨a_b_0, a_b_1, a_b_2, a_b_3, a_b_4, a_b_5, a_b_6, a_b_7⟩ := a_bq
      have a_blt : w.heap.size + 1 < w12.heap.size := (by omega)
      have xb_aq := xb_a
      obtain ⟨xb_a_0, xb_a_1, xb_a_2, xb_a_3, xb_a_4, xb_a_5, xb_a_6, xb_a_7⟩ := xb_aq
      have xb_alt : w8.heap.size < w12.heap.size := (by omega)
      have xb_bq := xb_b
      obtain ⟨xb_b_0, xb_b_1, xb_b_2, xb_b_3, xb_b_4, xb_b_5, xb_b_6, xb_b_7⟩ := xb_bq
      have xb_blt : w10.heap.size < w12.heap.size := (by omega)
      have tok3 : True := trivial
      have tok4 : True := trivial
      go_region_held3 (fun w' => w'.cell? ⟨w.heap.size, 0, none⟩ = some (.int .i64 a.a.k) ∧ w'.cell? ⟨w.heap.size, 1, none⟩ = some (.int .i64 a.a.n) ∧ w'.cell? ⟨w.heap.size, 2, none⟩ = some (.slice a.a.sA a.a.s.length a.a.sC) ∧ w'.cell? ⟨w.heap.size, 3, none⟩ = some (.int .i64 a.a.d.k) ∧ w'.cell? ⟨w.heap.size, 4, none⟩ = some (.int .i64 a.a.d.n) ∧ w'.cell? ⟨w.heap.size, 5, none⟩ = some (.string a.a.d.t) ∧ w'.cell? ⟨w.heap.size, 6, none⟩ = some (.slice a.a.d.A a.a.d.l.length a.a.d.c) ∧ w'.cell? ⟨w.heap.size, 7, none⟩ = some (.slice a.A a.l.length a.c) ∧ w'.cell? ⟨w8.heap.size, 0, none⟩ = some (.int .i64 x_a.a.k) ∧ w'.cell? ⟨w8.heap.size, 1, none⟩ = some (.int .i64 x_a.a.n) ∧ w'.cell? ⟨w8.heap.size, 2, none⟩ = some (.slice x_a.a.sA x_a.a.s.length x_a.a.sC) ∧ w'.cell? ⟨w8.heap.size, 3, none⟩ = some (.int .i64 x_a.a.d.k) ∧ w'.cell? ⟨w8.heap.size, 4, none⟩ = some (.int .i64 x_a.a.d.n) ∧ w'.cell? ⟨w8.heap.size, 5, none⟩ = some (.string x_a.a.d.t) ∧ w'.cell? ⟨w8.heap.size, 6, none⟩ = some (.slice x_a.a.d.A x_a.a.d.l.length x_a.a.d.c) ∧ w'.cell? ⟨w8.heap.size, 7, none⟩ = some (.slice x_a.A x_a.l.length x_a.c)) (go_keep)
        (first
          | (go_at_call 21; have _t := tok3; refine (Ko_to_any 2000000 a w.heap.size _ ?_ hs_a ?_ ?_).mono ?_; omega; exact i_a.drew; (show w.heap.size ≤ w12.heap.size); omega; rintro e w13 ⟨y_a, rfl, hey_a, oy_a, hb13⟩; have hb13 : Below w12.heap.size w12 w13 := below_undrew hb13; have z13 : w12.heap.size ≤ w13.heap.size := hb13.size; clear tok3; have Qy_a := Lib.hid hey_a; clear hey_a; have a_a := a_a.below hb13 (by omega); have a_b := a_b.below hb13 (by omega); have xb_a := xb_a.below hb13 (by omega); have xb_b := xb_b.below hb13 (by omega); have ox_a := ox_a.below (hb13.mono (by omega)); have ox_b := ox_b.below (hb13.mono (by omega)); have b13 := b12.trans (hb13.mono (by omega)); have i_a := h_a.below b13; have i_b := h_b.below b13; clear hb13; have a_aq := a_a; obtain ⟨a_a_0, a_a_1, a_a_2, a_a_3, a_a_4, a_a_5, a_a_6, a_a_7⟩ := a_aq; have a_alt : w.heap.size < w13.heap.size := (by omega); have a_bq := a_b; obtain ⟨a_b_0, a_b_1, a_b_2, a_b_3, a_b_4, a_b_5, a_b_6, a_b_7⟩ := a_bq; have a_blt : w.heap.size + 1 < w13.heap.size := (by omega); have xb_aq := xb_a; obtain ⟨xb_a_0, xb_a_1, xb_a_2, xb_a_3, xb_a_4, xb_a_5, xb_a_6, xb_a_7⟩ := xb_aq; have xb_alt : w8.heap.size < w13.heap.size := (by omega); have xb_bq := xb_b; obtain ⟨xb_b_0, xb_b_1, xb_b_2, xb_b_3, xb_b_4, xb_b_5, xb_b_6, xb_b_7⟩ := xb_bq; have xb_blt : w10.heap.size < w13.heap.size := (by omega))
          | (go_at_call 23; have _t := tok4; refine (Ko_eq_any _ x_a y_a w13.heap.size _ (Nat.le_refl _) (Qx_a.out.trans Qy_a.out.symm) ?_ ?_ ?_).mono ?_; exact ox_a.inn.more (by omega); exact oy_a.inn.more (by omega); omega; rintro e w14 ⟨rfl, hb14⟩; have z14 : w13.heap.size ≤ w14.heap.size := hb14.size; clear tok4; have a_a := a_a.below hb14 (by omega); have a_b := a_b.below hb14 (by omega); have xb_a := xb_a.below hb14 (by omega); have xb_b := xb_b.below hb14 (by omega); have ox_a := ox_a.below (hb14.mono (by omega)); have ox_b := ox_b.below (hb14.mono (by omega)); have b14 := b13.trans (hb14.mono (by omega)); have i_a := h_a.below b14; have i_b := h_b.below b14; clear hb14; have a_aq := a_a; obtain ⟨a_a_0, a_a_1, a_a_2, a_a_3, a_a_4, a_a_5, a_a_6, a_a_7⟩ := a_aq; have a_alt : w.heap.size < w14.heap.size := (by omega); have a_bq := a_b; obtain ⟨a_b_0, a_b_1, a_b_2, a_b_3, a_b_4, a_b_5, a_b_6, a_b_7⟩ := a_bq; have a_blt : w.heap.size + 1 < w14.heap.size := (by omega); have xb_aq := xb_a; obtain ⟨xb_a_0, xb_a_1, xb_a_2, xb_a_3, xb_a_4, xb_a_5, xb_a_6, xb_a_7⟩ := xb_aq; have xb_alt : w8.heap.size < w14.heap.size := (by omega); have xb_bq := xb_b; obtain ⟨xb_b_0, xb_b_1, xb_b_2, xb_b_3, xb_b_4, xb_b_5, xb_b_6, xb_b_7⟩ := xb_bq; have xb_blt : w10.heap.size < w14.heap.size := (by omega)))
      clear a_a_0 a_a_1 a_a_2 a_a_3 a_a_4 a_a_5 a_a_6 a_a_7 a_alt
      clear a_b_0 a_b_1 a_b_2 a_b_3 a_b_4 a_b_5 a_b_6 a_b_7 a_blt
      clear xb_a_0 xb_a_1 xb_a_2 xb_a_3 xb_a_4 xb_a_5 xb_a_6 xb_a_7 xb_alt
      clear xb_b_0 xb_b_1 xb_b_2 xb_b_3 xb_b_4 xb_b_5 xb_b_6 xb_b_7 xb_blt
      clear oy_a
      have a_aq := a_a
      obtain ⟨a_a_0, a_a_1, a_a_2, a_a_3, a_a_4, a_a_5, a_a_6, a_a_7⟩ := a_aq
      have a_alt : w.heap.size < w14.heap.size := (by omega)
      have a_bq := a_b
      obtain ⟨a_b_0, a_b_1, a_b_2, a_b_3, a_b_4, a_b_5, a_b_6, a_b_7⟩ := a_bq
      have a_blt : w.heap.size + 1 < w14.heap.size := (by omega)
      have xb_aq := xb_a
      obtain ⟨xb_a_0, xb_a_1, xb_a_2, xb_a_3, xb_a_4, xb_a_5, xb_a_6, xb_a_7⟩ := xb_aq
      have xb_alt : w8.heap.size < w14.heap.size := (by omega)
      have xb_bq := xb_b
      obtain ⟨xb_b_0, xb_b_1, xb_b_2, xb_b_3, xb_b_4, xb_b_5, xb_b_6, xb_b_7⟩ := xb_bq
      have xb_blt : w10.heap.size < w14.heap.size := (by omega)
      go_wp2_with fail
      clear a_a_0 a_a_1 a_a_2 a_a_3 a_a_4 a_a_5 a_a_6 a_a_7 a_alt
      clear a_b_0 a_b_1 a_b_2 a_b_3 a_b_4 a_b_5 a_b_6 a_b_7 a_blt
      clear xb_a_0 xb_a_1 xb_a_2 xb_a_3 xb_a_4 xb_a_5 xb_a_6 xb_a_7 xb_alt
      clear xb_b_0 xb_b_1 xb_b_2 xb_b_3 xb_b_4 xb_b_5 xb_b_6 xb_b_7 xb_blt
      have a_aq := a_a
      obtain ⟨a_a_0, a_a_1, a_a_2, a_a_3, a_a_4, a_a_5, a_a_6, a_a_7⟩ := a_aq
      have a_alt : w.heap.size < w14.heap.size := (by omega)
      have a_bq := a_b
      obtain ⟨a_b_0, a_b_1, a_b_2, a_b_3, a_b_4, a_b_5, a_b_6, a_b_7⟩ := a_bq
      have a_blt : w.heap.size + 1 < w14.heap.size := (by omega)
      have xb_aq := xb_a
      obtain ⟨xb_a_0, xb_a_1, xb_a_2, xb_a_3, xb_a_4, xb_a_5, xb_a_6, xb_a_7⟩ := xb_aq
      have xb_alt : w8.heap.size < w14.heap.size := (by omega)
      have xb_bq := xb_b
      obtain ⟨xb_b_0, xb_b_1, xb_b_2, xb_b_3, xb_b_4, xb_b_5, xb_b_6, xb_b_7⟩ := xb_bq
      have xb_blt : w10.heap.size < w14.heap.size := (by omega)
      have tok5 : True := trivial
      have tok6 : True := trivial
      go_region_held3 (fun w' => w'.cell? ⟨w.heap.size + 1, 0, none⟩ = some (.int .i64 b.a.k) ∧ w'.cell? ⟨w.heap.size + 1, 1, none⟩ = some (.int .i64 b.a.n) ∧ w'.cell? ⟨w.heap.size + 1, 2, none⟩ = some (.slice b.a.sA b.a.s.length b.a.sC) ∧ w'.cell? ⟨w.heap.size + 1, 3, none⟩ = some (.int .i64 b.a.d.k) ∧ w'.cell? ⟨w.heap.size + 1, 4, none⟩ = some (.int .i64 b.a.d.n) ∧ w'.cell? ⟨w.heap.size + 1, 5, none⟩ = some (.string b.a.d.t) ∧ w'.cell? ⟨w.heap.size + 1, 6, none⟩ = some (.slice b.a.d.A b.a.d.l.length b.a.d.c) ∧ w'.cell? ⟨w.heap.size + 1, 7, none⟩ = some (.slice b.A b.l.length b.c) ∧ w'.cell? ⟨w10.heap.size, 0, none⟩ = some (.int .i64 x_b.a.k) ∧ w'.cell? ⟨w10.heap.size, 1, none⟩ = some (.int .i64 x_b.a.n) ∧ w'.cell? ⟨w10.heap.size, 2, none⟩ = some (.slice x_b.a.sA x_b.a.s.length x_b.a.sC) ∧ w'.cell? ⟨w10.heap.size, 3, none⟩ = some (.int .i64 x_b.a.d.k) ∧ w'.cell? ⟨w10.heap.size, 4, none⟩ = some (.int .i64 x_b.a.d.n) ∧ w'.cell? ⟨w10.heap.size, 5, none⟩ = some (.string x_b.a.d.t) ∧ w'.cell? ⟨w10.heap.size, 6, none⟩ = some (.slice x_b.a.d.A x_b.a.d.l.length x_b.a.d.c) ∧ w'.cell? ⟨w10.heap.size, 7, none⟩ = some (.slice x_b.A x_b.l.length x_b.c)) (go_keep)
        (first
          | (go_at_call 21; have _t := tok5; refine (Ko_to_any 2000000 b w.heap.size _ ?_ hs_b ?_ ?_).mono ?_; omega; exact i_b.drew; (show w.heap.size ≤ w14.heap.size); omega; rintro e w15 ⟨y_b, rfl, hey_b, oy_b, hb15⟩; have hb15 : Below w14.heap.size w14 w15 := below_undrew hb15; have z15 : w14.heap.size ≤ w15.heap.size := hb15.size; clear tok5; have Qy_b := Lib.hid hey_b; clear hey_b; have a_a := a_a.below hb15 (by omega); have a_b := a_b.below hb15 (by omega); have xb_a := xb_a.below hb15 (by omega); have xb_b := xb_b.below hb15 (by omega); have ox_a := ox_a.below (hb15.mono (by omega)); have ox_b := ox_b.below (hb15.mono (by omega)); have b15 := b14.trans (hb15.mono (by omega)); have i_a := h_a.below b15; have i_b := h_b.below b15; clear hb15; have a_aq := a_a; obtain ⟨a_a_0, a_a_1, a_a_2, a_a_3, a_a_4, a_a_5, a_a_6, a_a_7⟩ := a_aq; have a_alt : w.heap.size < w15.heap.size := (by omega); have a_bq := a_b; obtain ⟨a_b_0, a_b_1, a_b_2, a_b_3, a_b_4, a_b_5, a_b_6, a_b_7⟩ := a_bq; have a_blt : w.heap.size + 1 < w15.heap.size := (by omega); have xb_aq := xb_a; obtain ⟨xb_a_0, xb_a_1, xb_a_2, xb_a_3, xb_a_4, xb_a_5, xb_a_6, xb_a_7⟩ := xb_aq; have xb_alt : w8.heap.size < w15.heap.size := (by omega); have xb_bq := xb_b; obtain ⟨xb_b_0, xb_b_1, xb_b_2, xb_b_3, xb_b_4, xb_b_5, xb_b_6, xb_b_7⟩ := xb_bq; have xb_blt : w10.heap.size < w15.heap.size := (by omega))
          | (go_at_call 23; have _t := tok6; refine (Ko_eq_any _ x_b y_b w15.heap.size _ (Nat.le_refl _) (Qx_b.out.trans Qy_b.out.symm) ?_ ?_ ?_).mono ?_; exact ox_b.inn.more (by omega); exact oy_b.inn.more (by omega); omega; rintro e w16 ⟨rfl, hb16⟩; have z16 : w15.heap.size ≤ w16.heap.size := hb16.size; clear tok6; have a_a := a_a.below hb16 (by omega); have a_b := a_b.below hb16 (by omega); have xb_a := xb_a.below hb16 (by omega); have xb_b := xb_b.below hb16 (by omega); have ox_a := ox_a.below (hb16.mono (by omega)); have ox_b := ox_b.below (hb16.mono (by omega)); have b16 := b15.trans (hb16.mono (by omega)); have i_a := h_a.below b16; have i_b := h_b.below b16; clear hb16; have a_aq := a_a; obtain ⟨a_a_0, a_a_1, a_a_2, a_a_3, a_a_4, a_a_5, a_a_6, a_a_7⟩ := a_aq; have a_alt : w.heap.size < w16.heap.size := (by omega); have a_bq := a_b; obtain ⟨a_b_0, a_b_1, a_b_2, a_b_3, a_b_4, a_b_5, a_b_6, a_b_7⟩ := a_bq; have a_blt : w.heap.size + 1 < w16.heap.size := (by omega); have xb_aq := xb_a; obtain ⟨xb_a_0, xb_a_1, xb_a_2, xb_a_3, xb_a_4, xb_a_5, xb_a_6, xb_a_7⟩ := xb_aq; have xb_alt : w8.heap.size < w16.heap.size := (by omega); have xb_bq := xb_b; obtain ⟨xb_b_0, xb_b_1, xb_b_2, xb_b_3, xb_b_4, xb_b_5, xb_b_6, xb_b_7⟩ := xb_bq; have xb_blt : w10.heap.size < w16.heap.size := (by omega)))
      clear a_a_0 a_a_1 a_a_2 a_a_3 a_a_4 a_a_5 a_a_6 a_a_7 a_alt
      clear a_b_0 a_b_1 a_b_2 a_b_3 a_b_4 a_b_5 a_b_6 a_b_7 a_blt
      clear xb_a_0 xb_a_1 xb_a_2 xb_a_3 xb_a_4 xb_a_5 xb_a_6 xb_a_7 xb_alt
      clear xb_b_0 xb_b_1 xb_b_2 xb_b_3 xb_b_4 xb_b_5 xb_b_6 xb_b_7 xb_blt
      clear oy_b
      have a_aq := a_a
      obtain ⟨a_a_0, a_a_1, a_a_2, a_a_3, a_a_4, a_a_5, a_a_6, a_a_7⟩ := a_aq
      have a_alt : w.heap.size < w16.heap.size := (by omega)
      have a_bq := a_b
      obtain ⟨a_b_0, a_b_1, a_b_2, a_b_3, a_b_4, a_b_5, a_b_6, a_b_7⟩ := a_bq
      have a_blt : w.heap.size + 1 < w16.heap.size := (by omega)
      have xb_aq := xb_a
      obtain ⟨xb_a_0, xb_a_1, xb_a_2, xb_a_3, xb_a_4, xb_a_5, xb_a_6, xb_a_7⟩ := xb_aq
      have xb_alt : w8.heap.size < w16.heap.size := (by omega)
      have xb_bq := xb_b
      obtain ⟨xb_b_0, xb_b_1, xb_b_2, xb_b_3, xb_b_4, xb_b_5, xb_b_6, xb_b_7⟩ := xb_bq
      have xb_blt : w10.heap.size < w16.heap.size := (by omega)
      go_wp2_with fail
      clear a_a_0 a_a_1 a_a_2 a_a_3 a_a_4 a_a_5 a_a_6 a_a_7 a_alt
      clear a_b_0 a_b_1 a_b_2 a_b_3 a_b_4 a_b_5 a_b_6 a_b_7 a_blt
      clear xb_a_0 xb_a_1 xb_a_2 xb_a_3 xb_a_4 xb_a_5 xb_a_6 xb_a_7 xb_alt
      clear xb_b_0 xb_b_1 xb_b_2 xb_b_3 xb_b_4 xb_b_5 xb_b_6 xb_b_7 xb_blt
      go_ret
      exact ⟨rfl, b16⟩
    · have b0 : Below w.heap.size w w := Below.refl _ _
      have i_a := h_a
      have i_b := h_b
      go_enter Try.func6, Try.ntmps6
      go_wp2_with fail
      obtain ⟨w1, hw1⟩ : ∃ W, W = w.alloc (.cells #[.int .i64 a.a.k, .int .i64 a.a.n, .slice a.a.sA a.a.s.length a.a.sC, .int .i64 a.a.d.k, .int .i64 a.a.d.n, .string a.a.d.t, .slice a.a.d.A a.a.d.l.length a.a.d.c, .slice a.A a.l.length a.c] 45) := ⟨_, rfl⟩
      rw [← hw1]
      have hb1 : Below w.heap.size w w1 := by rw [hw1]; exact (Below.refl _ _).alloc (Nat.le_refl _) _
      have z1 : w.heap.size + 1 ≤ w1.heap.size := by rw [hw1]; simp
      have y1 : w1.heap.size ≤ w.heap.size + 1 := by rw [hw1]; simp
      have a_a : Ko.Box w1 w.heap.size a := by rw [hw1]; exact Ko.Box.new _ _ _
      clear hw1
      have b1 := b0.trans (hb1.mono (by omega))
      have i_a := h_a.below b1
      have i_b := h_b.below b1
      clear hb1
      obtain ⟨w2, hw2⟩ : ∃ W, W = w1.alloc (.cells #[.int .i64 b.a.k, .int .i64 b.a.n, .slice b.a.sA b.a.s.length b.a.sC, .int .i64 b.a.d.k, .int .i64 b.a.d.n, .string b.a.d.t, .slice b.a.d.A b.a.d.l.length b.a.d.c, .slice b.A b.l.length b.c] 45) := ⟨_, rfl⟩
      rw [← hw2]
      have hb2 : Below w1.heap.size w1 w2 := by rw [hw2]; exact (Below.refl _ _).alloc (Nat.le_refl _) _
      have z2 : w1.heap.size + 1 ≤ w2.heap.size := by rw [hw2]; simp
      have y2 : w2.heap.size ≤ w1.heap.size + 1 := by rw [hw2]; simp
      have a_b : Ko.Box w2 w1.heap.size b := by rw [hw2]; exact Ko.Box.new _ _ _
      clear hw2
      have a_a := a_a.below hb2 (by omega)
      have b2 := b1.trans (hb2.mono (by omega))
      have i_a := h_a.below b2
      have i_b := h_b.below b2
      clear hb2
      have e_a_b : w1.heap.size = w.heap.size + 1 := by omega
      rw [e_a_b] at a_b
      clear e_a_b
      refine (Ko_sz_any 2000000 a w.heap.size _ 1048576 hs_a (by omega) (by omega) i_a (by omega)).mono ?_
      rintro e w3 ⟨rfl, hb3⟩
      have z3 := hb3.size
      have a_a := a_a.below hb3 (by omega)
      have a_b := a_b.below hb3 (by omega)
      have b3 := b2.trans (hb3.mono (by omega))
      have i_a := h_a.below b3
      have i_b := h_b.below b3
      clear hb3
      rw [szR_yes (by omega)]
      have n1_a : ¬ (1048576 - (a.bulk Ko.bulk : Int) < 0) := by omega
      have a_aq := a_a
      obtain ⟨a_a_0, a_a_1, a_a_2, a_a_3, a_a_4, a_a_5, a_a_6, a_a_7⟩ := a_aq
      have a_alt : w.heap.size < w3.heap.size := (by omega)
      have a_bq := a_b
      obtain ⟨a_b_0, a_b_1, a_b_2, a_b_3, a_b_4, a_b_5, a_b_6, a_b_7⟩ := a_bq
      have a_blt : w.heap.size + 1 < w3.heap.size := (by omega)
      go_wp2_with fail
      clear a_a_0 a_a_1 a_a_2 a_a_3 a_a_4 a_a_5 a_a_6 a_a_7 a_alt
      clear a_b_0 a_b_1 a_b_2 a_b_3 a_b_4 a_b_5 a_b_6 a_b_7 a_blt
      refine (Ko_sz_any (b.size + 1) b w.heap.size _ (1048576 - (a.bulk Ko.bulk : Int)) (by omega) (by omega) (by omega) i_b (by omega)).mono ?_
      rintro e w4 ⟨rfl, hb4⟩
      have z4 := hb4.size
      have a_a := a_a.below hb4 (by omega)
      have a_b := a_b.below hb4 (by omega)
      have b4 := b3.trans (hb4.mono (by omega))
      have i_a := h_a.below b4
      have i_b := h_b.below b4
      clear hb4
      rw [szR_no (by omega)]
      have a_aq := a_a
      obtain ⟨a_a_0, a_a_1, a_a_2, a_a_3, a_a_4, a_a_5, a_a_6, a_a_7⟩ := a_aq
      have a_alt : w.heap.size < w4.heap.size := (by omega)
      have a_bq := a_b
      obtain ⟨a_b_0, a_b_1, a_b_2, a_b_3, a_b_4, a_b_5, a_b_6, a_b_7⟩ := a_bq
      have a_blt : w.heap.size + 1 < w4.heap.size := (by omega)
      go_wp2_with fail
      clear a_a_0 a_a_1 a_a_2 a_a_3 a_a_4 a_a_5 a_a_6 a_a_7 a_alt
      clear a_b_0 a_b_1 a_b_2 a_b_3 a_b_4 a_b_5 a_b_6 a_b_7 a_blt
      go_ret
      exact ⟨rfl, b4⟩
  · have b0 : Below w.heap.size w w := Below.refl _ _
    have i_a := h_a
    have i_b := h_b
    go_enter Try.func6, Try.ntmps6
    go_wp2_with fail
    obtain ⟨w1, hw1⟩ : ∃ W, W = w.alloc (.cells #[.int .i64 a.a.k, .int .i64 a.a.n, .slice a.a.sA a.a.s.length a.a.sC, .int .i64 a.a.d.k, .int .i64 a.a.d.n, .string a.a.d.t, .slice a.a.d.A a.a.d.l.length a.a.d.c, .slice a.A a.l.length a.c] 45) := ⟨_, rfl⟩
    rw [← hw1]
    have hb1 : Below w.heap.size w w1 := by rw [hw1]; exact (Below.refl _ _).alloc (Nat.le_refl _) _
    have z1 : w.heap.size + 1 ≤ w1.heap.size := by rw [hw1]; simp
    have y1 : w1.heap.size ≤ w.heap.size + 1 := by rw [hw1]; simp
    have a_a : Ko.Box w1 w.heap.size a := by rw [hw1]; exact Ko.Box.new _ _ _
    clear hw1
    have b1 := b0.trans (hb1.mono (by omega))
    have i_a := h_a.below b1
    have i_b := h_b.below b1
    clear hb1
    obtain ⟨w2, hw2⟩ : ∃ W, W = w1.alloc (.cells #[.int .i64 b.a.k, .int .i64 b.a.n, .slice b.a.sA b.a.s.length b.a.sC, .int .i64 b.a.d.k, .int .i64 b.a.d.n, .string b.a.d.t, .slice b.a.d.A b.a.d.l.length b.a.d.c, .slice b.A b.l.length b.c] 45) := ⟨_, rfl⟩
    rw [← hw2]
    have hb2 : Below w1.heap.size w1 w2 := by rw [hw2]; exact (Below.refl _ _).alloc (Nat.le_refl _) _
    have z2 : w1.heap.size + 1 ≤ w2.heap.size := by rw [hw2]; simp
    have y2 : w2.heap.size ≤ w1.heap.size + 1 := by rw [hw2]; simp
    have a_b : Ko.Box w2 w1.heap.size b := by rw [hw2]; exact Ko.Box.new _ _ _
    clear hw2
    have a_a := a_a.below hb2 (by omega)
    have b2 := b1.trans (hb2.mono (by omega))
    have i_a := h_a.below b2
    have i_b := h_b.below b2
    clear hb2
    have e_a_b : w1.heap.size = w.heap.size + 1 := by omega
    rw [e_a_b] at a_b
    clear e_a_b
    refine (Ko_sz_any (a.size + 1) a w.heap.size _ 1048576 (by omega) (by omega) (by omega) i_a (by omega)).mono ?_
    rintro e w3 ⟨rfl, hb3⟩
    have z3 := hb3.size
    have a_a := a_a.below hb3 (by omega)
    have a_b := a_b.below hb3 (by omega)
    have b3 := b2.trans (hb3.mono (by omega))
    have i_a := h_a.below b3
    have i_b := h_b.below b3
    clear hb3
    rw [szR_no (by omega)]
    have a_aq := a_a
    obtain ⟨a_a_0, a_a_1, a_a_2, a_a_3, a_a_4, a_a_5, a_a_6, a_a_7⟩ := a_aq
    have a_alt : w.heap.size < w3.heap.size := (by omega)
    have a_bq := a_b
    obtain ⟨a_b_0, a_b_1, a_b_2, a_b_3, a_b_4, a_b_5, a_b_6, a_b_7⟩ := a_bq
    have a_blt : w.heap.size + 1 < w3.heap.size := (by omega)
    go_wp2_with fail
    clear a_a_0 a_a_1 a_a_2 a_a_3 a_a_4 a_a_5 a_a_6 a_a_7 a_alt
    clear a_b_0 a_b_1 a_b_2 a_b_3 a_b_4 a_b_5 a_b_6 a_b_7 a_blt
    go_ret
    exact ⟨rfl, b3⟩
end Go.Proofs.Ytfbfmajjooannaa
