/-
  The law on FindExport, walked.
-/
import Derived.Test.YtndckeodpoommaaFxAB
import Derived.Deep.RegionHeld3
namespace Go.Proofs.Ytndckeodpoommaa
open Go.RowKit

theorem specFx_c (x : Wd) {x0 : Wd} (m t : ByteArray) (B : Nat) (w : World) (hx : x.er = x0.er) {Z : Xp} (hZ : Xp.valO (x0.find m t) = Xp.val Z) {V : Bool} (hV : (x0.find m t).isSome = V) (hin : Wd.E.In w B x) (hB : B ≤ w.heap.size) :
    Calls Try.prog 23 #[Wd.val x, .string m, .string t] w fun e w' => e = .returned (.tuple #[Xp.val Z, .bool V]) ∧ Below w.heap.size w w' := by
  have h := specFx_any x m t B w hin hB
  rw [Wd.find_er hx, hZ, hV] at h
  exact h
theorem implFx_c (x : Wd) {x0 : Wd} (m t : ByteArray) (B : Nat) (w : World) (hx : x.er = x0.er) {Z : Xp} (hZ : Xp.valO (x0.find m t) = Xp.val Z) {V : Bool} (hV : (x0.find m t).isSome = V) (hin : Wd.E.In w B x) (hB : B ≤ w.heap.size) :
    Calls Try.prog 25 #[Wd.val x, .string m, .string t] w fun e w' => e = .returned (.tuple #[Xp.val Z, .bool V]) ∧ Below w.heap.size w w' := by
  have h := implFx_any x m t B w hin hB
  rw [Wd.find_er hx, hZ, hV] at h
  exact h

theorem Xp.valO_some {w : Wd} {m t : ByteArray} {B : Nat} {u : World} (h : Wd.E.In u B w) : ∃ Z : Xp, Xp.valO (w.find m t) = Xp.val Z ∧ Z.m.size ≤ 9223372036854775807 ∧ Z.t.size ≤ 9223372036854775807 := by
  cases hq : w.find m t with
  | none => exact ⟨⟨⟨#[]⟩, ⟨#[]⟩, 0, 0⟩, rfl, by decide, by decide⟩
  | some z =>
    refine ⟨z, rfl, ?_⟩
    have hz : z ∈ w.es := List.mem_of_find?_eq_some hq
    have hi := Xp.E_in ((Wd.E_in h).es.all z hz)
    exact ⟨hi.m, hi.t⟩

set_option maxRecDepth 100000 in
set_option maxHeartbeats 4000000 in
theorem law_fx (a : Wd) (m t : ByteArray) (w : World) (h_a : Wd.E.In w w.heap.size a) (w_m : m.size ≤ 9223372036854775807) (w_t : t.size ≤ 9223372036854775807) : Calls Try.prog 6 #[Wd.val a, .string m, .string t] w fun e w' => e = .returned (.bool true) ∧ Below w.heap.size w w' := by
  obtain ⟨Z, hZ, hz1, hz2⟩ := Xp.valO_some (m := m) (t := t) h_a
  have hz : ∀ (u : World) (B : Nat), Xp.E.In u B Z := fun u B => Xp.E_mk ⟨hz1, hz2⟩
  have HZ := Lib.hid hZ
  clear hZ hz1 hz2
  obtain ⟨V, hV⟩ : ∃ V, V = (a.find m t).isSome := ⟨_, rfl⟩
  have HV := Lib.hid hV.symm
  clear hV
  have nq : (V != V) = false := by simp
  unfold Wd.val
  by_cases hm : m.size ≤ 1048576
  · have gm : ¬ ((m.size : Int) > 1048576) := by omega
    by_cases ht : t.size ≤ 1048576
    · have gt : ¬ ((t.size : Int) > 1048576) := by omega
      by_cases hz_a : (a.bulk : Int) ≤ 1048576
      · have hs_a : a.bulk ≤ 1500000 := by omega
        have b0 : Below w.heap.size w w := Below.refl _ _
        have i_a := h_a
        go_enter Try.func6, Try.ntmps6
        go_wp2_with fail
        obtain ⟨w1, hw1⟩ : ∃ W, W = w.alloc (.cells #[.slice a.ex.A0 a.ex.l0.length a.ex.c0, .slice a.ex.A1 a.ex.l1.length a.ex.c1, .int .i64 a.ex.s, .int .i64 a.ex.v, .int .i64 a.ex.t, .slice a.usA a.us.length a.usC, .slice a.esA a.es.length a.esC] 43) := ⟨_, rfl⟩
        rw [← hw1]
        have hb1 : Below w.heap.size w w1 := by rw [hw1]; exact (Below.refl _ _).alloc (Nat.le_refl _) _
        have z1 : w.heap.size + 1 ≤ w1.heap.size := by rw [hw1]; simp
        have y1 : w1.heap.size ≤ w.heap.size + 1 := by rw [hw1]; simp
        have a_a : Wd.Box w1 w.heap.size a := by rw [hw1]; exact Wd.Box.new _ _ _
        clear hw1
        have b1 := b0.trans (hb1.mono (by omega))
        have i_a := h_a.below b1
        clear hb1
        refine (Wd_sz_any a w.heap.size _ 1048576 (by omega) (by omega) i_a (by omega)).mono ?_
        rintro e w2 ⟨rfl, hb2⟩
        have z2 := hb2.size
        have a_a := a_a.below hb2 (by omega)
        have b2 := b1.trans (hb2.mono (by omega))
        have i_a := h_a.below b2
        clear hb2
        rw [szR_yes (by omega)]
        have n1_a : ¬ (1048576 - (a.bulk : Int) < 0) := by omega
        have a_aq := a_a
        obtain ⟨a_a_0, a_a_1, a_a_2, a_a_3, a_a_4, a_a_5, a_a_6⟩ := a_aq
        have a_alt : w.heap.size < w2.heap.size := (by omega)
        go_wp2_with fail
        clear a_a_0 a_a_1 a_a_2 a_a_3 a_a_4 a_a_5 a_a_6 a_alt
        refine (Wd_to_any a w.heap.size _ hs_a i_a (by omega)).mono ?_
        rintro e w3 ⟨d1, rfl, hed1, od1, hb3⟩
        have z3 := hb3.size
        have a_a := a_a.below hb3 (by omega)
        have b3 := b2.trans (hb3.mono (by omega))
        have i_a := h_a.below b3
        clear hb3
        have Qd1 := Lib.hid hed1
        clear hed1
        have a_aq := a_a
        obtain ⟨a_a_0, a_a_1, a_a_2, a_a_3, a_a_4, a_a_5, a_a_6⟩ := a_aq
        have a_alt : w.heap.size < w3.heap.size := (by omega)
        go_wp2_with fail
        clear a_a_0 a_a_1 a_a_2 a_a_3 a_a_4 a_a_5 a_a_6 a_alt
        refine (specFx_c d1 m t w3.heap.size _ Qd1.out HZ.out HV.out (od1.inn.more (by omega)) (by omega)).mono ?_
        rintro e w4 ⟨rfl, hb4⟩
        have z4 := hb4.size
        have a_a := a_a.below hb4 (by omega)
        have od1 := od1.below (hb4.mono (by omega))
        have b4 := b3.trans (hb4.mono (by omega))
        have i_a := h_a.below b4
        clear hb4
        clear od1
        simp only [Xp.val]
        have a_aq := a_a
        obtain ⟨a_a_0, a_a_1, a_a_2, a_a_3, a_a_4, a_a_5, a_a_6⟩ := a_aq
        have a_alt : w.heap.size < w4.heap.size := (by omega)
        go_wp2_with fail
        clear a_a_0 a_a_1 a_a_2 a_a_3 a_a_4 a_a_5 a_a_6 a_alt
        obtain ⟨w5, hw5⟩ : ∃ W, W = w4.alloc (.cells #[.string Z.m, .string Z.t, .int .i64 Z.k, .int .i64 Z.n] 46) := ⟨_, rfl⟩
        rw [← hw5]
        have hb5 : Below w4.heap.size w4 w5 := by rw [hw5]; exact (Below.refl _ _).alloc (Nat.le_refl _) _
        have z5 : w4.heap.size + 1 ≤ w5.heap.size := by rw [hw5]; simp
        have y5 : w5.heap.size ≤ w4.heap.size + 1 := by rw [hw5]; simp
        have wb : Xp.Box w5 w4.heap.size Z := by rw [hw5]; exact Xp.Box.new _ _ _
        clear hw5
        have a_a := a_a.below hb5 (by omega)
        have b5 := b4.trans (hb5.mono (by omega))
        have i_a := h_a.below b5
        clear hb5
        refine (Wd_to_any a w.heap.size _ hs_a i_a (by omega)).mono ?_
        rintro e w6 ⟨x1, rfl, hex1, ox1, hb6⟩
        have z6 := hb6.size
        have a_a := a_a.below hb6 (by omega)
        have wb := wb.below hb6 (by omega)
        have b6 := b5.trans (hb6.mono (by omega))
        have i_a := h_a.below b6
        clear hb6
        have Qx1 := Lib.hid hex1
        clear hex1
        simp only [Wd.val]
        have a_aq := a_a
        obtain ⟨a_a_0, a_a_1, a_a_2, a_a_3, a_a_4, a_a_5, a_a_6⟩ := a_aq
        have a_alt : w.heap.size < w6.heap.size := (by omega)
        have wbq := wb
        obtain ⟨wb_0, wb_1, wb_2, wb_3⟩ := wbq
        have wblt : w4.heap.size < w6.heap.size := (by omega)
        go_wp2_with fail
        clear a_a_0 a_a_1 a_a_2 a_a_3 a_a_4 a_a_5 a_a_6 a_alt
        clear wb_0 wb_1 wb_2 wb_3 wblt
        obtain ⟨w7, hw7⟩ : ∃ W, W = w6.alloc (.cells #[.slice x1.ex.A0 x1.ex.l0.length x1.ex.c0, .slice x1.ex.A1 x1.ex.l1.length x1.ex.c1, .int .i64 x1.ex.s, .int .i64 x1.ex.v, .int .i64 x1.ex.t, .slice x1.usA x1.us.length x1.usC, .slice x1.esA x1.es.length x1.esC] 55) := ⟨_, rfl⟩
        rw [← hw7]
        have hb7 : Below w6.heap.size w6 w7 := by rw [hw7]; exact (Below.refl _ _).alloc (Nat.le_refl _) _
        have z7 : w6.heap.size + 1 ≤ w7.heap.size := by rw [hw7]; simp
        have y7 : w7.heap.size ≤ w6.heap.size + 1 := by rw [hw7]; simp
        have xb_a : Wd.Box w7 w6.heap.size x1 := by rw [hw7]; exact Wd.Box.new _ _ _
        clear hw7
        have a_a := a_a.below hb7 (by omega)
        have wb := wb.below hb7 (by omega)
        have ox1 := ox1.below (hb7.mono (by omega))
        have b7 := b6.trans (hb7.mono (by omega))
        have i_a := h_a.below b7
        clear hb7
        have a_aq := a_a
        obtain ⟨a_a_0, a_a_1, a_a_2, a_a_3, a_a_4, a_a_5, a_a_6⟩ := a_aq
        have a_alt : w.heap.size < w7.heap.size := (by omega)
        have wbq := wb
        obtain ⟨wb_0, wb_1, wb_2, wb_3⟩ := wbq
        have wblt : w4.heap.size < w7.heap.size := (by omega)
        have xb_aq := xb_a
        obtain ⟨xb_a_0, xb_a_1, xb_a_2, xb_a_3, xb_a_4, xb_a_5, xb_a_6⟩ := xb_aq
        have xb_alt : w6.heap.size < w7.heap.size := (by omega)
        go_wp2_with fail
        clear a_a_0 a_a_1 a_a_2 a_a_3 a_a_4 a_a_5 a_a_6 a_alt
        clear wb_0 wb_1 wb_2 wb_3 wblt
        clear xb_a_0 xb_a_1 xb_a_2 xb_a_3 xb_a_4 xb_a_5 xb_a_6 xb_alt
        refine (implFx_c x1 m t w7.heap.size _ Qx1.out HZ.out HV.out (ox1.inn.more (by omega)) (by omega)).mono ?_
        rintro e w8 ⟨rfl, hb8⟩
        have z8 := hb8.size
        have a_a := a_a.below hb8 (by omega)
        have wb := wb.below hb8 (by omega)
        have xb_a := xb_a.below hb8 (by omega)
        have ox1 := ox1.below (hb8.mono (by omega))
        have b8 := b7.trans (hb8.mono (by omega))
        have i_a := h_a.below b8
        clear hb8
        simp only [Xp.val]
        have a_aq := a_a
        obtain ⟨a_a_0, a_a_1, a_a_2, a_a_3, a_a_4, a_a_5, a_a_6⟩ := a_aq
        have a_alt : w.heap.size < w8.heap.size := (by omega)
        have wbq := wb
        obtain ⟨wb_0, wb_1, wb_2, wb_3⟩ := wbq
        have wblt : w4.heap.size < w8.heap.size := (by omega)
        have xb_aq := xb_a
        obtain ⟨xb_a_0, xb_a_1, xb_a_2, xb_a_3, xb_a_4, xb_a_5, xb_a_6⟩ := xb_aq
        have xb_alt : w6.heap.size < w8.heap.size := (by omega)
        go_wp2_with fail
        clear a_a_0 a_a_1 a_a_2 a_a_3 a_a_4 a_a_5 a_a_6 a_alt
        clear wb_0 wb_1 wb_2 wb_3 wblt
        clear xb_a_0 xb_a_1 xb_a_2 xb_a_3 xb_a_4 xb_a_5 xb_a_6 xb_alt
        obtain ⟨w9, hw9⟩ : ∃ W, W = w8.alloc (.cells #[.string Z.m, .string Z.t, .int .i64 Z.k, .int .i64 Z.n] 46) := ⟨_, rfl⟩
        rw [← hw9]
        have hb9 : Below w8.heap.size w8 w9 := by rw [hw9]; exact (Below.refl _ _).alloc (Nat.le_refl _) _
        have z9 : w8.heap.size + 1 ≤ w9.heap.size := by rw [hw9]; simp
        have y9 : w9.heap.size ≤ w8.heap.size + 1 := by rw [hw9]; simp
        have gb : Xp.Box w9 w8.heap.size Z := by rw [hw9]; exact Xp.Box.new _ _ _
        clear hw9
        have a_a := a_a.below hb9 (by omega)
        have wb := wb.below hb9 (by omega)
        have xb_a := xb_a.below hb9 (by omega)
        have ox1 := ox1.below (hb9.mono (by omega))
        have b9 := b8.trans (hb9.mono (by omega))
        have i_a := h_a.below b9
        clear hb9
        have a_aq := a_a
        obtain ⟨a_a_0, a_a_1, a_a_2, a_a_3, a_a_4, a_a_5, a_a_6⟩ := a_aq
        have a_alt : w.heap.size < w9.heap.size := (by omega)
        have wbq := wb
        obtain ⟨wb_0, wb_1, wb_2, wb_3⟩ := wbq
        have wblt : w4.heap.size < w9.heap.size := (by omega)
        have xb_aq := xb_a
        obtain ⟨xb_a_0, xb_a_1, xb_a_2, xb_a_3, xb_a_4, xb_a_5, xb_a_6⟩ := xb_aq
        have xb_alt : w6.heap.size < w9.heap.size := (by omega)
        have gbq := gb
        obtain ⟨gb_0, gb_1, gb_2, gb_3⟩ := gbq
        have gblt : w8.heap.size < w9.heap.size := (by omega)
        go_wp2_with fail
        clear a_a_0 a_a_1 a_a_2 a_a_3 a_a_4 a_a_5 a_a_6 a_alt
        clear wb_0 wb_1 wb_2 wb_3 wblt
        clear xb_a_0 xb_a_1 xb_a_2 xb_a_3 xb_a_4 xb_a_5 xb_a_6 xb_alt
        clear gb_0 gb_1 gb_2 gb_3 gblt
        refine (Xp_eq_any Z Z w9.heap.size _ rfl (hz _ _) (hz _ _) (by omega)).mono ?_
        rintro e w10 ⟨rfl, hb10⟩
        have z10 := hb10.size
        have a_a := a_a.below hb10 (by omega)
        have wb := wb.below hb10 (by omega)
        have xb_a := xb_a.below hb10 (by omega)
        have gb := gb.below hb10 (by omega)
        have ox1 := ox1.below (hb10.mono (by omega))
        have b10 := b9.trans (hb10.mono (by omega))
        have i_a := h_a.below b10
        clear hb10
        have a_aq := a_a
        obtain ⟨a_a_0, a_a_1, a_a_2, a_a_3, a_a_4, a_a_5, a_a_6⟩ := a_aq
        have a_alt : w.heap.size < w10.heap.size := (by omega)
        have wbq := wb
        obtain ⟨wb_0, wb_1, wb_2, wb_3⟩ := wbq
        have wblt : w4.heap.size < w10.heap.size := (by omega)
        have xb_aq := xb_a
        obtain ⟨xb_a_0, xb_a_1, xb_a_2, xb_a_3, xb_a_4, xb_a_5, xb_a_6⟩ := xb_aq
        have xb_alt : w6.heap.size < w10.heap.size := (by omega)
        have gbq := gb
        obtain ⟨gb_0, gb_1, gb_2, gb_3⟩ := gbq
        have gblt : w8.heap.size < w10.heap.size := (by omega)
        go_wp2_with fail
        clear a_a_0 a_a_1 a_a_2 a_a_3 a_a_4 a_a_5 a_a_6 a_alt
        clear wb_0 wb_1 wb_2 wb_3 wblt
        clear xb_a_0 xb_a_1 xb_a_2 xb_a_3 xb_a_4 xb_a_5 xb_a_6 xb_alt
        clear gb_0 gb_1 gb_2 gb_3 gblt
        have a_aq := a_a
        obtain ⟨a_a_0, a_a_1, a_a_2, a_a_3, a_a_4, a_a_5, a_a_6⟩ := a_aq
        have a_alt : w.heap.size < w10.heap.size := (by omega)
        have wbq := wb
        obtain ⟨wb_0, wb_1, wb_2, wb_3⟩ := wbq
        have wblt : w4.heap.size < w10.heap.size := (by omega)
        have xb_aq := xb_a
        obtain ⟨xb_a_0, xb_a_1, xb_a_2, xb_a_3, xb_a_4, xb_a_5, xb_a_6⟩ := xb_aq
        have xb_alt : w6.heap.size < w10.heap.size := (by omega)
        have gbq := gb
        obtain ⟨gb_0, gb_1, gb_2, gb_3⟩ := gbq
        have gblt : w8.heap.size < w10.heap.size := (by omega)
        have tok0 : True := trivial
        have tok1 : True := trivial
        go_region_held3 (fun w' => w'.cell? ⟨w.heap.size, 0, none⟩ = some (.slice a.ex.A0 a.ex.l0.length a.ex.c0) ∧ w'.cell? ⟨w.heap.size, 1, none⟩ = some (.slice a.ex.A1 a.ex.l1.length a.ex.c1) ∧ w'.cell? ⟨w.heap.size, 2, none⟩ = some (.int .i64 a.ex.s) ∧ w'.cell? ⟨w.heap.size, 3, none⟩ = some (.int .i64 a.ex.v) ∧ w'.cell? ⟨w.heap.size, 4, none⟩ = some (.int .i64 a.ex.t) ∧ w'.cell? ⟨w.heap.size, 5, none⟩ = some (.slice a.usA a.us.length a.usC) ∧ w'.cell? ⟨w.heap.size, 6, none⟩ = some (.slice a.esA a.es.length a.esC) ∧ w'.cell? ⟨w6.heap.size, 0, none⟩ = some (.slice x1.ex.A0 x1.ex.l0.length x1.ex.c0) ∧ w'.cell? ⟨w6.heap.size, 1, none⟩ = some (.slice x1.ex.A1 x1.ex.l1.length x1.ex.c1) ∧ w'.cell? ⟨w6.heap.size, 2, none⟩ = some (.int .i64 x1.ex.s) ∧ w'.cell? ⟨w6.heap.size, 3, none⟩ = some (.int .i64 x1.ex.v) ∧ w'.cell? ⟨w6.heap.size, 4, none⟩ = some (.int .i64 x1.ex.t) ∧ w'.cell? ⟨w6.heap.size, 5, none⟩ = some (.slice x1.usA x1.us.length x1.usC) ∧ w'.cell? ⟨w6.heap.size, 6, none⟩ = some (.slice x1.esA x1.es.length x1.esC)) (go_keep)
          (first
            | (go_at_call 24; have _t := tok0; refine (Wd_to_any a w.heap.size _ hs_a ?_ ?_).mono ?_; exact Elem.In.drew i_a; (show w.heap.size ≤ w10.heap.size); omega; rintro e w11 ⟨y1, rfl, hey1, oy1, hb11⟩; have hb11 : Below w10.heap.size w10 w11 := below_undrew hb11; have z11 : w10.heap.size ≤ w11.heap.size := hb11.size; clear tok0; have Qy1 := Lib.hid hey1; clear hey1; have a_a := a_a.below hb11 (by omega); have wb := wb.below hb11 (by omega); have xb_a := xb_a.below hb11 (by omega); have gb := gb.below hb11 (by omega); have ox1 := ox1.below (hb11.mono (by omega)); have b11 := b10.trans (hb11.mono (by omega)); have i_a := h_a.below b11; clear hb11; have a_aq := a_a; obtain ⟨a_a_0, a_a_1, a_a_2, a_a_3, a_a_4, a_a_5, a_a_6⟩ := a_aq; have a_alt : w.heap.size < w11.heap.size := (by omega); have wbq := wb; obtain ⟨wb_0, wb_1, wb_2, wb_3⟩ := wbq; have wblt : w4.heap.size < w11.heap.size := (by omega); have xb_aq := xb_a; obtain ⟨xb_a_0, xb_a_1, xb_a_2, xb_a_3, xb_a_4, xb_a_5, xb_a_6⟩ := xb_aq; have xb_alt : w6.heap.size < w11.heap.size := (by omega); have gbq := gb; obtain ⟨gb_0, gb_1, gb_2, gb_3⟩ := gbq; have gblt : w8.heap.size < w11.heap.size := (by omega))
            | (go_at_call 27; have _t := tok1; refine (Wd_eq_any x1 y1 w11.heap.size _ (Qx1.out.trans Qy1.out.symm) ?_ ?_ ?_).mono ?_; exact ox1.inn.more (by omega); exact oy1.inn.more (by omega); omega; rintro e w12 ⟨rfl, hb12⟩; have z12 : w11.heap.size ≤ w12.heap.size := hb12.size; clear tok1; have a_a := a_a.below hb12 (by omega); have wb := wb.below hb12 (by omega); have xb_a := xb_a.below hb12 (by omega); have gb := gb.below hb12 (by omega); have ox1 := ox1.below (hb12.mono (by omega)); have b12 := b11.trans (hb12.mono (by omega)); have i_a := h_a.below b12; clear hb12; have a_aq := a_a; obtain ⟨a_a_0, a_a_1, a_a_2, a_a_3, a_a_4, a_a_5, a_a_6⟩ := a_aq; have a_alt : w.heap.size < w12.heap.size := (by omega); have wbq := wb; obtain ⟨wb_0, wb_1, wb_2, wb_3⟩ := wbq; have wblt : w4.heap.size < w12.heap.size := (by omega); have xb_aq := xb_a; obtain ⟨xb_a_0, xb_a_1, xb_a_2, xb_a_3, xb_a_4, xb_a_5, xb_a_6⟩ := xb_aq; have xb_alt : w6.heap.size < w12.heap.size := (by omega); have gbq := gb; obtain ⟨gb_0, gb_1, gb_2, gb_3⟩ := gbq; have gblt : w8.heap.size < w12.heap.size := (by omega)))
        clear a_a_0 a_a_1 a_a_2 a_a_3 a_a_4 a_a_5 a_a_6 a_alt
        clear wb_0 wb_1 wb_2 wb_3 wblt
        clear xb_a_0 xb_a_1 xb_a_2 xb_a_3 xb_a_4 xb_a_5 xb_a_6 xb_alt
        clear gb_0 gb_1 gb_2 gb_3 gblt
        clear oy1
        have a_aq := a_a
        obtain ⟨a_a_0, a_a_1, a_a_2, a_a_3, a_a_4, a_a_5, a_a_6⟩ := a_aq
        have a_alt : w.heap.size < w12.heap.size := (by omega)
        have wbq := wb
        obtain ⟨wb_0, wb_1, wb_2, wb_3⟩ := wbq
        have wblt : w4.heap.size < w12.heap.size := (by omega)
        have xb_aq := xb_a
        obtain ⟨xb_a_0, xb_a_1, xb_a_2, xb_a_3, xb_a_4, xb_a_5, xb_a_6⟩ := xb_aq
        have xb_alt : w6.heap.size < w12.heap.size := (by omega)
        have gbq := gb
        obtain ⟨gb_0, gb_1, gb_2, gb_3⟩ := gbq
        have gblt : w8.heap.size < w12.heap.size := (by omega)
        go_wp2_with fail
        clear a_a_0 a_a_1 a_a_2 a_a_3 a_a_4 a_a_5 a_a_6 a_alt
        clear wb_0 wb_1 wb_2 wb_3 wblt
        clear xb_a_0 xb_a_1 xb_a_2 xb_a_3 xb_a_4 xb_a_5 xb_a_6 xb_alt
        clear gb_0 gb_1 gb_2 gb_3 gblt
        go_ret
        exact ⟨rfl, b12⟩
      · have b0 : Below w.heap.size w w := Below.refl _ _
        have i_a := h_a
        go_enter Try.func6, Try.ntmps6
        go_wp2_with fail
        obtain ⟨w1, hw1⟩ : ∃ W, W = w.alloc (.cells #[.slice a.ex.A0 a.ex.l0.length a.ex.c0, .slice a.ex.A1 a.ex.l1.length a.ex.c1, .int .i64 a.ex.s, .int .i64 a.ex.v, .int .i64 a.ex.t, .slice a.usA a.us.length a.usC, .slice a.esA a.es.length a.esC] 43) := ⟨_, rfl⟩
        rw [← hw1]
        have hb1 : Below w.heap.size w w1 := by rw [hw1]; exact (Below.refl _ _).alloc (Nat.le_refl _) _
        have z1 : w.heap.size + 1 ≤ w1.heap.size := by rw [hw1]; simp
        have y1 : w1.heap.size ≤ w.heap.size + 1 := by rw [hw1]; simp
        have a_a : Wd.Box w1 w.heap.size a := by rw [hw1]; exact Wd.Box.new _ _ _
        clear hw1
        have b1 := b0.trans (hb1.mono (by omega))
        have i_a := h_a.below b1
        clear hb1
        refine (Wd_sz_any a w.heap.size _ 1048576 (by omega) (by omega) i_a (by omega)).mono ?_
        rintro e w2 ⟨rfl, hb2⟩
        have z2 := hb2.size
        have a_a := a_a.below hb2 (by omega)
        have b2 := b1.trans (hb2.mono (by omega))
        have i_a := h_a.below b2
        clear hb2
        rw [szR_no (by omega)]
        have a_aq := a_a
        obtain ⟨a_a_0, a_a_1, a_a_2, a_a_3, a_a_4, a_a_5, a_a_6⟩ := a_aq
        have a_alt : w.heap.size < w2.heap.size := (by omega)
        go_wp2_with fail
        clear a_a_0 a_a_1 a_a_2 a_a_3 a_a_4 a_a_5 a_a_6 a_alt
        go_ret
        exact ⟨rfl, b2⟩
    · have gt : (t.size : Int) > 1048576 := by omega
      have b0 : Below w.heap.size w w := Below.refl _ _
      have i_a := h_a
      go_enter Try.func6, Try.ntmps6
      go_wp2_with fail
      go_ret
      exact ⟨rfl, (Below.refl _ _).alloc (Nat.le_refl _) _⟩
  · have gm : (m.size : Int) > 1048576 := by omega
    have b0 : Below w.heap.size w w := Below.refl _ _
    have i_a := h_a
    go_enter Try.func6, Try.ntmps6
    go_wp2_with fail
    go_ret
    exact ⟨rfl, (Below.refl _ _).alloc (Nat.le_refl _) _⟩
end Go.Proofs.Ytndckeodpoommaa
