/-
  SymbolsOf, the model's and the program's, and the law, walked.
-/
import Derived.Test.YtiopophoioiafaaSyms
import Derived.Test.YtiopophoioiafaaIsD
import Derived.Test.YtiopophoioiafaaTrees
import Derived.Test.YtiopophoioiafaaMarks
import Derived.Deep.RegionHeld3
namespace Go.Proofs.Ytiopophoioiafaa
open Go.RowKit

/-- SymbolsOf's answer. -/
def D.symE (d : D) : List ByteArray := if d.isD = true then d.symA [] else []
theorem D.symE_of_er {d e : D} (h : D.er d = D.er e) : D.symE d = D.symE e := by unfold D.symE; rw [D.isD_of_er h, ← D.symA_er d, h, D.symA_er]
theorem D.symE_len (d : D) : (D.symE d).length ≤ d.size := by
  unfold D.symE
  split
  · have := D.symA_len d []
    simpa using this
  · simp

set_option maxHeartbeats 800000 in
theorem specSymsOf_any (d : D) (B : Nat) (w : World) (hin : d.In w B) (hB : B ≤ w.heap.size) (hs : d.size ≤ 2000000) : Calls Try.prog 33 #[d.val] w (RetT d.symE w) := by
  have bA : Below w.heap.size w (w.alloc (.cells #[.int .i64 d.k, .int .i64 d.n, .string d.t, .slice d.A d.l.length d.c] 25)) := (Below.refl _ _).alloc (Nat.le_refl _) _
  have x0 := D.Box.new w d 25
  unfold D.val
  cases hq : d.isD
  · have he : d.symE = [] := by unfold D.symE; rw [hq]; rfl
    have HE := Lib.hid he
    have HQ := Lib.hid hq
    clear he hq
    go_enter Try.func33, Try.ntmps33
    go_wp2_with fail
    refine (specIsD_any d B _ (hin.alloc hB _) (by simp; omega) hs).mono ?_
    rintro e w1 ⟨rfl, hb1⟩
    rw [HQ.out]
    have b1 := bA.trans (hb1.mono (by simp))
    clear hb1 bA x0
    go_wp2_with fail
    go_ret
    exact ⟨none, 0, by rw [HE.out]; rfl, by rw [HE.out]; exact TOwn.nil_ (by omega) (by simp), b1⟩
  · have he : d.symE = d.symA [] := by unfold D.symE; rw [hq]; rfl
    have HE := Lib.hid he
    have HQ := Lib.hid hq
    clear he hq
    go_enter Try.func33, Try.ntmps33
    go_wp2_with fail
    refine (specIsD_any d B _ (hin.alloc hB _) (by simp; omega) hs).mono ?_
    rintro e w1 ⟨rfl, hb1⟩
    rw [HQ.out]
    have z1 := hb1.size
    simp only [World.size_alloc] at z1
    obtain ⟨a0, a1, a2, a3⟩ := x0.below hb1 (by simp)
    have b1 := bA.trans (hb1.mono (by simp))
    have i1 := hin.below (b1.mono hB)
    clear hb1 bA x0
    have r0 : (w1.alloc (.cells #[] 9)).ownsRow w1.heap.size 9 1 (.slice (some ⟨w1.heap.size, 0, none⟩) 0 0) ([] : List ByteArray).length (([] : List ByteArray).map Value.string) := World.ownsRow_made w1 #[] 0 (Nat.le_refl _) (by unfold maxLen; omega) (by simp)
    have rn : w1.ownsRow w1.heap.size 9 1 (.slice none 0 0) ([] : List ByteArray).length (([] : List ByteArray).map Value.string) := World.ownsRow_nil _ _ _ _
    go_wp2_with fail
    refine (l1Sym_any 2000000 d B w1.heap.size [] _ _ hs (Nat.le_refl _) (i1.alloc (by omega) _) (by simp; omega) (by omega) (by simp) r0 (by simp; omega)).mono ?_
    rintro e w2 ⟨v', rfl, h1, h2, h3⟩
    have z2 := h2.size
    simp only [World.size_alloc] at z2
    have b2 : Below w1.heap.size w1 w2 := ((Below.refl _ _).alloc (Nat.le_refl _) _).trans (h2.below (fun k hk => by simp [Value.ownBlock] at hk; omega) (by simp))
    obtain ⟨A', c', rfl, ho⟩ := town_of_row h1
    clear h1 h2 h3 r0 rn
    go_wp2_with fail
    go_ret
    exact ⟨A', c', by rw [HE.out]; rfl, by rw [HE.out]; exact ho.wide (by omega) (Nat.le_refl _), b1.trans (b2.mono (by omega))⟩

set_option maxHeartbeats 800000 in
theorem implSymsOf_any (d : D) (B : Nat) (w : World) (hin : d.In w B) (hB : B ≤ w.heap.size) (hs : d.size ≤ 2000000) : Calls Try.prog 34 #[d.val] w (RetT d.symE w) := by
  have bA : Below w.heap.size w (w.alloc (.cells #[.int .i64 d.k, .int .i64 d.n, .string d.t, .slice d.A d.l.length d.c] 25)) := (Below.refl _ _).alloc (Nat.le_refl _) _
  have x0 := D.Box.new w d 25
  unfold D.val
  cases hq : d.isD
  · have he : d.symE = [] := by unfold D.symE; rw [hq]; rfl
    have HE := Lib.hid he
    have HQ := Lib.hid hq
    clear he hq
    go_enter Try.func34, Try.ntmps34
    go_wp2_with fail
    refine (implIsD_any d B _ (hin.alloc hB _) (by simp; omega)).mono ?_
    rintro e w1 ⟨rfl, hb1⟩
    rw [HQ.out]
    have b1 := bA.trans (hb1.mono (by simp))
    clear hb1 bA x0
    go_wp2_with fail
    go_ret
    exact ⟨none, 0, by rw [HE.out]; rfl, by rw [HE.out]; exact TOwn.nil_ (by omega) (by simp), b1⟩
  · have he : d.symE = d.symA [] := by unfold D.symE; rw [hq]; rfl
    have HE := Lib.hid he
    have HQ := Lib.hid hq
    clear he hq
    go_enter Try.func34, Try.ntmps34
    go_wp2_with fail
    refine (implIsD_any d B _ (hin.alloc hB _) (by simp; omega)).mono ?_
    rintro e w1 ⟨rfl, hb1⟩
    rw [HQ.out]
    have z1 := hb1.size
    simp only [World.size_alloc] at z1
    obtain ⟨a0, a1, a2, a3⟩ := x0.below hb1 (by simp)
    have b1 := bA.trans (hb1.mono (by simp))
    have i1 := hin.below (b1.mono hB)
    clear hb1 bA x0
    have r0 : (w1.alloc (.cells #[] 9)).ownsRow w1.heap.size 9 1 (.slice (some ⟨w1.heap.size, 0, none⟩) 0 0) ([] : List ByteArray).length (([] : List ByteArray).map Value.string) := World.ownsRow_made w1 #[] 0 (Nat.le_refl _) (by unfold maxLen; omega) (by simp)
    have rn : w1.ownsRow w1.heap.size 9 1 (.slice none 0 0) ([] : List ByteArray).length (([] : List ByteArray).map Value.string) := World.ownsRow_nil _ _ _ _
    go_wp2_with fail
    refine (addSym_any 2000000 d B w1.heap.size [] _ _ hs (Nat.le_refl _) i1 (by omega) (by omega) (Nat.le_refl _) rn (by simp; omega)).mono ?_
    rintro e w2 ⟨v', rfl, h1, h2, h3⟩
    have z2 := h2.size
    have b2 : Below w1.heap.size w1 w2 := h2.below (fun k hk => by simp [Value.ownBlock] at hk) (Nat.le_refl _)
    obtain ⟨A', c', rfl, ho⟩ := town_of_row h1
    clear h1 h2 h3 r0 rn
    go_wp2_with fail
    go_ret
    exact ⟨A', c', by rw [HE.out]; rfl, by rw [HE.out]; exact ho.wide (by omega) (Nat.le_refl _), b1.trans (b2.mono (by omega))⟩

set_option maxRecDepth 100000 in
set_option maxHeartbeats 2000000 in
theorem law_syms (a : D) (w : World) (h_a : a.In w w.heap.size) : Calls Try.prog 5 #[a.val] w fun e w' => e = .returned (.bool true) ∧ Below w.heap.size w w' := by
  unfold D.val
  by_cases hz_a : (a.bulk : Int) ≤ 1048576
  · have hs_a : a.size ≤ 1048577 := by have := D.bulk_size a; omega
    have hs_a : a.size ≤ 2000000 := by omega
    have hk_a : a.bulk ≤ 1048576 := by omega
    have hT : (D.symE a).length ≤ 2000000 := by have := D.symE_len a; omega
    have b0 : Below w.heap.size w w := Below.refl _ _
    have i_a := h_a
    go_enter Try.func5, Try.ntmps5
    go_wp2_with fail
    obtain ⟨w1, hw1⟩ : ∃ W, W = w.alloc (.cells #[.int .i64 a.k, .int .i64 a.n, .string a.t, .slice a.A a.l.length a.c] 35) := ⟨_, rfl⟩
    rw [← hw1]
    have hb1 : Below w.heap.size w w1 := by rw [hw1]; exact (Below.refl _ _).alloc (Nat.le_refl _) _
    have z1 : w.heap.size + 1 ≤ w1.heap.size := by rw [hw1]; simp
    have y1 : w1.heap.size ≤ w.heap.size + 1 := by rw [hw1]; simp
    have a_a : D.Box w1 w.heap.size a := by rw [hw1]; exact D.Box.new _ _ _
    clear hw1
    have b1 := b0.trans (hb1.mono (by omega))
    have i_a := h_a.below b1
    clear hb1
    refine (sz_any 2000000 a w.heap.size _ 1048576 hs_a (by omega) (by omega) i_a (by omega)).mono ?_
    rintro e w2 ⟨rfl, hb2⟩
    have z2 := hb2.size
    have a_a := a_a.below hb2 (by omega)
    have b2 := b1.trans (hb2.mono (by omega))
    have i_a := h_a.below b2
    clear hb2
    rw [szR_yes (by omega)]
    have n1_a : ¬ (1048576 - (a.bulk : Int) < 0) := by omega
    have a_aq := a_a
    obtain ⟨a_a_0, a_a_1, a_a_2, a_a_3⟩ := a_aq
    have a_alt : w.heap.size < w2.heap.size := (by omega)
    go_wp2_with fail
    clear a_a_0 a_a_1 a_a_2 a_a_3 a_alt
    refine (to_any 2000000 a w.heap.size _ hs_a (by omega) i_a (by omega)).mono ?_
    rintro e w3 ⟨d1_a, rfl, hed1_a, od1_a, hb3⟩
    have z3 := hb3.size
    have a_a := a_a.below hb3 (by omega)
    have b3 := b2.trans (hb3.mono (by omega))
    have i_a := h_a.below b3
    clear hb3
    have Qd1_a := Lib.hid hed1_a
    have sd1_a : d1_a.size ≤ 2000000 := (by rw [D.size_of_er Qd1_a.out]; exact hs_a)
    clear hed1_a
    have a_aq := a_a
    obtain ⟨a_a_0, a_a_1, a_a_2, a_a_3⟩ := a_aq
    have a_alt : w.heap.size < w3.heap.size := (by omega)
    go_wp2_with fail
    clear a_a_0 a_a_1 a_a_2 a_a_3 a_alt
    have hc := specSymsOf_any d1_a w3.heap.size _ (od1_a.inn.more (by omega)) (by omega) sd1_a
    rw [D.symE_of_er Qd1_a.out] at hc
    refine hc.mono ?_
    clear hc
    rintro e w4 ⟨vvA, vvc, rfl, ovv, hb4⟩
    have z4 := hb4.size
    have a_a := a_a.below hb4 (by omega)
    have od1_a := od1_a.below (hb4.mono (by omega))
    have b4 := b3.trans (hb4.mono (by omega))
    have i_a := h_a.below b4
    clear hb4
    clear od1_a
    have a_aq := a_a
    obtain ⟨a_a_0, a_a_1, a_a_2, a_a_3⟩ := a_aq
    have a_alt : w.heap.size < w4.heap.size := (by omega)
    go_wp2_with fail
    clear a_a_0 a_a_1 a_a_2 a_a_3 a_alt
    refine (to_any 2000000 a w.heap.size _ hs_a (by omega) i_a (by omega)).mono ?_
    rintro e w5 ⟨x_a, rfl, hex_a, ox_a, hb5⟩
    have z5 := hb5.size
    have a_a := a_a.below hb5 (by omega)
    have ovv := ovv.below (hb5.mono (by omega))
    have b5 := b4.trans (hb5.mono (by omega))
    have i_a := h_a.below b5
    clear hb5
    have Qx_a := Lib.hid hex_a
    have sx_a : x_a.size ≤ 2000000 := (by rw [D.size_of_er Qx_a.out]; exact hs_a)
    clear hex_a
    simp only [D.val]
    have a_aq := a_a
    obtain ⟨a_a_0, a_a_1, a_a_2, a_a_3⟩ := a_aq
    have a_alt : w.heap.size < w5.heap.size := (by omega)
    go_wp2_with fail
    clear a_a_0 a_a_1 a_a_2 a_a_3 a_alt
    obtain ⟨w6, hw6⟩ : ∃ W, W = w5.alloc (.cells #[.int .i64 x_a.k, .int .i64 x_a.n, .string x_a.t, .slice x_a.A x_a.l.length x_a.c] 25) := ⟨_, rfl⟩
    rw [← hw6]
    have hb6 : Below w5.heap.size w5 w6 := by rw [hw6]; exact (Below.refl _ _).alloc (Nat.le_refl _) _
    have z6 : w5.heap.size + 1 ≤ w6.heap.size := by rw [hw6]; simp
    have y6 : w6.heap.size ≤ w5.heap.size + 1 := by rw [hw6]; simp
    have xb_a : D.Box w6 w5.heap.size x_a := by rw [hw6]; exact D.Box.new _ _ _
    clear hw6
    have a_a := a_a.below hb6 (by omega)
    have ovv := ovv.below (hb6.mono (by omega))
    have ox_a := ox_a.below (hb6.mono (by omega))
    have b6 := b5.trans (hb6.mono (by omega))
    have i_a := h_a.below b6
    clear hb6
    have hc := implSymsOf_any x_a w6.heap.size _ (ox_a.inn.more (by omega)) (by omega) sx_a
    rw [D.symE_of_er Qx_a.out] at hc
    refine hc.mono ?_
    clear hc
    rintro e w7 ⟨gvA, gvc, rfl, ogv, hb7⟩
    have z7 := hb7.size
    have a_a := a_a.below hb7 (by omega)
    have xb_a := xb_a.below hb7 (by omega)
    have ovv := ovv.below (hb7.mono (by omega))
    have ox_a := ox_a.below (hb7.mono (by omega))
    have b7 := b6.trans (hb7.mono (by omega))
    have i_a := h_a.below b7
    clear hb7
    have a_aq := a_a
    obtain ⟨a_a_0, a_a_1, a_a_2, a_a_3⟩ := a_aq
    have a_alt : w.heap.size < w7.heap.size := (by omega)
    have xb_aq := xb_a
    obtain ⟨xb_a_0, xb_a_1, xb_a_2, xb_a_3⟩ := xb_aq
    have xb_alt : w5.heap.size < w7.heap.size := (by omega)
    go_wp2_with fail
    clear a_a_0 a_a_1 a_a_2 a_a_3 a_alt
    clear xb_a_0 xb_a_1 xb_a_2 xb_a_3 xb_alt
    refine (eqT_any gvA gvc (D.symE a) vvA vvc w7.heap.size _ (ogv.inn.more (by omega)) (ovv.inn.more (by omega)) (by omega)).mono ?_
    rintro e w8 ⟨rfl, hb8⟩
    have z8 := hb8.size
    have a_a := a_a.below hb8 (by omega)
    have xb_a := xb_a.below hb8 (by omega)
    have ovv := ovv.below (hb8.mono (by omega))
    have ox_a := ox_a.below (hb8.mono (by omega))
    have ogv := ogv.below (hb8.mono (by omega))
    have b8 := b7.trans (hb8.mono (by omega))
    have i_a := h_a.below b8
    clear hb8
    have a_aq := a_a
    obtain ⟨a_a_0, a_a_1, a_a_2, a_a_3⟩ := a_aq
    have a_alt : w.heap.size < w8.heap.size := (by omega)
    have xb_aq := xb_a
    obtain ⟨xb_a_0, xb_a_1, xb_a_2, xb_a_3⟩ := xb_aq
    have xb_alt : w5.heap.size < w8.heap.size := (by omega)
    go_wp2_with fail
    clear a_a_0 a_a_1 a_a_2 a_a_3 a_alt
    clear xb_a_0 xb_a_1 xb_a_2 xb_a_3 xb_alt
    have a_aq := a_a
    obtain ⟨a_a_0, a_a_1, a_a_2, a_a_3⟩ := a_aq
    have a_alt : w.heap.size < w8.heap.size := (by omega)
    have xb_aq := xb_a
    obtain ⟨xb_a_0, xb_a_1, xb_a_2, xb_a_3⟩ := xb_aq
    have xb_alt : w5.heap.size < w8.heap.size := (by omega)
    have tok0 : True := trivial
    have tok1 : True := trivial
    go_region_held3 (fun w' => w'.cell? ⟨w.heap.size, 0, none⟩ = some (.int .i64 a.k) ∧ w'.cell? ⟨w.heap.size, 1, none⟩ = some (.int .i64 a.n) ∧ w'.cell? ⟨w.heap.size, 2, none⟩ = some (.string a.t) ∧ w'.cell? ⟨w.heap.size, 3, none⟩ = some (.slice a.A a.l.length a.c) ∧ w'.cell? ⟨w5.heap.size, 0, none⟩ = some (.int .i64 x_a.k) ∧ w'.cell? ⟨w5.heap.size, 1, none⟩ = some (.int .i64 x_a.n) ∧ w'.cell? ⟨w5.heap.size, 2, none⟩ = some (.string x_a.t) ∧ w'.cell? ⟨w5.heap.size, 3, none⟩ = some (.slice x_a.A x_a.l.length x_a.c)) (go_keep)
      (first
        | (go_at_call 29; have _t := tok0; refine (to_any 2000000 a w.heap.size _ hs_a ?_ ?_ ?_).mono ?_; omega; exact i_a.drew; (show w.heap.size ≤ w8.heap.size); omega; rintro e w9 ⟨y_a, rfl, hey_a, oy_a, hb9⟩; have hb9 : Below w8.heap.size w8 w9 := below_undrew hb9; have z9 : w8.heap.size ≤ w9.heap.size := hb9.size; clear tok0; have Qy_a := Lib.hid hey_a; clear hey_a; have a_a := a_a.below hb9 (by omega); have xb_a := xb_a.below hb9 (by omega); have ovv := ovv.below (hb9.mono (by omega)); have ox_a := ox_a.below (hb9.mono (by omega)); have ogv := ogv.below (hb9.mono (by omega)); have b9 := b8.trans (hb9.mono (by omega)); have i_a := h_a.below b9; clear hb9; have a_aq := a_a; obtain ⟨a_a_0, a_a_1, a_a_2, a_a_3⟩ := a_aq; have a_alt : w.heap.size < w9.heap.size := (by omega); have xb_aq := xb_a; obtain ⟨xb_a_0, xb_a_1, xb_a_2, xb_a_3⟩ := xb_aq; have xb_alt : w5.heap.size < w9.heap.size := (by omega))
        | (go_at_call 30; have _t := tok1; refine (eq_all 2000000 x_a y_a w9.heap.size _ ?_ ?_ ?_ ?_).mono ?_; omega; exact ox_a.inn.more (by omega); exact oy_a.inn.more (by omega); omega; rintro e w10 ⟨rfl, hb10⟩; have z10 : w9.heap.size ≤ w10.heap.size := hb10.size; clear tok1; have a_a := a_a.below hb10 (by omega); have xb_a := xb_a.below hb10 (by omega); have ovv := ovv.below (hb10.mono (by omega)); have ox_a := ox_a.below (hb10.mono (by omega)); have ogv := ogv.below (hb10.mono (by omega)); have b10 := b9.trans (hb10.mono (by omega)); have i_a := h_a.below b10; clear hb10; have a_aq := a_a; obtain ⟨a_a_0, a_a_1, a_a_2, a_a_3⟩ := a_aq; have a_alt : w.heap.size < w10.heap.size := (by omega); have xb_aq := xb_a; obtain ⟨xb_a_0, xb_a_1, xb_a_2, xb_a_3⟩ := xb_aq; have xb_alt : w5.heap.size < w10.heap.size := (by omega)))
    clear a_a_0 a_a_1 a_a_2 a_a_3 a_alt
    clear xb_a_0 xb_a_1 xb_a_2 xb_a_3 xb_alt
    have Ey_a : D.eqB x_a y_a = true := D.eqB_of_er (Qx_a.out.trans Qy_a.out.symm)
    rw [Ey_a]
    clear Ey_a oy_a
    have a_aq := a_a
    obtain ⟨a_a_0, a_a_1, a_a_2, a_a_3⟩ := a_aq
    have a_alt : w.heap.size < w10.heap.size := (by omega)
    have xb_aq := xb_a
    obtain ⟨xb_a_0, xb_a_1, xb_a_2, xb_a_3⟩ := xb_aq
    have xb_alt : w5.heap.size < w10.heap.size := (by omega)
    go_wp2_with fail
    clear a_a_0 a_a_1 a_a_2 a_a_3 a_alt
    clear xb_a_0 xb_a_1 xb_a_2 xb_a_3 xb_alt
    refine (markD_any x_a w4.heap.size w5.heap.size _ 1 (by omega) (by omega) (by omega) ox_a (by omega)).mono ?_
    rintro e w11 ⟨rfl, x_am, hc11⟩
    have z11 := hc11.size
    have hl11 : ∀ k ∈ D.blks x_a, w4.heap.size ≤ k ∧ k < w5.heap.size := fun k hk => ⟨ox_a.lo_ _ hk, ox_a.inn.blk_lt _ hk⟩
    have a_a := a_a.chg hc11 (by omega) (fun hm => by have := hl11 _ hm; omega)
    have xb_a := xb_a.chg hc11 (by omega) (fun hm => by have := hl11 _ hm; omega)
    have ovv := ovv.keep (w' := w11) (fun k hk => hc11.block k (by have := ovv.inn.blk_lt _ hk; omega) (fun hm => by have := hl11 _ hm; have := ovv.inn.blk_lt _ hk; have := ovv.lo_ _ hk; omega))
    have ogv := ogv.keep (w' := w11) (fun k hk => hc11.block k (by have := ogv.inn.blk_lt _ hk; omega) (fun hm => by have := hl11 _ hm; have := ogv.inn.blk_lt _ hk; have := ogv.lo_ _ hk; omega))
    have b11 : Below w.heap.size w w11 := b10.trans (hc11.below (fun k hk => by have := hl11 _ hk; omega) (by omega))
    have i_a := h_a.below b11
    have ox_a := x_am
    clear hc11 hl11 x_am
    have n2_a : ¬ (1 + 3 * (D.sizeL x_a.l : Int) < 0) := by omega
    clear ox_a
    have a_aq := a_a
    obtain ⟨a_a_0, a_a_1, a_a_2, a_a_3⟩ := a_aq
    have a_alt : w.heap.size < w11.heap.size := (by omega)
    have xb_aq := xb_a
    obtain ⟨xb_a_0, xb_a_1, xb_a_2, xb_a_3⟩ := xb_aq
    have xb_alt : w5.heap.size < w11.heap.size := (by omega)
    go_wp2_with fail
    clear a_a_0 a_a_1 a_a_2 a_a_3 a_alt
    clear xb_a_0 xb_a_1 xb_a_2 xb_a_3 xb_alt
    refine (eqT_any gvA gvc (D.symE a) vvA vvc w11.heap.size _ (ogv.inn.more (by omega)) (ovv.inn.more (by omega)) (by omega)).mono ?_
    rintro e w12 ⟨rfl, hb12⟩
    have z12 := hb12.size
    have a_a := a_a.below hb12 (by omega)
    have xb_a := xb_a.below hb12 (by omega)
    have ovv := ovv.below (hb12.mono (by omega))
    have ogv := ogv.below (hb12.mono (by omega))
    have b12 := b11.trans (hb12.mono (by omega))
    have i_a := h_a.below b12
    clear hb12
    have a_aq := a_a
    obtain ⟨a_a_0, a_a_1, a_a_2, a_a_3⟩ := a_aq
    have a_alt : w.heap.size < w12.heap.size := (by omega)
    have xb_aq := xb_a
    obtain ⟨xb_a_0, xb_a_1, xb_a_2, xb_a_3⟩ := xb_aq
    have xb_alt : w5.heap.size < w12.heap.size := (by omega)
    go_wp2_with fail
    clear a_a_0 a_a_1 a_a_2 a_a_3 a_alt
    clear xb_a_0 xb_a_1 xb_a_2 xb_a_3 xb_alt
    refine (markT_any gvA gvc (D.symE a) w6.heap.size w7.heap.size _ 1 hT (by omega) (by omega) ogv (by omega)).mono ?_
    rintro e w13 ⟨rfl, gvm, hc13⟩
    have z13 := hc13.size
    have hl13 : ∀ k ∈ tblk gvA (D.symE a), w6.heap.size ≤ k ∧ k < w7.heap.size := fun k hk => ⟨ogv.lo_ _ hk, ogv.inn.blk_lt _ hk⟩
    have a_a := a_a.chg hc13 (by omega) (fun hm => by have := hl13 _ hm; omega)
    have xb_a := xb_a.chg hc13 (by omega) (fun hm => by have := hl13 _ hm; omega)
    have ovv := ovv.keep (w' := w13) (fun k hk => hc13.block k (by have := ovv.inn.blk_lt _ hk; omega) (fun hm => by have := hl13 _ hm; have := ovv.inn.blk_lt _ hk; have := ovv.lo_ _ hk; omega))
    have b13 : Below w.heap.size w w13 := b12.trans (hc13.below (fun k hk => by have := hl13 _ hk; omega) (by omega))
    have i_a := h_a.below b13
    have ogv := gvm
    clear hc13 hl13 gvm
    have a_aq := a_a
    obtain ⟨a_a_0, a_a_1, a_a_2, a_a_3⟩ := a_aq
    have a_alt : w.heap.size < w13.heap.size := (by omega)
    have xb_aq := xb_a
    obtain ⟨xb_a_0, xb_a_1, xb_a_2, xb_a_3⟩ := xb_aq
    have xb_alt : w5.heap.size < w13.heap.size := (by omega)
    go_wp2_with fail
    clear a_a_0 a_a_1 a_a_2 a_a_3 a_alt
    clear xb_a_0 xb_a_1 xb_a_2 xb_a_3 xb_alt
    refine (heldT_any gvA gvc (D.symE a) w7.heap.size _ 1 hT (by omega) (by omega) ogv.inn (by omega)).mono ?_
    rintro e w14 ⟨rfl, hb14⟩
    have z14 := hb14.size
    have a_a := a_a.below hb14 (by omega)
    have xb_a := xb_a.below hb14 (by omega)
    have ovv := ovv.below (hb14.mono (by omega))
    have ogv := ogv.below (hb14.mono (by omega))
    have b14 := b13.trans (hb14.mono (by omega))
    have i_a := h_a.below b14
    clear hb14
    have n3 : ¬ (1 + ((D.symE a).length : Int) < 0) := by omega
    have a_aq := a_a
    obtain ⟨a_a_0, a_a_1, a_a_2, a_a_3⟩ := a_aq
    have a_alt : w.heap.size < w14.heap.size := (by omega)
    have xb_aq := xb_a
    obtain ⟨xb_a_0, xb_a_1, xb_a_2, xb_a_3⟩ := xb_aq
    have xb_alt : w5.heap.size < w14.heap.size := (by omega)
    go_wp2_with fail
    clear a_a_0 a_a_1 a_a_2 a_a_3 a_alt
    clear xb_a_0 xb_a_1 xb_a_2 xb_a_3 xb_alt
    refine (to_any 2000000 a w.heap.size _ hs_a (by omega) i_a (by omega)).mono ?_
    rintro e w15 ⟨d4_a, rfl, hed4_a, od4_a, hb15⟩
    have z15 := hb15.size
    have a_a := a_a.below hb15 (by omega)
    have xb_a := xb_a.below hb15 (by omega)
    have ovv := ovv.below (hb15.mono (by omega))
    have ogv := ogv.below (hb15.mono (by omega))
    have b15 := b14.trans (hb15.mono (by omega))
    have i_a := h_a.below b15
    clear hb15
    have Qd4_a := Lib.hid hed4_a
    have sd4_a : d4_a.size ≤ 2000000 := (by rw [D.size_of_er Qd4_a.out]; exact hs_a)
    clear hed4_a
    have a_aq := a_a
    obtain ⟨a_a_0, a_a_1, a_a_2, a_a_3⟩ := a_aq
    have a_alt : w.heap.size < w15.heap.size := (by omega)
    have xb_aq := xb_a
    obtain ⟨xb_a_0, xb_a_1, xb_a_2, xb_a_3⟩ := xb_aq
    have xb_alt : w5.heap.size < w15.heap.size := (by omega)
    go_wp2_with fail
    clear a_a_0 a_a_1 a_a_2 a_a_3 a_alt
    clear xb_a_0 xb_a_1 xb_a_2 xb_a_3 xb_alt
    have hc := implSymsOf_any d4_a w15.heap.size _ (od4_a.inn.more (by omega)) (by omega) sd4_a
    rw [D.symE_of_er Qd4_a.out] at hc
    refine hc.mono ?_
    clear hc
    rintro e w16 ⟨hvA, hvc, rfl, ohv, hb16⟩
    have z16 := hb16.size
    have a_a := a_a.below hb16 (by omega)
    have xb_a := xb_a.below hb16 (by omega)
    have ovv := ovv.below (hb16.mono (by omega))
    have ogv := ogv.below (hb16.mono (by omega))
    have od4_a := od4_a.below (hb16.mono (by omega))
    have b16 := b15.trans (hb16.mono (by omega))
    have i_a := h_a.below b16
    clear hb16
    clear od4_a
    have a_aq := a_a
    obtain ⟨a_a_0, a_a_1, a_a_2, a_a_3⟩ := a_aq
    have a_alt : w.heap.size < w16.heap.size := (by omega)
    have xb_aq := xb_a
    obtain ⟨xb_a_0, xb_a_1, xb_a_2, xb_a_3⟩ := xb_aq
    have xb_alt : w5.heap.size < w16.heap.size := (by omega)
    go_wp2_with fail
    clear a_a_0 a_a_1 a_a_2 a_a_3 a_alt
    clear xb_a_0 xb_a_1 xb_a_2 xb_a_3 xb_alt
    refine (eqT_any hvA hvc (D.symE a) vvA vvc w16.heap.size _ (ohv.inn.more (by omega)) (ovv.inn.more (by omega)) (by omega)).mono ?_
    rintro e w17 ⟨rfl, hb17⟩
    have z17 := hb17.size
    have a_a := a_a.below hb17 (by omega)
    have xb_a := xb_a.below hb17 (by omega)
    have ovv := ovv.below (hb17.mono (by omega))
    have ogv := ogv.below (hb17.mono (by omega))
    have ohv := ohv.below (hb17.mono (by omega))
    have b17 := b16.trans (hb17.mono (by omega))
    have i_a := h_a.below b17
    clear hb17
    have a_aq := a_a
    obtain ⟨a_a_0, a_a_1, a_a_2, a_a_3⟩ := a_aq
    have a_alt : w.heap.size < w17.heap.size := (by omega)
    have xb_aq := xb_a
    obtain ⟨xb_a_0, xb_a_1, xb_a_2, xb_a_3⟩ := xb_aq
    have xb_alt : w5.heap.size < w17.heap.size := (by omega)
    go_wp2_with fail
    clear a_a_0 a_a_1 a_a_2 a_a_3 a_alt
    clear xb_a_0 xb_a_1 xb_a_2 xb_a_3 xb_alt
    refine (heldT_any gvA gvc (D.symE a) w7.heap.size _ 1 hT (by omega) (by omega) ogv.inn (by omega)).mono ?_
    rintro e w18 ⟨rfl, hb18⟩
    have z18 := hb18.size
    have a_a := a_a.below hb18 (by omega)
    have xb_a := xb_a.below hb18 (by omega)
    have ovv := ovv.below (hb18.mono (by omega))
    have ogv := ogv.below (hb18.mono (by omega))
    have ohv := ohv.below (hb18.mono (by omega))
    have b18 := b17.trans (hb18.mono (by omega))
    have i_a := h_a.below b18
    clear hb18
    have a_aq := a_a
    obtain ⟨a_a_0, a_a_1, a_a_2, a_a_3⟩ := a_aq
    have a_alt : w.heap.size < w18.heap.size := (by omega)
    have xb_aq := xb_a
    obtain ⟨xb_a_0, xb_a_1, xb_a_2, xb_a_3⟩ := xb_aq
    have xb_alt : w5.heap.size < w18.heap.size := (by omega)
    go_wp2_with fail
    clear a_a_0 a_a_1 a_a_2 a_a_3 a_alt
    clear xb_a_0 xb_a_1 xb_a_2 xb_a_3 xb_alt
    go_ret
    exact ⟨rfl, b18⟩
  · have b0 : Below w.heap.size w w := Below.refl _ _
    have i_a := h_a
    go_enter Try.func5, Try.ntmps5
    go_wp2_with fail
    obtain ⟨w1, hw1⟩ : ∃ W, W = w.alloc (.cells #[.int .i64 a.k, .int .i64 a.n, .string a.t, .slice a.A a.l.length a.c] 35) := ⟨_, rfl⟩
    rw [← hw1]
    have hb1 : Below w.heap.size w w1 := by rw [hw1]; exact (Below.refl _ _).alloc (Nat.le_refl _) _
    have z1 : w.heap.size + 1 ≤ w1.heap.size := by rw [hw1]; simp
    have y1 : w1.heap.size ≤ w.heap.size + 1 := by rw [hw1]; simp
    have a_a : D.Box w1 w.heap.size a := by rw [hw1]; exact D.Box.new _ _ _
    clear hw1
    have b1 := b0.trans (hb1.mono (by omega))
    have i_a := h_a.below b1
    clear hb1
    refine (sz_any (a.size + 1) a w.heap.size _ 1048576 (by omega) (by omega) (by omega) i_a (by omega)).mono ?_
    rintro e w2 ⟨rfl, hb2⟩
    have z2 := hb2.size
    have a_a := a_a.below hb2 (by omega)
    have b2 := b1.trans (hb2.mono (by omega))
    have i_a := h_a.below b2
    clear hb2
    rw [szR_no (by omega)]
    have a_aq := a_a
    obtain ⟨a_a_0, a_a_1, a_a_2, a_a_3⟩ := a_aq
    have a_alt : w.heap.size < w2.heap.size := (by omega)
    go_wp2_with fail
    clear a_a_0 a_a_1 a_a_2 a_a_3 a_alt
    go_ret
    exact ⟨rfl, b2⟩
end Go.Proofs.Ytiopophoioiafaa
