/-
  The law on TemplateFits, walked (written by gen/tfz.py).
-/
import Derived.Test.YtndckeodpoommaaTfProg
import Derived.Test.YtndckeodpoommaaKaQ
import Derived.Deep.RegionHeld3
namespace Go.Proofs.Ytndckeodpoommaa
open Go.RowKit

namespace S
theorem isDots_er (d : S) : isDots (er d) = isDots d := isDots_of_er (er_er d)
theorem fits_er (f g : S → Option Int) (hfg : ∀ x : S, g (er x) = f x) : ∀ d : S, ∀ n : Int, fitsM g (er d) n = fitsM f d n ∧ drives g (er d) n = drives f d n := by
  intro d
  induction d using ind with
  | h d ih =>
    intro n
    have key : ∀ (k : Nat) (l : List S), l.length ≤ k → (∀ x ∈ l, x ∈ d.l) → ∀ n : Int, fitsML g (erL l) n = fitsML f l n ∧ drivesL g (erL l) n = drivesL f l n := by
      intro k
      induction k with
      | zero =>
        intro l hl _ n
        obtain rfl := List.length_eq_zero_iff.1 (Nat.le_zero.1 hl)
        simp [erL, fitsML, drivesL]
      | succ k ik =>
        intro l hl hm n
        match l, hl, hm with
        | [], _, _ => simp [erL, fitsML, drivesL]
        | [x], _, hm =>
          have hx := ih x (hm x (by simp))
          simp only [erL, fitsML, drivesL, (hx n).1, (hx n).2, and_self]
        | x :: y :: r, hl, hm =>
          simp only [List.length_cons] at hl
          have hx := ih x (hm x (by simp))
          have h1 := ik (y :: r) (by simp; omega) (fun z hz => hm z (by simp at hz ⊢; right; exact hz)) n
          have h2 := ik r (by omega) (fun z hz => hm z (by simp [hz])) n
          simp only [erL] at h1
          refine ⟨?_, ?_⟩
          · simp only [erL]
            rw [fitsML, fitsML, (hx n).1, (hx n).2, (hx (n + 1)).1, h1.1, h2.1, isDots_er, isDots_er]
          · show (drives g (er x) n || drivesL g (er y :: erL r) n) = (drives f x n || drivesL f (y :: r) n)
            rw [(hx n).2, h1.2]
    have hl := key d.l.length d.l (Nat.le_refl _) (fun _ h => h) n
    have e1 : (er d).k = d.k := k_of_er (er_er d)
    have e2 : (er d).l = erL d.l := by cases d; rfl
    rw [fitsM_eq, fitsM_eq, drives_eq, drives_eq, e1, e2, hl.1, hl.2, isDots_er, hfg d]
    constructor <;> (split <;> rfl)
end S
theorem Ka.erL_idem (l : List (Tr Ka)) : Tr.erL Ka.er (Tr.erL Ka.er l) = Tr.erL Ka.er l := by
  have key : ∀ d : Tr Ka, (d.er Ka.er).er Ka.er = d.er Ka.er := by
    intro d
    induction d using Tr.ind with
    | h d ih =>
      cases d with
      | mk a A c l =>
        have k2 : ∀ m : List (Tr Ka), (∀ x ∈ m, x ∈ l) → Tr.erL Ka.er (Tr.erL Ka.er m) = Tr.erL Ka.er m := by
          intro m
          induction m with
          | nil => intro _; rfl
          | cons x r ihr => intro hs; simp only [Tr.erL, ih x (hs x (by simp)), ihr fun y hy => hs y (by simp [hy])]
        simp only [Tr.er, Ka.er_er, k2 l fun _ h => h]
  rw [Tr.erL_map, Tr.erL_map, List.map_map]
  congr 1
  funext d
  exact key d
theorem Ka.er_a (x : Tr Ka) : (x.er Ka.er).a = Ka.er x.a := by cases x; rfl
theorem Ka.samM_er (d : S) (x : Tr Ka) : Ka.samM (S.er d) (x.er Ka.er) = Ka.samM d x := by
  unfold Ka.samM
  rw [Ka.er_a, S.isDots_er]
  show ((S.er x.a.N).t.toList == (S.er d).t.toList && (S.er x.a.N).s == (S.er d).s && (!d.isDots && (S.er x.a.N).isI)) = _
  rw [S.t_of_er (S.er_er x.a.N), S.t_of_er (S.er_er d), S.s_of_er (S.er_er x.a.N), S.s_of_er (S.er_er d), S.isI_of_er (S.er_er x.a.N)]
theorem Ka.okV_er (x : Tr Ka) : Ka.okV (x.er Ka.er) = Ka.okV x := by
  unfold Ka.okV
  rw [Ka.er_a]
  show ((S.er x.a.N).isI && decide (0 ≤ x.a.dep)) = _
  rw [S.isI_of_er (S.er_er x.a.N)]
theorem Ka.mdep_er (l : List (Tr Ka)) (d : S) : Ka.mdep (Tr.erL Ka.er l) (S.er d) = Ka.mdep l d := by
  unfold Ka.mdep
  rw [Tr.erL_map, List.find?_map]
  have e : (Ka.samM (S.er d) ∘ Tr.er Ka.er) = Ka.samM d := by funext x; exact Ka.samM_er d x
  rw [e]
  cases l.find? (Ka.samM d) with
  | none => rfl
  | some x => simp only [Option.map_some]; rw [Ka.er_a]; rfl
theorem Ka.tfits_canon (l : List (Tr Ka)) (d : S) : Ka.tfits (Tr.erL Ka.er l) (S.er d) = Ka.tfits l d := by
  unfold Ka.tfits
  rw [S.isS_of_er (S.er_er d), (S.fits_er (Ka.mdep l) (Ka.mdep (Tr.erL Ka.er l)) (Ka.mdep_er l) d 0).1, Tr.erL_map, List.all_map]
  have e : (Ka.okV ∘ Tr.er Ka.er) = Ka.okV := by funext x; exact Ka.okV_er x
  rw [e]
theorem Ka.tfits_er {l l0 : List (Tr Ka)} {d d0 : S} (hl : Tr.erL Ka.er l = Tr.erL Ka.er l0) (hd : d.er = d0.er) : Ka.tfits l d = Ka.tfits l0 d0 := by
  rw [← Ka.tfits_canon l d, hl, hd, Ka.tfits_canon]
theorem specTf_c (A : Option Addr) (c : Nat) (l : List (Tr Ka)) (d : S) {l0 : List (Tr Ka)} {d0 : S} (B : Nat) (w : World) (hl : Tr.erL Ka.er l = Tr.erL Ka.er l0) (hd : d.er = d0.er) {X : Bool} (hX : X = Ka.tfits l0 d0) (hbl : Tr.bulkL Ka.bulk l0 ≤ 1500000) (hds : d0.size ≤ 2000000) (ha : Ka.E.LIn w B A c l) (hin : d.In w B) (hB : B ≤ w.heap.size) :
    Calls Try.prog 36 #[.slice A l.length c, d.val] w fun e w' => e = .returned (.bool X) ∧ Below w.heap.size w w' := by
  rw [hX, ← Ka.tfits_er hl hd]
  exact specTf_any A c l d B w ha hin hB (by rw [Tr.bulkL_of_er (fun _ _ => Ka.bulk_of_er) l l0 hl]; exact hbl) (by rw [S.size_of_er hd]; exact hds)
theorem implTf_c (A : Option Addr) (c : Nat) (l : List (Tr Ka)) (d : S) {l0 : List (Tr Ka)} {d0 : S} (B : Nat) (w : World) (hl : Tr.erL Ka.er l = Tr.erL Ka.er l0) (hd : d.er = d0.er) {X : Bool} (hX : X = Ka.tfits l0 d0) (hbl : Tr.bulkL Ka.bulk l0 ≤ 1500000) (hds : d0.size ≤ 2000000) (ha : Ka.E.LIn w B A c l) (hin : d.In w B) (hB : B ≤ w.heap.size) :
    Calls Try.prog 39 #[.slice A l.length c, d.val] w fun e w' => e = .returned (.bool X) ∧ Below w.heap.size w w' := by
  rw [hX, ← Ka.tfits_er hl hd]
  exact implTf_any A c l d B w ha hin hB (by have := congrArg List.length hl; rw [Tr.erL_length, Tr.erL_length] at this; have := Tr.length_le_sizeL l0; have := Tr.sizeL_le_bulkL Ka.bulk l0; omega) (by rw [S.size_of_er hd]; exact hds)

set_option maxRecDepth 100000 in
set_option maxHeartbeats 4000000 in
theorem law_tf (A_a : Option Addr) (c_a : Nat) (a : List (Tr Ka)) (b : S) (w : World) (h_a : Ka.E.LIn w w.heap.size A_a c_a a) (h_b : b.In w w.heap.size) : Calls Try.prog 8 #[.slice A_a a.length c_a, b.val] w fun e w' => e = .returned (.bool true) ∧ Below w.heap.size w w' := by
  unfold S.val
  by_cases hz_a : (Tr.bulkL Ka.bulk a : Int) ≤ 1048576
  · have hs_a : Tr.bulkL Ka.bulk a ≤ 1500000 := by omega
    by_cases hz_b : (b.bulk : Int) ≤ 1048576 - (Tr.bulkL Ka.bulk a : Int)
    · have hs_b : b.size ≤ 1048577 := by have := S.bulk_size b; omega
      have hs_b : b.size ≤ 2000000 := by omega
      have hk_b : b.bulk ≤ 1048576 := by omega
      have hb_b : b.bulk ≤ 2000000 := by omega
      obtain ⟨X, hX⟩ : ∃ X, X = Ka.tfits a b := ⟨_, rfl⟩
      have HX := Lib.hid hX
      clear hX
      have nq : (X != X) = false := by simp
      have b0 : Below w.heap.size w w := Below.refl _ _
      have i_a := h_a
      have i_b := h_b
      go_enter Try.func8, Try.ntmps8
      go_wp2_with fail
      obtain ⟨w1, hw1⟩ : ∃ W, W = w.alloc (.cells #[.int .i64 b.k, .int .i64 b.n, .string b.t, .slice b.sa b.s.length b.sc, .slice b.A b.l.length b.c] 85) := ⟨_, rfl⟩
      rw [← hw1]
      have hb1 : Below w.heap.size w w1 := by rw [hw1]; exact (Below.refl _ _).alloc (Nat.le_refl _) _
      have z1 : w.heap.size + 1 ≤ w1.heap.size := by rw [hw1]; simp
      have y1 : w1.heap.size ≤ w.heap.size + 1 := by rw [hw1]; simp
      have a_b : S.Box w1 w.heap.size b := by rw [hw1]; exact S.Box.new _ _ _
      clear hw1
      have b1 := b0.trans (hb1.mono (by omega))
      have i_a := h_a.below b1
      have i_b := h_b.below b1
      clear hb1
      refine (Ka_szL_any A_a c_a a w.heap.size _ 1048576 (by omega) (by omega) i_a (by omega)).mono ?_
      rintro e w2 ⟨rfl, hb2⟩
      have z2 := hb2.size
      have a_b := a_b.below hb2 (by omega)
      have b2 := b1.trans (hb2.mono (by omega))
      have i_a := h_a.below b2
      have i_b := h_b.below b2
      clear hb2
      rw [szR_yes (by omega)]
      have n1_a : ¬ (1048576 - (Tr.bulkL Ka.bulk a : Int) < 0) := by omega
      have a_bq := a_b
      obtain ⟨a_b_0, a_b_1, a_b_2, a_b_3, a_b_4⟩ := a_bq
      have a_blt : w.heap.size < w2.heap.size := (by omega)
      go_wp2_with fail
      clear a_b_0 a_b_1 a_b_2 a_b_3 a_b_4 a_blt
      refine (ssz_any 2000000 b w.heap.size _ (1048576 - (Tr.bulkL Ka.bulk a : Int)) hs_b (by omega) (by omega) i_b (by omega)).mono ?_
      rintro e w3 ⟨rfl, hb3⟩
      have z3 := hb3.size
      have a_b := a_b.below hb3 (by omega)
      have b3 := b2.trans (hb3.mono (by omega))
      have i_a := h_a.below b3
      have i_b := h_b.below b3
      clear hb3
      rw [szR_yes (by omega)]
      have n1_b : ¬ (1048576 - (Tr.bulkL Ka.bulk a : Int) - (b.bulk : Int) < 0) := by omega
      have a_bq := a_b
      obtain ⟨a_b_0, a_b_1, a_b_2, a_b_3, a_b_4⟩ := a_bq
      have a_blt : w.heap.size < w3.heap.size := (by omega)
      go_wp2_with fail
      clear a_b_0 a_b_1 a_b_2 a_b_3 a_b_4 a_blt
      have a_bq := a_b
      obtain ⟨a_b_0, a_b_1, a_b_2, a_b_3, a_b_4⟩ := a_bq
      have a_blt : w.heap.size < w3.heap.size := (by omega)
      have tok0 : True := trivial
      have tok1 : True := trivial
      have tok2 : True := trivial
      go_region_held3 (fun w' => w'.cell? ⟨w.heap.size, 0, none⟩ = some (.int .i64 b.k) ∧ w'.cell? ⟨w.heap.size, 1, none⟩ = some (.int .i64 b.n) ∧ w'.cell? ⟨w.heap.size, 2, none⟩ = some (.string b.t) ∧ w'.cell? ⟨w.heap.size, 3, none⟩ = some (.slice b.sa b.s.length b.sc) ∧ w'.cell? ⟨w.heap.size, 4, none⟩ = some (.slice b.A b.l.length b.c)) (go_keep)
        (first
          | (go_simp; go_at_call 37; have _t := tok0; have hcon := Ka_toL_any A_a c_a a w.heap.size w3.drew hs_a i_a.drew (show w.heap.size ≤ w3.heap.size by omega); (with_reducible refine hcon.mono ?_); clear hcon; rintro e w4 ⟨d1_aA, d1_ac, d1_a, rfl, hed1_a, od1_a, hb4⟩; have hb4 : Below w3.heap.size w3 w4 := below_undrew hb4; have z4 : w3.heap.size ≤ w4.heap.size := hb4.size; clear tok0; have Qd1_a := Lib.hid hed1_a; have sd1_a : Tr.bulkL Ka.bulk d1_a ≤ 1500000 := (by rw [Tr.bulkL_of_er (fun _ _ => Ka.bulk_of_er) d1_a a Qd1_a.out]; exact hs_a); clear hed1_a; clear a_b_0 a_b_1 a_b_2 a_b_3 a_b_4 a_blt; have a_b := a_b.below hb4 (by omega); have b4 := b3.trans (hb4.mono (by omega)); have i_a := h_a.below b4; have i_b := h_b.below b4; clear hb4; have a_bq := a_b; obtain ⟨a_b_0, a_b_1, a_b_2, a_b_3, a_b_4⟩ := a_bq; have a_blt : w.heap.size < w4.heap.size := (by omega))
          | (go_simp; go_at_call 38; have _t := tok1; have hcon := sto_any 2000000 b w.heap.size w4 hb_b hs_b (by omega) i_b (by omega); (first | (with_reducible refine hcon.mono ?_) | (simp only [S.val] at hcon; with_reducible refine hcon.mono ?_)); clear hcon; rintro e w5 ⟨d1_b, rfl, hed1_b, od1_b, hb5⟩; have z5 : w4.heap.size ≤ w5.heap.size := hb5.size; clear tok1; have Qd1_b := Lib.hid hed1_b; obtain ⟨sd1_b, kd1_b, td1_b⟩ := S.bounds_of Qd1_b.out (by rw [S.size_er]; omega) (by rw [S.bulk_er]; omega); clear hed1_b; clear a_b_0 a_b_1 a_b_2 a_b_3 a_b_4 a_blt; have a_b := a_b.below hb5 (by omega); have od1_a := od1_a.below (hb5.mono (by omega)); have b5 := b4.trans (hb5.mono (by omega)); have i_a := h_a.below b5; have i_b := h_b.below b5; clear hb5; have a_bq := a_b; obtain ⟨a_b_0, a_b_1, a_b_2, a_b_3, a_b_4⟩ := a_bq; have a_blt : w.heap.size < w5.heap.size := (by omega))
          | (go_simp; go_at_call 36; have _t := tok2; have hcon := specTf_c d1_aA d1_ac d1_a d1_b w5.heap.size w5 Qd1_a.out Qd1_b.out HX.out hs_a hs_b (od1_a.inn.more (by omega)) (od1_b.inn.more (by omega)) (by omega); (first | (with_reducible refine hcon.mono ?_) | (simp only [S.val] at hcon; with_reducible refine hcon.mono ?_)); clear hcon; rintro e w6 ⟨rfl, hb6⟩; have z6 : w5.heap.size ≤ w6.heap.size := hb6.size; clear tok2; clear a_b_0 a_b_1 a_b_2 a_b_3 a_b_4 a_blt; have a_b := a_b.below hb6 (by omega); have od1_a := od1_a.below (hb6.mono (by omega)); have od1_b := od1_b.below (hb6.mono (by omega)); have b6 := b5.trans (hb6.mono (by omega)); have i_a := h_a.below b6; have i_b := h_b.below b6; clear hb6; have a_bq := a_b; obtain ⟨a_b_0, a_b_1, a_b_2, a_b_3, a_b_4⟩ := a_bq; have a_blt : w.heap.size < w6.heap.size := (by omega))
          | fail)
      clear a_b_0 a_b_1 a_b_2 a_b_3 a_b_4 a_blt
      clear od1_a
      clear od1_b
      have a_bq := a_b
      obtain ⟨a_b_0, a_b_1, a_b_2, a_b_3, a_b_4⟩ := a_bq
      have a_blt : w.heap.size < w6.heap.size := (by omega)
      go_wp2_with fail
      clear a_b_0 a_b_1 a_b_2 a_b_3 a_b_4 a_blt
      refine (Ka_toL_any A_a c_a a w.heap.size _ hs_a i_a (by omega)).mono ?_
      rintro e w7 ⟨x_aA, x_ac, x_a, rfl, hex_a, ox_a, hb7⟩
      have z7 := hb7.size
      have a_b := a_b.below hb7 (by omega)
      have b7 := b6.trans (hb7.mono (by omega))
      have i_a := h_a.below b7
      have i_b := h_b.below b7
      clear hb7
      have Qx_a := Lib.hid hex_a
      have sx_a : Tr.bulkL Ka.bulk x_a ≤ 1500000 := (by rw [Tr.bulkL_of_er (fun _ _ => Ka.bulk_of_er) x_a a Qx_a.out]; exact hs_a)
      clear hex_a
      have a_bq := a_b
      obtain ⟨a_b_0, a_b_1, a_b_2, a_b_3, a_b_4⟩ := a_bq
      have a_blt : w.heap.size < w7.heap.size := (by omega)
      go_wp2_with fail
      clear a_b_0 a_b_1 a_b_2 a_b_3 a_b_4 a_blt
      refine (sto_any 2000000 b w.heap.size _ hb_b hs_b (by omega) i_b (by omega)).mono ?_
      rintro e w8 ⟨x_b, rfl, hex_b, ox_b, hb8⟩
      have z8 := hb8.size
      have a_b := a_b.below hb8 (by omega)
      have ox_a := ox_a.below (hb8.mono (by omega))
      have b8 := b7.trans (hb8.mono (by omega))
      have i_a := h_a.below b8
      have i_b := h_b.below b8
      clear hb8
      have Qx_b := Lib.hid hex_b
      obtain ⟨sx_b, kx_b, tx_b⟩ := S.bounds_of Qx_b.out (by rw [S.size_er]; omega) (by rw [S.bulk_er]; omega)
      clear hex_b
      simp only [S.val]
      have a_bq := a_b
      obtain ⟨a_b_0, a_b_1, a_b_2, a_b_3, a_b_4⟩ := a_bq
      have a_blt : w.heap.size < w8.heap.size := (by omega)
      go_wp2_with fail
      clear a_b_0 a_b_1 a_b_2 a_b_3 a_b_4 a_blt
      obtain ⟨w9, hw9⟩ : ∃ W, W = w8.alloc (.cells #[.int .i64 x_b.k, .int .i64 x_b.n, .string x_b.t, .slice x_b.sa x_b.s.length x_b.sc, .slice x_b.A x_b.l.length x_b.c] 93) := ⟨_, rfl⟩
      rw [← hw9]
      have hb9 : Below w8.heap.size w8 w9 := by rw [hw9]; exact (Below.refl _ _).alloc (Nat.le_refl _) _
      have z9 : w8.heap.size + 1 ≤ w9.heap.size := by rw [hw9]; simp
      have y9 : w9.heap.size ≤ w8.heap.size + 1 := by rw [hw9]; simp
      have xb_b : S.Box w9 w8.heap.size x_b := by rw [hw9]; exact S.Box.new _ _ _
      clear hw9
      have a_b := a_b.below hb9 (by omega)
      have ox_a := ox_a.below (hb9.mono (by omega))
      have ox_b := ox_b.below (hb9.mono (by omega))
      have b9 := b8.trans (hb9.mono (by omega))
      have i_a := h_a.below b9
      have i_b := h_b.below b9
      clear hb9
      refine (implTf_c x_aA x_ac x_a x_b w9.heap.size _ Qx_a.out Qx_b.out HX.out hs_a hs_b (ox_a.inn.more (by omega)) (ox_b.inn.more (by omega)) (by omega)).mono ?_
      rintro e w10 ⟨rfl, hb10⟩
      have z10 := hb10.size
      have a_b := a_b.below hb10 (by omega)
      have xb_b := xb_b.below hb10 (by omega)
      have ox_a := ox_a.below (hb10.mono (by omega))
      have ox_b := ox_b.below (hb10.mono (by omega))
      have b10 := b9.trans (hb10.mono (by omega))
      have i_a := h_a.below b10
      have i_b := h_b.below b10
      clear hb10
      have a_bq := a_b
      obtain ⟨a_b_0, a_b_1, a_b_2, a_b_3, a_b_4⟩ := a_bq
      have a_blt : w.heap.size < w10.heap.size := (by omega)
      have xb_bq := xb_b
      obtain ⟨xb_b_0, xb_b_1, xb_b_2, xb_b_3, xb_b_4⟩ := xb_bq
      have xb_blt : w8.heap.size < w10.heap.size := (by omega)
      go_wp2_with fail
      clear a_b_0 a_b_1 a_b_2 a_b_3 a_b_4 a_blt
      clear xb_b_0 xb_b_1 xb_b_2 xb_b_3 xb_b_4 xb_blt
      refine (Ka_toL_any A_a c_a a w.heap.size _ hs_a i_a (by omega)).mono ?_
      rintro e w11 ⟨y_aA, y_ac, y_a, rfl, hey_a, oy_a, hb11⟩
      have z11 := hb11.size
      have a_b := a_b.below hb11 (by omega)
      have xb_b := xb_b.below hb11 (by omega)
      have ox_a := ox_a.below (hb11.mono (by omega))
      have ox_b := ox_b.below (hb11.mono (by omega))
      have b11 := b10.trans (hb11.mono (by omega))
      have i_a := h_a.below b11
      have i_b := h_b.below b11
      clear hb11
      have Qy_a := Lib.hid hey_a
      clear hey_a
      have a_bq := a_b
      obtain ⟨a_b_0, a_b_1, a_b_2, a_b_3, a_b_4⟩ := a_bq
      have a_blt : w.heap.size < w11.heap.size := (by omega)
      have xb_bq := xb_b
      obtain ⟨xb_b_0, xb_b_1, xb_b_2, xb_b_3, xb_b_4⟩ := xb_bq
      have xb_blt : w8.heap.size < w11.heap.size := (by omega)
      go_wp2_with fail
      clear a_b_0 a_b_1 a_b_2 a_b_3 a_b_4 a_blt
      clear xb_b_0 xb_b_1 xb_b_2 xb_b_3 xb_b_4 xb_blt
      refine (Ka_eqL_any x_aA x_ac x_a y_aA y_ac y_a w11.heap.size _ (Qx_a.out.trans Qy_a.out.symm) (ox_a.inn.more (by omega)) (oy_a.inn.more (by omega)) (by omega)).mono ?_
      rintro e w12 ⟨rfl, hb12⟩
      have z12 := hb12.size
      have a_b := a_b.below hb12 (by omega)
      have xb_b := xb_b.below hb12 (by omega)
      have ox_a := ox_a.below (hb12.mono (by omega))
      have ox_b := ox_b.below (hb12.mono (by omega))
      have oy_a := oy_a.below (hb12.mono (by omega))
      have b12 := b11.trans (hb12.mono (by omega))
      have i_a := h_a.below b12
      have i_b := h_b.below b12
      clear hb12
      clear oy_a
      have a_bq := a_b
      obtain ⟨a_b_0, a_b_1, a_b_2, a_b_3, a_b_4⟩ := a_bq
      have a_blt : w.heap.size < w12.heap.size := (by omega)
      have xb_bq := xb_b
      obtain ⟨xb_b_0, xb_b_1, xb_b_2, xb_b_3, xb_b_4⟩ := xb_bq
      have xb_blt : w8.heap.size < w12.heap.size := (by omega)
      go_wp2_with fail
      clear a_b_0 a_b_1 a_b_2 a_b_3 a_b_4 a_blt
      clear xb_b_0 xb_b_1 xb_b_2 xb_b_3 xb_b_4 xb_blt
      have a_bq := a_b
      obtain ⟨a_b_0, a_b_1, a_b_2, a_b_3, a_b_4⟩ := a_bq
      have a_blt : w.heap.size < w12.heap.size := (by omega)
      have xb_bq := xb_b
      obtain ⟨xb_b_0, xb_b_1, xb_b_2, xb_b_3, xb_b_4⟩ := xb_bq
      have xb_blt : w8.heap.size < w12.heap.size := (by omega)
      have tok3 : True := trivial
      have tok4 : True := trivial
      go_region_held3 (fun w' => w'.cell? ⟨w.heap.size, 0, none⟩ = some (.int .i64 b.k) ∧ w'.cell? ⟨w.heap.size, 1, none⟩ = some (.int .i64 b.n) ∧ w'.cell? ⟨w.heap.size, 2, none⟩ = some (.string b.t) ∧ w'.cell? ⟨w.heap.size, 3, none⟩ = some (.slice b.sa b.s.length b.sc) ∧ w'.cell? ⟨w.heap.size, 4, none⟩ = some (.slice b.A b.l.length b.c) ∧ w'.cell? ⟨w8.heap.size, 0, none⟩ = some (.int .i64 x_b.k) ∧ w'.cell? ⟨w8.heap.size, 1, none⟩ = some (.int .i64 x_b.n) ∧ w'.cell? ⟨w8.heap.size, 2, none⟩ = some (.string x_b.t) ∧ w'.cell? ⟨w8.heap.size, 3, none⟩ = some (.slice x_b.sa x_b.s.length x_b.sc) ∧ w'.cell? ⟨w8.heap.size, 4, none⟩ = some (.slice x_b.A x_b.l.length x_b.c)) (go_keep)
        (first
          | (go_at_call 38; have _t := tok3; refine (sto_any 2000000 b w.heap.size _ hb_b hs_b ?_ ?_ ?_).mono ?_; omega; exact i_b.drew; (show w.heap.size ≤ w12.heap.size); omega; rintro e w13 ⟨y_b, rfl, hey_b, oy_b, hb13⟩; have hb13 : Below w12.heap.size w12 w13 := below_undrew hb13; have z13 : w12.heap.size ≤ w13.heap.size := hb13.size; clear tok3; have Qy_b := Lib.hid hey_b; clear hey_b; have a_b := a_b.below hb13 (by omega); have xb_b := xb_b.below hb13 (by omega); have ox_a := ox_a.below (hb13.mono (by omega)); have ox_b := ox_b.below (hb13.mono (by omega)); have b13 := b12.trans (hb13.mono (by omega)); have i_a := h_a.below b13; have i_b := h_b.below b13; clear hb13; have a_bq := a_b; obtain ⟨a_b_0, a_b_1, a_b_2, a_b_3, a_b_4⟩ := a_bq; have a_blt : w.heap.size < w13.heap.size := (by omega); have xb_bq := xb_b; obtain ⟨xb_b_0, xb_b_1, xb_b_2, xb_b_3, xb_b_4⟩ := xb_bq; have xb_blt : w8.heap.size < w13.heap.size := (by omega))
          | (go_at_call 41; have _t := tok4; refine (seq_all 2000000 x_b y_b w13.heap.size _ ?_ ?_ ?_ ?_).mono ?_; omega; exact ox_b.inn.more (by omega); exact oy_b.inn.more (by omega); omega; rintro e w14 ⟨rfl, hb14⟩; have z14 : w13.heap.size ≤ w14.heap.size := hb14.size; clear tok4; have a_b := a_b.below hb14 (by omega); have xb_b := xb_b.below hb14 (by omega); have ox_a := ox_a.below (hb14.mono (by omega)); have ox_b := ox_b.below (hb14.mono (by omega)); have b14 := b13.trans (hb14.mono (by omega)); have i_a := h_a.below b14; have i_b := h_b.below b14; clear hb14; have a_bq := a_b; obtain ⟨a_b_0, a_b_1, a_b_2, a_b_3, a_b_4⟩ := a_bq; have a_blt : w.heap.size < w14.heap.size := (by omega); have xb_bq := xb_b; obtain ⟨xb_b_0, xb_b_1, xb_b_2, xb_b_3, xb_b_4⟩ := xb_bq; have xb_blt : w8.heap.size < w14.heap.size := (by omega)))
      clear a_b_0 a_b_1 a_b_2 a_b_3 a_b_4 a_blt
      clear xb_b_0 xb_b_1 xb_b_2 xb_b_3 xb_b_4 xb_blt
      have Ey_b : S.eqB x_b y_b = true := S.eqB_of_er (Qx_b.out.trans Qy_b.out.symm)
      rw [Ey_b]
      clear Ey_b oy_b
      have a_bq := a_b
      obtain ⟨a_b_0, a_b_1, a_b_2, a_b_3, a_b_4⟩ := a_bq
      have a_blt : w.heap.size < w14.heap.size := (by omega)
      have xb_bq := xb_b
      obtain ⟨xb_b_0, xb_b_1, xb_b_2, xb_b_3, xb_b_4⟩ := xb_bq
      have xb_blt : w8.heap.size < w14.heap.size := (by omega)
      go_wp2_with fail
      clear a_b_0 a_b_1 a_b_2 a_b_3 a_b_4 a_blt
      clear xb_b_0 xb_b_1 xb_b_2 xb_b_3 xb_b_4 xb_blt
      go_ret
      exact ⟨rfl, b14⟩
    · have b0 : Below w.heap.size w w := Below.refl _ _
      have i_a := h_a
      have i_b := h_b
      go_enter Try.func8, Try.ntmps8
      go_wp2_with fail
      obtain ⟨w1, hw1⟩ : ∃ W, W = w.alloc (.cells #[.int .i64 b.k, .int .i64 b.n, .string b.t, .slice b.sa b.s.length b.sc, .slice b.A b.l.length b.c] 85) := ⟨_, rfl⟩
      rw [← hw1]
      have hb1 : Below w.heap.size w w1 := by rw [hw1]; exact (Below.refl _ _).alloc (Nat.le_refl _) _
      have z1 : w.heap.size + 1 ≤ w1.heap.size := by rw [hw1]; simp
      have y1 : w1.heap.size ≤ w.heap.size + 1 := by rw [hw1]; simp
      have a_b : S.Box w1 w.heap.size b := by rw [hw1]; exact S.Box.new _ _ _
      clear hw1
      have b1 := b0.trans (hb1.mono (by omega))
      have i_a := h_a.below b1
      have i_b := h_b.below b1
      clear hb1
      refine (Ka_szL_any A_a c_a a w.heap.size _ 1048576 (by omega) (by omega) i_a (by omega)).mono ?_
      rintro e w2 ⟨rfl, hb2⟩
      have z2 := hb2.size
      have a_b := a_b.below hb2 (by omega)
      have b2 := b1.trans (hb2.mono (by omega))
      have i_a := h_a.below b2
      have i_b := h_b.below b2
      clear hb2
      rw [szR_yes (by omega)]
      have n1_a : ¬ (1048576 - (Tr.bulkL Ka.bulk a : Int) < 0) := by omega
      have a_bq := a_b
      obtain ⟨a_b_0, a_b_1, a_b_2, a_b_3, a_b_4⟩ := a_bq
      have a_blt : w.heap.size < w2.heap.size := (by omega)
      go_wp2_with fail
      clear a_b_0 a_b_1 a_b_2 a_b_3 a_b_4 a_blt
      refine (ssz_any (b.size + 1) b w.heap.size _ (1048576 - (Tr.bulkL Ka.bulk a : Int)) (by omega) (by omega) (by omega) i_b (by omega)).mono ?_
      rintro e w3 ⟨rfl, hb3⟩
      have z3 := hb3.size
      have a_b := a_b.below hb3 (by omega)
      have b3 := b2.trans (hb3.mono (by omega))
      have i_a := h_a.below b3
      have i_b := h_b.below b3
      clear hb3
      rw [szR_no (by omega)]
      have a_bq := a_b
      obtain ⟨a_b_0, a_b_1, a_b_2, a_b_3, a_b_4⟩ := a_bq
      have a_blt : w.heap.size < w3.heap.size := (by omega)
      go_wp2_with fail
      clear a_b_0 a_b_1 a_b_2 a_b_3 a_b_4 a_blt
      go_ret
      exact ⟨rfl, b3⟩
  · have b0 : Below w.heap.size w w := Below.refl _ _
    have i_a := h_a
    have i_b := h_b
    go_enter Try.func8, Try.ntmps8
    go_wp2_with fail
    obtain ⟨w1, hw1⟩ : ∃ W, W = w.alloc (.cells #[.int .i64 b.k, .int .i64 b.n, .string b.t, .slice b.sa b.s.length b.sc, .slice b.A b.l.length b.c] 85) := ⟨_, rfl⟩
    rw [← hw1]
    have hb1 : Below w.heap.size w w1 := by rw [hw1]; exact (Below.refl _ _).alloc (Nat.le_refl _) _
    have z1 : w.heap.size + 1 ≤ w1.heap.size := by rw [hw1]; simp
    have y1 : w1.heap.size ≤ w.heap.size + 1 := by rw [hw1]; simp
    have a_b : S.Box w1 w.heap.size b := by rw [hw1]; exact S.Box.new _ _ _
    clear hw1
    have b1 := b0.trans (hb1.mono (by omega))
    have i_a := h_a.below b1
    have i_b := h_b.below b1
    clear hb1
    refine (Ka_szL_any A_a c_a a w.heap.size _ 1048576 (by omega) (by omega) i_a (by omega)).mono ?_
    rintro e w2 ⟨rfl, hb2⟩
    have z2 := hb2.size
    have a_b := a_b.below hb2 (by omega)
    have b2 := b1.trans (hb2.mono (by omega))
    have i_a := h_a.below b2
    have i_b := h_b.below b2
    clear hb2
    rw [szR_no (by omega)]
    have a_bq := a_b
    obtain ⟨a_b_0, a_b_1, a_b_2, a_b_3, a_b_4⟩ := a_bq
    have a_blt : w.heap.size < w2.heap.size := (by omega)
    go_wp2_with fail
    clear a_b_0 a_b_1 a_b_2 a_b_3 a_b_4 a_blt
    go_ret
    exact ⟨rfl, b2⟩
end Go.Proofs.Ytndckeodpoommaa
