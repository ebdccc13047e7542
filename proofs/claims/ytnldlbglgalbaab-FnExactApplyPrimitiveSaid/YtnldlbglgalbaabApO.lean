/-
  The law on ApplyPrimitive, walked (written by gen/app11.py).
-/
import Derived.Test.YtnldlbglgalbaabApN
import Derived.Test.YtnldlbglgalbaabVuQ
import Derived.Test.YtnldlbglgalbaabVuLq
import Derived.Test.YtnldlbglgalbaabVuL
import Derived.Test.YtnldlbglgalbaabPqLq
import Derived.Test.YtnldlbglgalbaabPqL
import Derived.Deep.RegionHeld3
namespace Go.Proofs.Ytnldlbglgalbaab
open Go.RowKit
theorem Vu.map_er {l k : List Vu} (h : l.map Vu.er = k.map Vu.er) : l = k := by
  induction l generalizing k with
  | nil => cases k with
    | nil => rfl
    | cons _ _ => simp at h
  | cons a r ih => cases k with
    | nil => simp at h
    | cons b s =>
      simp only [List.map_cons, List.cons.injEq] at h
      rw [Vu.er_eq h.1, ih h.2]
theorem outP_t {p : Int} {o : Option Vu} {K : Nat} (h : ∀ v, o = some v → v.t.size ≤ K) : (outP p o).1.t.size ≤ K := by
  cases o with
  | none => exact Nat.zero_le _
  | some v =>
    unfold outP
    dsimp only
    split
    · exact Nat.zero_le _
    · exact h v rfl
theorem rawP_t {p : Int} {l : List Vu} {m : List Pq} {K : Nat} (hm : ∀ x ∈ m, x.h.t.size ≤ K ∧ x.u.t.size ≤ K) (v : Vu) (h : rawP p l m = some v) : v.t.size ≤ K := by
  have z : ∀ b, (Vu.boo b).t.size ≤ K := fun _ => Nat.zero_le _
  have zn : ∀ b, (Vu.num b).t.size ≤ K := fun _ => Nat.zero_le _
  unfold rawP at h
  split at h
  · split at h
    · cases h; exact z _
    · split at h
      · cases h
        unfold twoN
        repeat' split
        all_goals first | exact zn _ | exact z _
      · cases h
  · split at h
    · split at h
      · obtain ⟨q, hq, rfl⟩ := Option.map_eq_some_iff.1 h
        exact (hm q (List.mem_of_getElem? hq)).1
      · cases h
    · split at h
      · split at h
        · obtain ⟨q, hq, rfl⟩ := Option.map_eq_some_iff.1 h
          exact (hm q (List.mem_of_getElem? hq)).2
        · cases h
      · repeat' (split at h)
        all_goals (cases h; exact z _)
  · cases h
theorem ApR_t {p : Int} {l : List Vu} {m : List Pq} {K : Nat} (hm : ∀ x ∈ m, x.h.t.size ≤ K ∧ x.u.t.size ≤ K) : (ApR p l m).1.t.size ≤ K := by
  unfold ApR
  repeat' split
  all_goals first | exact Nat.zero_le _ | exact outP_t (rawP_t hm)
theorem Vu.all_t {w : World} {B c : Nat} {A : Option Addr} {l : List Vu} (h : Vu.E.LIn w B A c l) : ∀ x ∈ l, x.t.size ≤ 9223372036854775807 := by
  intro x hx
  obtain ⟨i, hi, rfl⟩ := List.mem_iff_getElem.1 hx
  obtain ⟨_, _, _, _, _, _, _, hix⟩ := Vu.at_ h (i := i) (x := l[i]) (List.getElem?_eq_getElem hi)
  exact (Vu.E_in hix).t
theorem Pq.all_t {w : World} {B c : Nat} {A : Option Addr} {l : List Pq} (h : Pq.E.LIn w B A c l) : ∀ x ∈ l, x.h.t.size ≤ 9223372036854775807 ∧ x.u.t.size ≤ 9223372036854775807 := by
  intro x hx
  obtain ⟨i, hi, rfl⟩ := List.mem_iff_getElem.1 hx
  obtain ⟨_, _, _, _, _, _, _, _, _, _, hix⟩ := Pq.at_ h (i := i) (x := l[i]) (List.getElem?_eq_getElem hi)
  exact ⟨(Vu.E_in (Pq.E_in hix).h).t, (Vu.E_in (Pq.E_in hix).u).t⟩
theorem specApp_c (p : Int) (A A2 : Option Addr) (c c2 : Nat) (l : List Vu) (m : List Pq) {l0 : List Vu} {m0 : List Pq} {v : Vu} {s : ByteArray} (B : Nat) (w : World) (he : l.map Vu.er = l0.map Vu.er) (he2 : m.map Pq.er = m0.map Pq.er) (hX : (v, s) = ApR p l0 m0) (hin : Vu.E.LIn w B A c l) (hl : Pq.E.LIn w B A2 c2 m) (hB : B ≤ w.heap.size) :
    Calls Try.prog 6 #[.int .i64 p, .slice A l.length c, .slice A2 m.length c2] w fun e w' => e = .returned (.tuple #[.agg #[.int .i64 v.k, .int .i64 v.n, .string v.t], .string s]) ∧ Below w.heap.size w w' := by
  have h := specApply_any p l m A A2 c c2 B w hin hl hB
  rw [Vu.map_er he, Pq.map_er he2, ← hX] at h
  rw [Vu.map_er he, Pq.map_er he2]
  exact h
theorem implApp_c (p : Int) (A A2 : Option Addr) (c c2 : Nat) (l : List Vu) (m : List Pq) {l0 : List Vu} {m0 : List Pq} {v : Vu} {s : ByteArray} (B : Nat) (w : World) (he : l.map Vu.er = l0.map Vu.er) (he2 : m.map Pq.er = m0.map Pq.er) (hX : (v, s) = ApR p l0 m0) (hin : Vu.E.LIn w B A c l) (hl : Pq.E.LIn w B A2 c2 m) (hB : B ≤ w.heap.size) :
    Calls Try.prog 9 #[.int .i64 p, .slice A l.length c, .slice A2 m.length c2] w fun e w' => e = .returned (.tuple #[.agg #[.int .i64 v.k, .int .i64 v.n, .string v.t], .string s]) ∧ Below w.heap.size w w' := by
  have h := implApply_any p l m A A2 c c2 B w hin hl hB (Vu.all_t hin)
  rw [Vu.map_er he, Pq.map_er he2, ← hX] at h
  rw [Vu.map_er he, Pq.map_er he2]
  exact h

set_option maxRecDepth 100000 in
set_option maxHeartbeats 8000000 in
theorem law_app (p : Int) (A_l : Option Addr) (c_l : Nat) (l : List Vu) (A_a : Option Addr) (c_a : Nat) (a : List Pq) (w : World) (h_l : Vu.E.LIn w w.heap.size A_l c_l l) (h_a : Pq.E.LIn w w.heap.size A_a c_a a) : Calls Try.prog 3 #[.int .i64 p, .slice A_l l.length c_l, .slice A_a a.length c_a] w fun e w' => e = .returned (.bool true) ∧ Below w.heap.size w w' := by
  obtain ⟨v, hv⟩ : ∃ v, v = (ApR p l a).1 := ⟨_, rfl⟩
  obtain ⟨s, hs⟩ : ∃ s, s = (ApR p l a).2 := ⟨_, rfl⟩
  have HX : Hid ((v, s) = ApR p l a) := by rw [hv, hs]; rfl
  have HT : Hid (v.t.size ≤ 9223372036854775807) := by rw [hv]; exact ApR_t (Pq.all_t h_a)
  clear hv hs
  have nqs : (s.toList == s.toList) = true := by simp
  have nqd : (s.toList != s.toList) = false := by simp
  by_cases hz_l : (Row.bulk Vu.bulk l : Int) ≤ 1048576
  · have hs_l : Row.bulk Vu.bulk l ≤ 1500000 := by omega
    by_cases hz_a : (Row.bulk Pq.bulk a : Int) ≤ 1048576 - (Row.bulk Vu.bulk l : Int)
    · have hs_a : Row.bulk Pq.bulk a ≤ 1500000 := by omega
      have b0 : Below w.heap.size w w := Below.refl _ _
      have i_l := h_l
      have i_a := h_a
      go_enter Try.func3, Try.ntmps3
      go_wp2_with fail
      refine (Vu_szL_any A_l c_l l w.heap.size _ 1048576 (by omega) (by omega) i_l (by omega)).mono ?_
      rintro e w1 ⟨rfl, hb1⟩
      have z1 := hb1.size
      have b1 := b0.trans (hb1.mono (by omega))
      have i_l := h_l.below b1
      have i_a := h_a.below b1
      clear hb1
      rw [szR_yes (by omega)]
      have n1_l : ¬ (1048576 - (Row.bulk Vu.bulk l : Int) < 0) := by omega
      go_wp2_with fail
      refine (Pq_szL_any A_a c_a a w.heap.size _ (1048576 - (Row.bulk Vu.bulk l : Int)) (by omega) (by omega) i_a (by omega)).mono ?_
      rintro e w2 ⟨rfl, hb2⟩
      have z2 := hb2.size
      have b2 := b1.trans (hb2.mono (by omega))
      have i_l := h_l.below b2
      have i_a := h_a.below b2
      clear hb2
      rw [szR_yes (by omega)]
      have n1_a : ¬ (1048576 - (Row.bulk Vu.bulk l : Int) - (Row.bulk Pq.bulk a : Int) < 0) := by omega
      go_wp2_with fail
      refine (Vu_toL_any A_l c_l l w.heap.size _ hs_l i_l (by omega)).mono ?_
      rintro e w3 ⟨d1A, d1c, d1, rfl, hed1, od1, hb3⟩
      have z3 := hb3.size
      have b3 := b2.trans (hb3.mono (by omega))
      have i_l := h_l.below b3
      have i_a := h_a.below b3
      clear hb3
      have Qd1 := Lib.hid hed1
      clear hed1
      go_wp2_with fail
      refine (Pq_toL_any A_a c_a a w.heap.size _ hs_a i_a (by omega)).mono ?_
      rintro e w4 ⟨d2A, d2c, d2, rfl, hed2, od2, hb4⟩
      have z4 := hb4.size
      have od1 := od1.below (hb4.mono (by omega))
      have b4 := b3.trans (hb4.mono (by omega))
      have i_l := h_l.below b4
      have i_a := h_a.below b4
      clear hb4
      have Qd2 := Lib.hid hed2
      clear hed2
      go_wp2_with fail
      refine (specApp_c p d1A d2A d1c d2c d1 d2 w4.heap.size _ Qd1.out Qd2.out HX.out (od1.inn.more (by omega)) (od2.inn.more (by omega)) (by omega)).mono ?_
      rintro e w5 ⟨rfl, hb5⟩
      have z5 := hb5.size
      have od1 := od1.below (hb5.mono (by omega))
      have od2 := od2.below (hb5.mono (by omega))
      have b5 := b4.trans (hb5.mono (by omega))
      have i_l := h_l.below b5
      have i_a := h_a.below b5
      clear hb5
      clear od1
      clear od2
      go_upto_region 9 with fail
      obtain ⟨w6, hw6⟩ : ∃ W, W = w5.alloc (.cells #[.int .i64 v.k, .int .i64 v.n, .string v.t] 27) := ⟨_, rfl⟩
      rw [← hw6]
      have hb6 : Below w5.heap.size w5 w6 := by rw [hw6]; exact (Below.refl _ _).alloc (Nat.le_refl _) _
      have z6 : w5.heap.size + 1 ≤ w6.heap.size := by rw [hw6]; simp
      have y6 : w6.heap.size ≤ w5.heap.size + 1 := by rw [hw6]; simp
      have a_v : Vu.Box w6 w5.heap.size v := by rw [hw6]; exact Vu.Box.new _ _ _
      clear hw6
      have b6 := b5.trans (hb6.mono (by omega))
      have i_l := h_l.below b6
      have i_a := h_a.below b6
      clear hb6
      have a_vq := a_v
      obtain ⟨a_v_0, a_v_1, a_v_2⟩ := a_vq
      have a_vlt : w5.heap.size < w6.heap.size := (by omega)
      go_wp2_with fail
      clear a_v_0 a_v_1 a_v_2 a_vlt
      refine (Vu_toL_any A_l c_l l w.heap.size _ hs_l i_l (by omega)).mono ?_
      rintro e w7 ⟨x1A, x1c, x1, rfl, hex1, ox1, hb7⟩
      have z7 := hb7.size
      have a_v := a_v.below hb7 (by omega)
      have b7 := b6.trans (hb7.mono (by omega))
      have i_l := h_l.below b7
      have i_a := h_a.below b7
      clear hb7
      have Qx1 := Lib.hid hex1
      clear hex1
      have a_vq := a_v
      obtain ⟨a_v_0, a_v_1, a_v_2⟩ := a_vq
      have a_vlt : w5.heap.size < w7.heap.size := (by omega)
      go_wp2_with fail
      clear a_v_0 a_v_1 a_v_2 a_vlt
      refine (Pq_toL_any A_a c_a a w.heap.size _ hs_a i_a (by omega)).mono ?_
      rintro e w8 ⟨x2A, x2c, x2, rfl, hex2, ox2, hb8⟩
      have z8 := hb8.size
      have a_v := a_v.below hb8 (by omega)
      have ox1 := ox1.below (hb8.mono (by omega))
      have b8 := b7.trans (hb8.mono (by omega))
      have i_l := h_l.below b8
      have i_a := h_a.below b8
      clear hb8
      have Qx2 := Lib.hid hex2
      clear hex2
      have a_vq := a_v
      obtain ⟨a_v_0, a_v_1, a_v_2⟩ := a_vq
      have a_vlt : w5.heap.size < w8.heap.size := (by omega)
      go_wp2_with fail
      clear a_v_0 a_v_1 a_v_2 a_vlt
      refine (implApp_c p x1A x2A x1c x2c x1 x2 w8.heap.size _ Qx1.out Qx2.out HX.out (ox1.inn.more (by omega)) (ox2.inn.more (by omega)) (by omega)).mono ?_
      rintro e w9 ⟨rfl, hb9⟩
      have z9 := hb9.size
      have a_v := a_v.below hb9 (by omega)
      have ox1 := ox1.below (hb9.mono (by omega))
      have ox2 := ox2.below (hb9.mono (by omega))
      have b9 := b8.trans (hb9.mono (by omega))
      have i_l := h_l.below b9
      have i_a := h_a.below b9
      clear hb9
      go_upto_region 12 with fail
      obtain ⟨w10, hw10⟩ : ∃ W, W = w9.alloc (.cells #[.int .i64 v.k, .int .i64 v.n, .string v.t] 27) := ⟨_, rfl⟩
      rw [← hw10]
      have hb10 : Below w9.heap.size w9 w10 := by rw [hw10]; exact (Below.refl _ _).alloc (Nat.le_refl _) _
      have z10 : w9.heap.size + 1 ≤ w10.heap.size := by rw [hw10]; simp
      have y10 : w10.heap.size ≤ w9.heap.size + 1 := by rw [hw10]; simp
      have a_u : Vu.Box w10 w9.heap.size v := by rw [hw10]; exact Vu.Box.new _ _ _
      clear hw10
      have a_v := a_v.below hb10 (by omega)
      have ox1 := ox1.below (hb10.mono (by omega))
      have ox2 := ox2.below (hb10.mono (by omega))
      have b10 := b9.trans (hb10.mono (by omega))
      have i_l := h_l.below b10
      have i_a := h_a.below b10
      clear hb10
      have a_vq := a_v
      obtain ⟨a_v_0, a_v_1, a_v_2⟩ := a_vq
      have a_vlt : w5.heap.size < w10.heap.size := (by omega)
      have a_uq := a_u
      obtain ⟨a_u_0, a_u_1, a_u_2⟩ := a_uq
      have a_ult : w9.heap.size < w10.heap.size := (by omega)
      go_wp2_with fail
      clear a_v_0 a_v_1 a_v_2 a_vlt
      clear a_u_0 a_u_1 a_u_2 a_ult
      refine (Vu_eq_any v v w10.heap.size _ rfl (Vu.E_mk ⟨HT.out⟩) (Vu.E_mk ⟨HT.out⟩) (by omega)).mono ?_
      rintro e w11 ⟨rfl, hb11⟩
      have z11 := hb11.size
      have a_v := a_v.below hb11 (by omega)
      have a_u := a_u.below hb11 (by omega)
      have ox1 := ox1.below (hb11.mono (by omega))
      have ox2 := ox2.below (hb11.mono (by omega))
      have b11 := b10.trans (hb11.mono (by omega))
      have i_l := h_l.below b11
      have i_a := h_a.below b11
      clear hb11
      have a_vq := a_v
      obtain ⟨a_v_0, a_v_1, a_v_2⟩ := a_vq
      have a_vlt : w5.heap.size < w11.heap.size := (by omega)
      have a_uq := a_u
      obtain ⟨a_u_0, a_u_1, a_u_2⟩ := a_uq
      have a_ult : w9.heap.size < w11.heap.size := (by omega)
      go_wp2_with fail
      clear a_v_0 a_v_1 a_v_2 a_vlt
      clear a_u_0 a_u_1 a_u_2 a_ult
      refine (Vu_toL_any A_l c_l l w.heap.size _ hs_l i_l (by omega)).mono ?_
      rintro e w12 ⟨y1A, y1c, y1, rfl, hey1, oy1, hb12⟩
      have z12 := hb12.size
      have a_v := a_v.below hb12 (by omega)
      have a_u := a_u.below hb12 (by omega)
      have ox1 := ox1.below (hb12.mono (by omega))
      have ox2 := ox2.below (hb12.mono (by omega))
      have b12 := b11.trans (hb12.mono (by omega))
      have i_l := h_l.below b12
      have i_a := h_a.below b12
      clear hb12
      have Qy1 := Lib.hid hey1
      clear hey1
      have a_vq := a_v
      obtain ⟨a_v_0, a_v_1, a_v_2⟩ := a_vq
      have a_vlt : w5.heap.size < w12.heap.size := (by omega)
      have a_uq := a_u
      obtain ⟨a_u_0, a_u_1, a_u_2⟩ := a_uq
      have a_ult : w9.heap.size < w12.heap.size := (by omega)
      go_wp2_with fail
      clear a_v_0 a_v_1 a_v_2 a_vlt
      clear a_u_0 a_u_1 a_u_2 a_ult
      refine (Vu_eqL_any x1A x1c x1 y1A y1c y1 w12.heap.size _ (Qx1.out.trans Qy1.out.symm) (ox1.inn.more (by omega)) (oy1.inn.more (by omega)) (by omega)).mono ?_
      rintro e w13 ⟨rfl, hb13⟩
      have z13 := hb13.size
      have a_v := a_v.below hb13 (by omega)
      have a_u := a_u.below hb13 (by omega)
      have ox1 := ox1.below (hb13.mono (by omega))
      have ox2 := ox2.below (hb13.mono (by omega))
      have oy1 := oy1.below (hb13.mono (by omega))
      have b13 := b12.trans (hb13.mono (by omega))
      have i_l := h_l.below b13
      have i_a := h_a.below b13
      clear hb13
      have a_vq := a_v
      obtain ⟨a_v_0, a_v_1, a_v_2⟩ := a_vq
      have a_vlt : w5.heap.size < w13.heap.size := (by omega)
      have a_uq := a_u
      obtain ⟨a_u_0, a_u_1, a_u_2⟩ := a_uq
      have a_ult : w9.heap.size < w13.heap.size := (by omega)
      go_wp2_with fail
      clear a_v_0 a_v_1 a_v_2 a_vlt
      clear a_u_0 a_u_1 a_u_2 a_ult
      refine (Pq_toL_any A_a c_a a w.heap.size _ hs_a i_a (by omega)).mono ?_
      rintro e w14 ⟨y2A, y2c, y2, rfl, hey2, oy2, hb14⟩
      have z14 := hb14.size
      have a_v := a_v.below hb14 (by omega)
      have a_u := a_u.below hb14 (by omega)
      have ox1 := ox1.below (hb14.mono (by omega))
      have ox2 := ox2.below (hb14.mono (by omega))
      have oy1 := oy1.below (hb14.mono (by omega))
      have b14 := b13.trans (hb14.mono (by omega))
      have i_l := h_l.below b14
      have i_a := h_a.below b14
      clear hb14
      have Qy2 := Lib.hid hey2
      clear hey2
      have a_vq := a_v
      obtain ⟨a_v_0, a_v_1, a_v_2⟩ := a_vq
      have a_vlt : w5.heap.size < w14.heap.size := (by omega)
      have a_uq := a_u
      obtain ⟨a_u_0, a_u_1, a_u_2⟩ := a_uq
      have a_ult : w9.heap.size < w14.heap.size := (by omega)
      go_wp2_with fail
      clear a_v_0 a_v_1 a_v_2 a_vlt
      clear a_u_0 a_u_1 a_u_2 a_ult
      refine (Pq_eqL_any x2A x2c x2 y2A y2c y2 w14.heap.size _ (Qx2.out.trans Qy2.out.symm) (ox2.inn.more (by omega)) (oy2.inn.more (by omega)) (by omega)).mono ?_
      rintro e w15 ⟨rfl, hb15⟩
      have z15 := hb15.size
      have a_v := a_v.below hb15 (by omega)
      have a_u := a_u.below hb15 (by omega)
      have ox1 := ox1.below (hb15.mono (by omega))
      have ox2 := ox2.below (hb15.mono (by omega))
      have oy1 := oy1.below (hb15.mono (by omega))
      have oy2 := oy2.below (hb15.mono (by omega))
      have b15 := b14.trans (hb15.mono (by omega))
      have i_l := h_l.below b15
      have i_a := h_a.below b15
      clear hb15
      have a_vq := a_v
      obtain ⟨a_v_0, a_v_1, a_v_2⟩ := a_vq
      have a_vlt : w5.heap.size < w15.heap.size := (by omega)
      have a_uq := a_u
      obtain ⟨a_u_0, a_u_1, a_u_2⟩ := a_uq
      have a_ult : w9.heap.size < w15.heap.size := (by omega)
      go_wp2_with fail
      clear a_v_0 a_v_1 a_v_2 a_vlt
      clear a_u_0 a_u_1 a_u_2 a_ult
      go_ret
      exact ⟨rfl, b15⟩
    · have b0 : Below w.heap.size w w := Below.refl _ _
      have i_l := h_l
      have i_a := h_a
      go_enter Try.func3, Try.ntmps3
      go_wp2_with fail
      refine (Vu_szL_any A_l c_l l w.heap.size _ 1048576 (by omega) (by omega) i_l (by omega)).mono ?_
      rintro e w1 ⟨rfl, hb1⟩
      have z1 := hb1.size
      have b1 := b0.trans (hb1.mono (by omega))
      have i_l := h_l.below b1
      have i_a := h_a.below b1
      clear hb1
      rw [szR_yes (by omega)]
      have n1_l : ¬ (1048576 - (Row.bulk Vu.bulk l : Int) < 0) := by omega
      go_wp2_with fail
      refine (Pq_szL_any A_a c_a a w.heap.size _ (1048576 - (Row.bulk Vu.bulk l : Int)) (by omega) (by omega) i_a (by omega)).mono ?_
      rintro e w2 ⟨rfl, hb2⟩
      have z2 := hb2.size
      have b2 := b1.trans (hb2.mono (by omega))
      have i_l := h_l.below b2
      have i_a := h_a.below b2
      clear hb2
      rw [szR_no (by omega)]
      go_wp2_with fail
      go_ret
      exact ⟨rfl, b2⟩
  · have b0 : Below w.heap.size w w := Below.refl _ _
    have i_l := h_l
    have i_a := h_a
    go_enter Try.func3, Try.ntmps3
    go_wp2_with fail
    refine (Vu_szL_any A_l c_l l w.heap.size _ 1048576 (by omega) (by omega) i_l (by omega)).mono ?_
    rintro e w1 ⟨rfl, hb1⟩
    have z1 := hb1.size
    have b1 := b0.trans (hb1.mono (by omega))
    have i_l := h_l.below b1
    have i_a := h_a.below b1
    clear hb1
    rw [szR_no (by omega)]
    go_wp2_with fail
    go_ret
    exact ⟨rfl, b1⟩
end Go.Proofs.Ytnldlbglgalbaab
