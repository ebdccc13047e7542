/-
  SameMeaning: the program and the model walked (written by gen/mean.py).
-/
import Derived.Test.YtikjipkhebedfaaResT
namespace Go.Proofs.Ytikjipkhebedfaa
open Go.RowKit
namespace Bd
def meanV (C N : Int) (x y : Bd) (s t : ByteArray) : Bool := if C = 0 ∧ N = 0 then (s.toList == t.toList) else decide (C = 1) && (decide (N = 1) && (decide (x.k = y.k) && decide (x.n = y.n)))
def resM (l : List Bd) (a b : S) : Bool := meanV (codeB (l.filter (fitM a))) (codeB (l.filter (fitM b))) (pickB (l.filter (fitM a))) (pickB (l.filter (fitM b))) a.t b.t
def smB (l : List Bd) (a b : S) : Bool := areB l && (a.isI && (b.isI && resM l a b))
theorem smB_er {l m : List Bd} {a b a' b' : S} (hl : erL l = erL m) (ha : S.er a = S.er a') (hb : S.er b = S.er b') : smB l a b = smB m a' b' := by
  have h1 := fields_of_er (pickB_er (filter_er ha l m hl))
  have h2 := fields_of_er (pickB_er (filter_er hb l m hl))
  have ta : a.t = a'.t := by cases a; cases a'; simp only [S.er, S.mk.injEq] at ha; exact ha.2.2.1
  have tb : b.t = b'.t := by cases b; cases b'; simp only [S.er, S.mk.injEq] at hb; exact hb.2.2.1
  unfold smB resM meanV
  rw [areB_er hl, S.isI_of_er ha, S.isI_of_er hb, codeB_er (filter_er ha l m hl), codeB_er (filter_er hb l m hl), h1.2.2.1, h1.2.2.2, h2.2.2.1, h2.2.2.2, ta, tb]
end Bd
theorem Below.w2 {w0 w w' : World} {n : Nat} (h : Below n w0 w) (hb : Below w.heap.size w w') (hz : n ≤ w.heap.size) : Below n w0 w' := h.trans (hb.mono hz)

theorem implRes_v (A : Option Addr) (c : Nat) (l : List Bd) (d : S) (B : Nat) (w : World) {C : Int} {P : Bd} (hC : C = Bd.codeB (l.filter (Bd.fitM d))) (hP : P = Bd.pickB (l.filter (Bd.fitM d))) (hA : Bd.areB l = true) (hI : d.isI = true) (hbk : Bd.bulkL l ≤ 2000000) (hs : d.s.length ≤ 2000000) (hin : Bd.E.LIn w B A c l) (hd : d.In w B) (hB : B ≤ w.heap.size) :
    Calls Try.prog 92 #[.slice A l.length c, d.val] w fun e w' => ∃ x : Bd, e = .returned (.tuple #[x.val, .int .i64 C]) ∧ (x.k = P.k ∧ x.n = P.n) ∧ Below w.heap.size w w' := by
  refine (implRes_any A c l d B w hA hI hbk hs hin hd hB).mono ?_
  rintro e w' ⟨rfl, hb⟩
  exact ⟨_, by rw [hC], by rw [hP]; exact ⟨rfl, rfl⟩, hb⟩
theorem specRes_v (A : Option Addr) (c : Nat) (l : List Bd) (d : S) (B : Nat) (w : World) {C : Int} {P : Bd} (hC : C = Bd.codeB (l.filter (Bd.fitM d))) (hP : P = Bd.pickB (l.filter (Bd.fitM d))) (hbk : Bd.bulkL l ≤ 2000000) (hs : d.s.length ≤ 2000000) (hin : Bd.E.LIn w B A c l) (hd : d.In w B) (hB : B ≤ w.heap.size) :
    Calls Try.prog 91 #[.slice A l.length c, d.val] w fun e w' => ∃ x : Bd, e = .returned (.tuple #[x.val, .int .i64 C]) ∧ (x.k = P.k ∧ x.n = P.n) ∧ Below w.heap.size w w' := by
  refine (specRes_any A c l d B w hbk hs hin hd hB).mono ?_
  rintro e w' ⟨x, rfl, he, _, hb⟩
  have h := Bd.fields_of_er he
  exact ⟨x, by rw [hC], by rw [hP]; exact ⟨h.2.2.1, h.2.2.2⟩, hb⟩

set_option maxRecDepth 100000 in
set_option maxHeartbeats 4000000 in
theorem implMean_any (A_l : Option Addr) (c_l : Nat) (l : List Bd) (a b : S) (B : Nat) (w : World) (hbk : Bd.bulkL l ≤ 2000000) (hs_a : a.s.length ≤ 2000000) (hs_b : b.s.length ≤ 2000000) (hin : Bd.E.LIn w B A_l c_l l) (ha : a.In w B) (hb : b.In w B) (hB : B ≤ w.heap.size) :
    Calls Try.prog 41 #[.slice A_l l.length c_l, a.val, b.val] w fun e w' => e = .returned (.bool (Bd.smB l a b)) ∧ Below w.heap.size w w' := by
  have h_l := hin.more hB
  have h_a := ha.more hB
  have h_b := hb.more hB
  have hcap := hin.cap
  obtain ⟨C, hC⟩ : ∃ C, C = Bd.codeB (l.filter (Bd.fitM a)) := ⟨_, rfl⟩
  obtain ⟨N, hN⟩ : ∃ N, N = Bd.codeB (l.filter (Bd.fitM b)) := ⟨_, rfl⟩
  obtain ⟨P, hP⟩ : ∃ P, P = Bd.pickB (l.filter (Bd.fitM a)) := ⟨_, rfl⟩
  obtain ⟨Q, hQ⟩ : ∃ Q, Q = Bd.pickB (l.filter (Bd.fitM b)) := ⟨_, rfl⟩
  have HV : Hid (Bd.resM l a b = Bd.meanV C N P Q a.t b.t) := by rw [hC, hN, hP, hQ]; rfl
  have HC := Lib.hid hC
  have HN := Lib.hid hN
  have HP := Lib.hid hP
  have HQ := Lib.hid hQ
  clear hC hN hP hQ
  have HSM : Hid (Bd.smB l a b = (Bd.areB l && (a.isI && (b.isI && Bd.resM l a b)))) := rfl
  unfold S.val
  have b0 : Below w.heap.size w w := Below.refl _ _
  have i_l := h_l
  have i_a := h_a
  have i_b := h_b
  go_enter Try.func41, Try.ntmps41
  go_wp2_with fail
  obtain ⟨w2, hw2⟩ : ∃ W, W = (w.alloc (.cells #[.int .i64 a.k, .int .i64 a.n, .string a.t, .slice a.sa a.s.length a.sc, .slice a.A a.l.length a.c] 57)).alloc (.cells #[.int .i64 b.k, .int .i64 b.n, .string b.t, .slice b.sa b.s.length b.sc, .slice b.A b.l.length b.c] 57) := ⟨_, rfl⟩
  rw [← hw2]
  have hb2 : Below w.heap.size w w2 := by rw [hw2]; exact ((Below.refl _ _).alloc (Nat.le_refl _) _).alloc (by simp) _
  have z2 : w.heap.size + 2 ≤ w2.heap.size := by rw [hw2]; simp
  have xa : S.Box w2 w.heap.size a := by rw [hw2]; exact (S.Box.new w a _).below ((Below.refl (w.heap.size + 1) _).alloc (by simp) _) (by omega)
  have xb : S.Box w2 (w.heap.size + 1) b := by rw [hw2]; have := S.Box.new (w.alloc (.cells #[.int .i64 a.k, .int .i64 a.n, .string a.t, .slice a.sa a.s.length a.sc, .slice a.A a.l.length a.c] 57)) b 57; simpa using this
  clear hw2
  have b2 := b0.trans (hb2.mono (by omega))
  have i_l := h_l.below b2
  have i_a := h_a.below b2
  have i_b := h_b.below b2
  clear hb2 b0
  refine (implAreB_any A_l c_l l w.heap.size _ i_l (by omega)).mono ?_
  rintro e w3 ⟨rfl, hb3⟩
  have z3 := hb3.size
  have xa := xa.below hb3 (by omega)
  have xb := xb.below hb3 (by omega)
  have b3 := b2.trans (hb3.mono (by omega))
  have i_l := h_l.below b3
  have i_a := h_a.below b3
  have i_b := h_b.below b3
  clear hb3
  cases hq : Bd.areB l
  · have H := Lib.hid hq
    clear hq
    have xaq := xa
    obtain ⟨xa_0, xa_1, xa_2, xa_3, xa_4⟩ := xaq
    have xalt : w.heap.size < w3.heap.size := (by omega)
    have xbq := xb
    obtain ⟨xb_0, xb_1, xb_2, xb_3, xb_4⟩ := xbq
    have xblt : w.heap.size + 1 < w3.heap.size := (by omega)
    go_wp2_with fail
    clear xa_0 xa_1 xa_2 xa_3 xa_4 xalt
    clear xb_0 xb_1 xb_2 xb_3 xb_4 xblt
    go_ret
    exact ⟨ret_bool (by rw [HSM.out, H.out]; rfl), b3⟩
  have HA := Lib.hid hq
  clear hq
  have xaq := xa
  obtain ⟨xa_0, xa_1, xa_2, xa_3, xa_4⟩ := xaq
  have xalt : w.heap.size < w3.heap.size := (by omega)
  have xbq := xb
  obtain ⟨xb_0, xb_1, xb_2, xb_3, xb_4⟩ := xbq
  have xblt : w.heap.size + 1 < w3.heap.size := (by omega)
  go_wp2_with fail
  clear xa_0 xa_1 xa_2 xa_3 xa_4 xalt
  clear xb_0 xb_1 xb_2 xb_3 xb_4 xblt
  refine (implIdent_any a w.heap.size _ i_a (by omega)).mono ?_
  rintro e w4 ⟨rfl, hb4⟩
  have z4 := hb4.size
  have xa := xa.below hb4 (by omega)
  have xb := xb.below hb4 (by omega)
  have b4 := b3.trans (hb4.mono (by omega))
  have i_l := h_l.below b4
  have i_a := h_a.below b4
  have i_b := h_b.below b4
  clear hb4
  cases hq : a.isI
  · have H := Lib.hid hq
    clear hq
    have xaq := xa
    obtain ⟨xa_0, xa_1, xa_2, xa_3, xa_4⟩ := xaq
    have xalt : w.heap.size < w4.heap.size := (by omega)
    have xbq := xb
    obtain ⟨xb_0, xb_1, xb_2, xb_3, xb_4⟩ := xbq
    have xblt : w.heap.size + 1 < w4.heap.size := (by omega)
    go_wp2_with fail
    clear xa_0 xa_1 xa_2 xa_3 xa_4 xalt
    clear xb_0 xb_1 xb_2 xb_3 xb_4 xblt
    go_ret
    exact ⟨ret_bool (by rw [HSM.out, HA.out, H.out]; rfl), b4⟩
  have HIa := Lib.hid hq
  clear hq
  have xaq := xa
  obtain ⟨xa_0, xa_1, xa_2, xa_3, xa_4⟩ := xaq
  have xalt : w.heap.size < w4.heap.size := (by omega)
  have xbq := xb
  obtain ⟨xb_0, xb_1, xb_2, xb_3, xb_4⟩ := xbq
  have xblt : w.heap.size + 1 < w4.heap.size := (by omega)
  go_wp2_with fail
  clear xa_0 xa_1 xa_2 xa_3 xa_4 xalt
  clear xb_0 xb_1 xb_2 xb_3 xb_4 xblt
  refine (implIdent_any b w.heap.size _ i_b (by omega)).mono ?_
  rintro e w5 ⟨rfl, hb5⟩
  have z5 := hb5.size
  have xa := xa.below hb5 (by omega)
  have xb := xb.below hb5 (by omega)
  have b5 := b4.trans (hb5.mono (by omega))
  have i_l := h_l.below b5
  have i_a := h_a.below b5
  have i_b := h_b.below b5
  clear hb5
  cases hq : b.isI
  · have H := Lib.hid hq
    clear hq
    have xaq := xa
    obtain ⟨xa_0, xa_1, xa_2, xa_3, xa_4⟩ := xaq
    have xalt : w.heap.size < w5.heap.size := (by omega)
    have xbq := xb
    obtain ⟨xb_0, xb_1, xb_2, xb_3, xb_4⟩ := xbq
    have xblt : w.heap.size + 1 < w5.heap.size := (by omega)
    go_wp2_with fail
    clear xa_0 xa_1 xa_2 xa_3 xa_4 xalt
    clear xb_0 xb_1 xb_2 xb_3 xb_4 xblt
    go_ret
    exact ⟨ret_bool (by rw [HSM.out, HA.out, HIa.out, H.out]; rfl), b5⟩
  have HIb := Lib.hid hq
  clear hq
  have xaq := xa
  obtain ⟨xa_0, xa_1, xa_2, xa_3, xa_4⟩ := xaq
  have xalt : w.heap.size < w5.heap.size := (by omega)
  have xbq := xb
  obtain ⟨xb_0, xb_1, xb_2, xb_3, xb_4⟩ := xbq
  have xblt : w.heap.size + 1 < w5.heap.size := (by omega)
  go_wp2_with fail
  clear xa_0 xa_1 xa_2 xa_3 xa_4 xalt
  clear xb_0 xb_1 xb_2 xb_3 xb_4 xblt
  refine (implRes_v A_l c_l l a w.heap.size _ HC.out HP.out HA.out HIa.out hbk hs_a i_l i_a (by omega)).mono ?_
  rintro e w6 ⟨x, rfl, hkx, hb6⟩
  have z6 := hb6.size
  have xa := xa.below hb6 (by omega)
  have xb := xb.below hb6 (by omega)
  have b6 := b5.trans (hb6.mono (by omega))
  have i_l := h_l.below b6
  have i_a := h_a.below b6
  have i_b := h_b.below b6
  clear hb6
  have Kx := Lib.hid hkx
  clear hkx
  simp only [Bd.val]
  have xaq := xa
  obtain ⟨xa_0, xa_1, xa_2, xa_3, xa_4⟩ := xaq
  have xalt : w.heap.size < w6.heap.size := (by omega)
  have xbq := xb
  obtain ⟨xb_0, xb_1, xb_2, xb_3, xb_4⟩ := xbq
  have xblt : w.heap.size + 1 < w6.heap.size := (by omega)
  go_wp2_with fail
  clear xa_0 xa_1 xa_2 xa_3 xa_4 xalt
  clear xb_0 xb_1 xb_2 xb_3 xb_4 xblt
  obtain ⟨w7, hw7⟩ : ∃ W, W = w6.alloc (.cells #[.string x.t, .slice x.sa x.s.length x.sc, .int .i64 x.k, .int .i64 x.n] 43) := ⟨_, rfl⟩
  rw [← hw7]
  have hb7 : Below w6.heap.size w6 w7 := by rw [hw7]; exact (Below.refl _ _).alloc (Nat.le_refl _) _
  have z7 : w6.heap.size + 1 ≤ w7.heap.size := by rw [hw7]; simp
  have y7 : w7.heap.size ≤ w6.heap.size + 1 := by rw [hw7]; simp
  have gx : Bd.Box w7 w6.heap.size x := by rw [hw7]; exact Bd.Box.new _ _ _
  clear hw7
  have xa := xa.below hb7 (by omega)
  have xb := xb.below hb7 (by omega)
  have b7 := b6.trans (hb7.mono (by omega))
  have i_l := h_l.below b7
  have i_a := h_a.below b7
  have i_b := h_b.below b7
  clear hb7
  refine (implRes_v A_l c_l l b w.heap.size _ HN.out HQ.out HA.out HIb.out hbk hs_b i_l i_b (by omega)).mono ?_
  rintro e w8 ⟨y, rfl, hky, hb8⟩
  have z8 := hb8.size
  have xa := xa.below hb8 (by omega)
  have xb := xb.below hb8 (by omega)
  have gx := gx.below hb8 (by omega)
  have b8 := b7.trans (hb8.mono (by omega))
  have i_l := h_l.below b8
  have i_a := h_a.below b8
  have i_b := h_b.below b8
  clear hb8
  have Ky := Lib.hid hky
  clear hky
  simp only [Bd.val]
  have xaq := xa
  obtain ⟨xa_0, xa_1, xa_2, xa_3, xa_4⟩ := xaq
  have xalt : w.heap.size < w8.heap.size := (by omega)
  have xbq := xb
  obtain ⟨xb_0, xb_1, xb_2, xb_3, xb_4⟩ := xbq
  have xblt : w.heap.size + 1 < w8.heap.size := (by omega)
  have gxq := gx
  obtain ⟨gx_0, gx_1, gx_2, gx_3⟩ := gxq
  have gxlt : w6.heap.size < w8.heap.size := (by omega)
  go_upto_region 5 with fail
  clear xa_0 xa_1 xa_2 xa_3 xa_4 xalt
  clear xb_0 xb_1 xb_2 xb_3 xb_4 xblt
  clear gx_0 gx_1 gx_2 gx_3 gxlt
  obtain ⟨w9, hw9⟩ : ∃ W, W = w8.alloc (.cells #[.string y.t, .slice y.sa y.s.length y.sc, .int .i64 y.k, .int .i64 y.n] 43) := ⟨_, rfl⟩
  rw [← hw9]
  have hb9 : Below w8.heap.size w8 w9 := by rw [hw9]; exact (Below.refl _ _).alloc (Nat.le_refl _) _
  have z9 : w8.heap.size + 1 ≤ w9.heap.size := by rw [hw9]; simp
  have y9 : w9.heap.size ≤ w8.heap.size + 1 := by rw [hw9]; simp
  have gy : Bd.Box w9 w8.heap.size y := by rw [hw9]; exact Bd.Box.new _ _ _
  clear hw9
  have xa := xa.below hb9 (by omega)
  have xb := xb.below hb9 (by omega)
  have gx := gx.below hb9 (by omega)
  have b9 := b8.trans (hb9.mono (by omega))
  have i_l := h_l.below b9
  have i_a := h_a.below b9
  have i_b := h_b.below b9
  clear hb9
  clear i_l i_a i_b
  by_cases hc : C = 0
  · skip
    subst hc
    by_cases hc : N = 0
    · skip
      subst hc
      have xaq := xa
      obtain ⟨xa_0, xa_1, xa_2, xa_3, xa_4⟩ := xaq
      have xalt : w.heap.size < w9.heap.size := (by omega)
      have xbq := xb
      obtain ⟨xb_0, xb_1, xb_2, xb_3, xb_4⟩ := xbq
      have xblt : w.heap.size + 1 < w9.heap.size := (by omega)
      have gxq := gx
      obtain ⟨gx_0, gx_1, gx_2, gx_3⟩ := gxq
      have gxlt : w6.heap.size < w9.heap.size := (by omega)
      have gyq := gy
      obtain ⟨gy_0, gy_1, gy_2, gy_3⟩ := gyq
      have gylt : w8.heap.size < w9.heap.size := (by omega)
      go_wp2_with fail
      clear xa_0 xa_1 xa_2 xa_3 xa_4 xalt
      clear xb_0 xb_1 xb_2 xb_3 xb_4 xblt
      clear gx_0 gx_1 gx_2 gx_3 gxlt
      clear gy_0 gy_1 gy_2 gy_3 gylt
      go_ret
      exact ⟨ret_bool (by rw [HSM.out, HA.out, HIa.out, HIb.out, Bool.true_and, Bool.true_and, Bool.true_and, HV.out]; simp [Bd.meanV]), b9⟩
    · skip
      have eN0 : (N == 0) = false := beq_false_of_ne hc
      have HN0 := Lib.hid hc
      clear hc
      have xaq := xa
      obtain ⟨xa_0, xa_1, xa_2, xa_3, xa_4⟩ := xaq
      have xalt : w.heap.size < w9.heap.size := (by omega)
      have xbq := xb
      obtain ⟨xb_0, xb_1, xb_2, xb_3, xb_4⟩ := xbq
      have xblt : w.heap.size + 1 < w9.heap.size := (by omega)
      have gxq := gx
      obtain ⟨gx_0, gx_1, gx_2, gx_3⟩ := gxq
      have gxlt : w6.heap.size < w9.heap.size := (by omega)
      have gyq := gy
      obtain ⟨gy_0, gy_1, gy_2, gy_3⟩ := gyq
      have gylt : w8.heap.size < w9.heap.size := (by omega)
      go_wp2_with fail
      clear xa_0 xa_1 xa_2 xa_3 xa_4 xalt
      clear xb_0 xb_1 xb_2 xb_3 xb_4 xblt
      clear gx_0 gx_1 gx_2 gx_3 gxlt
      clear gy_0 gy_1 gy_2 gy_3 gylt
      go_ret
      exact ⟨ret_bool (by rw [HSM.out, HA.out, HIa.out, HIb.out, Bool.true_and, Bool.true_and, Bool.true_and, HV.out]; simp [Bd.meanV, show ¬ N = 0 from HN0.out]), b9⟩
  · skip
    have eC0 : (C == 0) = false := beq_false_of_ne hc
    have HC0 := Lib.hid hc
    clear hc
    by_cases hc : C = 1
    · skip
      subst hc
      by_cases hc : N = 1
      · skip
        subst hc
        by_cases hc : x.k = y.k
        · skip
          have ek : (x.k == y.k) = true := by simp [hc]
          have Hk := Lib.hid hc
          clear hc
          by_cases hc : x.n = y.n
          · skip
            have en : (x.n == y.n) = true := by simp [hc]
            have Hn := Lib.hid hc
            clear hc
            have xaq := xa
            obtain ⟨xa_0, xa_1, xa_2, xa_3, xa_4⟩ := xaq
            have xalt : w.heap.size < w9.heap.size := (by omega)
            have xbq := xb
            obtain ⟨xb_0, xb_1, xb_2, xb_3, xb_4⟩ := xbq
            have xblt : w.heap.size + 1 < w9.heap.size := (by omega)
            have gxq := gx
            obtain ⟨gx_0, gx_1, gx_2, gx_3⟩ := gxq
            have gxlt : w6.heap.size < w9.heap.size := (by omega)
            have gyq := gy
            obtain ⟨gy_0, gy_1, gy_2, gy_3⟩ := gyq
            have gylt : w8.heap.size < w9.heap.size := (by omega)
            go_wp2_with fail
            clear xa_0 xa_1 xa_2 xa_3 xa_4 xalt
            clear xb_0 xb_1 xb_2 xb_3 xb_4 xblt
            clear gx_0 gx_1 gx_2 gx_3 gxlt
            clear gy_0 gy_1 gy_2 gy_3 gylt
            go_ret
            exact ⟨ret_bool (by rw [HSM.out, HA.out, HIa.out, HIb.out, Bool.true_and, Bool.true_and, Bool.true_and, HV.out]; simp [Bd.meanV, ← Kx.out.1, ← Ky.out.1, ← Kx.out.2, ← Ky.out.2, Hk.out, Hn.out]), b9⟩
          · skip
            have en : (x.n == y.n) = false := beq_false_of_ne hc
            have Hn := Lib.hid hc
            clear hc
            have xaq := xa
            obtain ⟨xa_0, xa_1, xa_2, xa_3, xa_4⟩ := xaq
            have xalt : w.heap.size < w9.heap.size := (by omega)
            have xbq := xb
            obtain ⟨xb_0, xb_1, xb_2, xb_3, xb_4⟩ := xbq
            have xblt : w.heap.size + 1 < w9.heap.size := (by omega)
            have gxq := gx
            obtain ⟨gx_0, gx_1, gx_2, gx_3⟩ := gxq
            have gxlt : w6.heap.size < w9.heap.size := (by omega)
            have gyq := gy
            obtain ⟨gy_0, gy_1, gy_2, gy_3⟩ := gyq
            have gylt : w8.heap.size < w9.heap.size := (by omega)
            go_wp2_with fail
            clear xa_0 xa_1 xa_2 xa_3 xa_4 xalt
            clear xb_0 xb_1 xb_2 xb_3 xb_4 xblt
            clear gx_0 gx_1 gx_2 gx_3 gxlt
            clear gy_0 gy_1 gy_2 gy_3 gylt
            go_ret
            exact ⟨ret_bool (by rw [HSM.out, HA.out, HIa.out, HIb.out, Bool.true_and, Bool.true_and, Bool.true_and, HV.out]; simp [Bd.meanV, ← Kx.out.2, ← Ky.out.2, show ¬ x.n = y.n from Hn.out]), b9⟩
        · skip
          have ek : (x.k == y.k) = false := beq_false_of_ne hc
          have Hk := Lib.hid hc
          clear hc
          have xaq := xa
          obtain ⟨xa_0, xa_1, xa_2, xa_3, xa_4⟩ := xaq
          have xalt : w.heap.size < w9.heap.size := (by omega)
          have xbq := xb
          obtain ⟨xb_0, xb_1, xb_2, xb_3, xb_4⟩ := xbq
          have xblt : w.heap.size + 1 < w9.heap.size := (by omega)
          have gxq := gx
          obtain ⟨gx_0, gx_1, gx_2, gx_3⟩ := gxq
          have gxlt : w6.heap.size < w9.heap.size := (by omega)
          have gyq := gy
          obtain ⟨gy_0, gy_1, gy_2, gy_3⟩ := gyq
          have gylt : w8.heap.size < w9.heap.size := (by omega)
          go_wp2_with fail
          clear xa_0 xa_1 xa_2 xa_3 xa_4 xalt
          clear xb_0 xb_1 xb_2 xb_3 xb_4 xblt
          clear gx_0 gx_1 gx_2 gx_3 gxlt
          clear gy_0 gy_1 gy_2 gy_3 gylt
          go_ret
          exact ⟨ret_bool (by rw [HSM.out, HA.out, HIa.out, HIb.out, Bool.true_and, Bool.true_and, Bool.true_and, HV.out]; simp [Bd.meanV, ← Kx.out.1, ← Ky.out.1, show ¬ x.k = y.k from Hk.out]), b9⟩
      · skip
        have eN1 : (N == 1) = false := beq_false_of_ne hc
        have HN1 := Lib.hid hc
        clear hc
        have xaq := xa
        obtain ⟨xa_0, xa_1, xa_2, xa_3, xa_4⟩ := xaq
        have xalt : w.heap.size < w9.heap.size := (by omega)
        have xbq := xb
        obtain ⟨xb_0, xb_1, xb_2, xb_3, xb_4⟩ := xbq
        have xblt : w.heap.size + 1 < w9.heap.size := (by omega)
        have gxq := gx
        obtain ⟨gx_0, gx_1, gx_2, gx_3⟩ := gxq
        have gxlt : w6.heap.size < w9.heap.size := (by omega)
        have gyq := gy
        obtain ⟨gy_0, gy_1, gy_2, gy_3⟩ := gyq
        have gylt : w8.heap.size < w9.heap.size := (by omega)
        go_wp2_with fail
        clear xa_0 xa_1 xa_2 xa_3 xa_4 xalt
        clear xb_0 xb_1 xb_2 xb_3 xb_4 xblt
        clear gx_0 gx_1 gx_2 gx_3 gxlt
        clear gy_0 gy_1 gy_2 gy_3 gylt
        go_ret
        exact ⟨ret_bool (by rw [HSM.out, HA.out, HIa.out, HIb.out, Bool.true_and, Bool.true_and, Bool.true_and, HV.out]; simp [Bd.meanV, show ¬ N = 1 from HN1.out]), b9⟩
    · skip
      have eC1 : (C == 1) = false := beq_false_of_ne hc
      have HC1 := Lib.hid hc
      clear hc
      have xaq := xa
      obtain ⟨xa_0, xa_1, xa_2, xa_3, xa_4⟩ := xaq
      have xalt : w.heap.size < w9.heap.size := (by omega)
      have xbq := xb
      obtain ⟨xb_0, xb_1, xb_2, xb_3, xb_4⟩ := xbq
      have xblt : w.heap.size + 1 < w9.heap.size := (by omega)
      have gxq := gx
      obtain ⟨gx_0, gx_1, gx_2, gx_3⟩ := gxq
      have gxlt : w6.heap.size < w9.heap.size := (by omega)
      have gyq := gy
      obtain ⟨gy_0, gy_1, gy_2, gy_3⟩ := gyq
      have gylt : w8.heap.size < w9.heap.size := (by omega)
      go_wp2_with fail
      clear xa_0 xa_1 xa_2 xa_3 xa_4 xalt
      clear xb_0 xb_1 xb_2 xb_3 xb_4 xblt
      clear gx_0 gx_1 gx_2 gx_3 gxlt
      clear gy_0 gy_1 gy_2 gy_3 gylt
      go_ret
      exact ⟨ret_bool (by rw [HSM.out, HA.out, HIa.out, HIb.out, Bool.true_and, Bool.true_and, Bool.true_and, HV.out]; simp [Bd.meanV, show ¬ C = 1 from HC1.out, show ¬ C = 0 from HC0.out]), b9⟩

set_option maxRecDepth 100000 in
set_option maxHeartbeats 4000000 in
theorem specMean_any (A_l : Option Addr) (c_l : Nat) (l : List Bd) (a b : S) (B : Nat) (w : World) (hbk : Bd.bulkL l ≤ 2000000) (hs_a : a.s.length ≤ 2000000) (hs_b : b.s.length ≤ 2000000) (hin : Bd.E.LIn w B A_l c_l l) (ha : a.In w B) (hb : b.In w B) (hB : B ≤ w.heap.size) :
    Calls Try.prog 93 #[.slice A_l l.length c_l, a.val, b.val] w fun e w' => e = .returned (.bool (Bd.resM l a b)) ∧ Below w.heap.size w w' := by
  have h_l := hin.more hB
  have h_a := ha.more hB
  have h_b := hb.more hB
  have hcap := hin.cap
  obtain ⟨C, hC⟩ : ∃ C, C = Bd.codeB (l.filter (Bd.fitM a)) := ⟨_, rfl⟩
  obtain ⟨N, hN⟩ : ∃ N, N = Bd.codeB (l.filter (Bd.fitM b)) := ⟨_, rfl⟩
  obtain ⟨P, hP⟩ : ∃ P, P = Bd.pickB (l.filter (Bd.fitM a)) := ⟨_, rfl⟩
  obtain ⟨Q, hQ⟩ : ∃ Q, Q = Bd.pickB (l.filter (Bd.fitM b)) := ⟨_, rfl⟩
  have HV : Hid (Bd.resM l a b = Bd.meanV C N P Q a.t b.t) := by rw [hC, hN, hP, hQ]; rfl
  have HC := Lib.hid hC
  have HN := Lib.hid hN
  have HP := Lib.hid hP
  have HQ := Lib.hid hQ
  clear hC hN hP hQ
  unfold S.val
  have b0 : Below w.heap.size w w := Below.refl _ _
  have i_l := h_l
  have i_a := h_a
  have i_b := h_b
  go_enter Try.func93, Try.ntmps93
  go_wp2_with fail
  obtain ⟨w2, hw2⟩ : ∃ W, W = (w.alloc (.cells #[.int .i64 a.k, .int .i64 a.n, .string a.t, .slice a.sa a.s.length a.sc, .slice a.A a.l.length a.c] 57)).alloc (.cells #[.int .i64 b.k, .int .i64 b.n, .string b.t, .slice b.sa b.s.length b.sc, .slice b.A b.l.length b.c] 57) := ⟨_, rfl⟩
  rw [← hw2]
  have hb2 : Below w.heap.size w w2 := by rw [hw2]; exact ((Below.refl _ _).alloc (Nat.le_refl _) _).alloc (by simp) _
  have z2 : w.heap.size + 2 ≤ w2.heap.size := by rw [hw2]; simp
  have xa : S.Box w2 w.heap.size a := by rw [hw2]; exact (S.Box.new w a _).below ((Below.refl (w.heap.size + 1) _).alloc (by simp) _) (by omega)
  have xb : S.Box w2 (w.heap.size + 1) b := by rw [hw2]; have := S.Box.new (w.alloc (.cells #[.int .i64 a.k, .int .i64 a.n, .string a.t, .slice a.sa a.s.length a.sc, .slice a.A a.l.length a.c] 57)) b 57; simpa using this
  clear hw2
  have b2 := b0.trans (hb2.mono (by omega))
  have i_l := h_l.below b2
  have i_a := h_a.below b2
  have i_b := h_b.below b2
  clear hb2 b0
  have xaq := xa
  obtain ⟨xa_0, xa_1, xa_2, xa_3, xa_4⟩ := xaq
  have xalt : w.heap.size < w2.heap.size := (by omega)
  have xbq := xb
  obtain ⟨xb_0, xb_1, xb_2, xb_3, xb_4⟩ := xbq
  have xblt : w.heap.size + 1 < w2.heap.size := (by omega)
  go_wp2_with fail
  clear xa_0 xa_1 xa_2 xa_3 xa_4 xalt
  clear xb_0 xb_1 xb_2 xb_3 xb_4 xblt
  refine (specRes_v A_l c_l l a w.heap.size _ HC.out HP.out hbk hs_a i_l i_a (by omega)).mono ?_
  rintro e w3 ⟨x, rfl, hkx, hb3⟩
  have z3 := hb3.size
  have xa := xa.below hb3 (by omega)
  have xb := xb.below hb3 (by omega)
  have b3 := b2.trans (hb3.mono (by omega))
  have i_l := h_l.below b3
  have i_a := h_a.below b3
  have i_b := h_b.below b3
  clear hb3
  have Kx := Lib.hid hkx
  clear hkx
  simp only [Bd.val]
  have xaq := xa
  obtain ⟨xa_0, xa_1, xa_2, xa_3, xa_4⟩ := xaq
  have xalt : w.heap.size < w3.heap.size := (by omega)
  have xbq := xb
  obtain ⟨xb_0, xb_1, xb_2, xb_3, xb_4⟩ := xbq
  have xblt : w.heap.size + 1 < w3.heap.size := (by omega)
  go_wp2_with fail
  clear xa_0 xa_1 xa_2 xa_3 xa_4 xalt
  clear xb_0 xb_1 xb_2 xb_3 xb_4 xblt
  obtain ⟨w4, hw4⟩ : ∃ W, W = w3.alloc (.cells #[.string x.t, .slice x.sa x.s.length x.sc, .int .i64 x.k, .int .i64 x.n] 43) := ⟨_, rfl⟩
  rw [← hw4]
  have hb4 : Below w3.heap.size w3 w4 := by rw [hw4]; exact (Below.refl _ _).alloc (Nat.le_refl _) _
  have z4 : w3.heap.size + 1 ≤ w4.heap.size := by rw [hw4]; simp
  have y4 : w4.heap.size ≤ w3.heap.size + 1 := by rw [hw4]; simp
  have gx : Bd.Box w4 w3.heap.size x := by rw [hw4]; exact Bd.Box.new _ _ _
  clear hw4
  have xa := xa.below hb4 (by omega)
  have xb := xb.below hb4 (by omega)
  have b4 := b3.trans (hb4.mono (by omega))
  have i_l := h_l.below b4
  have i_a := h_a.below b4
  have i_b := h_b.below b4
  clear hb4
  refine (specRes_v A_l c_l l b w.heap.size _ HN.out HQ.out hbk hs_b i_l i_b (by omega)).mono ?_
  rintro e w5 ⟨y, rfl, hky, hb5⟩
  have z5 := hb5.size
  have xa := xa.below hb5 (by omega)
  have xb := xb.below hb5 (by omega)
  have gx := gx.below hb5 (by omega)
  have b5 := b4.trans (hb5.mono (by omega))
  have i_l := h_l.below b5
  have i_a := h_a.below b5
  have i_b := h_b.below b5
  clear hb5
  have Ky := Lib.hid hky
  clear hky
  simp only [Bd.val]
  have xaq := xa
  obtain ⟨xa_0, xa_1, xa_2, xa_3, xa_4⟩ := xaq
  have xalt : w.heap.size < w5.heap.size := (by omega)
  have xbq := xb
  obtain ⟨xb_0, xb_1, xb_2, xb_3, xb_4⟩ := xbq
  have xblt : w.heap.size + 1 < w5.heap.size := (by omega)
  have gxq := gx
  obtain ⟨gx_0, gx_1, gx_2, gx_3⟩ := gxq
  have gxlt : w3.heap.size < w5.heap.size := (by omega)
  go_upto_region 3 with fail
  clear xa_0 xa_1 xa_2 xa_3 xa_4 xalt
  clear xb_0 xb_1 xb_2 xb_3 xb_4 xblt
  clear gx_0 gx_1 gx_2 gx_3 gxlt
  obtain ⟨w6, hw6⟩ : ∃ W, W = w5.alloc (.cells #[.string y.t, .slice y.sa y.s.length y.sc, .int .i64 y.k, .int .i64 y.n] 43) := ⟨_, rfl⟩
  rw [← hw6]
  have hb6 : Below w5.heap.size w5 w6 := by rw [hw6]; exact (Below.refl _ _).alloc (Nat.le_refl _) _
  have z6 : w5.heap.size + 1 ≤ w6.heap.size := by rw [hw6]; simp
  have y6 : w6.heap.size ≤ w5.heap.size + 1 := by rw [hw6]; simp
  have gy : Bd.Box w6 w5.heap.size y := by rw [hw6]; exact Bd.Box.new _ _ _
  clear hw6
  have xa := xa.below hb6 (by omega)
  have xb := xb.below hb6 (by omega)
  have gx := gx.below hb6 (by omega)
  have b6 := b5.trans (hb6.mono (by omega))
  have i_l := h_l.below b6
  have i_a := h_a.below b6
  have i_b := h_b.below b6
  clear hb6
  clear i_l i_a i_b
  by_cases hc : C = 0
  · skip
    subst hc
    by_cases hc : N = 0
    · skip
      subst hc
      have xaq := xa
      obtain ⟨xa_0, xa_1, xa_2, xa_3, xa_4⟩ := xaq
      have xalt : w.heap.size < w6.heap.size := (by omega)
      have xbq := xb
      obtain ⟨xb_0, xb_1, xb_2, xb_3, xb_4⟩ := xbq
      have xblt : w.heap.size + 1 < w6.heap.size := (by omega)
      have gxq := gx
      obtain ⟨gx_0, gx_1, gx_2, gx_3⟩ := gxq
      have gxlt : w3.heap.size < w6.heap.size := (by omega)
      have gyq := gy
      obtain ⟨gy_0, gy_1, gy_2, gy_3⟩ := gyq
      have gylt : w5.heap.size < w6.heap.size := (by omega)
      go_wp2_with fail
      clear xa_0 xa_1 xa_2 xa_3 xa_4 xalt
      clear xb_0 xb_1 xb_2 xb_3 xb_4 xblt
      clear gx_0 gx_1 gx_2 gx_3 gxlt
      clear gy_0 gy_1 gy_2 gy_3 gylt
      go_ret
      exact ⟨ret_bool (by rw [HV.out]; simp [Bd.meanV]), b6⟩
    · skip
      have eN0 : (N == 0) = false := beq_false_of_ne hc
      have HN0 := Lib.hid hc
      clear hc
      have xaq := xa
      obtain ⟨xa_0, xa_1, xa_2, xa_3, xa_4⟩ := xaq
      have xalt : w.heap.size < w6.heap.size := (by omega)
      have xbq := xb
      obtain ⟨xb_0, xb_1, xb_2, xb_3, xb_4⟩ := xbq
      have xblt : w.heap.size + 1 < w6.heap.size := (by omega)
      have gxq := gx
      obtain ⟨gx_0, gx_1, gx_2, gx_3⟩ := gxq
      have gxlt : w3.heap.size < w6.heap.size := (by omega)
      have gyq := gy
      obtain ⟨gy_0, gy_1, gy_2, gy_3⟩ := gyq
      have gylt : w5.heap.size < w6.heap.size := (by omega)
      go_wp2_with fail
      clear xa_0 xa_1 xa_2 xa_3 xa_4 xalt
      clear xb_0 xb_1 xb_2 xb_3 xb_4 xblt
      clear gx_0 gx_1 gx_2 gx_3 gxlt
      clear gy_0 gy_1 gy_2 gy_3 gylt
      go_ret
      exact ⟨ret_bool (by rw [HV.out]; simp [Bd.meanV, show ¬ N = 0 from HN0.out]), b6⟩
  · skip
    have eC0 : (C == 0) = false := beq_false_of_ne hc
    have HC0 := Lib.hid hc
    clear hc
    by_cases hc : C = 1
    · skip
      subst hc
      by_cases hc : N = 1
      · skip
        subst hc
        by_cases hc : x.k = y.k
        · skip
          have ek : (x.k == y.k) = true := by simp [hc]
          have Hk := Lib.hid hc
          clear hc
          by_cases hc : x.n = y.n
          · skip
            have en : (x.n == y.n) = true := by simp [hc]
            have Hn := Lib.hid hc
            clear hc
            have xaq := xa
            obtain ⟨xa_0, xa_1, xa_2, xa_3, xa_4⟩ := xaq
            have xalt : w.heap.size < w6.heap.size := (by omega)
            have xbq := xb
            obtain ⟨xb_0, xb_1, xb_2, xb_3, xb_4⟩ := xbq
            have xblt : w.heap.size + 1 < w6.heap.size := (by omega)
            have gxq := gx
            obtain ⟨gx_0, gx_1, gx_2, gx_3⟩ := gxq
            have gxlt : w3.heap.size < w6.heap.size := (by omega)
            have gyq := gy
            obtain ⟨gy_0, gy_1, gy_2, gy_3⟩ := gyq
            have gylt : w5.heap.size < w6.heap.size := (by omega)
            go_wp2_with fail
            clear xa_0 xa_1 xa_2 xa_3 xa_4 xalt
            clear xb_0 xb_1 xb_2 xb_3 xb_4 xblt
            clear gx_0 gx_1 gx_2 gx_3 gxlt
            clear gy_0 gy_1 gy_2 gy_3 gylt
            go_ret
            exact ⟨ret_bool (by rw [HV.out]; simp [Bd.meanV, ← Kx.out.1, ← Ky.out.1, ← Kx.out.2, ← Ky.out.2, Hk.out, Hn.out]), b6⟩
          · skip
            have en : (x.n == y.n) = false := beq_false_of_ne hc
            have Hn := Lib.hid hc
            clear hc
            have xaq := xa
            obtain ⟨xa_0, xa_1, xa_2, xa_3, xa_4⟩ := xaq
            have xalt : w.heap.size < w6.heap.size := (by omega)
            have xbq := xb
            obtain ⟨xb_0, xb_1, xb_2, xb_3, xb_4⟩ := xbq
            have xblt : w.heap.size + 1 < w6.heap.size := (by omega)
            have gxq := gx
            obtain ⟨gx_0, gx_1, gx_2, gx_3⟩ := gxq
            have gxlt : w3.heap.size < w6.heap.size := (by omega)
            have gyq := gy
            obtain ⟨gy_0, gy_1, gy_2, gy_3⟩ := gyq
            have gylt : w5.heap.size < w6.heap.size := (by omega)
            go_wp2_with fail
            clear xa_0 xa_1 xa_2 xa_3 xa_4 xalt
            clear xb_0 xb_1 xb_2 xb_3 xb_4 xblt
            clear gx_0 gx_1 gx_2 gx_3 gxlt
            clear gy_0 gy_1 gy_2 gy_3 gylt
            go_ret
            exact ⟨ret_bool (by rw [HV.out]; simp [Bd.meanV, ← Kx.out.2, ← Ky.out.2, show ¬ x.n = y.n from Hn.out]), b6⟩
        · skip
          have ek : (x.k == y.k) = false := beq_false_of_ne hc
          have Hk := Lib.hid hc
          clear hc
          have xaq := xa
          obtain ⟨xa_0, xa_1, xa_2, xa_3, xa_4⟩ := xaq
          have xalt : w.heap.size < w6.heap.size := (by omega)
          have xbq := xb
          obtain ⟨xb_0, xb_1, xb_2, xb_3, xb_4⟩ := xbq
          have xblt : w.heap.size + 1 < w6.heap.size := (by omega)
          have gxq := gx
          obtain ⟨gx_0, gx_1, gx_2, gx_3⟩ := gxq
          have gxlt : w3.heap.size < w6.heap.size := (by omega)
          have gyq := gy
          obtain ⟨gy_0, gy_1, gy_2, gy_3⟩ := gyq
          have gylt : w5.heap.size < w6.heap.size := (by omega)
          go_wp2_with fail
          clear xa_0 xa_1 xa_2 xa_3 xa_4 xalt
          clear xb_0 xb_1 xb_2 xb_3 xb_4 xblt
          clear gx_0 gx_1 gx_2 gx_3 gxlt
          clear gy_0 gy_1 gy_2 gy_3 gylt
          go_ret
          exact ⟨ret_bool (by rw [HV.out]; simp [Bd.meanV, ← Kx.out.1, ← Ky.out.1, show ¬ x.k = y.k from Hk.out]), b6⟩
      · skip
        have eN1 : (N == 1) = false := beq_false_of_ne hc
        have HN1 := Lib.hid hc
        clear hc
        have xaq := xa
        obtain ⟨xa_0, xa_1, xa_2, xa_3, xa_4⟩ := xaq
        have xalt : w.heap.size < w6.heap.size := (by omega)
        have xbq := xb
        obtain ⟨xb_0, xb_1, xb_2, xb_3, xb_4⟩ := xbq
        have xblt : w.heap.size + 1 < w6.heap.size := (by omega)
        have gxq := gx
        obtain ⟨gx_0, gx_1, gx_2, gx_3⟩ := gxq
        have gxlt : w3.heap.size < w6.heap.size := (by omega)
        have gyq := gy
        obtain ⟨gy_0, gy_1, gy_2, gy_3⟩ := gyq
        have gylt : w5.heap.size < w6.heap.size := (by omega)
        go_wp2_with fail
        clear xa_0 xa_1 xa_2 xa_3 xa_4 xalt
        clear xb_0 xb_1 xb_2 xb_3 xb_4 xblt
        clear gx_0 gx_1 gx_2 gx_3 gxlt
        clear gy_0 gy_1 gy_2 gy_3 gylt
        go_ret
        exact ⟨ret_bool (by rw [HV.out]; simp [Bd.meanV, show ¬ N = 1 from HN1.out]), b6⟩
    · skip
      have eC1 : (C == 1) = false := beq_false_of_ne hc
      have HC1 := Lib.hid hc
      clear hc
      have xaq := xa
      obtain ⟨xa_0, xa_1, xa_2, xa_3, xa_4⟩ := xaq
      have xalt : w.heap.size < w6.heap.size := (by omega)
      have xbq := xb
      obtain ⟨xb_0, xb_1, xb_2, xb_3, xb_4⟩ := xbq
      have xblt : w.heap.size + 1 < w6.heap.size := (by omega)
      have gxq := gx
      obtain ⟨gx_0, gx_1, gx_2, gx_3⟩ := gxq
      have gxlt : w3.heap.size < w6.heap.size := (by omega)
      have gyq := gy
      obtain ⟨gy_0, gy_1, gy_2, gy_3⟩ := gyq
      have gylt : w5.heap.size < w6.heap.size := (by omega)
      go_wp2_with fail
      clear xa_0 xa_1 xa_2 xa_3 xa_4 xalt
      clear xb_0 xb_1 xb_2 xb_3 xb_4 xblt
      clear gx_0 gx_1 gx_2 gx_3 gxlt
      clear gy_0 gy_1 gy_2 gy_3 gylt
      go_ret
      exact ⟨ret_bool (by rw [HV.out]; simp [Bd.meanV, show ¬ C = 1 from HC1.out, show ¬ C = 0 from HC0.out]), b6⟩

set_option maxRecDepth 100000 in
set_option maxHeartbeats 4000000 in
theorem specSame_any (A_l : Option Addr) (c_l : Nat) (l : List Bd) (a b : S) (B : Nat) (w : World) (hbk : Bd.bulkL l ≤ 2000000) (hs_a : a.s.length ≤ 2000000) (hs_b : b.s.length ≤ 2000000) (hz_a : a.size ≤ 2000000) (hz_b : b.size ≤ 2000000) (hin : Bd.E.LIn w B A_l c_l l) (ha : a.In w B) (hb : b.In w B) (hB : B ≤ w.heap.size) :
    Calls Try.prog 40 #[.slice A_l l.length c_l, a.val, b.val] w fun e w' => e = .returned (.bool (Bd.smB l a b)) ∧ Below w.heap.size w w' := by
  have h_l := hin.more hB
  have h_a := ha.more hB
  have h_b := hb.more hB
  have hcap := hin.cap
  have HSM : Hid (Bd.smB l a b = (Bd.areB l && (a.isI && (b.isI && Bd.resM l a b)))) := rfl
  unfold S.val
  have b0 : Below w.heap.size w w := Below.refl _ _
  have i_l := h_l
  have i_a := h_a
  have i_b := h_b
  go_enter Try.func40, Try.ntmps40
  go_wp2_with fail
  obtain ⟨w2, hw2⟩ : ∃ W, W = (w.alloc (.cells #[.int .i64 a.k, .int .i64 a.n, .string a.t, .slice a.sa a.s.length a.sc, .slice a.A a.l.length a.c] 57)).alloc (.cells #[.int .i64 b.k, .int .i64 b.n, .string b.t, .slice b.sa b.s.length b.sc, .slice b.A b.l.length b.c] 57) := ⟨_, rfl⟩
  rw [← hw2]
  have hb2 : Below w.heap.size w w2 := by rw [hw2]; exact ((Below.refl _ _).alloc (Nat.le_refl _) _).alloc (by simp) _
  have z2 : w.heap.size + 2 ≤ w2.heap.size := by rw [hw2]; simp
  have xa : S.Box w2 w.heap.size a := by rw [hw2]; exact (S.Box.new w a _).below ((Below.refl (w.heap.size + 1) _).alloc (by simp) _) (by omega)
  have xb : S.Box w2 (w.heap.size + 1) b := by rw [hw2]; have := S.Box.new (w.alloc (.cells #[.int .i64 a.k, .int .i64 a.n, .string a.t, .slice a.sa a.s.length a.sc, .slice a.A a.l.length a.c] 57)) b 57; simpa using this
  clear hw2
  have b2 := b0.trans (hb2.mono (by omega))
  have i_l := h_l.below b2
  have i_a := h_a.below b2
  have i_b := h_b.below b2
  clear hb2 b0
  refine (specAreB_any A_l c_l l w.heap.size _ i_l (by omega)).mono ?_
  rintro e w3 ⟨rfl, hb3⟩
  have z3 := hb3.size
  have xa := xa.below hb3 (by omega)
  have xb := xb.below hb3 (by omega)
  have b3 := b2.trans (hb3.mono (by omega))
  have i_l := h_l.below b3
  have i_a := h_a.below b3
  have i_b := h_b.below b3
  clear hb3
  cases hq : Bd.areB l
  · have H := Lib.hid hq
    clear hq
    have xaq := xa
    obtain ⟨xa_0, xa_1, xa_2, xa_3, xa_4⟩ := xaq
    have xalt : w.heap.size < w3.heap.size := (by omega)
    have xbq := xb
    obtain ⟨xb_0, xb_1, xb_2, xb_3, xb_4⟩ := xbq
    have xblt : w.heap.size + 1 < w3.heap.size := (by omega)
    go_wp2_with fail
    clear xa_0 xa_1 xa_2 xa_3 xa_4 xalt
    clear xb_0 xb_1 xb_2 xb_3 xb_4 xblt
    go_ret
    exact ⟨ret_bool (by rw [HSM.out, H.out]; rfl), b3⟩
  have HA := Lib.hid hq
  clear hq
  have xaq := xa
  obtain ⟨xa_0, xa_1, xa_2, xa_3, xa_4⟩ := xaq
  have xalt : w.heap.size < w3.heap.size := (by omega)
  have xbq := xb
  obtain ⟨xb_0, xb_1, xb_2, xb_3, xb_4⟩ := xbq
  have xblt : w.heap.size + 1 < w3.heap.size := (by omega)
  go_wp2_with fail
  clear xa_0 xa_1 xa_2 xa_3 xa_4 xalt
  clear xb_0 xb_1 xb_2 xb_3 xb_4 xblt
  refine (specIdent_any a w.heap.size _ i_a (by omega) hz_a).mono ?_
  rintro e w4 ⟨rfl, hb4⟩
  have z4 := hb4.size
  have xa := xa.below hb4 (by omega)
  have xb := xb.below hb4 (by omega)
  have b4 := b3.trans (hb4.mono (by omega))
  have i_l := h_l.below b4
  have i_a := h_a.below b4
  have i_b := h_b.below b4
  clear hb4
  cases hq : a.isI
  · have H := Lib.hid hq
    clear hq
    have xaq := xa
    obtain ⟨xa_0, xa_1, xa_2, xa_3, xa_4⟩ := xaq
    have xalt : w.heap.size < w4.heap.size := (by omega)
    have xbq := xb
    obtain ⟨xb_0, xb_1, xb_2, xb_3, xb_4⟩ := xbq
    have xblt : w.heap.size + 1 < w4.heap.size := (by omega)
    go_wp2_with fail
    clear xa_0 xa_1 xa_2 xa_3 xa_4 xalt
    clear xb_0 xb_1 xb_2 xb_3 xb_4 xblt
    go_ret
    exact ⟨ret_bool (by rw [HSM.out, HA.out, H.out]; rfl), b4⟩
  have HIa := Lib.hid hq
  clear hq
  have xaq := xa
  obtain ⟨xa_0, xa_1, xa_2, xa_3, xa_4⟩ := xaq
  have xalt : w.heap.size < w4.heap.size := (by omega)
  have xbq := xb
  obtain ⟨xb_0, xb_1, xb_2, xb_3, xb_4⟩ := xbq
  have xblt : w.heap.size + 1 < w4.heap.size := (by omega)
  go_wp2_with fail
  clear xa_0 xa_1 xa_2 xa_3 xa_4 xalt
  clear xb_0 xb_1 xb_2 xb_3 xb_4 xblt
  refine (specIdent_any b w.heap.size _ i_b (by omega) hz_b).mono ?_
  rintro e w5 ⟨rfl, hb5⟩
  have z5 := hb5.size
  have xa := xa.below hb5 (by omega)
  have xb := xb.below hb5 (by omega)
  have b5 := b4.trans (hb5.mono (by omega))
  have i_l := h_l.below b5
  have i_a := h_a.below b5
  have i_b := h_b.below b5
  clear hb5
  cases hq : b.isI
  · have H := Lib.hid hq
    clear hq
    have xaq := xa
    obtain ⟨xa_0, xa_1, xa_2, xa_3, xa_4⟩ := xaq
    have xalt : w.heap.size < w5.heap.size := (by omega)
    have xbq := xb
    obtain ⟨xb_0, xb_1, xb_2, xb_3, xb_4⟩ := xbq
    have xblt : w.heap.size + 1 < w5.heap.size := (by omega)
    go_wp2_with fail
    clear xa_0 xa_1 xa_2 xa_3 xa_4 xalt
    clear xb_0 xb_1 xb_2 xb_3 xb_4 xblt
    go_ret
    exact ⟨ret_bool (by rw [HSM.out, HA.out, HIa.out, H.out]; rfl), b5⟩
  have HIb := Lib.hid hq
  clear hq
  have xaq := xa
  obtain ⟨xa_0, xa_1, xa_2, xa_3, xa_4⟩ := xaq
  have xalt : w.heap.size < w5.heap.size := (by omega)
  have xbq := xb
  obtain ⟨xb_0, xb_1, xb_2, xb_3, xb_4⟩ := xbq
  have xblt : w.heap.size + 1 < w5.heap.size := (by omega)
  go_wp2_with fail
  clear xa_0 xa_1 xa_2 xa_3 xa_4 xalt
  clear xb_0 xb_1 xb_2 xb_3 xb_4 xblt
  refine (specMean_any A_l c_l l a b w.heap.size _ hbk hs_a hs_b i_l i_a i_b (by omega)).mono ?_
  rintro e w6 ⟨rfl, hb6⟩
  have z6 := hb6.size
  have xa := xa.below hb6 (by omega)
  have xb := xb.below hb6 (by omega)
  have b6 := b5.trans (hb6.mono (by omega))
  have i_l := h_l.below b6
  have i_a := h_a.below b6
  have i_b := h_b.below b6
  clear hb6
  obtain ⟨V, hV⟩ : ∃ V, V = Bd.resM l a b := ⟨_, rfl⟩
  rw [← hV]
  have HV := Lib.hid hV
  clear hV
  have xaq := xa
  obtain ⟨xa_0, xa_1, xa_2, xa_3, xa_4⟩ := xaq
  have xalt : w.heap.size < w6.heap.size := (by omega)
  have xbq := xb
  obtain ⟨xb_0, xb_1, xb_2, xb_3, xb_4⟩ := xbq
  have xblt : w.heap.size + 1 < w6.heap.size := (by omega)
  go_wp2_with fail
  clear xa_0 xa_1 xa_2 xa_3 xa_4 xalt
  clear xb_0 xb_1 xb_2 xb_3 xb_4 xblt
  go_ret
  exact ⟨ret_bool (by rw [HSM.out, HA.out, HIa.out, HIb.out, Bool.true_and, Bool.true_and, Bool.true_and, HV.out]), b6⟩

theorem specSame_c (A : Option Addr) (c : Nat) (l : List Bd) (a b : S) {l0 : List Bd} {a0 b0 : S} (B : Nat) (w : World) (hl : Bd.erL l = Bd.erL l0) (hae : S.er a = S.er a0) (hbe : S.er b = S.er b0) {X : Bool} (hX : X = Bd.smB l0 a0 b0) (hbk : Bd.bulkL l0 ≤ 2000000) (hsa : a.bulk ≤ 2000000) (hza : a.size ≤ 2000000) (hsb : b.bulk ≤ 2000000) (hzb : b.size ≤ 2000000) (hin : Bd.E.LIn w B A c l) (ha : a.In w B) (hb : b.In w B) (hB : B ≤ w.heap.size) :
    Calls Try.prog 40 #[.slice A l.length c, a.val, b.val] w fun e w' => e = .returned (.bool X) ∧ Below w.heap.size w w' := by
  rw [hX, ← Bd.smB_er hl hae hbe]
  exact specSame_any A c l a b B w (by rw [← Bd.bulkL_er, hl, Bd.bulkL_er]; exact hbk) (Nat.le_trans (S.bulk_sc a) hsa) (Nat.le_trans (S.bulk_sc b) hsb) hza hzb hin ha hb hB

theorem implSame_c (A : Option Addr) (c : Nat) (l : List Bd) (a b : S) {l0 : List Bd} {a0 b0 : S} (B : Nat) (w : World) (hl : Bd.erL l = Bd.erL l0) (hae : S.er a = S.er a0) (hbe : S.er b = S.er b0) {X : Bool} (hX : X = Bd.smB l0 a0 b0) (hbk : Bd.bulkL l0 ≤ 2000000) (hsa : a.bulk ≤ 2000000) (hza : a.size ≤ 2000000) (hsb : b.bulk ≤ 2000000) (hzb : b.size ≤ 2000000) (hin : Bd.E.LIn w B A c l) (ha : a.In w B) (hb : b.In w B) (hB : B ≤ w.heap.size) :
    Calls Try.prog 41 #[.slice A l.length c, a.val, b.val] w fun e w' => e = .returned (.bool X) ∧ Below w.heap.size w w' := by
  rw [hX, ← Bd.smB_er hl hae hbe]
  exact implMean_any A c l a b B w (by rw [← Bd.bulkL_er, hl, Bd.bulkL_er]; exact hbk) (Nat.le_trans (S.bulk_sc a) hsa) (Nat.le_trans (S.bulk_sc b) hsb) hin ha hb hB
end Go.Proofs.Ytikjipkhebedfaa
