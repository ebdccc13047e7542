/-
  The model's comparison of terms up to the names of their binders, walked (written by gen/koalpha.py).
-/
import Derived.Test.YtfbfmajjooannaaKvBC
import Derived.Test.YtfbfmajjooannaaKcIsc
import Derived.Test.YtfbfmajjooannaaEqd
import Derived.Test.YtfbfmajjooannaaNear
import Derived.Deep.RegionHeld3
import Derived.Deep.DeepCutAuto
namespace Go.Proofs.Ytfbfmajjooannaa
open Go.RowKit

namespace Tr
theorem alphaB_eq (x y : Tr Ko) (xs ys : List Int) : alphaB x y xs ys = ((decide (x.a.k = y.a.k) && (decide (x.a.s.length = y.a.s.length) && (decide (x.l.length = y.l.length) && D.eqB x.a.d y.a.d))) && (x.a.alphaN y.a xs ys && alphaL x.l y.l (xs ++ x.a.s) (ys ++ y.a.s))) := by
  cases x; cases y; rfl
theorem alphaL_append : ∀ (a b c d : List (Tr Ko)) (xs ys : List Int), a.length = c.length → alphaL (a ++ b) (c ++ d) xs ys = (alphaL a c xs ys && alphaL b d xs ys)
  | [], b, [], d, xs, ys, _ => by simp [alphaL]
  | [], _, _ :: _, _, _, _, h => by simp at h
  | _ :: _, _, [], _, _, _, h => by simp at h
  | x :: r, b, y :: s, d, xs, ys, h => by simp only [List.cons_append, alphaL, alphaL_append r b s d xs ys (by simpa using h), Bool.and_assoc]
theorem alphaL_take_succ {l l' : List (Tr Ko)} {j : Nat} (h : j < l.length) (h' : j < l'.length) (xs ys : List Int) : alphaL (l.take (j + 1)) (l'.take (j + 1)) xs ys = (alphaL (l.take j) (l'.take j) xs ys && alphaB l[j] l'[j] xs ys) := by
  rw [List.take_succ_eq_append_getElem h, List.take_succ_eq_append_getElem h', alphaL_append _ _ _ _ _ _ (by simp; omega)]
  simp [alphaL]
theorem alphaL_take_no {l l' : List (Tr Ko)} {j : Nat} (h : j < l.length) (h' : j < l'.length) (xs ys : List Int) (he : alphaB l[j] l'[j] xs ys = false) : alphaL l l' xs ys = false := by
  have e1 := List.take_append_drop (j + 1) l
  have e2 := List.take_append_drop (j + 1) l'
  rw [← e1, ← e2, alphaL_append _ _ _ _ _ _ (by simp; omega), alphaL_take_succ h h', he]
  simp
end Tr

def AlphaOk (m : Nat) : Prop := ∀ (x y : Tr Ko) (Ax : Option Addr) (cx : Nat) (xs : List Int) (Ay : Option Addr) (cy : Nat) (ys : List Int) (B : Nat) (w : World), x.size ≤ m → Ko.E.In w B x → Ko.E.In w B y → IIn w B Ax cx xs → IIn w B Ay cy ys → B ≤ w.heap.size → x.bulk Ko.bulk + xs.length ≤ 1500000 → y.bulk Ko.bulk + ys.length ≤ 1500000 →
    Calls Try.prog 54 #[Ko.val x, Ko.val y, .slice Ax xs.length cx, .slice Ay ys.length cy] w fun e w' => e = .returned (.bool (Tr.alphaB x y xs ys)) ∧ Below w.heap.size w w'

set_option maxRecDepth 100000 in
set_option maxHeartbeats 8000000 in
theorem alphaM_step (m : Nat) (ih : AlphaOk m) : AlphaOk (m + 1) := by
  intro x y Ax cx xs Ay cy ys B w hm hx hy hxs0 hys0 hB hbx hby
  have h_x := Elem.In.more hx hB
  have h_y := Elem.In.more hy hB
  have hxs := hxs0.more hB
  have hys := hys0.more hB
  have hxcap := hxs.cap
  have hycap := hys.cap
  have hmm : Tr.sizeL x.l ≤ m := by rw [Tr.size_eq] at hm; omega
  rw [Tr.bulk_eq] at hbx hby
  have ebx : Ko.bulk x.a = x.a.s.length + x.a.d.bulk := rfl
  have eby : Ko.bulk y.a = y.a.s.length + y.a.d.bulk := rfl
  rw [ebx] at hbx
  rw [eby] at hby
  clear ebx eby
  have hsx : (x.a.s.length : Nat) ≤ 1500000 := by omega
  have hsy : (y.a.s.length : Nat) ≤ 1500000 := by omega
  have hscx := (Ko.E_in h_x).1.s.cap
  have hscy := (Ko.E_in h_y).1.s.cap
  have hlcx := (Ko.E_in h_x).2.cap
  have hlcy := (Ko.E_in h_y).2.cap
  have HBX := Lib.hid hbx
  have HBY := Lib.hid hby
  have hxl : xs.length ≤ 1500000 := by omega
  have hyl : ys.length ≤ 1500000 := by omega
  clear hbx hby
  have HF : Hid (Tr.alphaB x y xs ys = ((decide (x.a.k = y.a.k) && (decide (x.a.s.length = y.a.s.length) && (decide (x.l.length = y.l.length) && D.eqB x.a.d y.a.d))) && (x.a.alphaN y.a xs ys && Tr.alphaL x.l y.l (xs ++ x.a.s) (ys ++ y.a.s)))) := Tr.alphaB_eq x y xs ys
  obtain ⟨i0, hi, hz0, hz1, hz2⟩ := info_parts infoI
  unfold Ko.val
  have b0 : Below w.heap.size w w := Below.refl _ _
  have i_x := h_x
  have i_y := h_y
  by_cases hk : x.a.k = y.a.k
  rotate_left
  · have hkn : (x.a.k != y.a.k) = true := by simpa using hk
    have H := Lib.hid (decide_eq_false hk)
    clear hk
    go_enter Try.func54, Try.ntmps54
    go_wp2_with fail
    go_ret
    exact ⟨ret_bool (by rw [HF.out, H.out]; simp), ((Below.refl _ _).alloc (Nat.le_refl _) _).alloc (by simp) _⟩
  have hkn : (x.a.k != y.a.k) = false := by simp [hk]
  have Q0 := Lib.hid (decide_eq_true hk)
  have HK := Lib.hid hk
  clear hk
  by_cases hls : x.a.s.length = y.a.s.length
  rotate_left
  · have hn : ((x.a.s.length : Int) != (y.a.s.length : Int)) = true := by simpa using (by omega : ¬ (x.a.s.length : Int) = (y.a.s.length : Int))
    have H := Lib.hid (decide_eq_false hls)
    clear hls
    go_enter Try.func54, Try.ntmps54
    go_wp2_with fail
    go_ret
    exact ⟨ret_bool (by rw [HF.out, Q0.out, H.out]; simp), ((Below.refl _ _).alloc (Nat.le_refl _) _).alloc (by simp) _⟩
  have hn1 : ((x.a.s.length : Int) != (y.a.s.length : Int)) = false := by simp [hls]
  have Q1 := Lib.hid (decide_eq_true hls)
  clear hls
  by_cases hll : x.l.length = y.l.length
  rotate_left
  · have hn : ((x.l.length : Int) != (y.l.length : Int)) = true := by simpa using (by omega : ¬ (x.l.length : Int) = (y.l.length : Int))
    have H := Lib.hid (decide_eq_false hll)
    clear hll
    go_enter Try.func54, Try.ntmps54
    go_wp2_with fail
    go_ret
    exact ⟨ret_bool (by rw [HF.out, Q0.out, Q1.out, H.out]; simp), ((Below.refl _ _).alloc (Nat.le_refl _) _).alloc (by simp) _⟩
  have hn2 : ((x.l.length : Int) != (y.l.length : Int)) = false := by simp [hll]
  have Q2 := Lib.hid (decide_eq_true hll)
  have hlen1 : y.l.length ≤ x.l.length := by omega
  have hlen2 : x.l.length ≤ y.l.length := by omega
  clear hll
  go_enter Try.func54, Try.ntmps54
  go_wp2_with fail
  obtain ⟨w2, hw2⟩ : ∃ W, W = (w.alloc (.cells #[.int .i64 x.a.k, .int .i64 x.a.n, .slice x.a.sA x.a.s.length x.a.sC, .int .i64 x.a.d.k, .int .i64 x.a.d.n, .string x.a.d.t, .slice x.a.d.A x.a.d.l.length x.a.d.c, .slice x.A x.l.length x.c] 53)).alloc (.cells #[.int .i64 y.a.k, .int .i64 y.a.n, .slice y.a.sA y.a.s.length y.a.sC, .int .i64 y.a.d.k, .int .i64 y.a.d.n, .string y.a.d.t, .slice y.a.d.A y.a.d.l.length y.a.d.c, .slice y.A y.l.length y.c] 53) := ⟨_, rfl⟩
  rw [← hw2]
  have hb2 : Below w.heap.size w w2 := by rw [hw2]; exact ((Below.refl _ _).alloc (Nat.le_refl _) _).alloc (by simp) _
  have z2 : w.heap.size + 2 ≤ w2.heap.size := by rw [hw2]; simp
  have xa : Ko.Box w2 w.heap.size x := by rw [hw2]; exact (Ko.Box.new w x _).below ((Below.refl (w.heap.size + 1) _).alloc (by simp) _) (by omega)
  have xb : Ko.Box w2 (w.heap.size + 1) y := by rw [hw2]; have := Ko.Box.new (w.alloc (.cells #[.int .i64 x.a.k, .int .i64 x.a.n, .slice x.a.sA x.a.s.length x.a.sC, .int .i64 x.a.d.k, .int .i64 x.a.d.n, .string x.a.d.t, .slice x.a.d.A x.a.d.l.length x.a.d.c, .slice x.A x.l.length x.c] 53)) y 53; simpa using this
  clear hw2
  have b2 := b0.trans (hb2.mono (by omega))
  have i_x := h_x.below b2
  have i_y := h_y.below b2
  clear hb2 b0
  have xaq := xa
  obtain ⟨xa_0, xa_1, xa_2, xa_3, xa_4, xa_5, xa_6, xa_7⟩ := xaq
  have xalt : w.heap.size < w2.heap.size := (by omega)
  have xbq := xb
  obtain ⟨xb_0, xb_1, xb_2, xb_3, xb_4, xb_5, xb_6, xb_7⟩ := xbq
  have xblt : w.heap.size + 1 < w2.heap.size := (by omega)
  go_wp2_with fail
  clear xa_0 xa_1 xa_2 xa_3 xa_4 xa_5 xa_6 xa_7 xalt
  clear xb_0 xb_1 xb_2 xb_3 xb_4 xb_5 xb_6 xb_7 xblt
  refine (specEqual_any x.a.d.size x.a.d y.a.d w.heap.size _ (Nat.le_refl _) (Ko.E_in i_x).1.d (Ko.E_in i_y).1.d (by omega)).mono ?_
  rintro e w3 ⟨rfl, hb3⟩
  have z3 := hb3.size
  have xa := xa.below hb3 (by omega)
  have xb := xb.below hb3 (by omega)
  have b3 := b2.trans (hb3.mono (by omega))
  have i_x := h_x.below b3
  have i_y := h_y.below b3
  clear hb3
  cases hq : D.eqB x.a.d y.a.d
  · have H := Lib.hid hq
    clear hq
    have xaq := xa
    obtain ⟨xa_0, xa_1, xa_2, xa_3, xa_4, xa_5, xa_6, xa_7⟩ := xaq
    have xalt : w.heap.size < w3.heap.size := (by omega)
    have xbq := xb
    obtain ⟨xb_0, xb_1, xb_2, xb_3, xb_4, xb_5, xb_6, xb_7⟩ := xbq
    have xblt : w.heap.size + 1 < w3.heap.size := (by omega)
    go_wp2_with fail
    clear xa_0 xa_1 xa_2 xa_3 xa_4 xa_5 xa_6 xa_7 xalt
    clear xb_0 xb_1 xb_2 xb_3 xb_4 xb_5 xb_6 xb_7 xblt
    go_ret
    exact ⟨ret_bool (by rw [HF.out, Q0.out, Q1.out, Q2.out, H.out]; simp), b3⟩
  have Q3 := Lib.hid hq
  clear hq
  have xaq := xa
  obtain ⟨xa_0, xa_1, xa_2, xa_3, xa_4, xa_5, xa_6, xa_7⟩ := xaq
  have xalt : w.heap.size < w3.heap.size := (by omega)
  have xbq := xb
  obtain ⟨xb_0, xb_1, xb_2, xb_3, xb_4, xb_5, xb_6, xb_7⟩ := xbq
  have xblt : w.heap.size + 1 < w3.heap.size := (by omega)
  go_wp2_with fail
  clear xa_0 xa_1 xa_2 xa_3 xa_4 xa_5 xa_6 xa_7 xalt
  clear xb_0 xb_1 xb_2 xb_3 xb_4 xb_5 xb_6 xb_7 xblt
  refine (specNames_u x _).mono ?_
  rintro e w4 ⟨rfl, hb4⟩
  have z4 := hb4.size
  have xa := xa.below hb4 (by omega)
  have xb := xb.below hb4 (by omega)
  have b4 := b3.trans (hb4.mono (by omega))
  have i_x := h_x.below b4
  have i_y := h_y.below b4
  clear hb4
  have HN : Hid (x.a.alphaN y.a xs ys = if x.a.isVar then decide (lookL xs x.a.n = lookL ys y.a.n) && (decide (0 ≤ lookL xs x.a.n) || decide (x.a.n = y.a.n)) else decide (x.a.n = y.a.n)) := rfl
  cases hv : x.a.isVar
  · have hv2 := Lib.hid hv
    clear hv
    by_cases hnn : x.a.n = y.a.n
    rotate_left
    · have hnb : (x.a.n != y.a.n) = true := by simpa using hnn
      have H := Lib.hid (decide_eq_false hnn)
      clear hnn
      have xaq := xa
      obtain ⟨xa_0, xa_1, xa_2, xa_3, xa_4, xa_5, xa_6, xa_7⟩ := xaq
      have xalt : w.heap.size < w4.heap.size := (by omega)
      have xbq := xb
      obtain ⟨xb_0, xb_1, xb_2, xb_3, xb_4, xb_5, xb_6, xb_7⟩ := xbq
      have xblt : w.heap.size + 1 < w4.heap.size := (by omega)
      go_wp2_with fail
      clear xa_0 xa_1 xa_2 xa_3 xa_4 xa_5 xa_6 xa_7 xalt
      clear xb_0 xb_1 xb_2 xb_3 xb_4 xb_5 xb_6 xb_7 xblt
      go_ret
      exact ⟨ret_bool (by rw [HF.out, HN.out, hv2.out]; simp only [Bool.false_eq_true, if_false]; rw [H.out]; simp), b4⟩
    have hnb : (x.a.n != y.a.n) = false := by simp [hnn]
    have HQN := Lib.hid (decide_eq_true hnn)
    clear hnn
    have xaq := xa
    obtain ⟨xa_0, xa_1, xa_2, xa_3, xa_4, xa_5, xa_6, xa_7⟩ := xaq
    have xalt : w.heap.size < w4.heap.size := (by omega)
    have xbq := xb
    obtain ⟨xb_0, xb_1, xb_2, xb_3, xb_4, xb_5, xb_6, xb_7⟩ := xbq
    have xblt : w.heap.size + 1 < w4.heap.size := (by omega)
    go_wp2_with fail
    clear xa_0 xa_1 xa_2 xa_3 xa_4 xa_5 xa_6 xa_7 xalt
    clear xb_0 xb_1 xb_2 xb_3 xb_4 xb_5 xb_6 xb_7 xblt
    have HNN : Hid (x.a.alphaN y.a xs ys = true) := by show _ = _; rw [HN.out, hv2.out]; simp only [Bool.false_eq_true, if_false]; exact HQN.out
    obtain ⟨XS, hXS⟩ : ∃ z, z = xs ++ x.a.s := ⟨_, rfl⟩
    obtain ⟨YS, hYS⟩ : ∃ z, z = ys ++ y.a.s := ⟨_, rfl⟩
    have lXS : XS.length = xs.length + x.a.s.length := by rw [hXS]; simp
    have lYS : YS.length = ys.length + y.a.s.length := by rw [hYS]; simp
    have HlX := Lib.hid lXS
    have HlY := Lib.hid lYS
    clear lXS lYS
    have HXS := Lib.hid hXS
    have HYS := Lib.hid hYS
    clear hXS hYS
    have jxs := hxs.below b4
    have jys := hys.below b4
    have XA := xa
    have XB := xb
    have lp : w.heap.size < w4.heap.size := by omega
    have lq : w.heap.size + 1 < w4.heap.size := by omega
    have hBk : w.heap.size ≤ w4.heap.size := by omega
    obtain ⟨_, _, p2, _, _, _, _, _⟩ := XA
    have SX : ∀ z, Below w4.heap.size w4 z → IIn z w.heap.size x.a.sA x.a.sC x.a.s := fun z hz => (Ko.E_in i_x).1.s.below (hz.mono hBk)
    go_cut [2] (fun v wx => ∃ (A : Option Addr) (c : Nat), v = .slice A XS.length c ∧ (IIn wx wx.heap.size A c XS ∧ Below w4.heap.size w4 wx))
    case first =>
      go_region_held3 (fun w' => w'.cell? ⟨w.heap.size, 2, none⟩ = some (.slice x.a.sA x.a.s.length x.a.sC)) (go_keep) (first
        | (go_at_call 108; refine (l2IntsR_any Ax cx xs w.heap.size _ (by omega) jxs.drew (show w.heap.size ≤ w4.heap.size by omega)).mono ?_; rintro e za1 ⟨va4, rfl, hr4, hc4⟩; obtain ⟨A4, c4, rfl⟩ := irow_len hr4; have hc4 : Below w4.heap.size w4 za1 := below_undrew hc4; have hr4 : za1.ownsRow w4.heap.size 3 1 (.slice A4 xs.length c4) xs.length (xs.map (Value.int .i64)) := hr4; have y4 := hc4.size; have p2 := (hc4.cell (p := ⟨w.heap.size, 2, none⟩) lp).trans p2)
        | (refine wp_append_list za1 (.tmp 71) (.tmp 73) 39 rfl w4.heap.size 3 i0 (.int .i64 0) Try.underlying39 hi hz0 hz1 hz2 rfl (.slice A4 xs.length c4) xs.length (xs.map (Value.int .i64)) rfl hr4 rfl (SX _ hc4) (by omega) (by omega) (by omega) ?_; intro vb6 zb6 hown6 hc6; have hr6 : zb6.ownsRow w4.heap.size 3 1 vb6 XS.length (XS.map (Value.int .i64)) := (by rw [HXS.out]; simpa using hown6); obtain ⟨A6, c6, rfl, ho6⟩ := own_of_row hr6; have hb6 : Below w4.heap.size w4 zb6 := hc4.trans hc6; have p2 := (hc6.cell (p := ⟨w.heap.size, 2, none⟩) lp).trans p2))
      all_goals (go_wp2_with fail; go_meet)
      all_goals exact ⟨A6, c6, rfl, ho6.inn, hb6⟩
    case rest =>
      obtain ⟨AX, cX, rfl, hIX, hcx⟩ := hcut
      obtain ⟨zq9, rfl⟩ : ∃ W, W = wc := ⟨_, rfl⟩
      have z9 := hcx.size
      have b9 := b4.trans (hcx.mono hBk)
      have XA9 := xa.below hcx lp
      have XB9 := xb.below hcx lq
      have hBq : w.heap.size ≤ zq9.heap.size := by omega
      have lqq : w.heap.size + 1 < zq9.heap.size := by omega
      have jy9 := hys.below b9
      have i_y9 := h_y.below b9
      have i_x9 := h_x.below b9
      have XBq := XB9
      obtain ⟨_, _, q2, _, _, _, _, _⟩ := XBq
      clear p2
      go_upto_region 10 with fail
      have SY : ∀ z, Below zq9.heap.size zq9 z → IIn z w.heap.size y.a.sA y.a.sC y.a.s := fun z hz => (Ko.E_in i_y9).1.s.below (hz.mono hBq)
      go_cut [3] (fun v wx => ∃ (A : Option Addr) (c : Nat), v = .slice A YS.length c ∧ (IIn wx wx.heap.size A c YS ∧ Below zq9.heap.size zq9 wx))
      case first =>
        go_region_held3 (fun w' => w'.cell? ⟨w.heap.size + 1, 2, none⟩ = some (.slice y.a.sA y.a.s.length y.a.sC)) (go_keep) (first
          | (go_at_call 108; refine (l2IntsR_any Ay cy ys w.heap.size _ (by omega) jy9.drew (show w.heap.size ≤ zq9.heap.size by omega)).mono ?_; rintro e za1 ⟨va4, rfl, hr4, hc4⟩; obtain ⟨A4, c4, rfl⟩ := irow_len hr4; have hc4 : Below zq9.heap.size zq9 za1 := below_undrew hc4; have hr4 : za1.ownsRow zq9.heap.size 3 1 (.slice A4 ys.length c4) ys.length (ys.map (Value.int .i64)) := hr4; have y4 := hc4.size; have q2 := (hc4.cell (p := ⟨w.heap.size + 1, 2, none⟩) lqq).trans q2)
          | (refine wp_append_list za1 (.tmp 76) (.tmp 78) 39 rfl zq9.heap.size 3 i0 (.int .i64 0) Try.underlying39 hi hz0 hz1 hz2 rfl (.slice A4 ys.length c4) ys.length (ys.map (Value.int .i64)) rfl hr4 rfl (SY _ hc4) (by omega) (by omega) (by omega) ?_; intro vb6 zb6 hown6 hc6; have hr6 : zb6.ownsRow zq9.heap.size 3 1 vb6 YS.length (YS.map (Value.int .i64)) := (by rw [HYS.out]; simpa using hown6); obtain ⟨A6, c6, rfl, ho6⟩ := own_of_row hr6; have hb6 : Below zq9.heap.size zq9 zb6 := hc4.trans hc6; have q2 := (hc6.cell (p := ⟨w.heap.size + 1, 2, none⟩) lqq).trans q2))
        all_goals (go_wp2_with fail; go_meet)
        all_goals exact ⟨A6, c6, rfl, ho6.inn, hb6⟩
      case rest =>
        obtain ⟨AY, cY, rfl, hIY, hcy⟩ := hcut
        obtain ⟨zq10, rfl⟩ : ∃ W, W = wc := ⟨_, rfl⟩
        have z10 := hcy.size
        have b10 := b9.trans (hcy.mono hBq)
        have XA10 := XA9.below hcy (by omega)
        have XB10 := XB9.below hcy lqq
        have hIX := hIX.below hcy
        have i_x10 := h_x.below b10
        have i_y10 := h_y.below b10
        have hIXc := hIX.cap
        have hIYc := hIY.cap
        have XAq := XA10
        obtain ⟨p0, p1, p2, p3, p4, p5, p6, p7⟩ := XAq
        clear q2
        go_wp2_with fail
        clear p0 p1 p2 p3 p4 p5 p6 p7
        go_loopw [10, 83] (fun _ i wr => ∃ j : Nat, j ≤ x.l.length ∧ i = .int .i64 j ∧ Hid (Tr.alphaL (x.l.take j) (y.l.take j) XS YS = true) ∧ Below zq10.heap.size zq10 wr) (fun _ i _ => x.l.length - (intOf i).toNat)
        case atStart => exact ⟨0, Nat.zero_le _, rfl, by simp [Hid, Tr.alphaL], Below.refl _ _⟩
        case round =>
          obtain ⟨j, hj, rfl, HE, hb⟩ := hrel
          have hs2 := hb.size
          have xa := XA10.below hb (by omega)
          have xb := XB10.below hb (by omega)
          obtain ⟨p0, p1, p2, p3, p4, p5, p6, p7⟩ := xa
          obtain ⟨q0, q1, q2, q3, q4, q5, q6, q7⟩ := xb
          clear p0 q0 p1 q1 p2 q2 p3 q3 p4 q4 p5 q5 p6 q6
          by_cases hlt : j < x.l.length
          · have hlt' : j < y.l.length := by omega
            obtain ⟨b, o, hA, hblk, c0, c1, c2, c3, c4, c5, c6, c7, hix⟩ := Ko.at_ ((Ko.E_in i_x10).2.below (hb.mono (by omega))) (i := j) (x := x.l[j]) (List.getElem?_eq_getElem hlt)
            obtain ⟨b', o', hA', hblk', c0', c1', c2', c3', c4', c5', c6', c7', hix'⟩ := Ko.at_ ((Ko.E_in i_y10).2.below (hb.mono (by omega))) (i := j) (x := y.l[j]) (List.getElem?_eq_getElem hlt')
            rw [hA] at p7
            rw [hA'] at q7
            have hsz := Tr.sizeL_mem (l := x.l) (List.getElem_mem hlt)
            have kbx := Tr.bulkL_mem (f := Ko.bulk) (l := x.l) (List.getElem_mem hlt)
            have kby := Tr.bulkL_mem (f := Ko.bulk) (l := y.l) (List.getElem_mem hlt')
            have gg1 : (0 : Int) ≤ (j : Int) := by omega
            have gg2 : (j : Int) < (x.l.length : Int) := by omega
            have gg3 : (j : Int) < (y.l.length : Int) := by omega
            have lp : w.heap.size < wr.heap.size := by omega
            have lq : w.heap.size + 1 < wr.heap.size := by omega
            have lb : b < wr.heap.size := by omega
            have lb' : b' < wr.heap.size := by omega
            have hc : ∀ z : Near wr, Calls Try.prog 54 #[Ko.val x.l[j], Ko.val y.l[j], .slice AX XS.length cX, .slice AY YS.length cY] z.at_ fun e w' => e = .returned (.bool (Tr.alphaB x.l[j] y.l[j] XS YS)) ∧ Below z.at_.heap.size z.at_ w' :=
              fun z => ih x.l[j] y.l[j] AX cX XS AY cY YS zq10.heap.size _ (by omega) (Elem.In.more (hix.below (z.below.mono (by omega))) (by omega)) (Elem.In.more (hix'.below (z.below.mono (by omega))) (by omega)) ((hIX.below ((hb.trans (z.below.mono hs2)).mono z10)).more z10) (hIY.below (hb.trans (z.below.mono hs2))) (by have := z.size; omega) (by have := HBX.out; have := HlX.out; omega) (by have := HBY.out; have := HlY.out; omega)
            clear hix hix'
            simp only [Ko.val] at hc
            have dp : ∀ z : Near wr, z.at_.cell? ⟨w.heap.size, 7, none⟩ = some (.slice (some ⟨b, o, none⟩) x.l.length x.c) := fun z => z.cell _ p7 lp
            have dq : ∀ z : Near wr, z.at_.cell? ⟨w.heap.size + 1, 7, none⟩ = some (.slice (some ⟨b', o', none⟩) y.l.length y.c) := fun z => z.cell _ q7 lq
            have d0 : ∀ z : Near wr, z.at_.cell? ⟨b, o + j * 8, none⟩ = some (.int .i64 x.l[j].a.k) := fun z => z.cell _ c0 lb
            have d1 : ∀ z : Near wr, z.at_.cell? ⟨b, o + j * 8 + 1, none⟩ = some (.int .i64 x.l[j].a.n) := fun z => z.cell _ c1 lb
            have d2 : ∀ z : Near wr, z.at_.cell? ⟨b, o + j * 8 + 2, none⟩ = some (.slice x.l[j].a.sA x.l[j].a.s.length x.l[j].a.sC) := fun z => z.cell _ c2 lb
            have d3 : ∀ z : Near wr, z.at_.cell? ⟨b, o + j * 8 + 3, none⟩ = some (.int .i64 x.l[j].a.d.k) := fun z => z.cell _ c3 lb
            have d4 : ∀ z : Near wr, z.at_.cell? ⟨b, o + j * 8 + 4, none⟩ = some (.int .i64 x.l[j].a.d.n) := fun z => z.cell _ c4 lb
            have d5 : ∀ z : Near wr, z.at_.cell? ⟨b, o + j * 8 + 5, none⟩ = some (.string x.l[j].a.d.t) := fun z => z.cell _ c5 lb
            have d6 : ∀ z : Near wr, z.at_.cell? ⟨b, o + j * 8 + 6, none⟩ = some (.slice x.l[j].a.d.A x.l[j].a.d.l.length x.l[j].a.d.c) := fun z => z.cell _ c6 lb
            have d7 : ∀ z : Near wr, z.at_.cell? ⟨b, o + j * 8 + 7, none⟩ = some (.slice x.l[j].A x.l[j].l.length x.l[j].c) := fun z => z.cell _ c7 lb
            have d0' : ∀ z : Near wr, z.at_.cell? ⟨b', o' + j * 8, none⟩ = some (.int .i64 y.l[j].a.k) := fun z => z.cell _ c0' lb'
            have d1' : ∀ z : Near wr, z.at_.cell? ⟨b', o' + j * 8 + 1, none⟩ = some (.int .i64 y.l[j].a.n) := fun z => z.cell _ c1' lb'
            have d2' : ∀ z : Near wr, z.at_.cell? ⟨b', o' + j * 8 + 2, none⟩ = some (.slice y.l[j].a.sA y.l[j].a.s.length y.l[j].a.sC) := fun z => z.cell _ c2' lb'
            have d3' : ∀ z : Near wr, z.at_.cell? ⟨b', o' + j * 8 + 3, none⟩ = some (.int .i64 y.l[j].a.d.k) := fun z => z.cell _ c3' lb'
            have d4' : ∀ z : Near wr, z.at_.cell? ⟨b', o' + j * 8 + 4, none⟩ = some (.int .i64 y.l[j].a.d.n) := fun z => z.cell _ c4' lb'
            have d5' : ∀ z : Near wr, z.at_.cell? ⟨b', o' + j * 8 + 5, none⟩ = some (.string y.l[j].a.d.t) := fun z => z.cell _ c5' lb'
            have d6' : ∀ z : Near wr, z.at_.cell? ⟨b', o' + j * 8 + 6, none⟩ = some (.slice y.l[j].a.d.A y.l[j].a.d.l.length y.l[j].a.d.c) := fun z => z.cell _ c6' lb'
            have d7' : ∀ z : Near wr, z.at_.cell? ⟨b', o' + j * 8 + 7, none⟩ = some (.slice y.l[j].A y.l[j].l.length y.l[j].c) := fun z => z.cell _ c7' lb'
            clear p7 q7 c0 c0' c1 c1' c2 c2' c3 c3' c4 c4' c5 c5' c6 c6' c7 c7' hA hA'
            cases hq : Tr.alphaB x.l[j] y.l[j] XS YS
            · have Hq := Lib.hid hq
              simp only [hq] at hc
              clear hq
              have HC := Lib.hid hc
              clear hc
              go_wp2_with fail
              refine wp_region_near (by kernel_rfl) (by kernel_rfl) ?_
              repeat (go_big_quiet_step (first | (go_at_call 54; with_reducible exact Calls.near (HC.out _))))
              refine wpQuiet_nil ?_
              intro _ hw1
              obtain ⟨nx, hw2⟩ := hw1
              subst hw2
              have hbx : Below w.heap.size w nx.at_ := b10.trans ((hb.trans (nx.below.mono hs2)).mono (by omega))
              have hby : Below zq10.heap.size zq10 nx.at_ := hb.trans (nx.below.mono hs2)
              go_wp2_with fail
              go_ret
              exact ⟨ret_bool (by rw [HF.out, Q0.out, Q1.out, Q2.out, Q3.out, HNN.out, ← HXS.out, ← HYS.out, Tr.alphaL_take_no hlt hlt' _ _ Hq.out]; simp), hbx⟩
            · have Hq := Lib.hid hq
              simp only [hq] at hc
              clear hq
              have HC := Lib.hid hc
              clear hc
              go_wp2_with fail
              refine wp_region_near (by kernel_rfl) (by kernel_rfl) ?_
              repeat (go_big_quiet_step (first | (go_at_call 54; with_reducible exact Calls.near (HC.out _))))
              refine wpQuiet_nil ?_
              intro _ hw1
              obtain ⟨nx, hw2⟩ := hw1
              subst hw2
              have hbx : Below w.heap.size w nx.at_ := b10.trans ((hb.trans (nx.below.mono hs2)).mono (by omega))
              have hby : Below zq10.heap.size zq10 nx.at_ := hb.trans (nx.below.mono hs2)
              go_wp2_with fail
              go_roundw
              case rel => exact ⟨j + 1, by omega, by go_num, by (show _ = _); rw [Tr.alphaL_take_succ hlt hlt', HE.out, Hq.out]; rfl, hby⟩
              case measure => simp [intOf]; omega
          · have hj' : j = x.l.length := by omega
            subst hj'
            go_wp2_with fail
            go_ret
            exact ⟨ret_bool (by have := HE.out; rw [List.take_length, List.take_of_length_le (by omega)] at this; rw [HF.out, Q0.out, Q1.out, Q2.out, Q3.out, HNN.out, ← HXS.out, ← HYS.out, this]; rfl), b10.trans (hb.mono (by omega))⟩
  · have hv2 := Lib.hid hv
    clear hv
    have xaq := xa
    obtain ⟨xa_0, xa_1, xa_2, xa_3, xa_4, xa_5, xa_6, xa_7⟩ := xaq
    have xalt : w.heap.size < w4.heap.size := (by omega)
    have xbq := xb
    obtain ⟨xb_0, xb_1, xb_2, xb_3, xb_4, xb_5, xb_6, xb_7⟩ := xbq
    have xblt : w.heap.size + 1 < w4.heap.size := (by omega)
    go_wp2_with fail
    clear xa_0 xa_1 xa_2 xa_3 xa_4 xa_5 xa_6 xa_7 xalt
    clear xb_0 xb_1 xb_2 xb_3 xb_4 xb_5 xb_6 xb_7 xblt
    have jx := hxs.below b4
    refine (look_any Ax cx xs x.a.n w.heap.size _ jx (by omega)).mono ?_
    rintro e w5 ⟨rfl, hb5⟩
    have z5 := hb5.size
    have xa := xa.below hb5 (by omega)
    have xb := xb.below hb5 (by omega)
    have b5 := b4.trans (hb5.mono (by omega))
    have i_x := h_x.below b5
    have i_y := h_y.below b5
    clear hb5
    obtain ⟨LX, hLX⟩ : ∃ z, z = lookL xs x.a.n := ⟨_, rfl⟩
    rw [← hLX]
    have HLX := Lib.hid hLX
    clear hLX jx
    have xaq := xa
    obtain ⟨xa_0, xa_1, xa_2, xa_3, xa_4, xa_5, xa_6, xa_7⟩ := xaq
    have xalt : w.heap.size < w5.heap.size := (by omega)
    have xbq := xb
    obtain ⟨xb_0, xb_1, xb_2, xb_3, xb_4, xb_5, xb_6, xb_7⟩ := xbq
    have xblt : w.heap.size + 1 < w5.heap.size := (by omega)
    go_wp2_with fail
    clear xa_0 xa_1 xa_2 xa_3 xa_4 xa_5 xa_6 xa_7 xalt
    clear xb_0 xb_1 xb_2 xb_3 xb_4 xb_5 xb_6 xb_7 xblt
    have jy := hys.below b5
    refine (look_any Ay cy ys y.a.n w.heap.size _ jy (by omega)).mono ?_
    rintro e w6 ⟨rfl, hb6⟩
    have z6 := hb6.size
    have xa := xa.below hb6 (by omega)
    have xb := xb.below hb6 (by omega)
    have b6 := b5.trans (hb6.mono (by omega))
    have i_x := h_x.below b6
    have i_y := h_y.below b6
    clear hb6
    obtain ⟨LY, hLY⟩ : ∃ z, z = lookL ys y.a.n := ⟨_, rfl⟩
    rw [← hLY]
    have HLY := Lib.hid hLY
    clear hLY jy
    by_cases hL : LX = LY
    rotate_left
    · have hLn : (LX != LY) = true := by simpa using hL
      have H := Lib.hid (decide_eq_false hL)
      clear hL
      have xaq := xa
      obtain ⟨xa_0, xa_1, xa_2, xa_3, xa_4, xa_5, xa_6, xa_7⟩ := xaq
      have xalt : w.heap.size < w6.heap.size := (by omega)
      have xbq := xb
      obtain ⟨xb_0, xb_1, xb_2, xb_3, xb_4, xb_5, xb_6, xb_7⟩ := xbq
      have xblt : w.heap.size + 1 < w6.heap.size := (by omega)
      go_wp2_with fail
      clear xa_0 xa_1 xa_2 xa_3 xa_4 xa_5 xa_6 xa_7 xalt
      clear xb_0 xb_1 xb_2 xb_3 xb_4 xb_5 xb_6 xb_7 xblt
      go_ret
      exact ⟨ret_bool (by rw [HF.out, HN.out, hv2.out, ← HLX.out, ← HLY.out]; simp only [if_true]; rw [H.out]; simp), b6⟩
    have hLn : (LX != LY) = false := by simp [hL]
    have HLL := Lib.hid (decide_eq_true hL)
    clear hL
    by_cases h0 : 0 ≤ LX
    · have hneg : ¬ (LX < 0) := by omega
      have H0 := Lib.hid (decide_eq_true h0)
      clear h0
      have xaq := xa
      obtain ⟨xa_0, xa_1, xa_2, xa_3, xa_4, xa_5, xa_6, xa_7⟩ := xaq
      have xalt : w.heap.size < w6.heap.size := (by omega)
      have xbq := xb
      obtain ⟨xb_0, xb_1, xb_2, xb_3, xb_4, xb_5, xb_6, xb_7⟩ := xbq
      have xblt : w.heap.size + 1 < w6.heap.size := (by omega)
      go_wp2_with fail
      clear xa_0 xa_1 xa_2 xa_3 xa_4 xa_5 xa_6 xa_7 xalt
      clear xb_0 xb_1 xb_2 xb_3 xb_4 xb_5 xb_6 xb_7 xblt
      have HNN : Hid (x.a.alphaN y.a xs ys = true) := by show _ = _; rw [HN.out, hv2.out, ← HLX.out, ← HLY.out]; simp only [if_true]; rw [HLL.out, H0.out]; rfl
      obtain ⟨XS, hXS⟩ : ∃ z, z = xs ++ x.a.s := ⟨_, rfl⟩
      obtain ⟨YS, hYS⟩ : ∃ z, z = ys ++ y.a.s := ⟨_, rfl⟩
      have lXS : XS.length = xs.length + x.a.s.length := by rw [hXS]; simp
      have lYS : YS.length = ys.length + y.a.s.length := by rw [hYS]; simp
      have HlX := Lib.hid lXS
      have HlY := Lib.hid lYS
      clear lXS lYS
      have HXS := Lib.hid hXS
      have HYS := Lib.hid hYS
      clear hXS hYS
      have jxs := hxs.below b6
      have jys := hys.below b6
      have XA := xa
      have XB := xb
      have lp : w.heap.size < w6.heap.size := by omega
      have lq : w.heap.size + 1 < w6.heap.size := by omega
      have hBk : w.heap.size ≤ w6.heap.size := by omega
      obtain ⟨_, _, p2, _, _, _, _, _⟩ := XA
      have SX : ∀ z, Below w6.heap.size w6 z → IIn z w.heap.size x.a.sA x.a.sC x.a.s := fun z hz => (Ko.E_in i_x).1.s.below (hz.mono hBk)
      go_cut [2] (fun v wx => ∃ (A : Option Addr) (c : Nat), v = .slice A XS.length c ∧ (IIn wx wx.heap.size A c XS ∧ Below w6.heap.size w6 wx))
      case first =>
        go_region_held3 (fun w' => w'.cell? ⟨w.heap.size, 2, none⟩ = some (.slice x.a.sA x.a.s.length x.a.sC)) (go_keep) (first
          | (go_at_call 108; refine (l2IntsR_any Ax cx xs w.heap.size _ (by omega) jxs.drew (show w.heap.size ≤ w6.heap.size by omega)).mono ?_; rintro e za1 ⟨va4, rfl, hr4, hc4⟩; obtain ⟨A4, c4, rfl⟩ := irow_len hr4; have hc4 : Below w6.heap.size w6 za1 := below_undrew hc4; have hr4 : za1.ownsRow w6.heap.size 3 1 (.slice A4 xs.length c4) xs.length (xs.map (Value.int .i64)) := hr4; have y4 := hc4.size; have p2 := (hc4.cell (p := ⟨w.heap.size, 2, none⟩) lp).trans p2)
          | (refine wp_append_list za1 (.tmp 71) (.tmp 73) 39 rfl w6.heap.size 3 i0 (.int .i64 0) Try.underlying39 hi hz0 hz1 hz2 rfl (.slice A4 xs.length c4) xs.length (xs.map (Value.int .i64)) rfl hr4 rfl (SX _ hc4) (by omega) (by omega) (by omega) ?_; intro vb6 zb6 hown6 hc6; have hr6 : zb6.ownsRow w6.heap.size 3 1 vb6 XS.length (XS.map (Value.int .i64)) := (by rw [HXS.out]; simpa using hown6); obtain ⟨A6, c6, rfl, ho6⟩ := own_of_row hr6; have hb6 : Below w6.heap.size w6 zb6 := hc4.trans hc6; have p2 := (hc6.cell (p := ⟨w.heap.size, 2, none⟩) lp).trans p2))
        all_goals (go_wp2_with fail; go_meet)
        all_goals exact ⟨A6, c6, rfl, ho6.inn, hb6⟩
      case rest =>
        obtain ⟨AX, cX, rfl, hIX, hcx⟩ := hcut
        obtain ⟨zq9, rfl⟩ : ∃ W, W = wc := ⟨_, rfl⟩
        have z9 := hcx.size
        have b9 := b6.trans (hcx.mono hBk)
        have XA9 := xa.below hcx lp
        have XB9 := xb.below hcx lq
        have hBq : w.heap.size ≤ zq9.heap.size := by omega
        have lqq : w.heap.size + 1 < zq9.heap.size := by omega
        have jy9 := hys.below b9
        have i_y9 := h_y.below b9
        have i_x9 := h_x.below b9
        have XBq := XB9
        obtain ⟨_, _, q2, _, _, _, _, _⟩ := XBq
        clear p2
        go_upto_region 10 with fail
        have SY : ∀ z, Below zq9.heap.size zq9 z → IIn z w.heap.size y.a.sA y.a.sC y.a.s := fun z hz => (Ko.E_in i_y9).1.s.below (hz.mono hBq)
        go_cut [3] (fun v wx => ∃ (A : Option Addr) (c : Nat), v = .slice A YS.length c ∧ (IIn wx wx.heap.size A c YS ∧ Below zq9.heap.size zq9 wx))
        case first =>
          go_region_held3 (fun w' => w'.cell? ⟨w.heap.size + 1, 2, none⟩ = some (.slice y.a.sA y.a.s.length y.a.sC)) (go_keep) (first
            | (go_at_call 108; refine (l2IntsR_any Ay cy ys w.heap.size _ (by omega) jy9.drew (show w.heap.size ≤ zq9.heap.size by omega)).mono ?_; rintro e za1 ⟨va4, rfl, hr4, hc4⟩; obtain ⟨A4, c4, rfl⟩ := irow_len hr4; have hc4 : Below zq9.heap.size zq9 za1 := below_undrew hc4; have hr4 : za1.ownsRow zq9.heap.size 3 1 (.slice A4 ys.length c4) ys.length (ys.map (Value.int .i64)) := hr4; have y4 := hc4.size; have q2 := (hc4.cell (p := ⟨w.heap.size + 1, 2, none⟩) lqq).trans q2)
            | (refine wp_append_list za1 (.tmp 76) (.tmp 78) 39 rfl zq9.heap.size 3 i0 (.int .i64 0) Try.underlying39 hi hz0 hz1 hz2 rfl (.slice A4 ys.length c4) ys.length (ys.map (Value.int .i64)) rfl hr4 rfl (SY _ hc4) (by omega) (by omega) (by omega) ?_; intro vb6 zb6 hown6 hc6; have hr6 : zb6.ownsRow zq9.heap.size 3 1 vb6 YS.length (YS.map (Value.int .i64)) := (by rw [HYS.out]; simpa using hown6); obtain ⟨A6, c6, rfl, ho6⟩ := own_of_row hr6; have hb6 : Below zq9.heap.size zq9 zb6 := hc4.trans hc6; have q2 := (hc6.cell (p := ⟨w.heap.size + 1, 2, none⟩) lqq).trans q2))
          all_goals (go_wp2_with fail; go_meet)
          all_goals exact ⟨A6, c6, rfl, ho6.inn, hb6⟩
        case rest =>
          obtain ⟨AY, cY, rfl, hIY, hcy⟩ := hcut
          obtain ⟨zq10, rfl⟩ : ∃ W, W = wc := ⟨_, rfl⟩
          have z10 := hcy.size
          have b10 := b9.trans (hcy.mono hBq)
          have XA10 := XA9.below hcy (by omega)
          have XB10 := XB9.below hcy lqq
          have hIX := hIX.below hcy
          have i_x10 := h_x.below b10
          have i_y10 := h_y.below b10
          have hIXc := hIX.cap
          have hIYc := hIY.cap
          have XAq := XA10
          obtain ⟨p0, p1, p2, p3, p4, p5, p6, p7⟩ := XAq
          clear q2
          go_wp2_with fail
          clear p0 p1 p2 p3 p4 p5 p6 p7
          go_loopw [10, 83] (fun _ i wr => ∃ j : Nat, j ≤ x.l.length ∧ i = .int .i64 j ∧ Hid (Tr.alphaL (x.l.take j) (y.l.take j) XS YS = true) ∧ Below zq10.heap.size zq10 wr) (fun _ i _ => x.l.length - (intOf i).toNat)
          case atStart => exact ⟨0, Nat.zero_le _, rfl, by simp [Hid, Tr.alphaL], Below.refl _ _⟩
          case round =>
            obtain ⟨j, hj, rfl, HE, hb⟩ := hrel
            have hs2 := hb.size
            have xa := XA10.below hb (by omega)
            have xb := XB10.below hb (by omega)
            obtain ⟨p0, p1, p2, p3, p4, p5, p6, p7⟩ := xa
            obtain ⟨q0, q1, q2, q3, q4, q5, q6, q7⟩ := xb
            clear p0 q0 p1 q1 p2 q2 p3 q3 p4 q4 p5 q5 p6 q6
            by_cases hlt : j < x.l.length
            · have hlt' : j < y.l.length := by omega
              obtain ⟨b, o, hA, hblk, c0, c1, c2, c3, c4, c5, c6, c7, hix⟩ := Ko.at_ ((Ko.E_in i_x10).2.below (hb.mono (by omega))) (i := j) (x := x.l[j]) (List.getElem?_eq_getElem hlt)
              obtain ⟨b', o', hA', hblk', c0', c1', c2', c3', c4', c5', c6', c7', hix'⟩ := Ko.at_ ((Ko.E_in i_y10).2.below (hb.mono (by omega))) (i := j) (x := y.l[j]) (List.getElem?_eq_getElem hlt')
              rw [hA] at p7
              rw [hA'] at q7
              have hsz := Tr.sizeL_mem (l := x.l) (List.getElem_mem hlt)
              have kbx := Tr.bulkL_mem (f := Ko.bulk) (l := x.l) (List.getElem_mem hlt)
              have kby := Tr.bulkL_mem (f := Ko.bulk) (l := y.l) (List.getElem_mem hlt')
              have gg1 : (0 : Int) ≤ (j : Int) := by omega
              have gg2 : (j : Int) < (x.l.length : Int) := by omega
              have gg3 : (j : Int) < (y.l.length : Int) := by omega
              have lp : w.heap.size < wr.heap.size := by omega
              have lq : w.heap.size + 1 < wr.heap.size := by omega
              have lb : b < wr.heap.size := by omega
              have lb' : b' < wr.heap.size := by omega
              have hc : ∀ z : Near wr, Calls Try.prog 54 #[Ko.val x.l[j], Ko.val y.l[j], .slice AX XS.length cX, .slice AY YS.length cY] z.at_ fun e w' => e = .returned (.bool (Tr.alphaB x.l[j] y.l[j] XS YS)) ∧ Below z.at_.heap.size z.at_ w' :=
                fun z => ih x.l[j] y.l[j] AX cX XS AY cY YS zq10.heap.size _ (by omega) (Elem.In.more (hix.below (z.below.mono (by omega))) (by omega)) (Elem.In.more (hix'.below (z.below.mono (by omega))) (by omega)) ((hIX.below ((hb.trans (z.below.mono hs2)).mono z10)).more z10) (hIY.below (hb.trans (z.below.mono hs2))) (by have := z.size; omega) (by have := HBX.out; have := HlX.out; omega) (by have := HBY.out; have := HlY.out; omega)
              clear hix hix'
              simp only [Ko.val] at hc
              have dp : ∀ z : Near wr, z.at_.cell? ⟨w.heap.size, 7, none⟩ = some (.slice (some ⟨b, o, none⟩) x.l.length x.c) := fun z => z.cell _ p7 lp
              have dq : ∀ z : Near wr, z.at_.cell? ⟨w.heap.size + 1, 7, none⟩ = some (.slice (some ⟨b', o', none⟩) y.l.length y.c) := fun z => z.cell _ q7 lq
              have d0 : ∀ z : Near wr, z.at_.cell? ⟨b, o + j * 8, none⟩ = some (.int .i64 x.l[j].a.k) := fun z => z.cell _ c0 lb
              have d1 : ∀ z : Near wr, z.at_.cell? ⟨b, o + j * 8 + 1, none⟩ = some (.int .i64 x.l[j].a.n) := fun z => z.cell _ c1 lb
              have d2 : ∀ z : Near wr, z.at_.cell? ⟨b, o + j * 8 + 2, none⟩ = some (.slice x.l[j].a.sA x.l[j].a.s.length x.l[j].a.sC) := fun z => z.cell _ c2 lb
              have d3 : ∀ z : Near wr, z.at_.cell? ⟨b, o + j * 8 + 3, none⟩ = some (.int .i64 x.l[j].a.d.k) := fun z => z.cell _ c3 lb
              have d4 : ∀ z : Near wr, z.at_.cell? ⟨b, o + j * 8 + 4, none⟩ = some (.int .i64 x.l[j].a.d.n) := fun z => z.cell _ c4 lb
              have d5 : ∀ z : Near wr, z.at_.cell? ⟨b, o + j * 8 + 5, none⟩ = some (.string x.l[j].a.d.t) := fun z => z.cell _ c5 lb
              have d6 : ∀ z : Near wr, z.at_.cell? ⟨b, o + j * 8 + 6, none⟩ = some (.slice x.l[j].a.d.A x.l[j].a.d.l.length x.l[j].a.d.c) := fun z => z.cell _ c6 lb
              have d7 : ∀ z : Near wr, z.at_.cell? ⟨b, o + j * 8 + 7, none⟩ = some (.slice x.l[j].A x.l[j].l.length x.l[j].c) := fun z => z.cell _ c7 lb
              have d0' : ∀ z : Near wr, z.at_.cell? ⟨b', o' + j * 8, none⟩ = some (.int .i64 y.l[j].a.k) := fun z => z.cell _ c0' lb'
              have d1' : ∀ z : Near wr, z.at_.cell? ⟨b', o' + j * 8 + 1, none⟩ = some (.int .i64 y.l[j].a.n) := fun z => z.cell _ c1' lb'
              have d2' : ∀ z : Near wr, z.at_.cell? ⟨b', o' + j * 8 + 2, none⟩ = some (.slice y.l[j].a.sA y.l[j].a.s.length y.l[j].a.sC) := fun z => z.cell _ c2' lb'
              have d3' : ∀ z : Near wr, z.at_.cell? ⟨b', o' + j * 8 + 3, none⟩ = some (.int .i64 y.l[j].a.d.k) := fun z => z.cell _ c3' lb'
              have d4' : ∀ z : Near wr, z.at_.cell? ⟨b', o' + j * 8 + 4, none⟩ = some (.int .i64 y.l[j].a.d.n) := fun z => z.cell _ c4' lb'
              have d5' : ∀ z : Near wr, z.at_.cell? ⟨b', o' + j * 8 + 5, none⟩ = some (.string y.l[j].a.d.t) := fun z => z.cell _ c5' lb'
              have d6' : ∀ z : Near wr, z.at_.cell? ⟨b', o' + j * 8 + 6, none⟩ = some (.slice y.l[j].a.d.A y.l[j].a.d.l.length y.l[j].a.d.c) := fun z => z.cell _ c6' lb'
              have d7' : ∀ z : Near wr, z.at_.cell? ⟨b', o' + j * 8 + 7, none⟩ = some (.slice y.l[j].A y.l[j].l.length y.l[j].c) := fun z => z.cell _ c7' lb'
              clear p7 q7 c0 c0' c1 c1' c2 c2' c3 c3' c4 c4' c5 c5' c6 c6' c7 c7' hA hA'
              cases hq : Tr.alphaB x.l[j] y.l[j] XS YS
              · have Hq := Lib.hid hq
                simp only [hq] at hc
                clear hq
                have HC := Lib.hid hc
                clear hc
                go_wp2_with fail
                refine wp_region_near (by kernel_rfl) (by kernel_rfl) ?_
                repeat (go_big_quiet_step (first | (go_at_call 54; with_reducible exact Calls.near (HC.out _))))
                refine wpQuiet_nil ?_
                intro _ hw1
                obtain ⟨nx, hw2⟩ := hw1
                subst hw2
                have hbx : Below w.heap.size w nx.at_ := b10.trans ((hb.trans (nx.below.mono hs2)).mono (by omega))
                have hby : Below zq10.heap.size zq10 nx.at_ := hb.trans (nx.below.mono hs2)
                go_wp2_with fail
                go_ret
                exact ⟨ret_bool (by rw [HF.out, Q0.out, Q1.out, Q2.out, Q3.out, HNN.out, ← HXS.out, ← HYS.out, Tr.alphaL_take_no hlt hlt' _ _ Hq.out]; simp), hbx⟩
              · have Hq := Lib.hid hq
                simp only [hq] at hc
                clear hq
                have HC := Lib.hid hc
                clear hc
                go_wp2_with fail
                refine wp_region_near (by kernel_rfl) (by kernel_rfl) ?_
                repeat (go_big_quiet_step (first | (go_at_call 54; with_reducible exact Calls.near (HC.out _))))
                refine wpQuiet_nil ?_
                intro _ hw1
                obtain ⟨nx, hw2⟩ := hw1
                subst hw2
                have hbx : Below w.heap.size w nx.at_ := b10.trans ((hb.trans (nx.below.mono hs2)).mono (by omega))
                have hby : Below zq10.heap.size zq10 nx.at_ := hb.trans (nx.below.mono hs2)
                go_wp2_with fail
                go_roundw
                case rel => exact ⟨j + 1, by omega, by go_num, by (show _ = _); rw [Tr.alphaL_take_succ hlt hlt', HE.out, Hq.out]; rfl, hby⟩
                case measure => simp [intOf]; omega
            · have hj' : j = x.l.length := by omega
              subst hj'
              go_wp2_with fail
              go_ret
              exact ⟨ret_bool (by have := HE.out; rw [List.take_length, List.take_of_length_le (by omega)] at this; rw [HF.out, Q0.out, Q1.out, Q2.out, Q3.out, HNN.out, ← HXS.out, ← HYS.out, this]; rfl), b10.trans (hb.mono (by omega))⟩
    have hneg : LX < 0 := by omega
    have H0 := Lib.hid (decide_eq_false h0)
    clear h0
    by_cases hnn : x.a.n = y.a.n
    rotate_left
    · have hnb : (x.a.n != y.a.n) = true := by simpa using hnn
      have H := Lib.hid (decide_eq_false hnn)
      clear hnn
      have xaq := xa
      obtain ⟨xa_0, xa_1, xa_2, xa_3, xa_4, xa_5, xa_6, xa_7⟩ := xaq
      have xalt : w.heap.size < w6.heap.size := (by omega)
      have xbq := xb
      obtain ⟨xb_0, xb_1, xb_2, xb_3, xb_4, xb_5, xb_6, xb_7⟩ := xbq
      have xblt : w.heap.size + 1 < w6.heap.size := (by omega)
      go_wp2_with fail
      clear xa_0 xa_1 xa_2 xa_3 xa_4 xa_5 xa_6 xa_7 xalt
      clear xb_0 xb_1 xb_2 xb_3 xb_4 xb_5 xb_6 xb_7 xblt
      go_ret
      exact ⟨ret_bool (by rw [HF.out, HN.out, hv2.out, ← HLX.out, ← HLY.out]; simp only [if_true]; rw [H0.out, H.out]; simp), b6⟩
    have hnb : (x.a.n != y.a.n) = false := by simp [hnn]
    have HQN := Lib.hid (decide_eq_true hnn)
    clear hnn
    have xaq := xa
    obtain ⟨xa_0, xa_1, xa_2, xa_3, xa_4, xa_5, xa_6, xa_7⟩ := xaq
    have xalt : w.heap.size < w6.heap.size := (by omega)
    have xbq := xb
    obtain ⟨xb_0, xb_1, xb_2, xb_3, xb_4, xb_5, xb_6, xb_7⟩ := xbq
    have xblt : w.heap.size + 1 < w6.heap.size := (by omega)
    go_wp2_with fail
    clear xa_0 xa_1 xa_2 xa_3 xa_4 xa_5 xa_6 xa_7 xalt
    clear xb_0 xb_1 xb_2 xb_3 xb_4 xb_5 xb_6 xb_7 xblt
    have HNN : Hid (x.a.alphaN y.a xs ys = true) := by show _ = _; rw [HN.out, hv2.out, ← HLX.out, ← HLY.out]; simp only [if_true]; rw [HLL.out, HQN.out]; simp
    obtain ⟨XS, hXS⟩ : ∃ z, z = xs ++ x.a.s := ⟨_, rfl⟩
    obtain ⟨YS, hYS⟩ : ∃ z, z = ys ++ y.a.s := ⟨_, rfl⟩
    have lXS : XS.length = xs.length + x.a.s.length := by rw [hXS]; simp
    have lYS : YS.length = ys.length + y.a.s.length := by rw [hYS]; simp
    have HlX := Lib.hid lXS
    have HlY := Lib.hid lYS
    clear lXS lYS
    have HXS := Lib.hid hXS
    have HYS := Lib.hid hYS
    clear hXS hYS
    have jxs := hxs.below b6
    have jys := hys.below b6
    have XA := xa
    have XB := xb
    have lp : w.heap.size < w6.heap.size := by omega
    have lq : w.heap.size + 1 < w6.heap.size := by omega
    have hBk : w.heap.size ≤ w6.heap.size := by omega
    obtain ⟨_, _, p2, _, _, _, _, _⟩ := XA
    have SX : ∀ z, Below w6.heap.size w6 z → IIn z w.heap.size x.a.sA x.a.sC x.a.s := fun z hz => (Ko.E_in i_x).1.s.below (hz.mono hBk)
    go_cut [2] (fun v wx => ∃ (A : Option Addr) (c : Nat), v = .slice A XS.length c ∧ (IIn wx wx.heap.size A c XS ∧ Below w6.heap.size w6 wx))
    case first =>
      go_region_held3 (fun w' => w'.cell? ⟨w.heap.size, 2, none⟩ = some (.slice x.a.sA x.a.s.length x.a.sC)) (go_keep) (first
        | (go_at_call 108; refine (l2IntsR_any Ax cx xs w.heap.size _ (by omega) jxs.drew (show w.heap.size ≤ w6.heap.size by omega)).mono ?_; rintro e za1 ⟨va4, rfl, hr4, hc4⟩; obtain ⟨A4, c4, rfl⟩ := irow_len hr4; have hc4 : Below w6.heap.size w6 za1 := below_undrew hc4; have hr4 : za1.ownsRow w6.heap.size 3 1 (.slice A4 xs.length c4) xs.length (xs.map (Value.int .i64)) := hr4; have y4 := hc4.size; have p2 := (hc4.cell (p := ⟨w.heap.size, 2, none⟩) lp).trans p2)
        | (refine wp_append_list za1 (.tmp 71) (.tmp 73) 39 rfl w6.heap.size 3 i0 (.int .i64 0) Try.underlying39 hi hz0 hz1 hz2 rfl (.slice A4 xs.length c4) xs.length (xs.map (Value.int .i64)) rfl hr4 rfl (SX _ hc4) (by omega) (by omega) (by omega) ?_; intro vb6 zb6 hown6 hc6; have hr6 : zb6.ownsRow w6.heap.size 3 1 vb6 XS.length (XS.map (Value.int .i64)) := (by rw [HXS.out]; simpa using hown6); obtain ⟨A6, c6, rfl, ho6⟩ := own_of_row hr6; have hb6 : Below w6.heap.size w6 zb6 := hc4.trans hc6; have p2 := (hc6.cell (p := ⟨w.heap.size, 2, none⟩) lp).trans p2))
      all_goals (go_wp2_with fail; go_meet)
      all_goals exact ⟨A6, c6, rfl, ho6.inn, hb6⟩
    case rest =>
      obtain ⟨AX, cX, rfl, hIX, hcx⟩ := hcut
      obtain ⟨zq9, rfl⟩ : ∃ W, W = wc := ⟨_, rfl⟩
      have z9 := hcx.size
      have b9 := b6.trans (hcx.mono hBk)
      have XA9 := xa.below hcx lp
      have XB9 := xb.below hcx lq
      have hBq : w.heap.size ≤ zq9.heap.size := by omega
      have lqq : w.heap.size + 1 < zq9.heap.size := by omega
      have jy9 := hys.below b9
      have i_y9 := h_y.below b9
      have i_x9 := h_x.below b9
      have XBq := XB9
      obtain ⟨_, _, q2, _, _, _, _, _⟩ := XBq
      clear p2
      go_upto_region 10 with fail
      have SY : ∀ z, Below zq9.heap.size zq9 z → IIn z w.heap.size y.a.sA y.a.sC y.a.s := fun z hz => (Ko.E_in i_y9).1.s.below (hz.mono hBq)
      go_cut [3] (fun v wx => ∃ (A : Option Addr) (c : Nat), v = .slice A YS.length c ∧ (IIn wx wx.heap.size A c YS ∧ Below zq9.heap.size zq9 wx))
      case first =>
        go_region_held3 (fun w' => w'.cell? ⟨w.heap.size + 1, 2, none⟩ = some (.slice y.a.sA y.a.s.length y.a.sC)) (go_keep) (first
          | (go_at_call 108; refine (l2IntsR_any Ay cy ys w.heap.size _ (by omega) jy9.drew (show w.heap.size ≤ zq9.heap.size by omega)).mono ?_; rintro e za1 ⟨va4, rfl, hr4, hc4⟩; obtain ⟨A4, c4, rfl⟩ := irow_len hr4; have hc4 : Below zq9.heap.size zq9 za1 := below_undrew hc4; have hr4 : za1.ownsRow zq9.heap.size 3 1 (.slice A4 ys.length c4) ys.length (ys.map (Value.int .i64)) := hr4; have y4 := hc4.size; have q2 := (hc4.cell (p := ⟨w.heap.size + 1, 2, none⟩) lqq).trans q2)
          | (refine wp_append_list za1 (.tmp 76) (.tmp 78) 39 rfl zq9.heap.size 3 i0 (.int .i64 0) Try.underlying39 hi hz0 hz1 hz2 rfl (.slice A4 ys.length c4) ys.length (ys.map (Value.int .i64)) rfl hr4 rfl (SY _ hc4) (by omega) (by omega) (by omega) ?_; intro vb6 zb6 hown6 hc6; have hr6 : zb6.ownsRow zq9.heap.size 3 1 vb6 YS.length (YS.map (Value.int .i64)) := (by rw [HYS.out]; simpa using hown6); obtain ⟨A6, c6, rfl, ho6⟩ := own_of_row hr6; have hb6 : Below zq9.heap.size zq9 zb6 := hc4.trans hc6; have q2 := (hc6.cell (p := ⟨w.heap.size + 1, 2, none⟩) lqq).trans q2))
        all_goals (go_wp2_with fail; go_meet)
        all_goals exact ⟨A6, c6, rfl, ho6.inn, hb6⟩
      case rest =>
        obtain ⟨AY, cY, rfl, hIY, hcy⟩ := hcut
        obtain ⟨zq10, rfl⟩ : ∃ W, W = wc := ⟨_, rfl⟩
        have z10 := hcy.size
        have b10 := b9.trans (hcy.mono hBq)
        have XA10 := XA9.below hcy (by omega)
        have XB10 := XB9.below hcy lqq
        have hIX := hIX.below hcy
        have i_x10 := h_x.below b10
        have i_y10 := h_y.below b10
        have hIXc := hIX.cap
        have hIYc := hIY.cap
        have XAq := XA10
        obtain ⟨p0, p1, p2, p3, p4, p5, p6, p7⟩ := XAq
        clear q2
        go_wp2_with fail
        clear p0 p1 p2 p3 p4 p5 p6 p7
        go_loopw [10, 83] (fun _ i wr => ∃ j : Nat, j ≤ x.l.length ∧ i = .int .i64 j ∧ Hid (Tr.alphaL (x.l.take j) (y.l.take j) XS YS = true) ∧ Below zq10.heap.size zq10 wr) (fun _ i _ => x.l.length - (intOf i).toNat)
        case atStart => exact ⟨0, Nat.zero_le _, rfl, by simp [Hid, Tr.alphaL], Below.refl _ _⟩
        case round =>
          obtain ⟨j, hj, rfl, HE, hb⟩ := hrel
          have hs2 := hb.size
          have xa := XA10.below hb (by omega)
          have xb := XB10.below hb (by omega)
          obtain ⟨p0, p1, p2, p3, p4, p5, p6, p7⟩ := xa
          obtain ⟨q0, q1, q2, q3, q4, q5, q6, q7⟩ := xb
          clear p0 q0 p1 q1 p2 q2 p3 q3 p4 q4 p5 q5 p6 q6
          by_cases hlt : j < x.l.length
          · have hlt' : j < y.l.length := by omega
            obtain ⟨b, o, hA, hblk, c0, c1, c2, c3, c4, c5, c6, c7, hix⟩ := Ko.at_ ((Ko.E_in i_x10).2.below (hb.mono (by omega))) (i := j) (x := x.l[j]) (List.getElem?_eq_getElem hlt)
            obtain ⟨b', o', hA', hblk', c0', c1', c2', c3', c4', c5', c6', c7', hix'⟩ := Ko.at_ ((Ko.E_in i_y10).2.below (hb.mono (by omega))) (i := j) (x := y.l[j]) (List.getElem?_eq_getElem hlt')
            rw [hA] at p7
            rw [hA'] at q7
            have hsz := Tr.sizeL_mem (l := x.l) (List.getElem_mem hlt)
            have kbx := Tr.bulkL_mem (f := Ko.bulk) (l := x.l) (List.getElem_mem hlt)
            have kby := Tr.bulkL_mem (f := Ko.bulk) (l := y.l) (List.getElem_mem hlt')
            have gg1 : (0 : Int) ≤ (j : Int) := by omega
            have gg2 : (j : Int) < (x.l.length : Int) := by omega
            have gg3 : (j : Int) < (y.l.length : Int) := by omega
            have lp : w.heap.size < wr.heap.size := by omega
            have lq : w.heap.size + 1 < wr.heap.size := by omega
            have lb : b < wr.heap.size := by omega
            have lb' : b' < wr.heap.size := by omega
            have hc : ∀ z : Near wr, Calls Try.prog 54 #[Ko.val x.l[j], Ko.val y.l[j], .slice AX XS.length cX, .slice AY YS.length cY] z.at_ fun e w' => e = .returned (.bool (Tr.alphaB x.l[j] y.l[j] XS YS)) ∧ Below z.at_.heap.size z.at_ w' :=
              fun z => ih x.l[j] y.l[j] AX cX XS AY cY YS zq10.heap.size _ (by omega) (Elem.In.more (hix.below (z.below.mono (by omega))) (by omega)) (Elem.In.more (hix'.below (z.below.mono (by omega))) (by omega)) ((hIX.below ((hb.trans (z.below.mono hs2)).mono z10)).more z10) (hIY.below (hb.trans (z.below.mono hs2))) (by have := z.size; omega) (by have := HBX.out; have := HlX.out; omega) (by have := HBY.out; have := HlY.out; omega)
            clear hix hix'
            simp only [Ko.val] at hc
            have dp : ∀ z : Near wr, z.at_.cell? ⟨w.heap.size, 7, none⟩ = some (.slice (some ⟨b, o, none⟩) x.l.length x.c) := fun z => z.cell _ p7 lp
            have dq : ∀ z : Near wr, z.at_.cell? ⟨w.heap.size + 1, 7, none⟩ = some (.slice (some ⟨b', o', none⟩) y.l.length y.c) := fun z => z.cell _ q7 lq
            have d0 : ∀ z : Near wr, z.at_.cell? ⟨b, o + j * 8, none⟩ = some (.int .i64 x.l[j].a.k) := fun z => z.cell _ c0 lb
            have d1 : ∀ z : Near wr, z.at_.cell? ⟨b, o + j * 8 + 1, none⟩ = some (.int .i64 x.l[j].a.n) := fun z => z.cell _ c1 lb
            have d2 : ∀ z : Near wr, z.at_.cell? ⟨b, o + j * 8 + 2, none⟩ = some (.slice x.l[j].a.sA x.l[j].a.s.length x.l[j].a.sC) := fun z => z.cell _ c2 lb
            have d3 : ∀ z : Near wr, z.at_.cell? ⟨b, o + j * 8 + 3, none⟩ = some (.int .i64 x.l[j].a.d.k) := fun z => z.cell _ c3 lb
            have d4 : ∀ z : Near wr, z.at_.cell? ⟨b, o + j * 8 + 4, none⟩ = some (.int .i64 x.l[j].a.d.n) := fun z => z.cell _ c4 lb
            have d5 : ∀ z : Near wr, z.at_.cell? ⟨b, o + j * 8 + 5, none⟩ = some (.string x.l[j].a.d.t) := fun z => z.cell _ c5 lb
            have d6 : ∀ z : Near wr, z.at_.cell? ⟨b, o + j * 8 + 6, none⟩ = some (.slice x.l[j].a.d.A x.l[j].a.d.l.length x.l[j].a.d.c) := fun z => z.cell _ c6 lb
            have d7 : ∀ z : Near wr, z.at_.cell? ⟨b, o + j * 8 + 7, none⟩ = some (.slice x.l[j].A x.l[j].l.length x.l[j].c) := fun z => z.cell _ c7 lb
            have d0' : ∀ z : Near wr, z.at_.cell? ⟨b', o' + j * 8, none⟩ = some (.int .i64 y.l[j].a.k) := fun z => z.cell _ c0' lb'
            have d1' : ∀ z : Near wr, z.at_.cell? ⟨b', o' + j * 8 + 1, none⟩ = some (.int .i64 y.l[j].a.n) := fun z => z.cell _ c1' lb'
            have d2' : ∀ z : Near wr, z.at_.cell? ⟨b', o' + j * 8 + 2, none⟩ = some (.slice y.l[j].a.sA y.l[j].a.s.length y.l[j].a.sC) := fun z => z.cell _ c2' lb'
            have d3' : ∀ z : Near wr, z.at_.cell? ⟨b', o' + j * 8 + 3, none⟩ = some (.int .i64 y.l[j].a.d.k) := fun z => z.cell _ c3' lb'
            have d4' : ∀ z : Near wr, z.at_.cell? ⟨b', o' + j * 8 + 4, none⟩ = some (.int .i64 y.l[j].a.d.n) := fun z => z.cell _ c4' lb'
            have d5' : ∀ z : Near wr, z.at_.cell? ⟨b', o' + j * 8 + 5, none⟩ = some (.string y.l[j].a.d.t) := fun z => z.cell _ c5' lb'
            have d6' : ∀ z : Near wr, z.at_.cell? ⟨b', o' + j * 8 + 6, none⟩ = some (.slice y.l[j].a.d.A y.l[j].a.d.l.length y.l[j].a.d.c) := fun z => z.cell _ c6' lb'
            have d7' : ∀ z : Near wr, z.at_.cell? ⟨b', o' + j * 8 + 7, none⟩ = some (.slice y.l[j].A y.l[j].l.length y.l[j].c) := fun z => z.cell _ c7' lb'
            clear p7 q7 c0 c0' c1 c1' c2 c2' c3 c3' c4 c4' c5 c5' c6 c6' c7 c7' hA hA'
            cases hq : Tr.alphaB x.l[j] y.l[j] XS YS
            · have Hq := Lib.hid hq
              simp only [hq] at hc
              clear hq
              have HC := Lib.hid hc
              clear hc
              go_wp2_with fail
              refine wp_region_near (by kernel_rfl) (by kernel_rfl) ?_
              repeat (go_big_quiet_step (first | (go_at_call 54; with_reducible exact Calls.near (HC.out _))))
              refine wpQuiet_nil ?_
              intro _ hw1
              obtain ⟨nx, hw2⟩ := hw1
              subst hw2
              have hbx : Below w.heap.size w nx.at_ := b10.trans ((hb.trans (nx.below.mono hs2)).mono (by omega))
              have hby : Below zq10.heap.size zq10 nx.at_ := hb.trans (nx.below.mono hs2)
              go_wp2_with fail
              go_ret
              exact ⟨ret_bool (by rw [HF.out, Q0.out, Q1.out, Q2.out, Q3.out, HNN.out, ← HXS.out, ← HYS.out, Tr.alphaL_take_no hlt hlt' _ _ Hq.out]; simp), hbx⟩
            · have Hq := Lib.hid hq
              simp only [hq] at hc
              clear hq
              have HC := Lib.hid hc
              clear hc
              go_wp2_with fail
              refine wp_region_near (by kernel_rfl) (by kernel_rfl) ?_
              repeat (go_big_quiet_step (first | (go_at_call 54; with_reducible exact Calls.near (HC.out _))))
              refine wpQuiet_nil ?_
              intro _ hw1
              obtain ⟨nx, hw2⟩ := hw1
              subst hw2
              have hbx : Below w.heap.size w nx.at_ := b10.trans ((hb.trans (nx.below.mono hs2)).mono (by omega))
              have hby : Below zq10.heap.size zq10 nx.at_ := hb.trans (nx.below.mono hs2)
              go_wp2_with fail
              go_roundw
              case rel => exact ⟨j + 1, by omega, by go_num, by (show _ = _); rw [Tr.alphaL_take_succ hlt hlt', HE.out, Hq.out]; rfl, hby⟩
              case measure => simp [intOf]; omega
          · have hj' : j = x.l.length := by omega
            subst hj'
            go_wp2_with fail
            go_ret
            exact ⟨ret_bool (by have := HE.out; rw [List.take_length, List.take_of_length_le (by omega)] at this; rw [HF.out, Q0.out, Q1.out, Q2.out, Q3.out, HNN.out, ← HXS.out, ← HYS.out, this]; rfl), b10.trans (hb.mono (by omega))⟩
theorem alphaM_any : ∀ m, AlphaOk m := by
  intro m
  induction m with
  | zero => intro x y _ _ _ _ _ _ B w h; have := x.size_pos; omega
  | succ m ih => exact alphaM_step m ih
end Go.Proofs.Ytfbfmajjooannaa
