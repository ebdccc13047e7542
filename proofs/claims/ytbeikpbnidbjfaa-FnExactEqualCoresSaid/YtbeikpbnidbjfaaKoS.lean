/-
  EqualCores: the model walked (written by gen/koeq.py).
-/
import Derived.Test.YtbeikpbnidbjfaaKoQ
import Derived.Test.YtbeikpbnidbjfaaSEqs
import Derived.Test.YtbeikpbnidbjfaaEqd
import Derived.Test.YtbeikpbnidbjfaaNear
namespace Go.Proofs.Ytbeikpbnidbjfaa
open Go.RowKit

def KoSpvOk (m : Nat) : Prop := ∀ (x y : Tr Ko) (B : Nat) (w : World), x.size ≤ m → Ko.E.In w B x → Ko.E.In w B y → B ≤ w.heap.size →
    Calls Try.prog 21 #[Ko.val x, Ko.val y] w fun e w' => e = .returned (.bool (Tr.eqB Ko.eqB x y)) ∧ Below w.heap.size w w'
theorem ne_beq {α : Type} [BEq α] {a b : α} {v : Bool} (h : (a != b) = v) : (a == b) = !v := by unfold bne at h; rw [← h, Bool.not_not]

set_option maxRecDepth 100000 in
set_option maxHeartbeats 4000000 in
theorem specKo_step (m : Nat) (ih : KoSpvOk m) : KoSpvOk (m + 1) := by
  intro x y B w hm hx hy hB
  have h_x := Elem.In.more hx hB
  have h_y := Elem.In.more hy hB
  have hmm : Tr.sizeL x.l ≤ m := by rw [Tr.size_eq] at hm; omega
  have HF : Hid (Tr.eqB Ko.eqB x y = ((x.a.k == y.a.k && (x.a.n == y.a.n && (x.a.s == y.a.s && D.eqB x.a.d y.a.d))) && Tr.eqL Ko.eqB x.l y.l)) := Tr.eqB_eq _ x y
  unfold Ko.val
  have b0 : Below w.heap.size w w := Below.refl _ _
  have i_x := h_x
  have i_y := h_y
  cases hq : (x.a.k != y.a.k)
  rotate_left
  · have H := Lib.hid (ne_beq hq)
    go_enter Try.func21, Try.ntmps21
    go_wp2_with fail
    go_ret
    exact ⟨ret_bool (by rw [HF.out, H.out]; simp), ((Below.refl _ _).alloc (Nat.le_refl _) _).alloc (by simp) _⟩
  have Q0 := Lib.hid (ne_beq hq)
  have hk := hq
  clear hq
  cases hq : (x.a.n != y.a.n)
  rotate_left
  · have H := Lib.hid (ne_beq hq)
    go_enter Try.func21, Try.ntmps21
    go_wp2_with fail
    go_ret
    exact ⟨ret_bool (by rw [HF.out, Q0.out, H.out]; simp), ((Below.refl _ _).alloc (Nat.le_refl _) _).alloc (by simp) _⟩
  have Q1 := Lib.hid (ne_beq hq)
  go_enter Try.func21, Try.ntmps21
  go_wp2_with fail
  obtain ⟨w2, hw2⟩ : ∃ W, W = (w.alloc (.cells #[.int .i64 x.a.k, .int .i64 x.a.n, .slice x.a.sA x.a.s.length x.a.sC, .int .i64 x.a.d.k, .int .i64 x.a.d.n, .string x.a.d.t, .slice x.a.d.A x.a.d.l.length x.a.d.c, .slice x.A x.l.length x.c] 36)).alloc (.cells #[.int .i64 y.a.k, .int .i64 y.a.n, .slice y.a.sA y.a.s.length y.a.sC, .int .i64 y.a.d.k, .int .i64 y.a.d.n, .string y.a.d.t, .slice y.a.d.A y.a.d.l.length y.a.d.c, .slice y.A y.l.length y.c] 36) := ⟨_, rfl⟩
  rw [← hw2]
  have hb2 : Below w.heap.size w w2 := by rw [hw2]; exact ((Below.refl _ _).alloc (Nat.le_refl _) _).alloc (by simp) _
  have z2 : w.heap.size + 2 ≤ w2.heap.size := by rw [hw2]; simp
  have xa : Ko.Box w2 w.heap.size x := by rw [hw2]; exact (Ko.Box.new w x _).below ((Below.refl (w.heap.size + 1) _).alloc (by simp) _) (by omega)
  have xb : Ko.Box w2 (w.heap.size + 1) y := by rw [hw2]; have := Ko.Box.new (w.alloc (.cells #[.int .i64 x.a.k, .int .i64 x.a.n, .slice x.a.sA x.a.s.length x.a.sC, .int .i64 x.a.d.k, .int .i64 x.a.d.n, .string x.a.d.t, .slice x.a.d.A x.a.d.l.length x.a.d.c, .slice x.A x.l.length x.c] 36)) y 36; simpa using this
  clear hw2
  have b2 := b0.trans (hb2.mono (by omega))
  have i_x := h_x.below b2
  have i_y := h_y.below b2
  clear hb2 b0
  clear hq hk
  refine (sameInts_any x.a.sA x.a.sC x.a.s y.a.sA y.a.sC y.a.s w.heap.size _ (Ko.E_in i_x).1.s (Ko.E_in i_y).1.s (by omega)).mono ?_
  rintro e w3 ⟨rfl, hb3⟩
  have z3 := hb3.size
  have xa := xa.below hb3 (by omega)
  have xb := xb.below hb3 (by omega)
  have b3 := b2.trans (hb3.mono (by omega))
  have i_x := h_x.below b3
  have i_y := h_y.below b3
  clear hb3
  cases hq : (x.a.s == y.a.s)
  · have H := Lib.hid hq
    clear hq
    have xaq := xa
    obtain ⟨xa_0, xa_1, xa_2, xa_3, xa_4, xa_5, xa_6, xa_7⟩ := xaq
    have xalt : w.heap.size < w3.heap.size := (by omega)
    have xbq := xb
    obtain ⟨xb_0, xb_1, xb_2, xb_3, xb_4, xb_5, xb_6, xb_7⟩ := xbq
    have xblt : w.heap.size + 1 < w3.heap.size := (by omega)
    go_wp2_with fail
    clear xa_0 xa_1 xa_2 xa_3 xa_4 xa_5 xa_6 xa_7 xalt
    clear xb_0 xb_1 xb_2 xb_3 xb_4 xb_5 xb_6 xb_7 xblt
    go_ret
    exact ⟨ret_bool (by rw [HF.out, Q0.out, Q1.out, H.out]; simp), b3⟩
  have Q2 := Lib.hid hq
  clear hq
  have xaq := xa
  obtain ⟨xa_0, xa_1, xa_2, xa_3, xa_4, xa_5, xa_6, xa_7⟩ := xaq
  have xalt : w.heap.size < w3.heap.size := (by omega)
  have xbq := xb
  obtain ⟨xb_0, xb_1, xb_2, xb_3, xb_4, xb_5, xb_6, xb_7⟩ := xbq
  have xblt : w.heap.size + 1 < w3.heap.size := (by omega)
  go_wp2_with fail
  clear xa_0 xa_1 xa_2 xa_3 xa_4 xa_5 xa_6 xa_7 xalt
  clear xb_0 xb_1 xb_2 xb_3 xb_4 xb_5 xb_6 xb_7 xblt
  refine (specEqual_any x.a.d.size x.a.d y.a.d w.heap.size _ (Nat.le_refl _) (Ko.E_in i_x).1.d (Ko.E_in i_y).1.d (by omega)).mono ?_
  rintro e w4 ⟨rfl, hb4⟩
  have z4 := hb4.size
  have xa := xa.below hb4 (by omega)
  have xb := xb.below hb4 (by omega)
  have b4 := b3.trans (hb4.mono (by omega))
  have i_x := h_x.below b4
  have i_y := h_y.below b4
  clear hb4
  cases hq : D.eqB x.a.d y.a.d
  · have H := Lib.hid hq
    clear hq
    have xaq := xa
    obtain ⟨xa_0, xa_1, xa_2, xa_3, xa_4, xa_5, xa_6, xa_7⟩ := xaq
    have xalt : w.heap.size < w4.heap.size := (by omega)
    have xbq := xb
    obtain ⟨xb_0, xb_1, xb_2, xb_3, xb_4, xb_5, xb_6, xb_7⟩ := xbq
    have xblt : w.heap.size + 1 < w4.heap.size := (by omega)
    go_wp2_with fail
    clear xa_0 xa_1 xa_2 xa_3 xa_4 xa_5 xa_6 xa_7 xalt
    clear xb_0 xb_1 xb_2 xb_3 xb_4 xb_5 xb_6 xb_7 xblt
    go_ret
    exact ⟨ret_bool (by rw [HF.out, Q0.out, Q1.out, Q2.out, H.out]; simp), b4⟩
  have Q3 := Lib.hid hq
  clear hq
  have hcap := (Ko.E_in i_x).2.cap
  have hcap' := (Ko.E_in i_y).2.cap
  by_cases hlen : x.l.length = y.l.length
  rotate_left
  · have hn1 : ((x.l.length : Int) != (y.l.length : Int)) = true := by simpa using (by omega : ¬ (x.l.length : Int) = (y.l.length : Int))
    have Hn := Lib.hid (Tr.eqL_length (f := Ko.eqB) x.l y.l hlen)
    clear hlen
    have xaq := xa
    obtain ⟨xa_0, xa_1, xa_2, xa_3, xa_4, xa_5, xa_6, xa_7⟩ := xaq
    have xalt : w.heap.size < w4.heap.size := (by omega)
    have xbq := xb
    obtain ⟨xb_0, xb_1, xb_2, xb_3, xb_4, xb_5, xb_6, xb_7⟩ := xbq
    have xblt : w.heap.size + 1 < w4.heap.size := (by omega)
    go_wp2_with fail
    clear xa_0 xa_1 xa_2 xa_3 xa_4 xa_5 xa_6 xa_7 xalt
    clear xb_0 xb_1 xb_2 xb_3 xb_4 xb_5 xb_6 xb_7 xblt
    go_ret
    exact ⟨ret_bool (by rw [HF.out, Hn.out]; simp), b4⟩
  have hn1 : ((x.l.length : Int) != (y.l.length : Int)) = false := by simp [hlen]
  have hlen1 : y.l.length ≤ x.l.length := by omega
  have hlen2 : x.l.length ≤ y.l.length := by omega
  clear hlen
  have xaq := xa
  obtain ⟨xa_0, xa_1, xa_2, xa_3, xa_4, xa_5, xa_6, xa_7⟩ := xaq
  have xalt : w.heap.size < w4.heap.size := (by omega)
  have xbq := xb
  obtain ⟨xb_0, xb_1, xb_2, xb_3, xb_4, xb_5, xb_6, xb_7⟩ := xbq
  have xblt : w.heap.size + 1 < w4.heap.size := (by omega)
  go_wp2_with fail
  clear xa_0 xa_1 xa_2 xa_3 xa_4 xa_5 xa_6 xa_7 xalt
  clear xb_0 xb_1 xb_2 xb_3 xb_4 xb_5 xb_6 xb_7 xblt
  go_loopw [46] (fun i wr => ∃ j : Nat, j ≤ x.l.length ∧ i = .int .i64 j ∧ Hid (Tr.eqL Ko.eqB (x.l.take j) (y.l.take j) = true) ∧ Below w4.heap.size w4 wr) (fun i _ => x.l.length - (intOf i).toNat)
  case atStart => exact ⟨0, Nat.zero_le _, rfl, by simp [Hid, Tr.eqL], Below.refl _ _⟩
  case round =>
    obtain ⟨j, hj, rfl, HE, hb⟩ := hrel
    have hs2 := hb.size
    have xa := xa.below hb (by omega)
    have xb := xb.below hb (by omega)
    obtain ⟨p0, p1, p2, p3, p4, p5, p6, p7⟩ := xa
    obtain ⟨q0, q1, q2, q3, q4, q5, q6, q7⟩ := xb
    clear p0 q0 p1 q1 p2 q2 p3 q3 p4 q4 p5 q5 p6 q6
    by_cases hlt : j < x.l.length
    · have hlt' : j < y.l.length := by omega
      obtain ⟨b, o, hA, hblk, c0, c1, c2, c3, c4, c5, c6, c7, hix⟩ := Ko.at_ ((Ko.E_in i_x).2.below (hb.mono (by omega))) (i := j) (x := x.l[j]) (List.getElem?_eq_getElem hlt)
      obtain ⟨b', o', hA', hblk', c0', c1', c2', c3', c4', c5', c6', c7', hix'⟩ := Ko.at_ ((Ko.E_in i_y).2.below (hb.mono (by omega))) (i := j) (x := y.l[j]) (List.getElem?_eq_getElem hlt')
      rw [hA] at p7
      rw [hA'] at q7
      have hsz := Tr.sizeL_mem (l := x.l) (List.getElem_mem hlt)
      have gg1 : (0 : Int) ≤ (j : Int) := by omega
      have gg2 : (j : Int) < (x.l.length : Int) := by omega
      have gg3 : (j : Int) < (y.l.length : Int) := by omega
      have lp : w.heap.size < wr.heap.size := by omega
      have lq : w.heap.size + 1 < wr.heap.size := by omega
      have lb : b < wr.heap.size := by omega
      have lb' : b' < wr.heap.size := by omega
      have hc : ∀ z : Near wr, Calls Try.prog 21 #[Ko.val x.l[j], Ko.val y.l[j]] z.at_ fun e w' => e = .returned (.bool (Tr.eqB Ko.eqB x.l[j] y.l[j])) ∧ Below z.at_.heap.size z.at_ w' :=
        fun z => ih x.l[j] y.l[j] w.heap.size _ (by omega) (hix.below (z.below.mono (by omega))) (hix'.below (z.below.mono (by omega))) (by have := z.size; omega)
      clear hix hix'
      simp only [Ko.val] at hc
      have dp : ∀ z : Near wr, z.at_.cell? ⟨w.heap.size, 7, none⟩ = some (.slice (some ⟨b, o, none⟩) x.l.length x.c) := fun z => z.cell _ p7 lp
      have dq : ∀ z : Near wr, z.at_.cell? ⟨w.heap.size + 1, 7, none⟩ = some (.slice (some ⟨b', o', none⟩) y.l.length y.c) := fun z => z.cell _ q7 lq
      have d0 : ∀ z : Near wr, z.at_.cell? ⟨b, o + j * 8, none⟩ = some (.int .i64 x.l[j].a.k) := fun z => z.cell _ c0 lb
      have d1 : ∀ z : Near wr, z.at_.cell? ⟨b, o + j * 8 + 1, none⟩ = some (.int .i64 x.l[j].a.n) := fun z => z.cell _ c1 lb
      have d2 : ∀ z : Near wr, z.at_.cell? ⟨b, o + j * 8 + 2, none⟩ = some (.slice x.l[j].a.sA x.l[j].a.s.length x.l[j].a.sC) := fun z => z.cell _ c2 lb
      have d3 : ∀ z : Near wr, z.at_.cell? ⟨b, o + j * 8 + 3, none⟩ = some (.int .i64 x.l[j].a.d.k) := fun z => z.cell _ c3 lb
      have d4 : ∀ z : Near wr, z.at_.cell? ⟨b, o + j * 8 + 4, none⟩ = some (.int .i64 x.l[j].a.d.n) := fun z => z.cell _ c4 lb
      have d5 : ∀ z : Near wr, z.at_.cell? ⟨b, o + j * 8 + 5, none⟩ = some (.string x.l[j].a.d.t) := fun z => z.cell _ c5 lb
      have d6 : ∀ z : Near wr, z.at_.cell? ⟨b, o + j * 8 + 6, none⟩ = some (.slice x.l[j].a.d.A x.l[j].a.d.l.length x.l[j].a.d.c) := fun z => z.cell _ c6 lb
      have d7 : ∀ z : Near wr, z.at_.cell? ⟨b, o + j * 8 + 7, none⟩ = some (.slice x.l[j].A x.l[j].l.length x.l[j].c) := fun z => z.cell _ c7 lb
      have d0' : ∀ z : Near wr, z.at_.cell? ⟨b', o' + j * 8, none⟩ = some (.int .i64 y.l[j].a.k) := fun z => z.cell _ c0' lb'
      have d1' : ∀ z : Near wr, z.at_.cell? ⟨b', o' + j * 8 + 1, none⟩ = some (.int .i64 y.l[j].a.n) := fun z => z.cell _ c1' lb'
      have d2' : ∀ z : Near wr, z.at_.cell? ⟨b', o' + j * 8 + 2, none⟩ = some (.slice y.l[j].a.sA y.l[j].a.s.length y.l[j].a.sC) := fun z => z.cell _ c2' lb'
      have d3' : ∀ z : Near wr, z.at_.cell? ⟨b', o' + j * 8 + 3, none⟩ = some (.int .i64 y.l[j].a.d.k) := fun z => z.cell _ c3' lb'
      have d4' : ∀ z : Near wr, z.at_.cell? ⟨b', o' + j * 8 + 4, none⟩ = some (.int .i64 y.l[j].a.d.n) := fun z => z.cell _ c4' lb'
      have d5' : ∀ z : Near wr, z.at_.cell? ⟨b', o' + j * 8 + 5, none⟩ = some (.string y.l[j].a.d.t) := fun z => z.cell _ c5' lb'
      have d6' : ∀ z : Near wr, z.at_.cell? ⟨b', o' + j * 8 + 6, none⟩ = some (.slice y.l[j].a.d.A y.l[j].a.d.l.length y.l[j].a.d.c) := fun z => z.cell _ c6' lb'
      have d7' : ∀ z : Near wr, z.at_.cell? ⟨b', o' + j * 8 + 7, none⟩ = some (.slice y.l[j].A y.l[j].l.length y.l[j].c) := fun z => z.cell _ c7' lb'
      clear p7 q7 c0 c0' c1 c1' c2 c2' c3 c3' c4 c4' c5 c5' c6 c6' c7 c7' hA hA'
      cases hq : Tr.eqB Ko.eqB x.l[j] y.l[j]
      · have Hq := Lib.hid hq
        simp only [hq] at hc
        clear hq
        have HC := Lib.hid hc
        clear hc
        go_wp2_with fail
        refine wp_region_near (by kernel_rfl) (by kernel_rfl) ?_
        repeat (go_big_quiet_step (first | (go_at_call 21; with_reducible exact Calls.near (HC.out _))))
        refine wpQuiet_nil ?_
        intro _ hw1
        obtain ⟨nx, hw2⟩ := hw1
        subst hw2
        have hbx : Below w.heap.size w nx.at_ := b4.trans ((hb.trans (nx.below.mono hs2)).mono (by omega))
        have hby : Below w4.heap.size w4 nx.at_ := hb.trans (nx.below.mono hs2)
        go_wp2_with fail
        go_ret
        exact ⟨ret_bool (by rw [HF.out, Tr.eqL_take_no x.l y.l j hlt hlt' HE.out Hq.out]; simp), hbx⟩
      · have Hq := Lib.hid hq
        simp only [hq] at hc
        clear hq
        have HC := Lib.hid hc
        clear hc
        go_wp2_with fail
        refine wp_region_near (by kernel_rfl) (by kernel_rfl) ?_
        repeat (go_big_quiet_step (first | (go_at_call 21; with_reducible exact Calls.near (HC.out _))))
        refine wpQuiet_nil ?_
        intro _ hw1
        obtain ⟨nx, hw2⟩ := hw1
        subst hw2
        have hbx : Below w.heap.size w nx.at_ := b4.trans ((hb.trans (nx.below.mono hs2)).mono (by omega))
        have hby : Below w4.heap.size w4 nx.at_ := hb.trans (nx.below.mono hs2)
        go_wp2_with fail
        refine ⟨⟨j + 1, by omega, by go_num, by (show _ = _); rw [Tr.eqL_take_succ x.l y.l j hlt hlt', HE.out, Hq.out]; rfl, hby⟩, by simp [intOf]; omega⟩
    · have hj' : j = x.l.length := by omega
      subst hj'
      go_wp2_with fail
      go_ret
      exact ⟨ret_bool (by have := HE.out; rw [List.take_length, List.take_of_length_le (by omega)] at this; rw [HF.out, Q0.out, Q1.out, Q2.out, Q3.out, this]; rfl), b4.trans (hb.mono (by omega))⟩
theorem specKo_any : ∀ m, KoSpvOk m := by
  intro m
  induction m with
  | zero => intro x y B w h; have := x.size_pos; omega
  | succ m ih => exact specKo_step m ih
theorem specKo_c (x y : Tr Ko) {x0 y0 : Tr Ko} (B : Nat) (w : World) (hxe : x.er Ko.er = x0.er Ko.er) (hye : y.er Ko.er = y0.er Ko.er) {X : Bool} (hX : X = Tr.eqB Ko.eqB x0 y0) (hx : Ko.E.In w B x) (hy : Ko.E.In w B y) (hB : B ≤ w.heap.size) :
    Calls Try.prog 21 #[Ko.val x, Ko.val y] w fun e w' => e = .returned (.bool X) ∧ Below w.heap.size w w' := by
  rw [hX, ← Tr.eqB_congr Ko.eqB_er2 hxe hye]
  exact specKo_any _ x y B w (Nat.le_refl _) hx hy hB
end Go.Proofs.Ytbeikpbnidbjfaa
