/-
  EqualCores: the program walked (written by gen/koeq.py).
-/
import Derived.Test.YtfbfmajjooannaaKoCopy
import Derived.Test.YtfbfmajjooannaaSEqi
import Derived.Test.YtfbfmajjooannaaEqd
import Derived.Deep.RegionHeld3
namespace Go.Proofs.Ytfbfmajjooannaa
open Go.RowKit

def KoEqvOk (m : Nat) : Prop := ∀ (x y : Tr Ko) (B : Nat) (w : World), x.size ≤ m → Ko.E.In w B x → Ko.E.In w B y → B ≤ w.heap.size →
    Calls Try.prog 59 #[Ko.val x, Ko.val y] w fun e w' => e = .returned (.bool (Tr.eqB Ko.eqB x y)) ∧ Below w.heap.size w w'

set_option maxRecDepth 100000 in
set_option maxHeartbeats 4000000 in
theorem coreFunc_any (m : Nat) (ih : KoEqvOk m) (A : Option Addr) (c : Nat) (l : List (Tr Ko)) (A' : Option Addr) (c' : Nat) (l' : List (Tr Ko)) (B : Nat) (w : World) (hm : Tr.sizeL l ≤ m)
    (hin : Ko.E.LIn w B A c l) (hin' : Ko.E.LIn w B A' c' l') (hB : B ≤ w.heap.size) :
    Calls Try.prog 115 #[.slice A l.length c, .slice A' l'.length c', .func (.func 59) #[] #[]] w fun x w' => x = .returned (.bool (Tr.eqL Ko.eqB l l')) ∧ Below w.heap.size w w' := by
  have hcap := hin.cap
  have hcap' := hin'.cap
  by_cases hlen : l.length = l'.length
  · have hn1 : ((l.length : Int) != (l'.length : Int)) = false := by simp [hlen]
    have hlen1 : l'.length ≤ l.length := by omega
    have hlen2 : l.length ≤ l'.length := by omega
    clear hlen
    go_enter Try.func115, Try.ntmps115
    go_wp2_with fail
    go_loopw [17] (fun i wr => ∃ j : Nat, j ≤ l.length ∧ i = .int .i64 j ∧ Hid (Tr.eqL Ko.eqB (l.take j) (l'.take j) = true) ∧ Below w.heap.size w wr) (fun i _ => l.length - (intOf i).toNat)
    case atStart => exact ⟨0, Nat.zero_le _, rfl, by simp [Hid, Tr.eqL], Below.refl _ _⟩
    case round =>
      obtain ⟨j, hj, rfl, HE, hb⟩ := hrel
      have hs2 := hb.size
      by_cases hlt : j < l.length
      · have hlt' : j < l'.length := by omega
        obtain ⟨b, o, rfl, hblk, c0, c1, c2, c3, c4, c5, c6, c7, hix⟩ := Ko.at_ (hin.below (hb.mono hB)) (i := j) (x := l[j]) (List.getElem?_eq_getElem hlt)
        obtain ⟨b', o', rfl, hblk', c0', c1', c2', c3', c4', c5', c6', c7', hix'⟩ := Ko.at_ (hin'.below (hb.mono hB)) (i := j) (x := l'[j]) (List.getElem?_eq_getElem hlt')
        have hsz := Tr.sizeL_mem (l := l) (List.getElem_mem hlt)
        have gg1 : (0 : Int) ≤ (j : Int) := by omega
        have gg2 : (j : Int) < (l.length : Int) := by omega
        have gg3 : (j : Int) < (l'.length : Int) := by omega
        have al : ∀ (p : Addr), p.block < wr.heap.size → (wr.alloc (.cells #[.int .i64 l[j].a.k, .int .i64 l[j].a.n, .slice l[j].a.sA l[j].a.s.length l[j].a.sC, .int .i64 l[j].a.d.k, .int .i64 l[j].a.d.n, .string l[j].a.d.t, .slice l[j].a.d.A l[j].a.d.l.length l[j].a.d.c, .slice l[j].A l[j].l.length l[j].c] 53)).cell? p = wr.cell? p := fun p hp => World.cell?_alloc_lt wr _ p hp
        have v0 := (al ⟨b', o' + j * 8, none⟩ (show b' < wr.heap.size by omega)).trans c0'
        have v1 := (al ⟨b', o' + j * 8 + 1, none⟩ (show b' < wr.heap.size by omega)).trans c1'
        have v2 := (al ⟨b', o' + j * 8 + 2, none⟩ (show b' < wr.heap.size by omega)).trans c2'
        have v3 := (al ⟨b', o' + j * 8 + 3, none⟩ (show b' < wr.heap.size by omega)).trans c3'
        have v4 := (al ⟨b', o' + j * 8 + 4, none⟩ (show b' < wr.heap.size by omega)).trans c4'
        have v5 := (al ⟨b', o' + j * 8 + 5, none⟩ (show b' < wr.heap.size by omega)).trans c5'
        have v6 := (al ⟨b', o' + j * 8 + 6, none⟩ (show b' < wr.heap.size by omega)).trans c6'
        have v7 := (al ⟨b', o' + j * 8 + 7, none⟩ (show b' < wr.heap.size by omega)).trans c7'
        clear al
        have bn : Below wr.heap.size wr ((wr.alloc (.cells #[.int .i64 l[j].a.k, .int .i64 l[j].a.n, .slice l[j].a.sA l[j].a.s.length l[j].a.sC, .int .i64 l[j].a.d.k, .int .i64 l[j].a.d.n, .string l[j].a.d.t, .slice l[j].a.d.A l[j].a.d.l.length l[j].a.d.c, .slice l[j].A l[j].l.length l[j].c] 53)).alloc (.cells #[.int .i64 l'[j].a.k, .int .i64 l'[j].a.n, .slice l'[j].a.sA l'[j].a.s.length l'[j].a.sC, .int .i64 l'[j].a.d.k, .int .i64 l'[j].a.d.n, .string l'[j].a.d.t, .slice l'[j].a.d.A l'[j].a.d.l.length l'[j].a.d.c, .slice l'[j].A l'[j].l.length l'[j].c] 53)) := ((Below.refl _ _).alloc (Nat.le_refl _) _).alloc (by simp) _
        go_wp2_with fail
        refine (ih l[j] l'[j] B _ (by omega) (hix.below (bn.mono (by omega))) (hix'.below (bn.mono (by omega))) (by simp; omega)).mono ?_
        rintro e w1 ⟨rfl, hb1⟩
        have hb2 : Below w.heap.size w w1 := hb.trans ((bn.trans (hb1.mono (by simp; omega))).mono hs2)
        clear bn hb1
        cases hq : Tr.eqB Ko.eqB l[j] l'[j]
        · have Hq := Lib.hid hq
          go_wp2_with fail
          go_ret
          exact ⟨ret_bool (by rw [Tr.eqL_take l l' j hlt hlt' HE.out, Hq.out]; rfl), hb2⟩
        · have Hq := Lib.hid hq
          go_wp2_with fail
          go_roundw
          case rel => exact ⟨j + 1, by omega, by go_num, by (show _ = _); rw [Tr.eqL_take_succ l l' j hlt hlt', HE.out, Hq.out]; rfl, hb2⟩
          case measure => simp [intOf]; omega
      · have hj' : j = l.length := by omega
        subst hj'
        go_wp2_with fail
        go_ret
        exact ⟨ret_bool (by have := HE.out; rwa [List.take_length, List.take_of_length_le (by omega), eq_comm] at this), hb⟩
  · have hn1 : ((l.length : Int) != (l'.length : Int)) = true := by simpa using (by omega : ¬ (l.length : Int) = (l'.length : Int))
    have Hn := Lib.hid (Tr.eqL_length (f := Ko.eqB) l l' hlen)
    go_enter Try.func115, Try.ntmps115
    go_wp2_with fail
    go_ret
    exact ⟨ret_bool Hn.out.symm, Below.refl _ _⟩

set_option maxRecDepth 100000 in
set_option maxHeartbeats 4000000 in
theorem implKo_step (m : Nat) (ih : KoEqvOk m) : KoEqvOk (m + 1) := by
  intro x y B w hm hx hy hB
  have h_x := Elem.In.more hx hB
  have h_y := Elem.In.more hy hB
  have hmm : Tr.sizeL x.l ≤ m := by rw [Tr.size_eq] at hm; omega
  have HF : Hid (Tr.eqB Ko.eqB x y = ((x.a.k == y.a.k && (x.a.n == y.a.n && (x.a.s == y.a.s && D.eqB x.a.d y.a.d))) && Tr.eqL Ko.eqB x.l y.l)) := Tr.eqB_eq _ x y
  unfold Ko.val
  have b0 : Below w.heap.size w w := Below.refl _ _
  have i_x := h_x
  have i_y := h_y
  cases hq : (x.a.k == y.a.k)
  · have H := Lib.hid hq
    go_enter Try.func59, Try.ntmps59
    go_wp2_with fail
    go_ret
    exact ⟨ret_bool (by rw [HF.out, H.out]; simp), ((Below.refl _ _).alloc (Nat.le_refl _) _).alloc (by simp) _⟩
  have Q0 := Lib.hid hq
  have hk := hq
  clear hq
  cases hq : (x.a.n == y.a.n)
  · have H := Lib.hid hq
    go_enter Try.func59, Try.ntmps59
    go_wp2_with fail
    go_ret
    exact ⟨ret_bool (by rw [HF.out, Q0.out, H.out]; simp), ((Below.refl _ _).alloc (Nat.le_refl _) _).alloc (by simp) _⟩
  have Q1 := Lib.hid hq
  go_enter Try.func59, Try.ntmps59
  go_wp2_with fail
  obtain ⟨w2, hw2⟩ : ∃ W, W = (w.alloc (.cells #[.int .i64 x.a.k, .int .i64 x.a.n, .slice x.a.sA x.a.s.length x.a.sC, .int .i64 x.a.d.k, .int .i64 x.a.d.n, .string x.a.d.t, .slice x.a.d.A x.a.d.l.length x.a.d.c, .slice x.A x.l.length x.c] 53)).alloc (.cells #[.int .i64 y.a.k, .int .i64 y.a.n, .slice y.a.sA y.a.s.length y.a.sC, .int .i64 y.a.d.k, .int .i64 y.a.d.n, .string y.a.d.t, .slice y.a.d.A y.a.d.l.length y.a.d.c, .slice y.A y.l.length y.c] 53) := ⟨_, rfl⟩
  rw [← hw2]
  have hb2 : Below w.heap.size w w2 := by rw [hw2]; exact ((Below.refl _ _).alloc (Nat.le_refl _) _).alloc (by simp) _
  have z2 : w.heap.size + 2 ≤ w2.heap.size := by rw [hw2]; simp
  have xa : Ko.Box w2 w.heap.size x := by rw [hw2]; exact (Ko.Box.new w x _).below ((Below.refl (w.heap.size + 1) _).alloc (by simp) _) (by omega)
  have xb : Ko.Box w2 (w.heap.size + 1) y := by rw [hw2]; have := Ko.Box.new (w.alloc (.cells #[.int .i64 x.a.k, .int .i64 x.a.n, .slice x.a.sA x.a.s.length x.a.sC, .int .i64 x.a.d.k, .int .i64 x.a.d.n, .string x.a.d.t, .slice x.a.d.A x.a.d.l.length x.a.d.c, .slice x.A x.l.length x.c] 53)) y 53; simpa using this
  clear hw2
  have b2 := b0.trans (hb2.mono (by omega))
  have i_x := h_x.below b2
  have i_y := h_y.below b2
  clear hb2 b0
  clear hq hk
  refine (implSameInts_any x.a.sA x.a.sC x.a.s y.a.sA y.a.sC y.a.s w.heap.size _ (Ko.E_in i_x).1.s (Ko.E_in i_y).1.s).mono ?_
  rintro e w3 ⟨rfl, hb3⟩
  have z3 := hb3.size
  have xa := xa.below hb3 (by omega)
  have xb := xb.below hb3 (by omega)
  have b3 := b2.trans (hb3.mono (by omega))
  have i_x := h_x.below b3
  have i_y := h_y.below b3
  clear hb3
  cases hq : (x.a.s == y.a.s)
  · have H := Lib.hid hq
    clear hq
    have xaq := xa
    obtain ⟨xa_0, xa_1, xa_2, xa_3, xa_4, xa_5, xa_6, xa_7⟩ := xaq
    have xalt : w.heap.size < w3.heap.size := (by omega)
    have xbq := xb
    obtain ⟨xb_0, xb_1, xb_2, xb_3, xb_4, xb_5, xb_6, xb_7⟩ := xbq
    have xblt : w.heap.size + 1 < w3.heap.size := (by omega)
    go_wp2_with fail
    clear xa_0 xa_1 xa_2 xa_3 xa_4 xa_5 xa_6 xa_7 xalt
    clear xb_0 xb_1 xb_2 xb_3 xb_4 xb_5 xb_6 xb_7 xblt
    go_ret
    exact ⟨ret_bool (by rw [HF.out, Q0.out, Q1.out, H.out]; simp), b3⟩
  have Q2 := Lib.hid hq
  clear hq
  have xaq := xa
  obtain ⟨xa_0, xa_1, xa_2, xa_3, xa_4, xa_5, xa_6, xa_7⟩ := xaq
  have xalt : w.heap.size < w3.heap.size := (by omega)
  have xbq := xb
  obtain ⟨xb_0, xb_1, xb_2, xb_3, xb_4, xb_5, xb_6, xb_7⟩ := xbq
  have xblt : w.heap.size + 1 < w3.heap.size := (by omega)
  go_wp2_with fail
  clear xa_0 xa_1 xa_2 xa_3 xa_4 xa_5 xa_6 xa_7 xalt
  clear xb_0 xb_1 xb_2 xb_3 xb_4 xb_5 xb_6 xb_7 xblt
  refine (implEqual_any x.a.d.size x.a.d y.a.d w.heap.size _ (Nat.le_refl _) (Ko.E_in i_x).1.d (Ko.E_in i_y).1.d (by omega)).mono ?_
  rintro e w4 ⟨rfl, hb4⟩
  have z4 := hb4.size
  have xa := xa.below hb4 (by omega)
  have xb := xb.below hb4 (by omega)
  have b4 := b3.trans (hb4.mono (by omega))
  have i_x := h_x.below b4
  have i_y := h_y.below b4
  clear hb4
  cases hq : D.eqB x.a.d y.a.d
  · have H := Lib.hid hq
    clear hq
    have xaq := xa
    obtain ⟨xa_0, xa_1, xa_2, xa_3, xa_4, xa_5, xa_6, xa_7⟩ := xaq
    have xalt : w.heap.size < w4.heap.size := (by omega)
    have xbq := xb
    obtain ⟨xb_0, xb_1, xb_2, xb_3, xb_4, xb_5, xb_6, xb_7⟩ := xbq
    have xblt : w.heap.size + 1 < w4.heap.size := (by omega)
    go_wp2_with fail
    clear xa_0 xa_1 xa_2 xa_3 xa_4 xa_5 xa_6 xa_7 xalt
    clear xb_0 xb_1 xb_2 xb_3 xb_4 xb_5 xb_6 xb_7 xblt
    go_ret
    exact ⟨ret_bool (by rw [HF.out, Q0.out, Q1.out, Q2.out, H.out]; simp), b4⟩
  have Q3 := Lib.hid hq
  clear hq
  have xaq := xa
  obtain ⟨xa_0, xa_1, xa_2, xa_3, xa_4, xa_5, xa_6, xa_7⟩ := xaq
  have xalt : w.heap.size < w4.heap.size := (by omega)
  have xbq := xb
  obtain ⟨xb_0, xb_1, xb_2, xb_3, xb_4, xb_5, xb_6, xb_7⟩ := xbq
  have xblt : w.heap.size + 1 < w4.heap.size := (by omega)
  go_wp2_with fail
  clear xa_0 xa_1 xa_2 xa_3 xa_4 xa_5 xa_6 xa_7 xalt
  clear xb_0 xb_1 xb_2 xb_3 xb_4 xb_5 xb_6 xb_7 xblt
  refine (coreFunc_any m ih x.A x.c x.l y.A y.c y.l w.heap.size _ hmm (Ko.E_in i_x).2 (Ko.E_in i_y).2 (by omega)).mono ?_
  rintro e w5 ⟨rfl, hb5⟩
  have z5 := hb5.size
  have xa := xa.below hb5 (by omega)
  have xb := xb.below hb5 (by omega)
  have b5 := b4.trans (hb5.mono (by omega))
  have i_x := h_x.below b5
  have i_y := h_y.below b5
  clear hb5
  obtain ⟨V, hV⟩ : ∃ V, V = Tr.eqL Ko.eqB x.l y.l := ⟨_, rfl⟩
  rw [← hV]
  have HV := Lib.hid hV
  clear hV
  have xaq := xa
  obtain ⟨xa_0, xa_1, xa_2, xa_3, xa_4, xa_5, xa_6, xa_7⟩ := xaq
  have xalt : w.heap.size < w5.heap.size := (by omega)
  have xbq := xb
  obtain ⟨xb_0, xb_1, xb_2, xb_3, xb_4, xb_5, xb_6, xb_7⟩ := xbq
  have xblt : w.heap.size + 1 < w5.heap.size := (by omega)
  go_wp2_with fail
  clear xa_0 xa_1 xa_2 xa_3 xa_4 xa_5 xa_6 xa_7 xalt
  clear xb_0 xb_1 xb_2 xb_3 xb_4 xb_5 xb_6 xb_7 xblt
  go_ret
  exact ⟨ret_bool (by rw [HF.out, Q0.out, Q1.out, Q2.out, Q3.out, HV.out]; rfl), b5⟩
theorem implKo_any : ∀ m, KoEqvOk m := by
  intro m
  induction m with
  | zero => intro x y B w h; have := x.size_pos; omega
  | succ m ih => exact implKo_step m ih
theorem implKo_c (x y : Tr Ko) {x0 y0 : Tr Ko} (B : Nat) (w : World) (hxe : x.er Ko.er = x0.er Ko.er) (hye : y.er Ko.er = y0.er Ko.er) {X : Bool} (hX : X = Tr.eqB Ko.eqB x0 y0) (hx : Ko.E.In w B x) (hy : Ko.E.In w B y) (hB : B ≤ w.heap.size) :
    Calls Try.prog 59 #[Ko.val x, Ko.val y] w fun e w' => e = .returned (.bool X) ∧ Below w.heap.size w w' := by
  rw [hX, ← Tr.eqB_congr Ko.eqB_er2 hxe hye]
  exact implKo_any _ x y B w (Nat.le_refl _) hx hy hB
end Go.Proofs.Ytfbfmajjooannaa
