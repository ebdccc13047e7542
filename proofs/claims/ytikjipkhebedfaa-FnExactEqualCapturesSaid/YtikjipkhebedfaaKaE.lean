/-
  EqualCaptures: the program and the model walked (written by gen/eqcap.py).
-/
import Derived.Test.YtikjipkhebedfaaKaQ
import Derived.Test.YtikjipkhebedfaaSEqi
import Derived.Deep.RegionHeld3
namespace Go.Proofs.Ytikjipkhebedfaa
open Go.RowKit

def KaEqvOk (m : Nat) : Prop := ∀ (x y : Tr Ka) (B : Nat) (w : World), x.size ≤ m → Ka.E.In w B x → Ka.E.In w B y → B ≤ w.heap.size →
    Calls Try.prog 111 #[Ka.val x, Ka.val y] w fun e w' => e = .returned (.bool (Tr.eqB Ka.eqB x y)) ∧ Below w.heap.size w w'

set_option maxRecDepth 100000 in
set_option maxHeartbeats 4000000 in
theorem capFunc_any (m : Nat) (ih : KaEqvOk m) (A : Option Addr) (c : Nat) (l : List (Tr Ka)) (A' : Option Addr) (c' : Nat) (l' : List (Tr Ka)) (B : Nat) (w : World) (hm : Tr.sizeL l ≤ m)
    (hin : Ka.E.LIn w B A c l) (hin' : Ka.E.LIn w B A' c' l') (hB : B ≤ w.heap.size) :
    Calls Try.prog 110 #[.slice A l.length c, .slice A' l'.length c', .func (.func 111) #[] #[]] w fun x w' => x = .returned (.bool (Tr.eqL Ka.eqB l l')) ∧ Below w.heap.size w w' := by
  have hcap := hin.cap
  have hcap' := hin'.cap
  by_cases hlen : l.length = l'.length
  · have hn1 : ((l.length : Int) != (l'.length : Int)) = false := by simp [hlen]
    have hlen1 : l'.length ≤ l.length := by omega
    have hlen2 : l.length ≤ l'.length := by omega
    clear hlen
    go_enter Try.func110, Try.ntmps110
    go_wp2_with fail
    go_loopw [17] (fun i wr => ∃ j : Nat, j ≤ l.length ∧ i = .int .i64 j ∧ Hid (Tr.eqL Ka.eqB (l.take j) (l'.take j) = true) ∧ Below w.heap.size w wr) (fun i _ => l.length - (intOf i).toNat)
    case atStart => exact ⟨0, Nat.zero_le _, rfl, by simp [Hid, Tr.eqL], Below.refl _ _⟩
    case round =>
      obtain ⟨j, hj, rfl, HE, hb⟩ := hrel
      have hs2 := hb.size
      by_cases hlt : j < l.length
      · have hlt' : j < l'.length := by omega
        obtain ⟨b, o, rfl, hblk, c0, c1, c2, c3, c4, c5, c6, c7, c8, c9, c10, c11, hix⟩ := Ka.at_ (hin.below (hb.mono hB)) (i := j) (x := l[j]) (List.getElem?_eq_getElem hlt)
        obtain ⟨b', o', rfl, hblk', c0', c1', c2', c3', c4', c5', c6', c7', c8', c9', c10', c11', hix'⟩ := Ka.at_ (hin'.below (hb.mono hB)) (i := j) (x := l'[j]) (List.getElem?_eq_getElem hlt')
        have hsz := Tr.sizeL_mem (l := l) (List.getElem_mem hlt)
        have gg1 : (0 : Int) ≤ (j : Int) := by omega
        have gg2 : (j : Int) < (l.length : Int) := by omega
        have gg3 : (j : Int) < (l'.length : Int) := by omega
        have al : ∀ (p : Addr), p.block < wr.heap.size → (wr.alloc (.cells #[.int .i64 l[j].a.N.k, .int .i64 l[j].a.N.n, .string l[j].a.N.t, .slice l[j].a.N.sa l[j].a.N.s.length l[j].a.N.sc, .slice l[j].a.N.A l[j].a.N.l.length l[j].a.N.c, .int .i64 l[j].a.dep, .int .i64 l[j].a.F.k, .int .i64 l[j].a.F.n, .string l[j].a.F.t, .slice l[j].a.F.sa l[j].a.F.s.length l[j].a.F.sc, .slice l[j].a.F.A l[j].a.F.l.length l[j].a.F.c, .slice l[j].A l[j].l.length l[j].c] 117)).cell? p = wr.cell? p := fun p hp => World.cell?_alloc_lt wr _ p hp
        have v0 := (al ⟨b', o' + j * 12, none⟩ (show b' < wr.heap.size by omega)).trans c0'
        have v1 := (al ⟨b', o' + j * 12 + 1, none⟩ (show b' < wr.heap.size by omega)).trans c1'
        have v2 := (al ⟨b', o' + j * 12 + 2, none⟩ (show b' < wr.heap.size by omega)).trans c2'
        have v3 := (al ⟨b', o' + j * 12 + 3, none⟩ (show b' < wr.heap.size by omega)).trans c3'
        have v4 := (al ⟨b', o' + j * 12 + 4, none⟩ (show b' < wr.heap.size by omega)).trans c4'
        have v5 := (al ⟨b', o' + j * 12 + 5, none⟩ (show b' < wr.heap.size by omega)).trans c5'
        have v6 := (al ⟨b', o' + j * 12 + 6, none⟩ (show b' < wr.heap.size by omega)).trans c6'
        have v7 := (al ⟨b', o' + j * 12 + 7, none⟩ (show b' < wr.heap.size by omega)).trans c7'
        have v8 := (al ⟨b', o' + j * 12 + 8, none⟩ (show b' < wr.heap.size by omega)).trans c8'
        have v9 := (al ⟨b', o' + j * 12 + 9, none⟩ (show b' < wr.heap.size by omega)).trans c9'
        have v10 := (al ⟨b', o' + j * 12 + 10, none⟩ (show b' < wr.heap.size by omega)).trans c10'
        have v11 := (al ⟨b', o' + j * 12 + 11, none⟩ (show b' < wr.heap.size by omega)).trans c11'
        clear al
        have bn : Below wr.heap.size wr ((wr.alloc (.cells #[.int .i64 l[j].a.N.k, .int .i64 l[j].a.N.n, .string l[j].a.N.t, .slice l[j].a.N.sa l[j].a.N.s.length l[j].a.N.sc, .slice l[j].a.N.A l[j].a.N.l.length l[j].a.N.c, .int .i64 l[j].a.dep, .int .i64 l[j].a.F.k, .int .i64 l[j].a.F.n, .string l[j].a.F.t, .slice l[j].a.F.sa l[j].a.F.s.length l[j].a.F.sc, .slice l[j].a.F.A l[j].a.F.l.length l[j].a.F.c, .slice l[j].A l[j].l.length l[j].c] 117)).alloc (.cells #[.int .i64 l'[j].a.N.k, .int .i64 l'[j].a.N.n, .string l'[j].a.N.t, .slice l'[j].a.N.sa l'[j].a.N.s.length l'[j].a.N.sc, .slice l'[j].a.N.A l'[j].a.N.l.length l'[j].a.N.c, .int .i64 l'[j].a.dep, .int .i64 l'[j].a.F.k, .int .i64 l'[j].a.F.n, .string l'[j].a.F.t, .slice l'[j].a.F.sa l'[j].a.F.s.length l'[j].a.F.sc, .slice l'[j].a.F.A l'[j].a.F.l.length l'[j].a.F.c, .slice l'[j].A l'[j].l.length l'[j].c] 117)) := ((Below.refl _ _).alloc (Nat.le_refl _) _).alloc (by simp) _
        go_wp2_with fail
        refine (ih l[j] l'[j] B _ (by omega) (hix.below (bn.mono (by omega))) (hix'.below (bn.mono (by omega))) (by simp; omega)).mono ?_
        rintro e w1 ⟨rfl, hb1⟩
        have hb2 : Below w.heap.size w w1 := hb.trans ((bn.trans (hb1.mono (by simp; omega))).mono hs2)
        clear bn hb1
        cases hq : Tr.eqB Ka.eqB l[j] l'[j]
        · have Hq := Lib.hid hq
          go_wp2_with fail
          go_ret
          exact ⟨ret_bool (by rw [Tr.eqL_take l l' j hlt hlt' HE.out, Hq.out]; rfl), hb2⟩
        · have Hq := Lib.hid hq
          go_wp2_with fail
          go_roundw
          case rel => exact ⟨j + 1, by omega, by go_num, by (show _ = _); rw [Tr.eqL_take_succ l l' j hlt hlt', HE.out, Hq.out]; rfl, hb2⟩
          case measure => simp [intOf]; omega
      · have hj' : j = l.length := by omega
        subst hj'
        go_wp2_with fail
        go_ret
        exact ⟨ret_bool (by have := HE.out; rwa [List.take_length, List.take_of_length_le (by omega), eq_comm] at this), hb⟩
  · have hn1 : ((l.length : Int) != (l'.length : Int)) = true := by simpa using (by omega : ¬ (l.length : Int) = (l'.length : Int))
    have Hn := Lib.hid (Tr.eqL_length (f := Ka.eqB) l l' hlen)
    go_enter Try.func110, Try.ntmps110
    go_wp2_with fail
    go_ret
    exact ⟨ret_bool Hn.out.symm, Below.refl _ _⟩

set_option maxRecDepth 100000 in
set_option maxHeartbeats 4000000 in
theorem implCaps_any (m : Nat) (ih : KaEqvOk m) (A : Option Addr) (c : Nat) (l : List (Tr Ka)) (A' : Option Addr) (c' : Nat) (l' : List (Tr Ka)) (B : Nat) (w : World) (hm : Tr.sizeL l ≤ m)
    (hin : Ka.E.LIn w B A c l) (hin' : Ka.E.LIn w B A' c' l') (hB : B ≤ w.heap.size) :
    Calls Try.prog 55 #[.slice A l.length c, .slice A' l'.length c'] w fun x w' => x = .returned (.bool (Tr.eqL Ka.eqB l l')) ∧ Below w.heap.size w w' := by
  go_enter Try.func55, Try.ntmps55
  go_wp2_with fail
  refine (capFunc_any m ih A c l A' c' l' B w hm hin hin' hB).mono ?_
  rintro e w1 ⟨rfl, hb1⟩
  go_wp2_with fail
  go_ret
  exact ⟨rfl, hb1⟩

set_option maxRecDepth 100000 in
set_option maxHeartbeats 4000000 in
theorem implCap_step (m : Nat) (ih : KaEqvOk m) : KaEqvOk (m + 1) := by
  intro x y B w hm hx hy hB
  have h_x := Elem.In.more hx hB
  have h_y := Elem.In.more hy hB
  have hmm : Tr.sizeL x.l ≤ m := by rw [Tr.size_eq] at hm; omega
  have HF : Hid (Tr.eqB Ka.eqB x y = ((S.eqB x.a.N y.a.N && ((x.a.dep == y.a.dep) && S.eqB x.a.F y.a.F)) && Tr.eqL Ka.eqB x.l y.l)) := Tr.eqB_eq _ x y
  unfold Ka.val
  have b0 : Below w.heap.size w w := Below.refl _ _
  have i_x := h_x
  have i_y := h_y
  go_enter Try.func111, Try.ntmps111
  go_wp2_with fail
  obtain ⟨w2, hw2⟩ : ∃ W, W = (w.alloc (.cells #[.int .i64 x.a.N.k, .int .i64 x.a.N.n, .string x.a.N.t, .slice x.a.N.sa x.a.N.s.length x.a.N.sc, .slice x.a.N.A x.a.N.l.length x.a.N.c, .int .i64 x.a.dep, .int .i64 x.a.F.k, .int .i64 x.a.F.n, .string x.a.F.t, .slice x.a.F.sa x.a.F.s.length x.a.F.sc, .slice x.a.F.A x.a.F.l.length x.a.F.c, .slice x.A x.l.length x.c] 117)).alloc (.cells #[.int .i64 y.a.N.k, .int .i64 y.a.N.n, .string y.a.N.t, .slice y.a.N.sa y.a.N.s.length y.a.N.sc, .slice y.a.N.A y.a.N.l.length y.a.N.c, .int .i64 y.a.dep, .int .i64 y.a.F.k, .int .i64 y.a.F.n, .string y.a.F.t, .slice y.a.F.sa y.a.F.s.length y.a.F.sc, .slice y.a.F.A y.a.F.l.length y.a.F.c, .slice y.A y.l.length y.c] 117) := ⟨_, rfl⟩
  rw [← hw2]
  have hb2 : Below w.heap.size w w2 := by rw [hw2]; exact ((Below.refl _ _).alloc (Nat.le_refl _) _).alloc (by simp) _
  have z2 : w.heap.size + 2 ≤ w2.heap.size := by rw [hw2]; simp
  have xa : Ka.Box w2 w.heap.size x := by rw [hw2]; exact (Ka.Box.new w x _).below ((Below.refl (w.heap.size + 1) _).alloc (by simp) _) (by omega)
  have xb : Ka.Box w2 (w.heap.size + 1) y := by rw [hw2]; have := Ka.Box.new (w.alloc (.cells #[.int .i64 x.a.N.k, .int .i64 x.a.N.n, .string x.a.N.t, .slice x.a.N.sa x.a.N.s.length x.a.N.sc, .slice x.a.N.A x.a.N.l.length x.a.N.c, .int .i64 x.a.dep, .int .i64 x.a.F.k, .int .i64 x.a.F.n, .string x.a.F.t, .slice x.a.F.sa x.a.F.s.length x.a.F.sc, .slice x.a.F.A x.a.F.l.length x.a.F.c, .slice x.A x.l.length x.c] 117)) y 117; simpa using this
  clear hw2
  have b2 := b0.trans (hb2.mono (by omega))
  have i_x := h_x.below b2
  have i_y := h_y.below b2
  clear hb2 b0
  have xaq := xa
  obtain ⟨xa_0, xa_1, xa_2, xa_3, xa_4, xa_5, xa_6, xa_7, xa_8, xa_9, xa_10, xa_11⟩ := xaq
  have xalt : w.heap.size < w2.heap.size := (by omega)
  have xbq := xb
  obtain ⟨xb_0, xb_1, xb_2, xb_3, xb_4, xb_5, xb_6, xb_7, xb_8, xb_9, xb_10, xb_11⟩ := xbq
  have xblt : w.heap.size + 1 < w2.heap.size := (by omega)
  go_wp2_with fail
  clear xa_0 xa_1 xa_2 xa_3 xa_4 xa_5 xa_6 xa_7 xa_8 xa_9 xa_10 xa_11 xalt
  clear xb_0 xb_1 xb_2 xb_3 xb_4 xb_5 xb_6 xb_7 xb_8 xb_9 xb_10 xb_11 xblt
  refine (implSEqual_any x.a.N.size x.a.N y.a.N w.heap.size _ (Nat.le_refl _) (Ka.E_in i_x).1.N (Ka.E_in i_y).1.N (by omega)).mono ?_
  rintro e w3 ⟨rfl, hb3⟩
  have z3 := hb3.size
  have xa := xa.below hb3 (by omega)
  have xb := xb.below hb3 (by omega)
  have b3 := b2.trans (hb3.mono (by omega))
  have i_x := h_x.below b3
  have i_y := h_y.below b3
  clear hb3
  cases hq : S.eqB x.a.N y.a.N
  · have H := Lib.hid hq
    clear hq
    have xaq := xa
    obtain ⟨xa_0, xa_1, xa_2, xa_3, xa_4, xa_5, xa_6, xa_7, xa_8, xa_9, xa_10, xa_11⟩ := xaq
    have xalt : w.heap.size < w3.heap.size := (by omega)
    have xbq := xb
    obtain ⟨xb_0, xb_1, xb_2, xb_3, xb_4, xb_5, xb_6, xb_7, xb_8, xb_9, xb_10, xb_11⟩ := xbq
    have xblt : w.heap.size + 1 < w3.heap.size := (by omega)
    go_wp2_with fail
    clear xa_0 xa_1 xa_2 xa_3 xa_4 xa_5 xa_6 xa_7 xa_8 xa_9 xa_10 xa_11 xalt
    clear xb_0 xb_1 xb_2 xb_3 xb_4 xb_5 xb_6 xb_7 xb_8 xb_9 xb_10 xb_11 xblt
    go_ret
    exact ⟨ret_bool (by rw [HF.out, H.out]; simp), b3⟩
  have Q0 := Lib.hid hq
  clear hq
  cases hq : (x.a.dep == y.a.dep)
  · have H := Lib.hid hq
    have xaq := xa
    obtain ⟨xa_0, xa_1, xa_2, xa_3, xa_4, xa_5, xa_6, xa_7, xa_8, xa_9, xa_10, xa_11⟩ := xaq
    have xalt : w.heap.size < w3.heap.size := (by omega)
    have xbq := xb
    obtain ⟨xb_0, xb_1, xb_2, xb_3, xb_4, xb_5, xb_6, xb_7, xb_8, xb_9, xb_10, xb_11⟩ := xbq
    have xblt : w.heap.size + 1 < w3.heap.size := (by omega)
    go_wp2_with fail
    clear xa_0 xa_1 xa_2 xa_3 xa_4 xa_5 xa_6 xa_7 xa_8 xa_9 xa_10 xa_11 xalt
    clear xb_0 xb_1 xb_2 xb_3 xb_4 xb_5 xb_6 xb_7 xb_8 xb_9 xb_10 xb_11 xblt
    go_ret
    exact ⟨ret_bool (by rw [HF.out, Q0.out, H.out]; simp), b3⟩
  have Q1 := Lib.hid hq
  have xaq := xa
  obtain ⟨xa_0, xa_1, xa_2, xa_3, xa_4, xa_5, xa_6, xa_7, xa_8, xa_9, xa_10, xa_11⟩ := xaq
  have xalt : w.heap.size < w3.heap.size := (by omega)
  have xbq := xb
  obtain ⟨xb_0, xb_1, xb_2, xb_3, xb_4, xb_5, xb_6, xb_7, xb_8, xb_9, xb_10, xb_11⟩ := xbq
  have xblt : w.heap.size + 1 < w3.heap.size := (by omega)
  go_wp2_with fail
  clear xa_0 xa_1 xa_2 xa_3 xa_4 xa_5 xa_6 xa_7 xa_8 xa_9 xa_10 xa_11 xalt
  clear xb_0 xb_1 xb_2 xb_3 xb_4 xb_5 xb_6 xb_7 xb_8 xb_9 xb_10 xb_11 xblt
  clear hq
  refine (implSEqual_any x.a.F.size x.a.F y.a.F w.heap.size _ (Nat.le_refl _) (Ka.E_in i_x).1.F (Ka.E_in i_y).1.F (by omega)).mono ?_
  rintro e w4 ⟨rfl, hb4⟩
  have z4 := hb4.size
  have xa := xa.below hb4 (by omega)
  have xb := xb.below hb4 (by omega)
  have b4 := b3.trans (hb4.mono (by omega))
  have i_x := h_x.below b4
  have i_y := h_y.below b4
  clear hb4
  cases hq : S.eqB x.a.F y.a.F
  · have H := Lib.hid hq
    clear hq
    have xaq := xa
    obtain ⟨xa_0, xa_1, xa_2, xa_3, xa_4, xa_5, xa_6, xa_7, xa_8, xa_9, xa_10, xa_11⟩ := xaq
    have xalt : w.heap.size < w4.heap.size := (by omega)
    have xbq := xb
    obtain ⟨xb_0, xb_1, xb_2, xb_3, xb_4, xb_5, xb_6, xb_7, xb_8, xb_9, xb_10, xb_11⟩ := xbq
    have xblt : w.heap.size + 1 < w4.heap.size := (by omega)
    go_wp2_with fail
    clear xa_0 xa_1 xa_2 xa_3 xa_4 xa_5 xa_6 xa_7 xa_8 xa_9 xa_10 xa_11 xalt
    clear xb_0 xb_1 xb_2 xb_3 xb_4 xb_5 xb_6 xb_7 xb_8 xb_9 xb_10 xb_11 xblt
    go_ret
    exact ⟨ret_bool (by rw [HF.out, Q0.out, Q1.out, H.out]; simp), b4⟩
  have Q2 := Lib.hid hq
  clear hq
  have xaq := xa
  obtain ⟨xa_0, xa_1, xa_2, xa_3, xa_4, xa_5, xa_6, xa_7, xa_8, xa_9, xa_10, xa_11⟩ := xaq
  have xalt : w.heap.size < w4.heap.size := (by omega)
  have xbq := xb
  obtain ⟨xb_0, xb_1, xb_2, xb_3, xb_4, xb_5, xb_6, xb_7, xb_8, xb_9, xb_10, xb_11⟩ := xbq
  have xblt : w.heap.size + 1 < w4.heap.size := (by omega)
  go_wp2_with fail
  clear xa_0 xa_1 xa_2 xa_3 xa_4 xa_5 xa_6 xa_7 xa_8 xa_9 xa_10 xa_11 xalt
  clear xb_0 xb_1 xb_2 xb_3 xb_4 xb_5 xb_6 xb_7 xb_8 xb_9 xb_10 xb_11 xblt
  refine (implCaps_any m ih x.A x.c x.l y.A y.c y.l w.heap.size _ hmm (Ka.E_in i_x).2 (Ka.E_in i_y).2 (by omega)).mono ?_
  rintro e w5 ⟨rfl, hb5⟩
  have z5 := hb5.size
  have xa := xa.below hb5 (by omega)
  have xb := xb.below hb5 (by omega)
  have b5 := b4.trans (hb5.mono (by omega))
  have i_x := h_x.below b5
  have i_y := h_y.below b5
  clear hb5
  obtain ⟨V, hV⟩ : ∃ V, V = Tr.eqL Ka.eqB x.l y.l := ⟨_, rfl⟩
  rw [← hV]
  have HV := Lib.hid hV
  clear hV
  have xaq := xa
  obtain ⟨xa_0, xa_1, xa_2, xa_3, xa_4, xa_5, xa_6, xa_7, xa_8, xa_9, xa_10, xa_11⟩ := xaq
  have xalt : w.heap.size < w5.heap.size := (by omega)
  have xbq := xb
  obtain ⟨xb_0, xb_1, xb_2, xb_3, xb_4, xb_5, xb_6, xb_7, xb_8, xb_9, xb_10, xb_11⟩ := xbq
  have xblt : w.heap.size + 1 < w5.heap.size := (by omega)
  go_wp2_with fail
  clear xa_0 xa_1 xa_2 xa_3 xa_4 xa_5 xa_6 xa_7 xa_8 xa_9 xa_10 xa_11 xalt
  clear xb_0 xb_1 xb_2 xb_3 xb_4 xb_5 xb_6 xb_7 xb_8 xb_9 xb_10 xb_11 xblt
  go_ret
  exact ⟨ret_bool (by rw [HF.out, Q0.out, Q1.out, Q2.out, HV.out]; rfl), b5⟩
theorem implCap_any : ∀ m, KaEqvOk m := by
  intro m
  induction m with
  | zero => intro x y B w h; have := x.size_pos; omega
  | succ m ih => exact implCap_step m ih
end Go.Proofs.Ytikjipkhebedfaa
