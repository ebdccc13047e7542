/-
  EqualRules: the program and the model walked (written by gen/rul.py).
-/
import Derived.Test.YtfbfmajjooannaaRul
import Derived.Deep.RegionHeld3
namespace Go.Proofs.Ytfbfmajjooannaa
open Go.RowKit

namespace Ru
theorem eqL_er {l m l' m' : List S} (h : S.erL l = S.erL l') (k : S.erL m = S.erL m') : S.eqL l m = S.eqL l' m' := by
  have a : S.er (S.itm none 0 l) = S.er (S.itm none 0 l') := by simp only [S.itm, S.er, h]
  have b : S.er (S.itm none 0 m) = S.er (S.itm none 0 m') := by simp only [S.itm, S.er, k]
  have e : S.eqB (S.itm none 0 l) (S.itm none 0 m) = S.eqB (S.itm none 0 l') (S.itm none 0 m') := by rw [S.eqB_er, a, b, ← S.eqB_er]
  simpa [S.itm, S.eqB] using e
theorem eqB_er {x y x0 y0 : Ru} (hx : x.er = x0.er) (hy : y.er = y0.er) : eqB x y = eqB x0 y0 := by
  have a := Prod.mk.inj hx
  have a2 := Prod.mk.inj a.2
  have b := Prod.mk.inj hy
  have b2 := Prod.mk.inj b.2
  unfold eqB
  rw [eqL_er a.1 b.1, eqL_er a2.1 b2.1, eqL_er a2.2 b2.2]
end Ru

set_option maxRecDepth 100000 in
set_option maxHeartbeats 2000000 in
theorem sameL_any (A : Option Addr) (c : Nat) (l : List S) (A' : Option Addr) (c' : Nat) (l' : List S) (B : Nat) (w : World) (hin : (S.itm A c l).In w B) (hin' : (S.itm A' c' l').In w B) (hB : B ≤ w.heap.size) :
    Calls Try.prog 95 #[.slice A l.length c, .slice A' l'.length c'] w fun x w' => x = .returned (.bool (S.eqL l l')) ∧ Below w.heap.size w w' := by
  have hcap := hin.cap
  have hcap' := hin'.cap
  simp only [S.itm, S.l, S.c, S.t] at hcap hcap'
  by_cases hlen : l.length = l'.length
  · have hn1 : ((l.length : Int) != (l'.length : Int)) = false := by simp [hlen]
    have Hlen := Lib.hid hlen
    have hlen1 : l'.length ≤ l.length := by omega
    have hlen2 : l.length ≤ l'.length := by omega
    clear hlen
    go_enter Try.func95, Try.ntmps95
    go_wp2_with fail
    go_loopw [13] (fun i wr => ∃ j : Nat, j ≤ l.length ∧ i = .int .i64 j ∧ Hid (S.eqL (l.take j) (l'.take j) = true) ∧ Below w.heap.size w wr) (fun i _ => l.length - (intOf i).toNat)
    case atStart => exact ⟨0, Nat.zero_le _, rfl, by simp [Hid, S.eqL], Below.refl _ _⟩
    case round =>
      obtain ⟨j, hj, rfl, HE, hb⟩ := hrel
      by_cases hlt : j < l.length
      · have hlt' : j < l'.length := by omega
        obtain ⟨b, o, rfl, hblk, c0, c1, c2, c3, c4, hix⟩ := (hin.below (hb.mono hB)).at_ (i := j) (x := l[j]) (List.getElem?_eq_getElem hlt)
        obtain ⟨b', o', rfl, hblk', c0', c1', c2', c3', c4', hix'⟩ := (hin'.below (hb.mono hB)).at_ (i := j) (x := l'[j]) (List.getElem?_eq_getElem hlt')
        have hs2 := hb.size
        have hsz := S.sizeL_mem (l := l) (List.getElem_mem hlt)
        have g1 : (0 : Int) ≤ (j : Int) := by omega
        have g2 : (j : Int) < (l.length : Int) := by omega
        have g3 : (j : Int) < (l'.length : Int) := by omega
        go_wp2_with fail
        go_region_held3 (fun w' => w'.cell? ⟨b, o + j * 5, none⟩ = some (.int .i64 l[j].k) ∧ w'.cell? ⟨b, o + j * 5 + 1, none⟩ = some (.int .i64 l[j].n) ∧ w'.cell? ⟨b, o + j * 5 + 2, none⟩ = some (.string l[j].t) ∧ w'.cell? ⟨b, o + j * 5 + 3, none⟩ = some (.slice l[j].sa l[j].s.length l[j].sc) ∧ w'.cell? ⟨b, o + j * 5 + 4, none⟩ = some (.slice l[j].A l[j].l.length l[j].c) ∧ w'.cell? ⟨b', o' + j * 5, none⟩ = some (.int .i64 l'[j].k) ∧ w'.cell? ⟨b', o' + j * 5 + 1, none⟩ = some (.int .i64 l'[j].n) ∧ w'.cell? ⟨b', o' + j * 5 + 2, none⟩ = some (.string l'[j].t) ∧ w'.cell? ⟨b', o' + j * 5 + 3, none⟩ = some (.slice l'[j].sa l'[j].s.length l'[j].sc) ∧ w'.cell? ⟨b', o' + j * 5 + 4, none⟩ = some (.slice l'[j].A l'[j].l.length l'[j].c)) (go_keep)
          ((go_at_call 132; refine (specSEqual_any _ l[j] l'[j] B _ (Nat.le_refl _) ?_ ?_ ?_).mono ?_; exact hix.drew; exact hix'.drew; (show B ≤ wr.heap.size); omega; rintro e w1 ⟨rfl, hb1⟩; have q1 : b < wr.heap.size := (by omega); have q2 : b' < wr.heap.size := (by omega); have a0 := (hb1.cell (p := ⟨b, o + j * 5, none⟩) q1).trans c0; have a1 := (hb1.cell (p := ⟨b, o + j * 5 + 1, none⟩) q1).trans c1; have a2 := (hb1.cell (p := ⟨b, o + j * 5 + 2, none⟩) q1).trans c2; have a3 := (hb1.cell (p := ⟨b, o + j * 5 + 3, none⟩) q1).trans c3; have a4 := (hb1.cell (p := ⟨b, o + j * 5 + 4, none⟩) q1).trans c4; have a0' := (hb1.cell (p := ⟨b', o' + j * 5, none⟩) q2).trans c0'; have a1' := (hb1.cell (p := ⟨b', o' + j * 5 + 1, none⟩) q2).trans c1'; have a2' := (hb1.cell (p := ⟨b', o' + j * 5 + 2, none⟩) q2).trans c2'; have a3' := (hb1.cell (p := ⟨b', o' + j * 5 + 3, none⟩) q2).trans c3'; have a4' := (hb1.cell (p := ⟨b', o' + j * 5 + 4, none⟩) q2).trans c4'))
        have hb2 : Below w.heap.size w w1 := hb.trans ((below_undrew hb1).mono (show w.heap.size ≤ wr.heap.size by omega))
        cases hq : S.eqB l[j] l'[j]
        · have Hq := Lib.hid hq
          go_wp2_with fail
          go_ret
          exact ⟨ret_bool (by rw [seqL_take l l' j hlt hlt' HE.out, Hq.out]; rfl), hb2⟩
        · have Hq := Lib.hid hq
          go_wp2_with fail
          go_roundw
          case rel => exact ⟨j + 1, by omega, by go_num, by (show _ = _); rw [seqL_take_succ l l' j hlt hlt', HE.out, Hq.out]; rfl, hb2⟩
          case measure => simp [intOf]; omega
      · have hj' : j = l.length := by omega
        subst hj'
        go_wp2_with fail
        go_ret
        exact ⟨ret_bool (by have := HE.out; rwa [List.take_length, List.take_of_length_le (by omega), eq_comm] at this), hb⟩
  · have hn1 : ((l.length : Int) != (l'.length : Int)) = true := by simpa using (by omega : ¬ (l.length : Int) = (l'.length : Int))
    have Hn := Lib.hid (seqL_length l l' hlen)
    go_enter Try.func95, Try.ntmps95
    go_wp2_with fail
    go_ret
    exact ⟨ret_bool Hn.out.symm, Below.refl _ _⟩

set_option maxRecDepth 100000 in
set_option maxHeartbeats 1000000 in
theorem forms_any (A : Option Addr) (c : Nat) (l : List S) (A' : Option Addr) (c' : Nat) (l' : List S) (B : Nat) (w : World) (hin : (S.itm A c l).In w B) (hin' : (S.itm A' c' l').In w B) (hB : B ≤ w.heap.size) :
    Calls Try.prog 100 #[.slice A l.length c, .slice A' l'.length c'] w fun x w' => x = .returned (.bool (S.eqL l l')) ∧ Below w.heap.size w w' := by
  go_enter Try.func100, Try.ntmps100
  go_wp2_with fail
  refine (equalFunc_any (S.sizeL l) (implSEqual_any _) 0 0 ⟨#[]⟩ none 0 [] A c l 0 0 ⟨#[]⟩ none 0 [] A' c' l' B w (Nat.le_refl _) hin hin' hB).mono ?_
  rintro e w1 ⟨rfl, hb1⟩
  go_wp2_with fail
  go_ret
  exact ⟨rfl, hb1⟩

set_option maxRecDepth 100000 in
set_option maxHeartbeats 4000000 in
theorem implEqRu_any (x y : Ru) (B : Nat) (w : World) (hx : x.In w B) (hy : y.In w B) (hB : B ≤ w.heap.size) :
    Calls Try.prog 49 #[x.val, y.val] w fun e w' => e = .returned (.bool (Ru.eqB x y)) ∧ Below w.heap.size w w' := by
  have h_x := hx.more hB
  have h_y := hy.more hB
  have HF : Hid (Ru.eqB x y = (S.eqL x.l0 y.l0 && (S.eqL x.l1 y.l1 && S.eqL x.l2 y.l2))) := rfl
  unfold Ru.val
  have b0 : Below w.heap.size w w := Below.refl _ _
  have i_x := h_x
  have i_y := h_y
  go_enter Try.func49, Try.ntmps49
  go_wp2_with fail
  obtain ⟨w2, hw2⟩ : ∃ W, W = (w.alloc (.cells #[.slice x.A0 x.l0.length x.c0, .slice x.A1 x.l1.length x.c1, .slice x.A2 x.l2.length x.c2] 83)).alloc (.cells #[.slice y.A0 y.l0.length y.c0, .slice y.A1 y.l1.length y.c1, .slice y.A2 y.l2.length y.c2] 83) := ⟨_, rfl⟩
  rw [← hw2]
  have hb2 : Below w.heap.size w w2 := by rw [hw2]; exact ((Below.refl _ _).alloc (Nat.le_refl _) _).alloc (by simp) _
  have z2 : w.heap.size + 2 ≤ w2.heap.size := by rw [hw2]; simp
  have xa : Ru.Box w2 w.heap.size x := by rw [hw2]; exact (Ru.Box.new w x _).below ((Below.refl (w.heap.size + 1) _).alloc (by simp) _) (by omega)
  have xb : Ru.Box w2 (w.heap.size + 1) y := by rw [hw2]; have := Ru.Box.new (w.alloc (.cells #[.slice x.A0 x.l0.length x.c0, .slice x.A1 x.l1.length x.c1, .slice x.A2 x.l2.length x.c2] 83)) y 83; simpa using this
  clear hw2
  have b2 := b0.trans (hb2.mono (by omega))
  have i_x := h_x.below b2
  have i_y := h_y.below b2
  clear hb2 b0
  have xaq := xa
  obtain ⟨xa_0, xa_1, xa_2⟩ := xaq
  have xalt : w.heap.size < w2.heap.size := (by omega)
  have xbq := xb
  obtain ⟨xb_0, xb_1, xb_2⟩ := xbq
  have xblt : w.heap.size + 1 < w2.heap.size := (by omega)
  go_wp2_with fail
  clear xa_0 xa_1 xa_2 xalt
  clear xb_0 xb_1 xb_2 xblt
  refine (forms_any x.A0 x.c0 x.l0 y.A0 y.c0 y.l0 w.heap.size _ i_x.a i_y.a (by omega)).mono ?_
  rintro e w3 ⟨rfl, hb3⟩
  have z3 := hb3.size
  have xa := xa.below hb3 (by omega)
  have xb := xb.below hb3 (by omega)
  have b3 := b2.trans (hb3.mono (by omega))
  have i_x := h_x.below b3
  have i_y := h_y.below b3
  clear hb3
  cases hq : S.eqL x.l0 y.l0
  · have H := Lib.hid hq
    clear hq
    have xaq := xa
    obtain ⟨xa_0, xa_1, xa_2⟩ := xaq
    have xalt : w.heap.size < w3.heap.size := (by omega)
    have xbq := xb
    obtain ⟨xb_0, xb_1, xb_2⟩ := xbq
    have xblt : w.heap.size + 1 < w3.heap.size := (by omega)
    go_wp2_with fail
    clear xa_0 xa_1 xa_2 xalt
    clear xb_0 xb_1 xb_2 xblt
    go_ret
    exact ⟨ret_bool (by rw [HF.out, H.out]; rfl), b3⟩
  have Q0 := Lib.hid hq
  clear hq
  have xaq := xa
  obtain ⟨xa_0, xa_1, xa_2⟩ := xaq
  have xalt : w.heap.size < w3.heap.size := (by omega)
  have xbq := xb
  obtain ⟨xb_0, xb_1, xb_2⟩ := xbq
  have xblt : w.heap.size + 1 < w3.heap.size := (by omega)
  go_wp2_with fail
  clear xa_0 xa_1 xa_2 xalt
  clear xb_0 xb_1 xb_2 xblt
  refine (forms_any x.A1 x.c1 x.l1 y.A1 y.c1 y.l1 w.heap.size _ i_x.b i_y.b (by omega)).mono ?_
  rintro e w4 ⟨rfl, hb4⟩
  have z4 := hb4.size
  have xa := xa.below hb4 (by omega)
  have xb := xb.below hb4 (by omega)
  have b4 := b3.trans (hb4.mono (by omega))
  have i_x := h_x.below b4
  have i_y := h_y.below b4
  clear hb4
  cases hq : S.eqL x.l1 y.l1
  · have H := Lib.hid hq
    clear hq
    have xaq := xa
    obtain ⟨xa_0, xa_1, xa_2⟩ := xaq
    have xalt : w.heap.size < w4.heap.size := (by omega)
    have xbq := xb
    obtain ⟨xb_0, xb_1, xb_2⟩ := xbq
    have xblt : w.heap.size + 1 < w4.heap.size := (by omega)
    go_wp2_with fail
    clear xa_0 xa_1 xa_2 xalt
    clear xb_0 xb_1 xb_2 xblt
    go_ret
    exact ⟨ret_bool (by rw [HF.out, Q0.out, H.out]; rfl), b4⟩
  have Q1 := Lib.hid hq
  clear hq
  have xaq := xa
  obtain ⟨xa_0, xa_1, xa_2⟩ := xaq
  have xalt : w.heap.size < w4.heap.size := (by omega)
  have xbq := xb
  obtain ⟨xb_0, xb_1, xb_2⟩ := xbq
  have xblt : w.heap.size + 1 < w4.heap.size := (by omega)
  go_wp2_with fail
  clear xa_0 xa_1 xa_2 xalt
  clear xb_0 xb_1 xb_2 xblt
  refine (forms_any x.A2 x.c2 x.l2 y.A2 y.c2 y.l2 w.heap.size _ i_x.c i_y.c (by omega)).mono ?_
  rintro e w5 ⟨rfl, hb5⟩
  have z5 := hb5.size
  have xa := xa.below hb5 (by omega)
  have xb := xb.below hb5 (by omega)
  have b5 := b4.trans (hb5.mono (by omega))
  have i_x := h_x.below b5
  have i_y := h_y.below b5
  clear hb5
  obtain ⟨V, hV⟩ : ∃ V, V = S.eqL x.l2 y.l2 := ⟨_, rfl⟩
  rw [← hV]
  have HV := Lib.hid hV
  clear hV
  have xaq := xa
  obtain ⟨xa_0, xa_1, xa_2⟩ := xaq
  have xalt : w.heap.size < w5.heap.size := (by omega)
  have xbq := xb
  obtain ⟨xb_0, xb_1, xb_2⟩ := xbq
  have xblt : w.heap.size + 1 < w5.heap.size := (by omega)
  go_wp2_with fail
  clear xa_0 xa_1 xa_2 xalt
  clear xb_0 xb_1 xb_2 xblt
  go_ret
  exact ⟨ret_bool (by rw [HF.out, Q0.out, Q1.out, HV.out]; rfl), b5⟩

set_option maxRecDepth 100000 in
set_option maxHeartbeats 4000000 in
theorem specEqRu_any (x y : Ru) (B : Nat) (w : World) (hx : x.In w B) (hy : y.In w B) (hB : B ≤ w.heap.size) :
    Calls Try.prog 44 #[x.val, y.val] w fun e w' => e = .returned (.bool (Ru.eqB x y)) ∧ Below w.heap.size w w' := by
  have h_x := hx.more hB
  have h_y := hy.more hB
  have HF : Hid (Ru.eqB x y = (S.eqL x.l0 y.l0 && (S.eqL x.l1 y.l1 && S.eqL x.l2 y.l2))) := rfl
  unfold Ru.val
  have b0 : Below w.heap.size w w := Below.refl _ _
  have i_x := h_x
  have i_y := h_y
  go_enter Try.func44, Try.ntmps44
  go_wp2_with fail
  obtain ⟨w2, hw2⟩ : ∃ W, W = (w.alloc (.cells #[.slice x.A0 x.l0.length x.c0, .slice x.A1 x.l1.length x.c1, .slice x.A2 x.l2.length x.c2] 83)).alloc (.cells #[.slice y.A0 y.l0.length y.c0, .slice y.A1 y.l1.length y.c1, .slice y.A2 y.l2.length y.c2] 83) := ⟨_, rfl⟩
  rw [← hw2]
  have hb2 : Below w.heap.size w w2 := by rw [hw2]; exact ((Below.refl _ _).alloc (Nat.le_refl _) _).alloc (by simp) _
  have z2 : w.heap.size + 2 ≤ w2.heap.size := by rw [hw2]; simp
  have xa : Ru.Box w2 w.heap.size x := by rw [hw2]; exact (Ru.Box.new w x _).below ((Below.refl (w.heap.size + 1) _).alloc (by simp) _) (by omega)
  have xb : Ru.Box w2 (w.heap.size + 1) y := by rw [hw2]; have := Ru.Box.new (w.alloc (.cells #[.slice x.A0 x.l0.length x.c0, .slice x.A1 x.l1.length x.c1, .slice x.A2 x.l2.length x.c2] 83)) y 83; simpa using this
  clear hw2
  have b2 := b0.trans (hb2.mono (by omega))
  have i_x := h_x.below b2
  have i_y := h_y.below b2
  clear hb2 b0
  have xaq := xa
  obtain ⟨xa_0, xa_1, xa_2⟩ := xaq
  have xalt : w.heap.size < w2.heap.size := (by omega)
  have xbq := xb
  obtain ⟨xb_0, xb_1, xb_2⟩ := xbq
  have xblt : w.heap.size + 1 < w2.heap.size := (by omega)
  go_wp2_with fail
  clear xa_0 xa_1 xa_2 xalt
  clear xb_0 xb_1 xb_2 xblt
  refine (sameL_any x.A0 x.c0 x.l0 y.A0 y.c0 y.l0 w.heap.size _ i_x.a i_y.a (by omega)).mono ?_
  rintro e w3 ⟨rfl, hb3⟩
  have z3 := hb3.size
  have xa := xa.below hb3 (by omega)
  have xb := xb.below hb3 (by omega)
  have b3 := b2.trans (hb3.mono (by omega))
  have i_x := h_x.below b3
  have i_y := h_y.below b3
  clear hb3
  cases hq : S.eqL x.l0 y.l0
  · have H := Lib.hid hq
    clear hq
    have xaq := xa
    obtain ⟨xa_0, xa_1, xa_2⟩ := xaq
    have xalt : w.heap.size < w3.heap.size := (by omega)
    have xbq := xb
    obtain ⟨xb_0, xb_1, xb_2⟩ := xbq
    have xblt : w.heap.size + 1 < w3.heap.size := (by omega)
    go_wp2_with fail
    clear xa_0 xa_1 xa_2 xalt
    clear xb_0 xb_1 xb_2 xblt
    go_ret
    exact ⟨ret_bool (by rw [HF.out, H.out]; rfl), b3⟩
  have Q0 := Lib.hid hq
  clear hq
  have xaq := xa
  obtain ⟨xa_0, xa_1, xa_2⟩ := xaq
  have xalt : w.heap.size < w3.heap.size := (by omega)
  have xbq := xb
  obtain ⟨xb_0, xb_1, xb_2⟩ := xbq
  have xblt : w.heap.size + 1 < w3.heap.size := (by omega)
  go_wp2_with fail
  clear xa_0 xa_1 xa_2 xalt
  clear xb_0 xb_1 xb_2 xblt
  refine (sameL_any x.A1 x.c1 x.l1 y.A1 y.c1 y.l1 w.heap.size _ i_x.b i_y.b (by omega)).mono ?_
  rintro e w4 ⟨rfl, hb4⟩
  have z4 := hb4.size
  have xa := xa.below hb4 (by omega)
  have xb := xb.below hb4 (by omega)
  have b4 := b3.trans (hb4.mono (by omega))
  have i_x := h_x.below b4
  have i_y := h_y.below b4
  clear hb4
  cases hq : S.eqL x.l1 y.l1
  · have H := Lib.hid hq
    clear hq
    have xaq := xa
    obtain ⟨xa_0, xa_1, xa_2⟩ := xaq
    have xalt : w.heap.size < w4.heap.size := (by omega)
    have xbq := xb
    obtain ⟨xb_0, xb_1, xb_2⟩ := xbq
    have xblt : w.heap.size + 1 < w4.heap.size := (by omega)
    go_wp2_with fail
    clear xa_0 xa_1 xa_2 xalt
    clear xb_0 xb_1 xb_2 xblt
    go_ret
    exact ⟨ret_bool (by rw [HF.out, Q0.out, H.out]; rfl), b4⟩
  have Q1 := Lib.hid hq
  clear hq
  have xaq := xa
  obtain ⟨xa_0, xa_1, xa_2⟩ := xaq
  have xalt : w.heap.size < w4.heap.size := (by omega)
  have xbq := xb
  obtain ⟨xb_0, xb_1, xb_2⟩ := xbq
  have xblt : w.heap.size + 1 < w4.heap.size := (by omega)
  go_wp2_with fail
  clear xa_0 xa_1 xa_2 xalt
  clear xb_0 xb_1 xb_2 xblt
  refine (sameL_any x.A2 x.c2 x.l2 y.A2 y.c2 y.l2 w.heap.size _ i_x.c i_y.c (by omega)).mono ?_
  rintro e w5 ⟨rfl, hb5⟩
  have z5 := hb5.size
  have xa := xa.below hb5 (by omega)
  have xb := xb.below hb5 (by omega)
  have b5 := b4.trans (hb5.mono (by omega))
  have i_x := h_x.below b5
  have i_y := h_y.below b5
  clear hb5
  obtain ⟨V, hV⟩ : ∃ V, V = S.eqL x.l2 y.l2 := ⟨_, rfl⟩
  rw [← hV]
  have HV := Lib.hid hV
  clear hV
  have xaq := xa
  obtain ⟨xa_0, xa_1, xa_2⟩ := xaq
  have xalt : w.heap.size < w5.heap.size := (by omega)
  have xbq := xb
  obtain ⟨xb_0, xb_1, xb_2⟩ := xbq
  have xblt : w.heap.size + 1 < w5.heap.size := (by omega)
  go_wp2_with fail
  clear xa_0 xa_1 xa_2 xalt
  clear xb_0 xb_1 xb_2 xblt
  go_ret
  exact ⟨ret_bool (by rw [HF.out, Q0.out, Q1.out, HV.out]; rfl), b5⟩

theorem specEqRu_c (x y : Ru) {x0 y0 : Ru} (B : Nat) (w : World) (hxe : x.er = x0.er) (hye : y.er = y0.er) {X : Bool} (hX : X = Ru.eqB x0 y0) (hx : x.In w B) (hy : y.In w B) (hB : B ≤ w.heap.size) :
    Calls Try.prog 44 #[x.val, y.val] w fun e w' => e = .returned (.bool X) ∧ Below w.heap.size w w' := by
  rw [hX, ← Ru.eqB_er hxe hye]
  exact specEqRu_any x y B w hx hy hB

theorem implEqRu_c (x y : Ru) {x0 y0 : Ru} (B : Nat) (w : World) (hxe : x.er = x0.er) (hye : y.er = y0.er) {X : Bool} (hX : X = Ru.eqB x0 y0) (hx : x.In w B) (hy : y.In w B) (hB : B ≤ w.heap.size) :
    Calls Try.prog 49 #[x.val, y.val] w fun e w' => e = .returned (.bool X) ∧ Below w.heap.size w w' := by
  rw [hX, ← Ru.eqB_er hxe hye]
  exact implEqRu_any x y B w hx hy hB
end Go.Proofs.Ytfbfmajjooannaa
