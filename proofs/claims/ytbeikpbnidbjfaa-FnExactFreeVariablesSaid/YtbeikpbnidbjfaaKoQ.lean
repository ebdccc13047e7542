/-
  Core: the laws' own comparison of what reads the same (written by gen/tree.py).
-/
import Derived.Test.YtbeikpbnidbjfaaKoT
import Derived.Deep.RegionHeld3
namespace Go.Proofs.Ytbeikpbnidbjfaa
open Go.RowKit

def KoEqOk (m : Nat) : Prop := ∀ (x y : Tr Ko) (B : Nat) (w : World), x.size ≤ m → x.er Ko.er = y.er Ko.er → Ko.E.In w B x → Ko.E.In w B y → B ≤ w.heap.size →
    Calls Try.prog 18 #[Ko.val x, Ko.val y] w fun e w' => e = .returned (.bool true) ∧ Below w.heap.size w w'
def KoEqLOk (m : Nat) : Prop := ∀ (A : Option Addr) (c : Nat) (l : List (Tr Ko)) (A' : Option Addr) (c' : Nat) (l' : List (Tr Ko)) (B : Nat) (w : World), Tr.sizeL l ≤ m → Tr.erL Ko.er l = Tr.erL Ko.er l' → Ko.E.LIn w B A c l → Ko.E.LIn w B A' c' l' → B ≤ w.heap.size →
    Calls Try.prog 64 #[.slice A l.length c, .slice A' l'.length c'] w fun e w' => e = .returned (.bool true) ∧ Below w.heap.size w w'
theorem Ko.erL_get {a b : List (Tr Ko)} (h : Tr.erL Ko.er a = Tr.erL Ko.er b) {j : Nat} (ha : j < a.length) (hb : j < b.length) : (a[j]).er Ko.er = (b[j]).er Ko.er := by
  have h1 : (Tr.erL Ko.er a)[j]? = (Tr.erL Ko.er b)[j]? := by rw [h]
  simp only [Tr.erL_map, List.getElem?_map, List.getElem?_eq_getElem ha, List.getElem?_eq_getElem hb, Option.map_some, Option.some.injEq] at h1
  exact h1
theorem Ko.er_parts {x y : Tr Ko} (h : x.er Ko.er = y.er Ko.er) : Ko.er x.a = Ko.er y.a ∧ Tr.erL Ko.er x.l = Tr.erL Ko.er y.l := by
  cases x; cases y
  simp only [Tr.er, Tr.mk.injEq] at h
  exact ⟨h.1, h.2.2.2⟩

set_option maxRecDepth 100000 in
set_option maxHeartbeats 4000000 in
theorem Ko_eqL_step (m : Nat) (ih : KoEqOk m) : KoEqLOk m := by
  intro A c l A' c' l' B w hm he hin hin' hB
  have hcap := hin.cap
  have hcap' := hin'.cap
  have hlen : l.length = l'.length := by rw [← Tr.erL_length Ko.er l, he, Tr.erL_length]
  have hn1 : ((l.length : Int) != (l'.length : Int)) = false := by simp [hlen]
  have hlen1 : l'.length ≤ l.length := by omega
  have hlen2 : l.length ≤ l'.length := by omega
  clear hlen
  have HE := Lib.hid he
  clear he
  go_enter Try.func64, Try.ntmps64
  go_wp2_with fail
  go_loopw [5] (fun i wr => ∃ j : Nat, j ≤ l.length ∧ i = .int .i64 j ∧ Below w.heap.size w wr) (fun i _ => l.length - (intOf i).toNat)
  case atStart => exact ⟨0, Nat.zero_le _, rfl, Below.refl _ _⟩
  case round =>
    obtain ⟨j, hj, rfl, hb⟩ := hrel
    by_cases hlt : j < l.length
    · have hlt' : j < l'.length := by omega
      have hs2 := hb.size
      obtain ⟨b, o, rfl, hblk, c0, c1, c2, c3, c4, c5, c6, c7, hix⟩ := Ko.at_ (hin.below (hb.mono hB)) (i := j) (x := l[j]) (List.getElem?_eq_getElem hlt)
      obtain ⟨b', o', rfl, hblk', c0', c1', c2', c3', c4', c5', c6', c7', hix'⟩ := Ko.at_ (hin'.below (hb.mono hB)) (i := j) (x := l'[j]) (List.getElem?_eq_getElem hlt')
      have hsz := Tr.sizeL_mem (l := l) (List.getElem_mem hlt)
      have g1 : (0 : Int) ≤ (j : Int) := by omega
      have g2 : (j : Int) < (l.length : Int) := by omega
      have g3 : (j : Int) < (l'.length : Int) := by omega
      have heq := Ko.erL_get HE.out hlt hlt'
      have Heq := Lib.hid heq
      clear heq
      have lc : b < wr.heap.size := by omega
      have ld : b' < wr.heap.size := by omega
      go_wp2_with fail
      first
      | go_region_held3 (fun w' => w'.cell? ⟨b, o + j * 8, none⟩ = some (.int .i64 l[j].a.k) ∧ w'.cell? ⟨b, o + j * 8 + 1, none⟩ = some (.int .i64 l[j].a.n) ∧ w'.cell? ⟨b, o + j * 8 + 2, none⟩ = some (.slice l[j].a.sA l[j].a.s.length l[j].a.sC) ∧ w'.cell? ⟨b, o + j * 8 + 3, none⟩ = some (.int .i64 l[j].a.d.k) ∧ w'.cell? ⟨b, o + j * 8 + 4, none⟩ = some (.int .i64 l[j].a.d.n) ∧ w'.cell? ⟨b, o + j * 8 + 5, none⟩ = some (.string l[j].a.d.t) ∧ w'.cell? ⟨b, o + j * 8 + 6, none⟩ = some (.slice l[j].a.d.A l[j].a.d.l.length l[j].a.d.c) ∧ w'.cell? ⟨b, o + j * 8 + 7, none⟩ = some (.slice l[j].A l[j].l.length l[j].c) ∧ w'.cell? ⟨b', o' + j * 8, none⟩ = some (.int .i64 l'[j].a.k) ∧ w'.cell? ⟨b', o' + j * 8 + 1, none⟩ = some (.int .i64 l'[j].a.n) ∧ w'.cell? ⟨b', o' + j * 8 + 2, none⟩ = some (.slice l'[j].a.sA l'[j].a.s.length l'[j].a.sC) ∧ w'.cell? ⟨b', o' + j * 8 + 3, none⟩ = some (.int .i64 l'[j].a.d.k) ∧ w'.cell? ⟨b', o' + j * 8 + 4, none⟩ = some (.int .i64 l'[j].a.d.n) ∧ w'.cell? ⟨b', o' + j * 8 + 5, none⟩ = some (.string l'[j].a.d.t) ∧ w'.cell? ⟨b', o' + j * 8 + 6, none⟩ = some (.slice l'[j].a.d.A l'[j].a.d.l.length l'[j].a.d.c) ∧ w'.cell? ⟨b', o' + j * 8 + 7, none⟩ = some (.slice l'[j].A l'[j].l.length l'[j].c)) (go_keep)
          ((go_at_call 18; refine (ih l[j] l'[j] B _ ?_ Heq.out ?_ ?_ ?_).mono ?_; omega; exact hix.drew; exact hix'.drew; (show B ≤ wr.heap.size); omega; rintro e w1 ⟨rfl, hb1⟩; have hb1 : Below wr.heap.size wr w1 := below_undrew hb1; have a0 := (hb1.cell (p := ⟨b, o + j * 8, none⟩) lc).trans c0; have a1 := (hb1.cell (p := ⟨b, o + j * 8 + 1, none⟩) lc).trans c1; have a2 := (hb1.cell (p := ⟨b, o + j * 8 + 2, none⟩) lc).trans c2; have a3 := (hb1.cell (p := ⟨b, o + j * 8 + 3, none⟩) lc).trans c3; have a4 := (hb1.cell (p := ⟨b, o + j * 8 + 4, none⟩) lc).trans c4; have a5 := (hb1.cell (p := ⟨b, o + j * 8 + 5, none⟩) lc).trans c5; have a6 := (hb1.cell (p := ⟨b, o + j * 8 + 6, none⟩) lc).trans c6; have a7 := (hb1.cell (p := ⟨b, o + j * 8 + 7, none⟩) lc).trans c7; have d0 := (hb1.cell (p := ⟨b', o' + j * 8, none⟩) ld).trans c0'; have d1 := (hb1.cell (p := ⟨b', o' + j * 8 + 1, none⟩) ld).trans c1'; have d2 := (hb1.cell (p := ⟨b', o' + j * 8 + 2, none⟩) ld).trans c2'; have d3 := (hb1.cell (p := ⟨b', o' + j * 8 + 3, none⟩) ld).trans c3'; have d4 := (hb1.cell (p := ⟨b', o' + j * 8 + 4, none⟩) ld).trans c4'; have d5 := (hb1.cell (p := ⟨b', o' + j * 8 + 5, none⟩) ld).trans c5'; have d6 := (hb1.cell (p := ⟨b', o' + j * 8 + 6, none⟩) ld).trans c6'; have d7 := (hb1.cell (p := ⟨b', o' + j * 8 + 7, none⟩) ld).trans c7'))
      | fail
      all_goals go_wp2_with fail
      all_goals refine ⟨⟨j + 1, by omega, by go_num, hb.trans (hb1.mono (by omega))⟩, by simp [intOf]; omega⟩
    · have hj' : j = l.length := by omega
      subst hj'
      go_wp2_with fail
      go_ret
      exact ⟨rfl, hb⟩

set_option maxRecDepth 100000 in
set_option maxHeartbeats 4000000 in
theorem Ko_eq_step (m : Nat) (ihL : KoEqLOk m) : KoEqOk (m + 1) := by
  intro x y B w hm he hx hy hB
  have h_x := Elem.In.more hx hB
  have h_y := Elem.In.more hy hB
  have hmm : Tr.sizeL x.l ≤ m := by rw [Tr.size_eq] at hm; omega
  obtain ⟨he1, he2⟩ := Ko.er_parts he
  have HEL := Lib.hid he2
  have hq := Ko.eqB_of_er he1
  simp only [Ko.eqB, Bool.and_eq_true] at hq
  obtain ⟨q_k, q_n, q_s, q_d⟩ := hq
  have n_k : (x.a.k != y.a.k) = false := by rw [bne, q_k]; rfl
  clear q_k
  have n_n : (x.a.n != y.a.n) = false := by rw [bne, q_n]; rfl
  clear q_n
  have Q_s := Lib.hid q_s
  clear q_s
  have Q_d := Lib.hid q_d
  clear q_d
  clear he he1 he2
  unfold Ko.val
  have b0 : Below w.heap.size w w := Below.refl _ _
  have i_x := h_x
  have i_y := h_y
  go_enter Try.func18, Try.ntmps18
  go_wp2_with fail
  obtain ⟨w2, hw2⟩ : ∃ W, W = (w.alloc (.cells #[.int .i64 x.a.k, .int .i64 x.a.n, .slice x.a.sA x.a.s.length x.a.sC, .int .i64 x.a.d.k, .int .i64 x.a.d.n, .string x.a.d.t, .slice x.a.d.A x.a.d.l.length x.a.d.c, .slice x.A x.l.length x.c] 36)).alloc (.cells #[.int .i64 y.a.k, .int .i64 y.a.n, .slice y.a.sA y.a.s.length y.a.sC, .int .i64 y.a.d.k, .int .i64 y.a.d.n, .string y.a.d.t, .slice y.a.d.A y.a.d.l.length y.a.d.c, .slice y.A y.l.length y.c] 36) := ⟨_, rfl⟩
  rw [← hw2]
  have hb2 : Below w.heap.size w w2 := by rw [hw2]; exact ((Below.refl _ _).alloc (Nat.le_refl _) _).alloc (by simp) _
  have z2 : w.heap.size + 2 ≤ w2.heap.size := by rw [hw2]; simp
  have xa : Ko.Box w2 w.heap.size x := by rw [hw2]; exact (Ko.Box.new w x _).below ((Below.refl (w.heap.size + 1) _).alloc (by simp) _) (by omega)
  have xb : Ko.Box w2 (w.heap.size + 1) y := by rw [hw2]; have := Ko.Box.new (w.alloc (.cells #[.int .i64 x.a.k, .int .i64 x.a.n, .slice x.a.sA x.a.s.length x.a.sC, .int .i64 x.a.d.k, .int .i64 x.a.d.n, .string x.a.d.t, .slice x.a.d.A x.a.d.l.length x.a.d.c, .slice x.A x.l.length x.c] 36)) y 36; simpa using this
  clear hw2
  have b2 := b0.trans (hb2.mono (by omega))
  have i_x := h_x.below b2
  have i_y := h_y.below b2
  clear hb2 b0
  have xaq := xa
  obtain ⟨xa_0, xa_1, xa_2, xa_3, xa_4, xa_5, xa_6, xa_7⟩ := xaq
  have xalt : w.heap.size < w2.heap.size := (by omega)
  have xbq := xb
  obtain ⟨xb_0, xb_1, xb_2, xb_3, xb_4, xb_5, xb_6, xb_7⟩ := xbq
  have xblt : w.heap.size + 1 < w2.heap.size := (by omega)
  go_wp2_with fail
  clear xa_0 xa_1 xa_2 xa_3 xa_4 xa_5 xa_6 xa_7 xalt
  clear xb_0 xb_1 xb_2 xb_3 xb_4 xb_5 xb_6 xb_7 xblt
  refine (eqI_any x.a.sA x.a.sC x.a.s y.a.sA y.a.sC y.a.s w.heap.size _ (Ko.E_in i_x).1.s (Ko.E_in i_y).1.s (by omega)).mono ?_
  rintro e w3 ⟨rfl, hb3⟩
  have z3 := hb3.size
  have xa := xa.below hb3 (by omega)
  have xb := xb.below hb3 (by omega)
  have b3 := b2.trans (hb3.mono (by omega))
  have i_x := h_x.below b3
  have i_y := h_y.below b3
  clear hb3
  rw [Q_s.out]
  have xaq := xa
  obtain ⟨xa_0, xa_1, xa_2, xa_3, xa_4, xa_5, xa_6, xa_7⟩ := xaq
  have xalt : w.heap.size < w3.heap.size := (by omega)
  have xbq := xb
  obtain ⟨xb_0, xb_1, xb_2, xb_3, xb_4, xb_5, xb_6, xb_7⟩ := xbq
  have xblt : w.heap.size + 1 < w3.heap.size := (by omega)
  go_wp2_with fail
  clear xa_0 xa_1 xa_2 xa_3 xa_4 xa_5 xa_6 xa_7 xalt
  clear xb_0 xb_1 xb_2 xb_3 xb_4 xb_5 xb_6 xb_7 xblt
  refine (eq_all x.a.d.size x.a.d y.a.d w.heap.size _ (by omega) (Ko.E_in i_x).1.d (Ko.E_in i_y).1.d (by omega)).mono ?_
  rintro e w4 ⟨rfl, hb4⟩
  have z4 := hb4.size
  have xa := xa.below hb4 (by omega)
  have xb := xb.below hb4 (by omega)
  have b4 := b3.trans (hb4.mono (by omega))
  have i_x := h_x.below b4
  have i_y := h_y.below b4
  clear hb4
  rw [Q_d.out]
  have xaq := xa
  obtain ⟨xa_0, xa_1, xa_2, xa_3, xa_4, xa_5, xa_6, xa_7⟩ := xaq
  have xalt : w.heap.size < w4.heap.size := (by omega)
  have xbq := xb
  obtain ⟨xb_0, xb_1, xb_2, xb_3, xb_4, xb_5, xb_6, xb_7⟩ := xbq
  have xblt : w.heap.size + 1 < w4.heap.size := (by omega)
  go_wp2_with fail
  clear xa_0 xa_1 xa_2 xa_3 xa_4 xa_5 xa_6 xa_7 xalt
  clear xb_0 xb_1 xb_2 xb_3 xb_4 xb_5 xb_6 xb_7 xblt
  refine (ihL x.A x.c x.l y.A y.c y.l w.heap.size _ hmm HEL.out (Ko.E_in i_x).2 (Ko.E_in i_y).2 (by omega)).mono ?_
  rintro e w5 ⟨rfl, hb5⟩
  have z5 := hb5.size
  have xa := xa.below hb5 (by omega)
  have xb := xb.below hb5 (by omega)
  have b5 := b4.trans (hb5.mono (by omega))
  have i_x := h_x.below b5
  have i_y := h_y.below b5
  clear hb5
  have xaq := xa
  obtain ⟨xa_0, xa_1, xa_2, xa_3, xa_4, xa_5, xa_6, xa_7⟩ := xaq
  have xalt : w.heap.size < w5.heap.size := (by omega)
  have xbq := xb
  obtain ⟨xb_0, xb_1, xb_2, xb_3, xb_4, xb_5, xb_6, xb_7⟩ := xbq
  have xblt : w.heap.size + 1 < w5.heap.size := (by omega)
  go_wp2_with fail
  clear xa_0 xa_1 xa_2 xa_3 xa_4 xa_5 xa_6 xa_7 xalt
  clear xb_0 xb_1 xb_2 xb_3 xb_4 xb_5 xb_6 xb_7 xblt
  go_ret
  exact ⟨rfl, b5⟩
theorem Ko_eq_any : ∀ m, KoEqOk m := by
  intro m
  induction m with
  | zero => intro x y B w h; have := x.size_pos; omega
  | succ m ih => exact Ko_eq_step m (Ko_eqL_step m ih)
theorem Ko_eqL_any (A : Option Addr) (c : Nat) (l : List (Tr Ko)) (A' : Option Addr) (c' : Nat) (l' : List (Tr Ko)) (B : Nat) (w : World) (he : Tr.erL Ko.er l = Tr.erL Ko.er l') (hin : Ko.E.LIn w B A c l) (hin' : Ko.E.LIn w B A' c' l') (hB : B ≤ w.heap.size) :
    Calls Try.prog 64 #[.slice A l.length c, .slice A' l'.length c'] w fun e w' => e = .returned (.bool true) ∧ Below w.heap.size w w' :=
  Ko_eqL_step _ (Ko_eq_any _) A c l A' c' l' B w (Nat.le_refl _) he hin hin' hB
end Go.Proofs.Ytbeikpbnidbjfaa
