/-
  Capture: the laws' own comparison of what reads the same (written by gen/tree.py).
-/
import Derived.Test.YtndckeodpoommaaKaT
import Derived.Deep.RegionHeld3
namespace Go.Proofs.Ytndckeodpoommaa
open Go.RowKit

def KaEqOk (m : Nat) : Prop := ∀ (x y : Tr Ka) (B : Nat) (w : World), x.size ≤ m → x.er Ka.er = y.er Ka.er → Ka.E.In w B x → Ka.E.In w B y → B ≤ w.heap.size →
    Calls Try.prog 81 #[Ka.val x, Ka.val y] w fun e w' => e = .returned (.bool true) ∧ Below w.heap.size w w'
def KaEqLOk (m : Nat) : Prop := ∀ (A : Option Addr) (c : Nat) (l : List (Tr Ka)) (A' : Option Addr) (c' : Nat) (l' : List (Tr Ka)) (B : Nat) (w : World), Tr.sizeL l ≤ m → Tr.erL Ka.er l = Tr.erL Ka.er l' → Ka.E.LIn w B A c l → Ka.E.LIn w B A' c' l' → B ≤ w.heap.size →
    Calls Try.prog 40 #[.slice A l.length c, .slice A' l'.length c'] w fun e w' => e = .returned (.bool true) ∧ Below w.heap.size w w'
theorem Ka.erL_get {a b : List (Tr Ka)} (h : Tr.erL Ka.er a = Tr.erL Ka.er b) {j : Nat} (ha : j < a.length) (hb : j < b.length) : (a[j]).er Ka.er = (b[j]).er Ka.er := by
  have h1 : (Tr.erL Ka.er a)[j]? = (Tr.erL Ka.er b)[j]? := by rw [h]
  simp only [Tr.erL_map, List.getElem?_map, List.getElem?_eq_getElem ha, List.getElem?_eq_getElem hb, Option.map_some, Option.some.injEq] at h1
  exact h1
theorem Ka.er_parts {x y : Tr Ka} (h : x.er Ka.er = y.er Ka.er) : Ka.er x.a = Ka.er y.a ∧ Tr.erL Ka.er x.l = Tr.erL Ka.er y.l := by
  cases x; cases y
  simp only [Tr.er, Tr.mk.injEq] at h
  exact ⟨h.1, h.2.2.2⟩

set_option maxRecDepth 100000 in
set_option maxHeartbeats 4000000 in
theorem Ka_eqL_step (m : Nat) (ih : KaEqOk m) : KaEqLOk m := by
  intro A c l A' c' l' B w hm he hin hin' hB
  have hcap := hin.cap
  have hcap' := hin'.cap
  have hlen : l.length = l'.length := by rw [← Tr.erL_length Ka.er l, he, Tr.erL_length]
  have hn1 : ((l.length : Int) != (l'.length : Int)) = false := by simp [hlen]
  have hlen1 : l'.length ≤ l.length := by omega
  have hlen2 : l.length ≤ l'.length := by omega
  clear hlen
  have HE := Lib.hid he
  clear he
  go_enter Try.func40, Try.ntmps40
  go_wp2_with fail
  go_loopw [5] (fun i wr => ∃ j : Nat, j ≤ l.length ∧ i = .int .i64 j ∧ Below w.heap.size w wr) (fun i _ => l.length - (intOf i).toNat)
  case atStart => exact ⟨0, Nat.zero_le _, rfl, Below.refl _ _⟩
  case round =>
    obtain ⟨j, hj, rfl, hb⟩ := hrel
    by_cases hlt : j < l.length
    · have hlt' : j < l'.length := by omega
      have hs2 := hb.size
      obtain ⟨b, o, rfl, hblk, c0, c1, c2, c3, c4, c5, c6, c7, c8, c9, c10, c11, hix⟩ := Ka.at_ (hin.below (hb.mono hB)) (i := j) (x := l[j]) (List.getElem?_eq_getElem hlt)
      obtain ⟨b', o', rfl, hblk', c0', c1', c2', c3', c4', c5', c6', c7', c8', c9', c10', c11', hix'⟩ := Ka.at_ (hin'.below (hb.mono hB)) (i := j) (x := l'[j]) (List.getElem?_eq_getElem hlt')
      have hsz := Tr.sizeL_mem (l := l) (List.getElem_mem hlt)
      have g1 : (0 : Int) ≤ (j : Int) := by omega
      have g2 : (j : Int) < (l.length : Int) := by omega
      have g3 : (j : Int) < (l'.length : Int) := by omega
      have heq := Ka.erL_get HE.out hlt hlt'
      have Heq := Lib.hid heq
      clear heq
      have lc : b < wr.heap.size := by omega
      have ld : b' < wr.heap.size := by omega
      go_wp2_with fail
      first
      | go_region_held3 (fun w' => w'.cell? ⟨b, o + j * 12, none⟩ = some (.int .i64 l[j].a.N.k) ∧ w'.cell? ⟨b, o + j * 12 + 1, none⟩ = some (.int .i64 l[j].a.N.n) ∧ w'.cell? ⟨b, o + j * 12 + 2, none⟩ = some (.string l[j].a.N.t) ∧ w'.cell? ⟨b, o + j * 12 + 3, none⟩ = some (.slice l[j].a.N.sa l[j].a.N.s.length l[j].a.N.sc) ∧ w'.cell? ⟨b, o + j * 12 + 4, none⟩ = some (.slice l[j].a.N.A l[j].a.N.l.length l[j].a.N.c) ∧ w'.cell? ⟨b, o + j * 12 + 5, none⟩ = some (.int .i64 l[j].a.dep) ∧ w'.cell? ⟨b, o + j * 12 + 6, none⟩ = some (.int .i64 l[j].a.F.k) ∧ w'.cell? ⟨b, o + j * 12 + 7, none⟩ = some (.int .i64 l[j].a.F.n) ∧ w'.cell? ⟨b, o + j * 12 + 8, none⟩ = some (.string l[j].a.F.t) ∧ w'.cell? ⟨b, o + j * 12 + 9, none⟩ = some (.slice l[j].a.F.sa l[j].a.F.s.length l[j].a.F.sc) ∧ w'.cell? ⟨b, o + j * 12 + 10, none⟩ = some (.slice l[j].a.F.A l[j].a.F.l.length l[j].a.F.c) ∧ w'.cell? ⟨b, o + j * 12 + 11, none⟩ = some (.slice l[j].A l[j].l.length l[j].c) ∧ w'.cell? ⟨b', o' + j * 12, none⟩ = some (.int .i64 l'[j].a.N.k) ∧ w'.cell? ⟨b', o' + j * 12 + 1, none⟩ = some (.int .i64 l'[j].a.N.n) ∧ w'.cell? ⟨b', o' + j * 12 + 2, none⟩ = some (.string l'[j].a.N.t) ∧ w'.cell? ⟨b', o' + j * 12 + 3, none⟩ = some (.slice l'[j].a.N.sa l'[j].a.N.s.length l'[j].a.N.sc) ∧ w'.cell? ⟨b', o' + j * 12 + 4, none⟩ = some (.slice l'[j].a.N.A l'[j].a.N.l.length l'[j].a.N.c) ∧ w'.cell? ⟨b', o' + j * 12 + 5, none⟩ = some (.int .i64 l'[j].a.dep) ∧ w'.cell? ⟨b', o' + j * 12 + 6, none⟩ = some (.int .i64 l'[j].a.F.k) ∧ w'.cell? ⟨b', o' + j * 12 + 7, none⟩ = some (.int .i64 l'[j].a.F.n) ∧ w'.cell? ⟨b', o' + j * 12 + 8, none⟩ = some (.string l'[j].a.F.t) ∧ w'.cell? ⟨b', o' + j * 12 + 9, none⟩ = some (.slice l'[j].a.F.sa l'[j].a.F.s.length l'[j].a.F.sc) ∧ w'.cell? ⟨b', o' + j * 12 + 10, none⟩ = some (.slice l'[j].a.F.A l'[j].a.F.l.length l'[j].a.F.c) ∧ w'.cell? ⟨b', o' + j * 12 + 11, none⟩ = some (.slice l'[j].A l'[j].l.length l'[j].c)) (go_keep)
          ((go_at_call 81; refine (ih l[j] l'[j] B _ ?_ Heq.out ?_ ?_ ?_).mono ?_; omega; exact hix.drew; exact hix'.drew; (show B ≤ wr.heap.size); omega; rintro e w1 ⟨rfl, hb1⟩; have hb1 : Below wr.heap.size wr w1 := below_undrew hb1; have a0 := (hb1.cell (p := ⟨b, o + j * 12, none⟩) lc).trans c0; have a1 := (hb1.cell (p := ⟨b, o + j * 12 + 1, none⟩) lc).trans c1; have a2 := (hb1.cell (p := ⟨b, o + j * 12 + 2, none⟩) lc).trans c2; have a3 := (hb1.cell (p := ⟨b, o + j * 12 + 3, none⟩) lc).trans c3; have a4 := (hb1.cell (p := ⟨b, o + j * 12 + 4, none⟩) lc).trans c4; have a5 := (hb1.cell (p := ⟨b, o + j * 12 + 5, none⟩) lc).trans c5; have a6 := (hb1.cell (p := ⟨b, o + j * 12 + 6, none⟩) lc).trans c6; have a7 := (hb1.cell (p := ⟨b, o + j * 12 + 7, none⟩) lc).trans c7; have a8 := (hb1.cell (p := ⟨b, o + j * 12 + 8, none⟩) lc).trans c8; have a9 := (hb1.cell (p := ⟨b, o + j * 12 + 9, none⟩) lc).trans c9; have a10 := (hb1.cell (p := ⟨b, o + j * 12 + 10, none⟩) lc).trans c10; have a11 := (hb1.cell (p := ⟨b, o + j * 12 + 11, none⟩) lc).trans c11; have d0 := (hb1.cell (p := ⟨b', o' + j * 12, none⟩) ld).trans c0'; have d1 := (hb1.cell (p := ⟨b', o' + j * 12 + 1, none⟩) ld).trans c1'; have d2 := (hb1.cell (p := ⟨b', o' + j * 12 + 2, none⟩) ld).trans c2'; have d3 := (hb1.cell (p := ⟨b', o' + j * 12 + 3, none⟩) ld).trans c3'; have d4 := (hb1.cell (p := ⟨b', o' + j * 12 + 4, none⟩) ld).trans c4'; have d5 := (hb1.cell (p := ⟨b', o' + j * 12 + 5, none⟩) ld).trans c5'; have d6 := (hb1.cell (p := ⟨b', o' + j * 12 + 6, none⟩) ld).trans c6'; have d7 := (hb1.cell (p := ⟨b', o' + j * 12 + 7, none⟩) ld).trans c7'; have d8 := (hb1.cell (p := ⟨b', o' + j * 12 + 8, none⟩) ld).trans c8'; have d9 := (hb1.cell (p := ⟨b', o' + j * 12 + 9, none⟩) ld).trans c9'; have d10 := (hb1.cell (p := ⟨b', o' + j * 12 + 10, none⟩) ld).trans c10'; have d11 := (hb1.cell (p := ⟨b', o' + j * 12 + 11, none⟩) ld).trans c11'))
      | fail
      all_goals go_wp2_with fail
      all_goals refine ⟨⟨j + 1, by omega, by go_num, hb.trans (hb1.mono (by omega))⟩, by simp [intOf]; omega⟩
    · have hj' : j = l.length := by omega
      subst hj'
      go_wp2_with fail
      go_ret
      exact ⟨rfl, hb⟩

set_option maxRecDepth 100000 in
set_option maxHeartbeats 4000000 in
theorem Ka_eq_step (m : Nat) (ihL : KaEqLOk m) : KaEqOk (m + 1) := by
  intro x y B w hm he hx hy hB
  have h_x := Elem.In.more hx hB
  have h_y := Elem.In.more hy hB
  have hmm : Tr.sizeL x.l ≤ m := by rw [Tr.size_eq] at hm; omega
  obtain ⟨he1, he2⟩ := Ka.er_parts he
  have HEL := Lib.hid he2
  have hq := Ka.eqB_of_er he1
  simp only [Ka.eqB, Bool.and_eq_true] at hq
  obtain ⟨q_N, q_dep, q_F⟩ := hq
  have Q_N := Lib.hid q_N
  clear q_N
  have n_dep : (x.a.dep != y.a.dep) = false := by rw [bne, q_dep]; rfl
  clear q_dep
  have Q_F := Lib.hid q_F
  clear q_F
  clear he he1 he2
  unfold Ka.val
  have b0 : Below w.heap.size w w := Below.refl _ _
  have i_x := h_x
  have i_y := h_y
  go_enter Try.func81, Try.ntmps81
  go_wp2_with fail
  obtain ⟨w2, hw2⟩ : ∃ W, W = (w.alloc (.cells #[.int .i64 x.a.N.k, .int .i64 x.a.N.n, .string x.a.N.t, .slice x.a.N.sa x.a.N.s.length x.a.N.sc, .slice x.a.N.A x.a.N.l.length x.a.N.c, .int .i64 x.a.dep, .int .i64 x.a.F.k, .int .i64 x.a.F.n, .string x.a.F.t, .slice x.a.F.sa x.a.F.s.length x.a.F.sc, .slice x.a.F.A x.a.F.l.length x.a.F.c, .slice x.A x.l.length x.c] 122)).alloc (.cells #[.int .i64 y.a.N.k, .int .i64 y.a.N.n, .string y.a.N.t, .slice y.a.N.sa y.a.N.s.length y.a.N.sc, .slice y.a.N.A y.a.N.l.length y.a.N.c, .int .i64 y.a.dep, .int .i64 y.a.F.k, .int .i64 y.a.F.n, .string y.a.F.t, .slice y.a.F.sa y.a.F.s.length y.a.F.sc, .slice y.a.F.A y.a.F.l.length y.a.F.c, .slice y.A y.l.length y.c] 122) := ⟨_, rfl⟩
  rw [← hw2]
  have hb2 : Below w.heap.size w w2 := by rw [hw2]; exact ((Below.refl _ _).alloc (Nat.le_refl _) _).alloc (by simp) _
  have z2 : w.heap.size + 2 ≤ w2.heap.size := by rw [hw2]; simp
  have xa : Ka.Box w2 w.heap.size x := by rw [hw2]; exact (Ka.Box.new w x _).below ((Below.refl (w.heap.size + 1) _).alloc (by simp) _) (by omega)
  have xb : Ka.Box w2 (w.heap.size + 1) y := by rw [hw2]; have := Ka.Box.new (w.alloc (.cells #[.int .i64 x.a.N.k, .int .i64 x.a.N.n, .string x.a.N.t, .slice x.a.N.sa x.a.N.s.length x.a.N.sc, .slice x.a.N.A x.a.N.l.length x.a.N.c, .int .i64 x.a.dep, .int .i64 x.a.F.k, .int .i64 x.a.F.n, .string x.a.F.t, .slice x.a.F.sa x.a.F.s.length x.a.F.sc, .slice x.a.F.A x.a.F.l.length x.a.F.c, .slice x.A x.l.length x.c] 122)) y 122; simpa using this
  clear hw2
  have b2 := b0.trans (hb2.mono (by omega))
  have i_x := h_x.below b2
  have i_y := h_y.below b2
  clear hb2 b0
  have xaq := xa
  obtain ⟨xa_0, xa_1, xa_2, xa_3, xa_4, xa_5, xa_6, xa_7, xa_8, xa_9, xa_10, xa_11⟩ := xaq
  have xalt : w.heap.size < w2.heap.size := (by omega)
  have xbq := xb
  obtain ⟨xb_0, xb_1, xb_2, xb_3, xb_4, xb_5, xb_6, xb_7, xb_8, xb_9, xb_10, xb_11⟩ := xbq
  have xblt : w.heap.size + 1 < w2.heap.size := (by omega)
  go_wp2_with fail
  clear xa_0 xa_1 xa_2 xa_3 xa_4 xa_5 xa_6 xa_7 xa_8 xa_9 xa_10 xa_11 xalt
  clear xb_0 xb_1 xb_2 xb_3 xb_4 xb_5 xb_6 xb_7 xb_8 xb_9 xb_10 xb_11 xblt
  refine (seq_all x.a.N.size x.a.N y.a.N w.heap.size _ (by omega) (Ka.E_in i_x).1.N (Ka.E_in i_y).1.N (by omega)).mono ?_
  rintro e w3 ⟨rfl, hb3⟩
  have z3 := hb3.size
  have xa := xa.below hb3 (by omega)
  have xb := xb.below hb3 (by omega)
  have b3 := b2.trans (hb3.mono (by omega))
  have i_x := h_x.below b3
  have i_y := h_y.below b3
  clear hb3
  rw [Q_N.out]
  have xaq := xa
  obtain ⟨xa_0, xa_1, xa_2, xa_3, xa_4, xa_5, xa_6, xa_7, xa_8, xa_9, xa_10, xa_11⟩ := xaq
  have xalt : w.heap.size < w3.heap.size := (by omega)
  have xbq := xb
  obtain ⟨xb_0, xb_1, xb_2, xb_3, xb_4, xb_5, xb_6, xb_7, xb_8, xb_9, xb_10, xb_11⟩ := xbq
  have xblt : w.heap.size + 1 < w3.heap.size := (by omega)
  go_wp2_with fail
  clear xa_0 xa_1 xa_2 xa_3 xa_4 xa_5 xa_6 xa_7 xa_8 xa_9 xa_10 xa_11 xalt
  clear xb_0 xb_1 xb_2 xb_3 xb_4 xb_5 xb_6 xb_7 xb_8 xb_9 xb_10 xb_11 xblt
  refine (seq_all x.a.F.size x.a.F y.a.F w.heap.size _ (by omega) (Ka.E_in i_x).1.F (Ka.E_in i_y).1.F (by omega)).mono ?_
  rintro e w4 ⟨rfl, hb4⟩
  have z4 := hb4.size
  have xa := xa.below hb4 (by omega)
  have xb := xb.below hb4 (by omega)
  have b4 := b3.trans (hb4.mono (by omega))
  have i_x := h_x.below b4
  have i_y := h_y.below b4
  clear hb4
  rw [Q_F.out]
  have xaq := xa
  obtain ⟨xa_0, xa_1, xa_2, xa_3, xa_4, xa_5, xa_6, xa_7, xa_8, xa_9, xa_10, xa_11⟩ := xaq
  have xalt : w.heap.size < w4.heap.size := (by omega)
  have xbq := xb
  obtain ⟨xb_0, xb_1, xb_2, xb_3, xb_4, xb_5, xb_6, xb_7, xb_8, xb_9, xb_10, xb_11⟩ := xbq
  have xblt : w.heap.size + 1 < w4.heap.size := (by omega)
  go_wp2_with fail
  clear xa_0 xa_1 xa_2 xa_3 xa_4 xa_5 xa_6 xa_7 xa_8 xa_9 xa_10 xa_11 xalt
  clear xb_0 xb_1 xb_2 xb_3 xb_4 xb_5 xb_6 xb_7 xb_8 xb_9 xb_10 xb_11 xblt
  refine (ihL x.A x.c x.l y.A y.c y.l w.heap.size _ hmm HEL.out (Ka.E_in i_x).2 (Ka.E_in i_y).2 (by omega)).mono ?_
  rintro e w5 ⟨rfl, hb5⟩
  have z5 := hb5.size
  have xa := xa.below hb5 (by omega)
  have xb := xb.below hb5 (by omega)
  have b5 := b4.trans (hb5.mono (by omega))
  have i_x := h_x.below b5
  have i_y := h_y.below b5
  clear hb5
  have xaq := xa
  obtain ⟨xa_0, xa_1, xa_2, xa_3, xa_4, xa_5, xa_6, xa_7, xa_8, xa_9, xa_10, xa_11⟩ := xaq
  have xalt : w.heap.size < w5.heap.size := (by omega)
  have xbq := xb
  obtain ⟨xb_0, xb_1, xb_2, xb_3, xb_4, xb_5, xb_6, xb_7, xb_8, xb_9, xb_10, xb_11⟩ := xbq
  have xblt : w.heap.size + 1 < w5.heap.size := (by omega)
  go_wp2_with fail
  clear xa_0 xa_1 xa_2 xa_3 xa_4 xa_5 xa_6 xa_7 xa_8 xa_9 xa_10 xa_11 xalt
  clear xb_0 xb_1 xb_2 xb_3 xb_4 xb_5 xb_6 xb_7 xb_8 xb_9 xb_10 xb_11 xblt
  go_ret
  exact ⟨rfl, b5⟩
theorem Ka_eq_any : ∀ m, KaEqOk m := by
  intro m
  induction m with
  | zero => intro x y B w h; have := x.size_pos; omega
  | succ m ih => exact Ka_eq_step m (Ka_eqL_step m ih)
theorem Ka_eqL_any (A : Option Addr) (c : Nat) (l : List (Tr Ka)) (A' : Option Addr) (c' : Nat) (l' : List (Tr Ka)) (B : Nat) (w : World) (he : Tr.erL Ka.er l = Tr.erL Ka.er l') (hin : Ka.E.LIn w B A c l) (hin' : Ka.E.LIn w B A' c' l') (hB : B ≤ w.heap.size) :
    Calls Try.prog 40 #[.slice A l.length c, .slice A' l'.length c'] w fun e w' => e = .returned (.bool true) ∧ Below w.heap.size w w' :=
  Ka_eqL_step _ (Ka_eq_any _) A c l A' c' l' B w (Nat.le_refl _) he hin hin' hB
end Go.Proofs.Ytndckeodpoommaa
