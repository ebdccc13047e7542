/-
  Capture: the laws' own comparison of what reads the same (written by gen/tree.py).
-/
import Derived.Test.YtnldlbglgalbaabGreatGPvB
import Derived.Deep.RegionHeld3
import Derived.Test.YtnldlbglgalbaabGreatTfProg
import Derived.Test.YtnldlbglgalbaabGreatGPvG
import Derived.Test.YtnldlbglgalbaabGreatGPvF
import Derived.Test.YtnldlbglgalbaabGreatSIsS
import Derived.Test.YtnldlbglgalbaabGreatSCount
import Derived.Test.YtnldlbglgalbaabGreatTfModel
import Derived.Test.YtnldlbglgalbaabGreatNear
namespace Go.Proofs.YtnldlbglgalbaabGreat
open Go.RowKit

def KaEqOk (m : Nat) : Prop := ∀ (x y : Tr Ka) (B : Nat) (w : World), x.size ≤ m → x.er Ka.er = y.er Ka.er → Ka.E.In w B x → Ka.E.In w B y → B ≤ w.heap.size →
    Calls Tryz.prog 42 #[Ka.val x, Ka.val y] w fun e w' => e = .returned (.bool true) ∧ Below w.heap.size w w'
def KaEqLOk (m : Nat) : Prop := ∀ (A : Option Addr) (c : Nat) (l : List (Tr Ka)) (A' : Option Addr) (c' : Nat) (l' : List (Tr Ka)) (B : Nat) (w : World), Tr.sizeL l ≤ m → Tr.erL Ka.er l = Tr.erL Ka.er l' → Ka.E.LIn w B A c l → Ka.E.LIn w B A' c' l' → B ≤ w.heap.size →
    Calls Tryz.prog 17 #[.slice A l.length c, .slice A' l'.length c'] w fun e w' => e = .returned (.bool true) ∧ Below w.heap.size w w'
theorem Ka.erL_get {a b : List (Tr Ka)} (h : Tr.erL Ka.er a = Tr.erL Ka.er b) {j : Nat} (ha : j < a.length) (hb : j < b.length) : (a[j]).er Ka.er = (b[j]).er Ka.er := by
  have h1 : (Tr.erL Ka.er a)[j]? = (Tr.erL Ka.er b)[j]? := by rw [h]
  simp only [Tr.erL_map, List.getElem?_map, List.getElem?_eq_getElem ha, List.getElem?_eq_getElem hb, Option.map_some, Option.some.injEq] at h1
  exact h1
theorem Ka.er_parts {x y : Tr Ka} (h : x.er Ka.er = y.er Ka.er) : Ka.er x.a = Ka.er y.a ∧ Tr.erL Ka.er x.l = Tr.erL Ka.er y.l := by
  cases x; cases y
  simp only [Tr.er, Tr.mk.injEq] at h
  exact ⟨h.1, h.2.2.2⟩

set_option maxRecDepth 100000 in
set_option maxHeartbeats 4000000 in
theorem Ka_eqL_step (m : Nat) (ih : KaEqOk m) : KaEqLOk m := by
  intro A c l A' c' l' B w hm he hin hin' hB
  have hcap := hin.cap
  have hcap' := hin'.cap
  have hlen : l.length = l'.length := by rw [← Tr.erL_length Ka.er l, he, Tr.erL_length]
  have hn1 : ((l.length : Int) != (l'.length : Int)) = false := by simp [hlen]
  have hlen1 : l'.length ≤ l.length := by omega
  have hlen2 : l.length ≤ l'.length := by omega
  clear hlen
  have HE := Lib.hid he
  clear he
  go_enter Tryz.func17, Tryz.ntmps17
  go_wp2_with fail
  go_loopw [5] (fun i wr => ∃ j : Nat, j ≤ l.length ∧ i = .int .i64 j ∧ Below w.heap.size w wr) (fun i _ => l.length - (intOf i).toNat)
  case atStart => exact ⟨0, Nat.zero_le _, rfl, Below.refl _ _⟩
  case round =>
    obtain ⟨j, hj, rfl, hb⟩ := hrel
    by_cases hlt : j < l.length
    · have hlt' : j < l'.length := by omega
      have hs2 := hb.size
      obtain ⟨b, o, rfl, hblk, c0, c1, c2, c3, c4, c5, c6, c7, c8, c9, c10, c11, hix⟩ := Ka.at_ (hin.below (hb.mono hB)) (i := j) (x := l[j]) (List.getElem?_eq_getElem hlt)
      obtain ⟨b', o', rfl, hblk', c0', c1', c2', c3', c4', c5', c6', c7', c8', c9', c10', c11', hix'⟩ := Ka.at_ (hin'.below (hb.mono hB)) (i := j) (x := l'[j]) (List.getElem?_eq_getElem hlt')
      have hsz := Tr.sizeL_mem (l := l) (List.getElem_mem hlt)
      have g1 : (0 : Int) ≤ (j : Int) := by omega
      have g2 : (j : Int) < (l.length : Int) := by omega
      have g3 : (j : Int) < (l'.length : Int) := by omega
      have heq := Ka.erL_get HE.out hlt hlt'
      have Heq := Lib.hid heq
      clear heq
      have lc : b < wr.heap.size := by omega
      have ld : b' < wr.heap.size := by omega
      go_wp2_with fail
      first
      | go_region_held3 (fun w' => w'.cell? ⟨b, o + j * 12, none⟩ = some (.int .i64 l[j].a.N.k) ∧ w'.cell? ⟨b, o + j * 12 + 1, none⟩ = some (.int .i64 l[j].a.N.n) ∧ w'.cell? ⟨b, o + j * 12 + 2, none⟩ = some (.string l[j].a.N.t) ∧ w'.cell? ⟨b, o + j * 12 + 3, none⟩ = some (.slice l[j].a.N.sa l[j].a.N.s.length l[j].a.N.sc) ∧ w'.cell? ⟨b, o + j * 12 + 4, none⟩ = some (.slice l[j].a.N.A l[j].a.N.l.length l[j].a.N.c) ∧ w'.cell? ⟨b, o + j * 12 + 5, none⟩ = some (.int .i64 l[j].a.dep) ∧ w'.cell? ⟨b, o + j * 12 + 6, none⟩ = some (.int .i64 l[j].a.F.k) ∧ w'.cell? ⟨b, o + j * 12 + 7, none⟩ = some (.int .i64 l[j].a.F.n) ∧ w'.cell? ⟨b, o + j * 12 + 8, none⟩ = some (.string l[j].a.F.t) ∧ w'.cell? ⟨b, o + j * 12 + 9, none⟩ = some (.slice l[j].a.F.sa l[j].a.F.s.length l[j].a.F.sc) ∧ w'.cell? ⟨b, o + j * 12 + 10, none⟩ = some (.slice l[j].a.F.A l[j].a.F.l.length l[j].a.F.c) ∧ w'.cell? ⟨b, o + j * 12 + 11, none⟩ = some (.slice l[j].A l[j].l.length l[j].c) ∧ w'.cell? ⟨b', o' + j * 12, none⟩ = some (.int .i64 l'[j].a.N.k) ∧ w'.cell? ⟨b', o' + j * 12 + 1, none⟩ = some (.int .i64 l'[j].a.N.n) ∧ w'.cell? ⟨b', o' + j * 12 + 2, none⟩ = some (.string l'[j].a.N.t) ∧ w'.cell? ⟨b', o' + j * 12 + 3, none⟩ = some (.slice l'[j].a.N.sa l'[j].a.N.s.length l'[j].a.N.sc) ∧ w'.cell? ⟨b', o' + j * 12 + 4, none⟩ = some (.slice l'[j].a.N.A l'[j].a.N.l.length l'[j].a.N.c) ∧ w'.cell? ⟨b', o' + j * 12 + 5, none⟩ = some (.int .i64 l'[j].a.dep) ∧ w'.cell? ⟨b', o' + j * 12 + 6, none⟩ = some (.int .i64 l'[j].a.F.k) ∧ w'.cell? ⟨b', o' + j * 12 + 7, none⟩ = some (.int .i64 l'[j].a.F.n) ∧ w'.cell? ⟨b', o' + j * 12 + 8, none⟩ = some (.string l'[j].a.F.t) ∧ w'.cell? ⟨b', o' + j * 12 + 9, none⟩ = some (.slice l'[j].a.F.sa l'[j].a.F.s.length l'[j].a.F.sc) ∧ w'.cell? ⟨b', o' + j * 12 + 10, none⟩ = some (.slice l'[j].a.F.A l'[j].a.F.l.length l'[j].a.F.c) ∧ w'.cell? ⟨b', o' + j * 12 + 11, none⟩ = some (.slice l'[j].A l'[j].l.length l'[j].c)) (go_keep)
          ((go_at_call 42; refine (ih l[j] l'[j] B _ ?_ Heq.out ?_ ?_ ?_).mono ?_; omega; exact hix.drew; exact hix'.drew; (show B ≤ wr.heap.size); omega; rintro e w1 ⟨rfl, hb1⟩; have hb1 : Below wr.heap.size wr w1 := below_undrew hb1; have a0 := (hb1.cell (p := ⟨b, o + j * 12, none⟩) lc).trans c0; have a1 := (hb1.cell (p := ⟨b, o + j * 12 + 1, none⟩) lc).trans c1; have a2 := (hb1.cell (p := ⟨b, o + j * 12 + 2, none⟩) lc).trans c2; have a3 := (hb1.cell (p := ⟨b, o + j * 12 + 3, none⟩) lc).trans c3; have a4 := (hb1.cell (p := ⟨b, o + j * 12 + 4, none⟩) lc).trans c4; have a5 := (hb1.cell (p := ⟨b, o + j * 12 + 5, none⟩) lc).trans c5; have a6 := (hb1.cell (p := ⟨b, o + j * 12 + 6, none⟩) lc).trans c6; have a7 := (hb1.cell (p := ⟨b, o + j * 12 + 7, none⟩) lc).trans c7; have a8 := (hb1.cell (p := ⟨b, o + j * 12 + 8, none⟩) lc).trans c8; have a9 := (hb1.cell (p := ⟨b, o + j * 12 + 9, none⟩) lc).trans c9; have a10 := (hb1.cell (p := ⟨b, o + j * 12 + 10, none⟩) lc).trans c10; have a11 := (hb1.cell (p := ⟨b, o + j * 12 + 11, none⟩) lc).trans c11; have d0 := (hb1.cell (p := ⟨b', o' + j * 12, none⟩) ld).trans c0'; have d1 := (hb1.cell (p := ⟨b', o' + j * 12 + 1, none⟩) ld).trans c1'; have d2 := (hb1.cell (p := ⟨b', o' + j * 12 + 2, none⟩) ld).trans c2'; have d3 := (hb1.cell (p := ⟨b', o' + j * 12 + 3, none⟩) ld).trans c3'; have d4 := (hb1.cell (p := ⟨b', o' + j * 12 + 4, none⟩) ld).trans c4'; have d5 := (hb1.cell (p := ⟨b', o' + j * 12 + 5, none⟩) ld).trans c5'; have d6 := (hb1.cell (p := ⟨b', o' + j * 12 + 6, none⟩) ld).trans c6'; have d7 := (hb1.cell (p := ⟨b', o' + j * 12 + 7, none⟩) ld).trans c7'; have d8 := (hb1.cell (p := ⟨b', o' + j * 12 + 8, none⟩) ld).trans c8'; have d9 := (hb1.cell (p := ⟨b', o' + j * 12 + 9, none⟩) ld).trans c9'; have d10 := (hb1.cell (p := ⟨b', o' + j * 12 + 10, none⟩) ld).trans c10'; have d11 := (hb1.cell (p := ⟨b', o' + j * 12 + 11, none⟩) ld).trans c11'))
      | fail
      all_goals go_wp2_with fail
      all_goals refine ⟨⟨j + 1, by omega, by go_num, hb.trans (hb1.mono (by omega))⟩, by simp [intOf]; omega⟩
    · have hj' : j = l.length := by omega
      subst hj'
      go_wp2_with fail
      go_ret
      exact ⟨rfl, hb⟩

set_option maxRecDepth 100000 in
set_option maxHeartbeats 4000000 in
theorem Ka_eq_step (m : Nat) (ihL : KaEqLOk m) : KaEqOk (m + 1) := by
  intro x y B w hm he hx hy hB
  have h_x := Elem.In.more hx hB
  have h_y := Elem.In.more hy hB
  have hmm : Tr.sizeL x.l ≤ m := by rw [Tr.size_eq] at hm; omega
  obtain ⟨he1, he2⟩ := Ka.er_parts he
  have HEL := Lib.hid he2
  have hq := Ka.eqB_of_er he1
  simp only [Ka.eqB, Bool.and_eq_true] at hq
  obtain ⟨q_N, q_dep, q_F⟩ := hq
  have Q_N := Lib.hid q_N
  clear q_N
  have n_dep : (x.a.dep != y.a.dep) = false := by rw [bne, q_dep]; rfl
  clear q_dep
  have Q_F := Lib.hid q_F
  clear q_F
  clear he he1 he2
  unfold Ka.val
  have b0 : Below w.heap.size w w := Below.refl _ _
  have i_x := h_x
  have i_y := h_y
  go_enter Tryz.func42, Tryz.ntmps42
  go_wp2_with fail
  obtain ⟨w2, hw2⟩ : ∃ W, W = (w.alloc (.cells #[.int .i64 x.a.N.k, .int .i64 x.a.N.n, .string x.a.N.t, .slice x.a.N.sa x.a.N.s.length x.a.N.sc, .slice x.a.N.A x.a.N.l.length x.a.N.c, .int .i64 x.a.dep, .int .i64 x.a.F.k, .int .i64 x.a.F.n, .string x.a.F.t, .slice x.a.F.sa x.a.F.s.length x.a.F.sc, .slice x.a.F.A x.a.F.l.length x.a.F.c, .slice x.A x.l.length x.c] 82)).alloc (.cells #[.int .i64 y.a.N.k, .int .i64 y.a.N.n, .string y.a.N.t, .slice y.a.N.sa y.a.N.s.length y.a.N.sc, .slice y.a.N.A y.a.N.l.length y.a.N.c, .int .i64 y.a.dep, .int .i64 y.a.F.k, .int .i64 y.a.F.n, .string y.a.F.t, .slice y.a.F.sa y.a.F.s.length y.a.F.sc, .slice y.a.F.A y.a.F.l.length y.a.F.c, .slice y.A y.l.length y.c] 82) := ⟨_, rfl⟩
  rw [← hw2]
  have hb2 : Below w.heap.size w w2 := by rw [hw2]; exact ((Below.refl _ _).alloc (Nat.le_refl _) _).alloc (by simp) _
  have z2 : w.heap.size + 2 ≤ w2.heap.size := by rw [hw2]; simp
  have xa : Ka.Box w2 w.heap.size x := by rw [hw2]; exact (Ka.Box.new w x _).below ((Below.refl (w.heap.size + 1) _).alloc (by simp) _) (by omega)
  have xb : Ka.Box w2 (w.heap.size + 1) y := by rw [hw2]; have := Ka.Box.new (w.alloc (.cells #[.int .i64 x.a.N.k, .int .i64 x.a.N.n, .string x.a.N.t, .slice x.a.N.sa x.a.N.s.length x.a.N.sc, .slice x.a.N.A x.a.N.l.length x.a.N.c, .int .i64 x.a.dep, .int .i64 x.a.F.k, .int .i64 x.a.F.n, .string x.a.F.t, .slice x.a.F.sa x.a.F.s.length x.a.F.sc, .slice x.a.F.A x.a.F.l.length x.a.F.c, .slice x.A x.l.length x.c] 82)) y 82; simpa using this
  clear hw2
  have b2 := b0.trans (hb2.mono (by omega))
  have i_x := h_x.below b2
  have i_y := h_y.below b2
  clear hb2 b0
  have xaq := xa
  obtain ⟨xa_0, xa_1, xa_2, xa_3, xa_4, xa_5, xa_6, xa_7, xa_8, xa_9, xa_10, xa_11⟩ := xaq
  have xalt : w.heap.size < w2.heap.size := (by omega)
  have xbq := xb
  obtain ⟨xb_0, xb_1, xb_2, xb_3, xb_4, xb_5, xb_6, xb_7, xb_8, xb_9, xb_10, xb_11⟩ := xbq
  have xblt : w.heap.size + 1 < w2.heap.size := (by omega)
  go_wp2_with fail
  clear xa_0 xa_1 xa_2 xa_3 xa_4 xa_5 xa_6 xa_7 xa_8 xa_9 xa_10 xa_11 xalt
  clear xb_0 xb_1 xb_2 xb_3 xb_4 xb_5 xb_6 xb_7 xb_8 xb_9 xb_10 xb_11 xblt
  refine (seq_all x.a.N.size x.a.N y.a.N w.heap.size _ (by omega) (Ka.E_in i_x).1.N (Ka.E_in i_y).1.N (by omega)).mono ?_
  rintro e w3 ⟨rfl, hb3⟩
  have z3 := hb3.size
  have xa := xa.below hb3 (by omega)
  have xb := xb.below hb3 (by omega)
  have b3 := b2.trans (hb3.mono (by omega))
  have i_x := h_x.below b3
  have i_y := h_y.below b3
  clear hb3
  rw [Q_N.out]
  have xaq := xa
  obtain ⟨xa_0, xa_1, xa_2, xa_3, xa_4, xa_5, xa_6, xa_7, xa_8, xa_9, xa_10, xa_11⟩ := xaq
  have xalt : w.heap.size < w3.heap.size := (by omega)
  have xbq := xb
  obtain ⟨xb_0, xb_1, xb_2, xb_3, xb_4, xb_5, xb_6, xb_7, xb_8, xb_9, xb_10, xb_11⟩ := xbq
  have xblt : w.heap.size + 1 < w3.heap.size := (by omega)
  go_wp2_with fail
  clear xa_0 xa_1 xa_2 xa_3 xa_4 xa_5 xa_6 xa_7 xa_8 xa_9 xa_10 xa_11 xalt
  clear xb_0 xb_1 xb_2 xb_3 xb_4 xb_5 xb_6 xb_7 xb_8 xb_9 xb_10 xb_11 xblt
  refine (seq_all x.a.F.size x.a.F y.a.F w.heap.size _ (by omega) (Ka.E_in i_x).1.F (Ka.E_in i_y).1.F (by omega)).mono ?_
  rintro e w4 ⟨rfl, hb4⟩
  have z4 := hb4.size
  have xa := xa.below hb4 (by omega)
  have xb := xb.below hb4 (by omega)
  have b4 := b3.trans (hb4.mono (by omega))
  have i_x := h_x.below b4
  have i_y := h_y.below b4
  clear hb4
  rw [Q_F.out]
  have xaq := xa
  obtain ⟨xa_0, xa_1, xa_2, xa_3, xa_4, xa_5, xa_6, xa_7, xa_8, xa_9, xa_10, xa_11⟩ := xaq
  have xalt : w.heap.size < w4.heap.size := (by omega)
  have xbq := xb
  obtain ⟨xb_0, xb_1, xb_2, xb_3, xb_4, xb_5, xb_6, xb_7, xb_8, xb_9, xb_10, xb_11⟩ := xbq
  have xblt : w.heap.size + 1 < w4.heap.size := (by omega)
  go_wp2_with fail
  clear xa_0 xa_1 xa_2 xa_3 xa_4 xa_5 xa_6 xa_7 xa_8 xa_9 xa_10 xa_11 xalt
  clear xb_0 xb_1 xb_2 xb_3 xb_4 xb_5 xb_6 xb_7 xb_8 xb_9 xb_10 xb_11 xblt
  refine (ihL x.A x.c x.l y.A y.c y.l w.heap.size _ hmm HEL.out (Ka.E_in i_x).2 (Ka.E_in i_y).2 (by omega)).mono ?_
  rintro e w5 ⟨rfl, hb5⟩
  have z5 := hb5.size
  have xa := xa.below hb5 (by omega)
  have xb := xb.below hb5 (by omega)
  have b5 := b4.trans (hb5.mono (by omega))
  have i_x := h_x.below b5
  have i_y := h_y.below b5
  clear hb5
  have xaq := xa
  obtain ⟨xa_0, xa_1, xa_2, xa_3, xa_4, xa_5, xa_6, xa_7, xa_8, xa_9, xa_10, xa_11⟩ := xaq
  have xalt : w.heap.size < w5.heap.size := (by omega)
  have xbq := xb
  obtain ⟨xb_0, xb_1, xb_2, xb_3, xb_4, xb_5, xb_6, xb_7, xb_8, xb_9, xb_10, xb_11⟩ := xbq
  have xblt : w.heap.size + 1 < w5.heap.size := (by omega)
  go_wp2_with fail
  clear xa_0 xa_1 xa_2 xa_3 xa_4 xa_5 xa_6 xa_7 xa_8 xa_9 xa_10 xa_11 xalt
  clear xb_0 xb_1 xb_2 xb_3 xb_4 xb_5 xb_6 xb_7 xb_8 xb_9 xb_10 xb_11 xblt
  go_ret
  exact ⟨rfl, b5⟩
theorem Ka_eq_any : ∀ m, KaEqOk m := by
  intro m
  induction m with
  | zero => intro x y B w h; have := x.size_pos; omega
  | succ m ih => exact Ka_eq_step m (Ka_eqL_step m ih)
theorem Ka_eqL_any (A : Option Addr) (c : Nat) (l : List (Tr Ka)) (A' : Option Addr) (c' : Nat) (l' : List (Tr Ka)) (B : Nat) (w : World) (he : Tr.erL Ka.er l = Tr.erL Ka.er l') (hin : Ka.E.LIn w B A c l) (hin' : Ka.E.LIn w B A' c' l') (hB : B ≤ w.heap.size) :
    Calls Tryz.prog 17 #[.slice A l.length c, .slice A' l'.length c'] w fun e w' => e = .returned (.bool true) ∧ Below w.heap.size w w' :=
  Ka_eqL_step _ (Ka_eq_any _) A c l A' c' l' B w (Nat.le_refl _) he hin hin' hB
end Go.Proofs.YtnldlbglgalbaabGreat

namespace Go.Proofs.YtnldlbglgalbaabGreat
open Go.RowKit

namespace S
theorem isDots_er (d : S) : isDots (er d) = isDots d := isDots_of_er (er_er d)
theorem fits_er (f g : S → Option Int) (hfg : ∀ x : S, g (er x) = f x) : ∀ d : S, ∀ n : Int, fitsM g (er d) n = fitsM f d n ∧ drives g (er d) n = drives f d n := by
  intro d
  induction d using ind with
  | h d ih =>
    intro n
    have key : ∀ (k : Nat) (l : List S), l.length ≤ k → (∀ x ∈ l, x ∈ d.l) → ∀ n : Int, fitsML g (erL l) n = fitsML f l n ∧ drivesL g (erL l) n = drivesL f l n := by
      intro k
      induction k with
      | zero =>
        intro l hl _ n
        obtain rfl := List.length_eq_zero_iff.1 (Nat.le_zero.1 hl)
        simp [erL, fitsML, drivesL]
      | succ k ik =>
        intro l hl hm n
        match l, hl, hm with
        | [], _, _ => simp [erL, fitsML, drivesL]
        | [x], _, hm =>
          have hx := ih x (hm x (by simp))
          simp only [erL, fitsML, drivesL, (hx n).1, (hx n).2, and_self]
        | x :: y :: r, hl, hm =>
          simp only [List.length_cons] at hl
          have hx := ih x (hm x (by simp))
          have h1 := ik (y :: r) (by simp; omega) (fun z hz => hm z (by simp at hz ⊢; right; exact hz)) n
          have h2 := ik r (by omega) (fun z hz => hm z (by simp [hz])) n
          simp only [erL] at h1
          refine ⟨?_, ?_⟩
          · simp only [erL]
            rw [fitsML, fitsML, (hx n).1, (hx n).2, (hx (n + 1)).1, h1.1, h2.1, isDots_er, isDots_er]
          · show (drives g (er x) n || drivesL g (er y :: erL r) n) = (drives f x n || drivesL f (y :: r) n)
            rw [(hx n).2, h1.2]
    have hl := key d.l.length d.l (Nat.le_refl _) (fun _ h => h) n
    have e1 : (er d).k = d.k := k_of_er (er_er d)
    have e2 : (er d).l = erL d.l := by cases d; rfl
    rw [fitsM_eq, fitsM_eq, drives_eq, drives_eq, e1, e2, hl.1, hl.2, isDots_er, hfg d]
    constructor <;> (split <;> rfl)
end S
theorem Ka.erL_idem (l : List (Tr Ka)) : Tr.erL Ka.er (Tr.erL Ka.er l) = Tr.erL Ka.er l := by
  have key : ∀ d : Tr Ka, (d.er Ka.er).er Ka.er = d.er Ka.er := by
    intro d
    induction d using Tr.ind with
    | h d ih =>
      cases d with
      | mk a A c l =>
        have k2 : ∀ m : List (Tr Ka), (∀ x ∈ m, x ∈ l) → Tr.erL Ka.er (Tr.erL Ka.er m) = Tr.erL Ka.er m := by
          intro m
          induction m with
          | nil => intro _; rfl
          | cons x r ihr => intro hs; simp only [Tr.erL, ih x (hs x (by simp)), ihr fun y hy => hs y (by simp [hy])]
        simp only [Tr.er, Ka.er_er, k2 l fun _ h => h]
  rw [Tr.erL_map, Tr.erL_map, List.map_map]
  congr 1
  funext d
  exact key d
theorem Ka.er_a (x : Tr Ka) : (x.er Ka.er).a = Ka.er x.a := by cases x; rfl
theorem Ka.samM_er (d : S) (x : Tr Ka) : Ka.samM (S.er d) (x.er Ka.er) = Ka.samM d x := by
  unfold Ka.samM
  rw [Ka.er_a, S.isDots_er]
  show ((S.er x.a.N).t.toList == (S.er d).t.toList && (S.er x.a.N).s == (S.er d).s && (!d.isDots && (S.er x.a.N).isI)) = _
  rw [S.t_of_er (S.er_er x.a.N), S.t_of_er (S.er_er d), S.s_of_er (S.er_er x.a.N), S.s_of_er (S.er_er d), S.isI_of_er (S.er_er x.a.N)]
theorem Ka.okV_er (x : Tr Ka) : Ka.okV (x.er Ka.er) = Ka.okV x := by
  unfold Ka.okV
  rw [Ka.er_a]
  show ((S.er x.a.N).isI && decide (0 ≤ x.a.dep)) = _
  rw [S.isI_of_er (S.er_er x.a.N)]
theorem Ka.mdep_er (l : List (Tr Ka)) (d : S) : Ka.mdep (Tr.erL Ka.er l) (S.er d) = Ka.mdep l d := by
  unfold Ka.mdep
  rw [Tr.erL_map, List.find?_map]
  have e : (Ka.samM (S.er d) ∘ Tr.er Ka.er) = Ka.samM d := by funext x; exact Ka.samM_er d x
  rw [e]
  cases l.find? (Ka.samM d) with
  | none => rfl
  | some x => simp only [Option.map_some]; rw [Ka.er_a]; rfl
theorem Ka.tfits_canon (l : List (Tr Ka)) (d : S) : Ka.tfits (Tr.erL Ka.er l) (S.er d) = Ka.tfits l d := by
  unfold Ka.tfits
  rw [S.isS_of_er (S.er_er d), (S.fits_er (Ka.mdep l) (Ka.mdep (Tr.erL Ka.er l)) (Ka.mdep_er l) d 0).1, Tr.erL_map, List.all_map]
  have e : (Ka.okV ∘ Tr.er Ka.er) = Ka.okV := by funext x; exact Ka.okV_er x
  rw [e]
theorem Ka.tfits_er {l l0 : List (Tr Ka)} {d d0 : S} (hl : Tr.erL Ka.er l = Tr.erL Ka.er l0) (hd : d.er = d0.er) : Ka.tfits l d = Ka.tfits l0 d0 := by
  rw [← Ka.tfits_canon l d, hl, hd, Ka.tfits_canon]
theorem specTf_c (A : Option Addr) (c : Nat) (l : List (Tr Ka)) (d : S) {l0 : List (Tr Ka)} {d0 : S} (B : Nat) (w : World) (hl : Tr.erL Ka.er l = Tr.erL Ka.er l0) (hd : d.er = d0.er) {X : Bool} (hX : X = Ka.tfits l0 d0) (hbl : Tr.bulkL Ka.bulk l0 ≤ 1500000) (hds : d0.size ≤ 2000000) (ha : Ka.E.LIn w B A c l) (hin : d.In w B) (hB : B ≤ w.heap.size) :
    Calls Tryz.prog 35 #[.slice A l.length c, d.val] w fun e w' => e = .returned (.bool X) ∧ Below w.heap.size w w' := by
  rw [hX, ← Ka.tfits_er hl hd]
  exact specTf_any A c l d B w ha hin hB (by rw [Tr.bulkL_of_er (fun _ _ => Ka.bulk_of_er) l l0 hl]; exact hbl) (by rw [S.size_of_er hd]; exact hds)
theorem implTf_c (A : Option Addr) (c : Nat) (l : List (Tr Ka)) (d : S) {l0 : List (Tr Ka)} {d0 : S} (B : Nat) (w : World) (hl : Tr.erL Ka.er l = Tr.erL Ka.er l0) (hd : d.er = d0.er) {X : Bool} (hX : X = Ka.tfits l0 d0) (hbl : Tr.bulkL Ka.bulk l0 ≤ 1500000) (hds : d0.size ≤ 2000000) (ha : Ka.E.LIn w B A c l) (hin : d.In w B) (hB : B ≤ w.heap.size) :
    Calls Tryz.prog 78 #[.slice A l.length c, d.val] w fun e w' => e = .returned (.bool X) ∧ Below w.heap.size w w' := by
  rw [hX, ← Ka.tfits_er hl hd]
  exact implTf_any A c l d B w ha hin hB (by have := congrArg List.length hl; rw [Tr.erL_length, Tr.erL_length] at this; have := Tr.length_le_sizeL l0; have := Tr.sizeL_le_bulkL Ka.bulk l0; omega) (by rw [S.size_of_er hd]; exact hds)

end Go.Proofs.YtnldlbglgalbaabGreat

namespace Go.Proofs.YtnldlbglgalbaabGreat
open Go.RowKit
theorem S.varsM_behind (f : S → Bool) (A : Option Addr) (p : S) : S.varsM f (S.behind A p) 0 [] = S.varsM f (S.behind none p) 0 [] := by
  rw [S.varsM_eq, S.varsM_eq]
  rfl
theorem Ka.tfits_of {ds : List (Tr Ka)} {V : List (S × Int)} (h : Tr.erL Ka.er ds = V.map S.kaOf) (t : S) : Ka.tfits ds t = Ka.tfits (V.map S.kaOf) t := by
  rw [← h]
  exact Ka.tfits_er (Ka.erL_idem ds).symm rfl
theorem S.clauseM_of {lits : List S} {p t x : S} {r : List S} (h1 : p.isS = true) (h2 : p.k = 0) (h3 : p.l = x :: r) (h4 : x.k = 1) (h5 : x.isDots = false) : S.clauseM lits p t = (match S.varsM (S.litM lits) (S.behind none p) 0 [] with | none => false | some V => Ka.tfits (V.map S.kaOf) t) := by
  unfold S.clauseM
  rw [h1, decide_eq_true h2, h3]
  simp only [Bool.true_and, decide_eq_true h4, h5, Bool.not_false]
  cases S.varsM (S.litM lits) (S.behind none p) 0 [] <;> rfl
theorem S.clauseM_no1 {lits : List S} {p t : S} (h : p.isS = false) : S.clauseM lits p t = false := by unfold S.clauseM; rw [h]; rfl
theorem S.clauseM_no2 {lits : List S} {p t : S} (h : ¬ p.k = 0) : S.clauseM lits p t = false := by unfold S.clauseM; rw [decide_eq_false h]; simp
theorem S.clauseM_no3 {lits : List S} {p t : S} (h : p.l = []) : S.clauseM lits p t = false := by unfold S.clauseM; rw [h]; simp
theorem S.clauseM_no4 {lits : List S} {p t x : S} {r : List S} (h : p.l = x :: r) (h2 : ¬ x.k = 1) : S.clauseM lits p t = false := by unfold S.clauseM; rw [h]; simp [h2]
theorem S.clauseM_no5 {lits : List S} {p t x : S} {r : List S} (h : p.l = x :: r) (h2 : x.isDots = true) : S.clauseM lits p t = false := by unfold S.clauseM; rw [h]; simp [h2]
theorem Ru.clausesM_step {lits l m : List S} {j : Nat} (h : j < l.length) (h' : j < m.length) : Ru.clausesM lits (l.drop j) (m.drop j) = (S.clauseM lits l[j] m[j] && Ru.clausesM lits (l.drop (j + 1)) (m.drop (j + 1))) := by
  rw [List.drop_eq_getElem_cons h, List.drop_eq_getElem_cons h', Ru.clausesM]
theorem Elem.Grown.made {α : Type} {E : Elem α} {t : TypeId} {base : Nat} (w : World) (hb : base ≤ w.heap.size) : E.Grown t base (w.alloc (.cells #[] t)) (.slice (some ⟨w.heap.size, 0, none⟩) 0 0) [] :=
  ⟨World.ownsRow_made w #[] 0 hb (by unfold maxLen; omega) (by simp), Elem.OwnL.nil_, by simp [Elem.blksL]⟩
/-- What l4Vars leaves, where its row is the call's own. -/
def GW (base : Nat) (R : Option (List (S × Int))) (w : World) (e : Ending) (w' : World) : Prop := match R with
  | none => e = .returned (.tuple #[.slice none 0 0, .bool false]) ∧ Below base w w'
  | some V => ∃ A c ds, e = .returned (.tuple #[.slice A (List.length ds) c, .bool true]) ∧ Ka.E.LIn w' w'.heap.size A c ds ∧ Tr.erL Ka.er ds = V.map S.kaOf ∧ Below base w w'
theorem GW.of_gv {base : Nat} {R : Option (List (S × Int))} {v : Value} {w w' : World} {e : Ending} (hub : ∀ t ∈ v.ownBlock.toList, base ≤ t) (hb : base ≤ w.heap.size) (h : GV base R v w e w') : GW base R w e w' := by
  cases R with
  | none => exact ⟨h.1, h.2.below (B := base) hub hb⟩
  | some V =>
    obtain ⟨v', ds, rfl, hG, he, hc, _⟩ := h
    obtain ⟨A, c, rfl, hown⟩ := hG.out
    exact ⟨A, c, ds, rfl, hown.inn, he, hc.below (B := base) hub hb⟩
/-- The sizes of what has been read. -/
theorem sizeL_take_succ (l : List S) (j : Nat) (h : j < l.length) : S.sizeL (l.take (j + 1)) = S.sizeL (l.take j) + l[j].size := by
  rw [List.take_succ_eq_append_getElem h, S.sizeL_append]; simp [S.sizeL]
theorem sizeL_take_le (l : List S) (j : Nat) : S.sizeL (l.take j) ≤ S.sizeL l := by
  have h := S.sizeL_append (l.take j) (l.drop j)
  rw [List.take_append_drop] at h
  omega

set_option maxRecDepth 100000 in
set_option maxHeartbeats 8000000 in
theorem specRules_any (x : Ru) (B : Nat) (w : World) (hin : x.In w B) (hB : B ≤ w.heap.size) (hz0 : ∀ y ∈ x.l0, y.size ≤ 2000000) (hz1 : ∀ y ∈ x.l1, y.size ≤ 1200000 ∧ y.bulk ≤ 1200000) (hz2 : ∀ y ∈ x.l2, y.size ≤ 1200000) (hs1 : S.sizeL x.l1 ≤ 2000000) (hs2 : S.sizeL x.l2 ≤ 2000000) :
    Calls Tryz.prog 7 #[x.val] w fun e w' => e = .returned (.bool (Ru.okM x)) ∧ Below w.heap.size w w' := by
  have HM : Hid (Ru.okM x = (S.areLits x.l0 && ((decide (x.l1.length = x.l2.length) && decide (1 ≤ x.l1.length ∧ x.l1.length ≤ 12)) && (Ru.clausesM x.l0 x.l1 x.l2 && decide (S.sizeL (x.l1 ++ x.l2) ≤ 2000))))) := rfl
  obtain ⟨OK, hOK⟩ : ∃ z, z = Ru.okM x := ⟨_, rfl⟩
  rw [← hOK] at HM ⊢
  clear hOK
  have hR0 := S.Row.of_itm hin.a
  have hR1 := S.Row.of_itm hin.b
  have hR2 := S.Row.of_itm hin.c
  have p0 := hR0.cap
  have p1 := hR1.cap
  have p2 := hR2.cap
  obtain ⟨W1, hW1⟩ : ∃ W1, W1 = w.alloc (.cells #[.slice x.A0 x.l0.length x.c0, .slice x.A1 x.l1.length x.c1, .slice x.A2 x.l2.length x.c2] 29) := ⟨_, rfl⟩
  have b1 : Below w.heap.size w W1 := by rw [hW1]; exact (Below.refl _ _).alloc (Nat.le_refl _) _
  have z1 : W1.heap.size = w.heap.size + 1 := by rw [hW1]; simp
  have X1 : Ru.Box W1 w.heap.size x := by rw [hW1]; exact Ru.Box.new _ _ _
  unfold Ru.val
  have hcl := l4Literals_any x.A0 x.c0 x.l0 B W1 (hR0.below (b1.mono hB)) (by omega) hz0
  obtain ⟨AL, hAL⟩ : ∃ z, z = S.areLits x.l0 := ⟨_, rfl⟩
  rw [← hAL] at HM hcl
  clear hAL
  have HCL := Lib.hid hcl
  clear hcl
  cases AL
  · have HQ : Hid (OK = false) := by show _ = _; rw [HM.out]; rfl
    go_enter Tryz.func7, Tryz.ntmps7
    go_upto_region 1 with fail
    rw [← hW1]
    clear hW1
    obtain ⟨x0, x1, x2⟩ := X1
    go_wp2_with fail
    (with_reducible refine HCL.out.mono ?_)
    rintro e w2 ⟨rfl, hb2⟩
    go_wp2_with fail
    go_ret
    exact ⟨ret_bool HQ.out.symm, b1.trans (hb2.mono (by omega))⟩
  have HM1 : Hid (OK = ((decide (x.l1.length = x.l2.length) && decide (1 ≤ x.l1.length ∧ x.l1.length ≤ 12)) && (Ru.clausesM x.l0 x.l1 x.l2 && decide (S.sizeL (x.l1 ++ x.l2) ≤ 2000)))) := by show _ = _; rw [HM.out]; rfl
  clear HM
  by_cases h1 : x.l1.length = x.l2.length
  · obtain ⟨LI, hLI⟩ : ∃ z, z = decide (1 ≤ x.l1.length ∧ x.l1.length ≤ 12) := ⟨_, rfl⟩
    have HLI : Hid (decide ((1 : Int) ≤ (x.l1.length : Int) ∧ (x.l1.length : Int) ≤ 12) = LI) := by
      show _ = _
      rw [hLI]
      apply decide_eq_decide.2
      omega
    have HM2 : Hid (OK = (LI && (Ru.clausesM x.l0 x.l1 x.l2 && decide (S.sizeL (x.l1 ++ x.l2) ≤ 2000)))) := by show _ = _; rw [HM1.out, decide_eq_true h1, ← hLI]; rfl
    have E1 : Hid (((x.l1.length : Int) != (x.l2.length : Int)) = false) := by show _ = _; simp [h1]
    have l12 : x.l1.length ≤ x.l2.length := by omega
    have l21 : x.l2.length ≤ x.l1.length := by omega
    clear h1 HM1
    cases LI
    · have HQ : Hid (OK = false) := by show _ = _; rw [HM2.out]; rfl
      clear hLI
      go_enter Tryz.func7, Tryz.ntmps7
      go_upto_region 1 with fail
      rw [← hW1]
      clear hW1
      have X1q := X1
      obtain ⟨x0, x1, x2⟩ := X1q
      go_wp2_with fail
      clear x0 x1 x2
      (with_reducible refine HCL.out.mono ?_)
      rintro e w2 ⟨rfl, hb2⟩
      obtain ⟨x0, x1, x2⟩ := X1.below hb2 (by omega)
      have e1 := E1.out
      go_wp2_with fail
      (with_reducible refine (l1In_any _ _ _ _).mono ?_)
      rintro e w3 ⟨rfl, rfl⟩
      rw [HLI.out]
      go_wp2_with fail
      go_ret
      exact ⟨ret_bool HQ.out.symm, b1.trans (hb2.mono (by omega))⟩
    · have hlen : 1 ≤ x.l1.length ∧ x.l1.length ≤ 12 := of_decide_eq_true hLI.symm
      have HQ : Hid (OK = (Ru.clausesM x.l0 (x.l1.drop 0) (x.l2.drop 0) && decide (S.sizeL (x.l1 ++ x.l2) ≤ 2000))) := by show _ = _; rw [HM2.out]; rfl
      have n1 : x.l1 ≠ [] := by intro e; rw [e] at hlen; simp at hlen
      have n2 : x.l2 ≠ [] := by intro e; rw [e] at l12; simp at l12; exact n1 l12
      have hL1 := hR1.2 n1
      have hL2 := hR2.2 n2
      clear hLI HM2 n1 n2
      go_enter Tryz.func7, Tryz.ntmps7
      go_upto_region 1 with fail
      rw [← hW1]
      clear hW1
      have X1q := X1
      obtain ⟨x0, x1, x2⟩ := X1q
      go_wp2_with fail
      clear x0 x1 x2
      (with_reducible refine HCL.out.mono ?_)
      rintro e w2 ⟨rfl, hb2⟩
      have z2 := hb2.size
      have b2 := b1.trans (hb2.mono (by omega))
      have X2 := X1.below hb2 (by omega)
      have X2q := X2
      obtain ⟨x0, x1, x2⟩ := X2q
      have e1 := E1.out
      go_wp2_with fail
      (with_reducible refine (l1In_any _ _ _ _).mono ?_)
      rintro e w3 ⟨rfl, rfl⟩
      rw [HLI.out]
      go_wp2_with fail
      clear x0 x1 x2
      go_loopw [3, 31] (fun n i wr => ∃ j : Nat, j ≤ x.l1.length ∧ i = .int .i64 j ∧ n = .int .i64 ((S.sizeL (x.l1.take j) : Int) + (S.sizeL (x.l2.take j) : Int)) ∧ Hid (OK = (Ru.clausesM x.l0 (x.l1.drop j) (x.l2.drop j) && decide (S.sizeL (x.l1 ++ x.l2) ≤ 2000))) ∧ Below w2.heap.size w2 wr) (fun _ i _ => x.l1.length - (intOf i).toNat)
      case atStart => exact ⟨0, Nat.zero_le _, rfl, by simp [S.sizeL], HQ, Below.refl _ _⟩
      case round =>
        clear HQ
        obtain ⟨j, hj, rfl, rfl, HF, hb⟩ := hrel
        have hs3 := hb.size
        have bw := b2.trans (hb.mono (by omega))
        by_cases hlt : j < x.l1.length
        · have hlt2 : j < x.l2.length := by omega
          obtain ⟨pb, po, hpA, hpblk, c0, c1, c2, c3, c4, hpi⟩ := S.atE (hL1.below (bw.mono hB)) (i := j) (x := x.l1[j]) (List.getElem?_eq_getElem hlt)
          obtain ⟨tb, tq, htA, htblk, d0, d1, d2, d3, d4, hti⟩ := S.atE (hL2.below (bw.mono hB)) (i := j) (x := x.l2[j]) (List.getElem?_eq_getElem hlt2)
          have HS : Hid (OK = ((S.clauseM x.l0 x.l1[j] x.l2[j] && Ru.clausesM x.l0 (x.l1.drop (j + 1)) (x.l2.drop (j + 1))) && decide (S.sizeL (x.l1 ++ x.l2) ≤ 2000))) := by show _ = _; rw [HF.out, Ru.clausesM_step hlt hlt2]
          have hp9 := hz1 _ (List.getElem_mem hlt)
          have ht9 := hz2 _ (List.getElem_mem hlt2)
          have hsP := sizeL_take_succ x.l1 j hlt
          have hsQ := sizeL_take_succ x.l2 j hlt2
          have hle1 := sizeL_take_le x.l1 (j + 1)
          have hle2 := sizeL_take_le x.l2 (j + 1)
          obtain ⟨P, hP⟩ : ∃ P, P = x.l1[j] := ⟨_, rfl⟩
          obtain ⟨Q, hQ⟩ : ∃ Q, Q = x.l2[j] := ⟨_, rfl⟩
          rw [← hP] at c0 c1 c2 c3 c4 hpi hp9 HS hsP
          rw [← hQ] at d0 d1 d2 d3 d4 hti ht9 HS hsQ
          clear hP hQ HF
          obtain ⟨N, hN⟩ : ∃ N : Int, N = ((S.sizeL (x.l1.take j) : Int) + (S.sizeL (x.l2.take j) : Int)) := ⟨_, rfl⟩
          rw [← hN]
          have HNx : Hid (N + (P.size : Int) + (Q.size : Int) = ((S.sizeL (x.l1.take (j + 1)) : Int) + (S.sizeL (x.l2.take (j + 1)) : Int))) := by show _ = _; omega
          have hN0 : 0 ≤ N := by omega
          have hN1 : N + (P.size : Int) + (Q.size : Int) ≤ 4000000 := by omega
          clear hsP hsQ hle1 hle2 hN
          have g1 : (j : Int) < (x.l1.length : Int) := by omega
          have g2 : (j : Int) < (x.l2.length : Int) := by omega
          have HPA := Lib.hid hpA
          have HTA := Lib.hid htA
          clear hpA htA
          obtain ⟨W4, hW4⟩ : ∃ W4, W4 = wr.alloc (.cells #[.int .i64 P.k, .int .i64 P.n, .string P.t, .slice P.sa P.s.length P.sc, .slice P.A P.l.length P.c] 43) := ⟨_, rfl⟩
          have bA : Below wr.heap.size wr W4 := by rw [hW4]; exact (Below.refl _ _).alloc (Nat.le_refl _) _
          have z4 : W4.heap.size = wr.heap.size + 1 := by rw [hW4]; simp
          have Y4 : S.Box W4 wr.heap.size P := by rw [hW4]; exact S.Box.new _ _ _
          have hb4 := hb.trans (bA.mono hs3)
          have bw4 := b2.trans (hb4.mono (by omega))
          have rt0 := (bA.cell (p := ⟨tb, tq + j * 5, none⟩) (show tb < _ by omega)).trans d0
          have rt1 := (bA.cell (p := ⟨tb, tq + j * 5 + 1, none⟩) (show tb < _ by omega)).trans d1
          have rt2 := (bA.cell (p := ⟨tb, tq + j * 5 + 2, none⟩) (show tb < _ by omega)).trans d2
          have rt3 := (bA.cell (p := ⟨tb, tq + j * 5 + 3, none⟩) (show tb < _ by omega)).trans d3
          have rt4 := (bA.cell (p := ⟨tb, tq + j * 5 + 4, none⟩) (show tb < _ by omega)).trans d4
          clear d0 d1 d2 d3 d4
          have RT : Hid (W4.cell? ⟨tb, tq + j * 5, none⟩ = some (.int .i64 Q.k) ∧ W4.cell? ⟨tb, tq + j * 5 + 1, none⟩ = some (.int .i64 Q.n) ∧ W4.cell? ⟨tb, tq + j * 5 + 2, none⟩ = some (.string Q.t) ∧ W4.cell? ⟨tb, tq + j * 5 + 3, none⟩ = some (.slice Q.sa Q.s.length Q.sc) ∧ W4.cell? ⟨tb, tq + j * 5 + 4, none⟩ = some (.slice Q.A Q.l.length Q.c)) := ⟨rt0, rt1, rt2, rt3, rt4⟩
          clear rt0 rt1 rt2 rt3 rt4
          have X4 := X2.below hb4 (by omega)
          have lx : w.heap.size < W4.heap.size := by omega
          have ly : wr.heap.size < W4.heap.size := by omega
          have lt_ : tb < W4.heap.size := by omega
          have hpi4 := hpi.below (bA.mono (by omega))
          have hti4 := hti.below (bA.mono (by omega))
          clear hpi hti
          have hcs := specIsS_any P B W4 hpi4 (by omega) (by omega)
          obtain ⟨IS, hIS⟩ : ∃ z, z = P.isS := ⟨_, rfl⟩
          rw [← hIS] at hcs
          have HIS := Lib.hid hIS
          clear hIS
          unfold S.val at hcs
          have HCS := Lib.hid hcs
          clear hcs
          rw [HPA.out]
          go_upto_region 7 with fail
          rw [← hW4]
          clear hW4 c0 c1 c2 c3 c4
          have Y4q := Y4
          obtain ⟨y0, y1, y2, y3, y4⟩ := Y4q
          go_wp2_with fail
          clear y0 y1 y2 y3 y4
          (with_reducible refine HCS.out.mono ?_)
          clear HCS
          rintro e w5 ⟨rfl, hb5⟩
          have z5 := hb5.size
          have bw5 := bw4.trans (hb5.mono (by omega))
          have Y5 := Y4.below hb5 (by omega)
          have Y5q := Y5
          obtain ⟨y0, y1, y2, y3, y4⟩ := Y5q
          cases IS
          · have HQ : Hid (OK = false) := by show _ = _; rw [HS.out, S.clauseM_no1 HIS.out.symm]; rfl
            go_wp2_with fail
            go_ret
            exact ⟨ret_bool HQ.out.symm, bw5⟩
          · by_cases hk : P.k = 0
            · have ek : (P.k != 0) = false := by simp [hk]
              have HK := Lib.hid hk
              clear hk
              cases hl : P.l with
              | nil =>
                have HQ : Hid (OK = false) := by show _ = _; rw [HS.out, S.clauseM_no3 hl]; rfl
                have el : ((P.l.length : Int) == 0) = true := by rw [hl]; rfl
                clear hl
                go_wp2_with fail
                go_ret
                exact ⟨ret_bool HQ.out.symm, bw5⟩
              | cons Y r =>
                have el : ((P.l.length : Int) == 0) = false := by rw [hl]; simp; omega
                have hl0 : 0 < P.l.length := by rw [hl]; simp
                have hne : P.l ≠ [] := by rw [hl]; simp
                have gl : (0 : Int) < (P.l.length : Int) := by omega
                obtain ⟨ib, io, hiA, hiblk, i0, i1, i2, i3, i4, hix⟩ := (hpi4.below (hb5.mono (by omega))).at_ (i := 0) (x := Y) (by rw [hl]; rfl)
                simp only [Nat.zero_mul, Nat.add_zero] at i0 i1 i2 i3 i4
                have HL := Lib.hid hl
                clear hl
                rw [hiA] at y4
                by_cases hyk : Y.k = 1
                · have eyk : (Y.k != 1) = false := by simp [hyk]
                  have HYK := Lib.hid hyk
                  clear hyk
                  have hdt := specDots_any Y w5
                  obtain ⟨YD, hYD⟩ : ∃ z, z = Y.isDots := ⟨_, rfl⟩
                  rw [← hYD] at hdt
                  have HYD := Lib.hid hYD
                  clear hYD
                  unfold S.val at hdt
                  go_wp2_with fail
                  clear i0 i1 i2 i3 i4 y0 y1 y2 y3 y4
                  (with_reducible refine hdt.mono ?_)
                  clear hdt
                  rintro e w6 ⟨rfl, hb6⟩
                  have z6 := hb6.size
                  have bw6 := bw5.trans (hb6.mono (by omega))
                  cases YD
                  · skip
                    have HCM := Lib.hid (S.clauseM_of (t := Q) (lits := x.l0) HIS.out.symm HK.out HL.out HYK.out HYD.out.symm)
                    obtain ⟨R, hR⟩ : ∃ z, z = S.varsM (S.litM x.l0) (S.behind none P) 0 [] := ⟨_, rfl⟩
                    have HVW : Hid (∀ V, R = some V → S.wV V ≤ 1 + (S.behind none P).bulk) := fun V h => by
                      have h2 := (S.varsM_w (S.litM x.l0) (S.behind none P) 0 [] V (hR.symm.trans h)).1
                      simp only [S.wV] at h2
                      omega
                    have hbb := (S.behind_size none hne).2
                    have HR := Lib.hid hR
                    rw [← hR] at HCM
                    clear hR HIS HYD HK HL HYK ek el eyk gl hix hiblk hiA Y5
                    have b46 : Below W4.heap.size W4 w6 := hb5.trans (hb6.mono (by omega))
                    have hpi6 := hpi4.below (b46.mono (by omega))
                    have hR06 := hR0.below (bw6.mono hB)
                    have X6 := X4.below b46 (by omega)
                    have Y6 := Y4.below b46 (by omega)
                    have r0 := X6.x0
                    have HY6 := Lib.hid Y6
                    have HX6 := Lib.hid X6
                    obtain ⟨ry0, ry1, ry2, ry3, ry4⟩ := Y6
                    have hB6 : B ≤ w6.heap.size := by omega
                    go_wp2_with fail
                    have hHb : ∀ A1, (S.behind A1 P).size ≤ P.size ∧ (S.behind A1 P).bulk ≤ P.bulk := fun A1 => S.behind_size A1 hne
                    have HTL : Hid (∀ u : World, P.In u B → B ≤ u.heap.size → Calls Tryz.prog 34 #[.agg #[.int .i64 P.k, .int .i64 P.n, .string P.t, .slice P.sa P.s.length P.sc, .slice P.A P.l.length P.c]] u fun e w' => ∃ A1, e = .returned (.agg #[.int .i64 0, .int .i64 0, .string ⟨#[]⟩, .slice none 0 0, .slice A1 (P.l.length - 1) (P.c - 1)]) ∧ (S.behind A1 P).In u B ∧ Below u.heap.size u w') := fun u h1 h2 => (sbehind_any P B u h1 h2 hne).mono fun e w' ⟨A1, he, hi, hb⟩ => ⟨A1, by rw [he]; show Ending.returned (.agg #[.int .i64 0, .int .i64 0, .string ⟨#[]⟩, .slice none 0 0, .slice A1 P.l.tail.length (P.c - 1)]) = _; rw [List.length_tail], hi, hb⟩
                    have HLV : Hid (∀ (u : World) (A1 : Option Addr) (g : Nat), (S.behind A1 P).In u B → w6.heap.size ≤ u.heap.size → Ka.E.Grown 82 w6.heap.size u (.slice (some ⟨g, 0, none⟩) 0 0) [] → S.Row u B x.A0 x.c0 x.l0 → Calls Tryz.prog 33 #[.slice x.A0 x.l0.length x.c0, .agg #[.int .i64 0, .int .i64 0, .string ⟨#[]⟩, .slice none 0 0, .slice A1 (P.l.length - 1) (P.c - 1)], .int .i64 0, .slice (some ⟨g, 0, none⟩) 0 0] u (GW w6.heap.size R u)) := by
                      intro u A1 g h1 h2 h3 h4
                      have hq := hHb A1
                      have h := l4Vars_any x.l0 x.A0 x.c0 (S.behind A1 P).size (S.behind A1 P) B w6.heap.size u 0 (.slice (some ⟨g, 0, none⟩) 0 0) [] [] (Nat.le_refl _) (by omega) (by omega) h4 h1 hB6 h2 h3 rfl (by simp only [S.wV]; omega) (by simp; omega) (by omega) (by omega)
                      rw [S.varsM_behind, ← HR.out] at h
                      have ht : (S.behind A1 P).val = .agg #[.int .i64 0, .int .i64 0, .string ⟨#[]⟩, .slice none 0 0, .slice A1 (P.l.length - 1) (P.c - 1)] := by rw [← List.length_tail]; rfl
                      rw [ht] at h
                      exact h.mono fun e w' hg => GW.of_gv (fun t ht => (h3.row.lt t (by simpa using ht)).1) h2 hg
                    have lx6 : w.heap.size < w6.heap.size := by omega
                    have ly6 : wr.heap.size < w6.heap.size := by omega
                    clear hHb HR
                    have tok0 : True := trivial
                    have tok1 : True := trivial
                    cases R with
                    | none =>
                      have HQ : Hid (OK = false) := by show _ = _; rw [HS.out, HCM.out]; rfl
                      go_region_held3 (fun w' => w'.cell? ⟨w.heap.size, 0, none⟩ = some (.slice x.A0 x.l0.length x.c0) ∧ w'.cell? ⟨wr.heap.size, 0, none⟩ = some (.int .i64 P.k) ∧ w'.cell? ⟨wr.heap.size, 1, none⟩ = some (.int .i64 P.n) ∧ w'.cell? ⟨wr.heap.size, 2, none⟩ = some (.string P.t) ∧ w'.cell? ⟨wr.heap.size, 3, none⟩ = some (.slice P.sa P.s.length P.sc) ∧ w'.cell? ⟨wr.heap.size, 4, none⟩ = some (.slice P.A P.l.length P.c)) (go_keep) (first
                        | (go_at_call 34; have _t := tok0; refine (HTL.out _ ?_ ?_).mono ?_; (first | exact hpi6.drew | exact (hpi6.below ((Below.refl _ _).alloc hB6 _)).drew); (first | exact hB6 | (show B ≤ (w6.alloc _).heap.size; simp; omega)); rintro e w7 ⟨A1, rfl, hTin, hk7⟩; clear tok0; have hh7 : Below w6.heap.size w6 w7 := (by first | exact below_undrew hk7 | exact ((Below.refl _ _).alloc (Nat.le_refl _) _).trans ((below_undrew hk7).mono (by simp))); have y7 := hh7.size; have hT7 : (S.behind A1 P).In w7 B := (by first | exact hTin.below (hk7.mono hB6) | exact hTin.below (hk7.mono (show B ≤ (w6.alloc _).heap.size by simp; omega))); have hR07 := hR06.below (hh7.mono hB6); have r0 := (hh7.cell (p := ⟨w.heap.size, 0, none⟩) lx6).trans r0; have ry0 := (hh7.cell (p := ⟨wr.heap.size, 0, none⟩) ly6).trans ry0; have ry1 := (hh7.cell (p := ⟨wr.heap.size, 1, none⟩) ly6).trans ry1; have ry2 := (hh7.cell (p := ⟨wr.heap.size, 2, none⟩) ly6).trans ry2; have ry3 := (hh7.cell (p := ⟨wr.heap.size, 3, none⟩) ly6).trans ry3; have ry4 := (hh7.cell (p := ⟨wr.heap.size, 4, none⟩) ly6).trans ry4)
                        | (go_at_call 33; have _t := tok1; refine (HLV.out _ A1 _ ?_ ?_ ?_ ?_).mono ?_; (first | exact hT7 | exact hT7.below ((Below.refl _ _).alloc (by omega) _)); (first | exact y7 | (simp; omega)); (first | exact Elem.Grown.made w7 y7 | exact Elem.Grown.below (Elem.Grown.made w6 (Nat.le_refl _)) (below_undrew hk7)); (first | exact hR07 | exact hR07.below ((Below.refl _ _).alloc (by omega) _)); rintro e w8 ⟨rfl, hc8⟩; clear tok1; have hb8 : Below w6.heap.size w6 w8 := (by first | exact hh7.trans hc8 | exact hh7.trans (((Below.refl _ _).alloc y7 _).trans hc8)); have r0 := (HX6.out.below hb8 lx6).x0; have Y8 := HY6.out.below hb8 ly6; obtain ⟨ry0, ry1, ry2, ry3, ry4⟩ := Y8))
                      all_goals go_wp2_with fail
                      all_goals go_ret
                      all_goals exact ⟨ret_bool HQ.out.symm, bw6.trans (hb8.mono (by omega))⟩
                    | some V =>
                      have HV9 := Lib.hid (HVW.out V rfl)
                      go_region_held3 (fun w' => w'.cell? ⟨w.heap.size, 0, none⟩ = some (.slice x.A0 x.l0.length x.c0) ∧ w'.cell? ⟨wr.heap.size, 0, none⟩ = some (.int .i64 P.k) ∧ w'.cell? ⟨wr.heap.size, 1, none⟩ = some (.int .i64 P.n) ∧ w'.cell? ⟨wr.heap.size, 2, none⟩ = some (.string P.t) ∧ w'.cell? ⟨wr.heap.size, 3, none⟩ = some (.slice P.sa P.s.length P.sc) ∧ w'.cell? ⟨wr.heap.size, 4, none⟩ = some (.slice P.A P.l.length P.c)) (go_keep) (first
                        | (go_at_call 34; have _t := tok0; refine (HTL.out _ ?_ ?_).mono ?_; (first | exact hpi6.drew | exact (hpi6.below ((Below.refl _ _).alloc hB6 _)).drew); (first | exact hB6 | (show B ≤ (w6.alloc _).heap.size; simp; omega)); rintro e w7 ⟨A1, rfl, hTin, hk7⟩; clear tok0; have hh7 : Below w6.heap.size w6 w7 := (by first | exact below_undrew hk7 | exact ((Below.refl _ _).alloc (Nat.le_refl _) _).trans ((below_undrew hk7).mono (by simp))); have y7 := hh7.size; have hT7 : (S.behind A1 P).In w7 B := (by first | exact hTin.below (hk7.mono hB6) | exact hTin.below (hk7.mono (show B ≤ (w6.alloc _).heap.size by simp; omega))); have hR07 := hR06.below (hh7.mono hB6); have r0 := (hh7.cell (p := ⟨w.heap.size, 0, none⟩) lx6).trans r0; have ry0 := (hh7.cell (p := ⟨wr.heap.size, 0, none⟩) ly6).trans ry0; have ry1 := (hh7.cell (p := ⟨wr.heap.size, 1, none⟩) ly6).trans ry1; have ry2 := (hh7.cell (p := ⟨wr.heap.size, 2, none⟩) ly6).trans ry2; have ry3 := (hh7.cell (p := ⟨wr.heap.size, 3, none⟩) ly6).trans ry3; have ry4 := (hh7.cell (p := ⟨wr.heap.size, 4, none⟩) ly6).trans ry4)
                        | (go_at_call 33; have _t := tok1; refine (HLV.out _ A1 _ ?_ ?_ ?_ ?_).mono ?_; (first | exact hT7 | exact hT7.below ((Below.refl _ _).alloc (by omega) _)); (first | exact y7 | (simp; omega)); (first | exact Elem.Grown.made w7 y7 | exact Elem.Grown.below (Elem.Grown.made w6 (Nat.le_refl _)) (below_undrew hk7)); (first | exact hR07 | exact hR07.below ((Below.refl _ _).alloc (by omega) _)); rintro e w8 ⟨A9, c9, ds9, rfl, hin9, he9, hc8⟩; clear tok1; have hb8 : Below w6.heap.size w6 w8 := (by first | exact hh7.trans hc8 | exact hh7.trans (((Below.refl _ _).alloc y7 _).trans hc8)); have r0 := (HX6.out.below hb8 lx6).x0; have Y8 := HY6.out.below hb8 ly6; obtain ⟨ry0, ry1, ry2, ry3, ry4⟩ := Y8))
                      all_goals clear r0 ry0 ry1 ry2 ry3 ry4
                      all_goals
                        have b48 : Below W4.heap.size W4 w8 := b46.trans (hb8.mono (by omega))
                        have y8 := hb8.size
                        have bw8 := bw6.trans (hb8.mono (by omega))
                        have X8 := HX6.out.below hb8 lx6
                        have Y8 := HY6.out.below hb8 ly6
                        obtain ⟨q0, q1, q2, q3, q4⟩ := RT.out
                        have t0 := (b48.cell (p := ⟨tb, tq + j * 5, none⟩) lt_).trans q0
                        have t1 := (b48.cell (p := ⟨tb, tq + j * 5 + 1, none⟩) lt_).trans q1
                        have t2 := (b48.cell (p := ⟨tb, tq + j * 5 + 2, none⟩) lt_).trans q2
                        have t3 := (b48.cell (p := ⟨tb, tq + j * 5 + 3, none⟩) lt_).trans q3
                        have t4 := (b48.cell (p := ⟨tb, tq + j * 5 + 4, none⟩) lt_).trans q4
                        clear q0 q1 q2 q3 q4
                        have HT8 : Hid (w8.cell? ⟨tb, tq + j * 5, none⟩ = some (.int .i64 Q.k) ∧ w8.cell? ⟨tb, tq + j * 5 + 1, none⟩ = some (.int .i64 Q.n) ∧ w8.cell? ⟨tb, tq + j * 5 + 2, none⟩ = some (.string Q.t) ∧ w8.cell? ⟨tb, tq + j * 5 + 3, none⟩ = some (.slice Q.sa Q.s.length Q.sc) ∧ w8.cell? ⟨tb, tq + j * 5 + 4, none⟩ = some (.slice Q.A Q.l.length Q.c)) := ⟨t0, t1, t2, t3, t4⟩
                        have htf := specTf_any A9 c9 ds9 Q w8.heap.size w8 hin9 ((hti4.below (b48.mono (by omega))).more (by omega)) (Nat.le_refl _) (by rw [S.bulk_kaOf he9]; have := HV9.out; omega) (by omega)
                        rw [Ka.tfits_of he9] at htf
                        obtain ⟨TF, hTF⟩ : ∃ z, z = Ka.tfits (V.map S.kaOf) Q := ⟨_, rfl⟩
                        have HCV : Hid (S.clauseM x.l0 P Q = TF) := by show _ = _; rw [HCM.out, hTF]
                        rw [← hTF] at htf
                        unfold S.val at htf
                        clear hTF HCM
                        have HTF := Lib.hid htf
                        have HX8 := Lib.hid X8
                        have HY8 := Lib.hid Y8
                        clear htf Y8 he9 hin9 HV9 HVW HTL HLV
                        have a2 := X8.x2
                        rw [HTA.out] at a2
                        clear X8
                        cases TF
                        · have HQ : Hid (OK = false) := by show _ = _; rw [HS.out, HCV.out]; rfl
                          go_wp2_with fail
                          refine HTF.out.mono ?_
                          rintro e w9 ⟨rfl, hb9⟩
                          go_wp2_with fail
                          go_ret
                          exact ⟨ret_bool HQ.out.symm, bw8.trans (hb9.mono (by omega))⟩
                        · have HQ : Hid (OK = (Ru.clausesM x.l0 (x.l1.drop (j + 1)) (x.l2.drop (j + 1)) && decide (S.sizeL (x.l1 ++ x.l2) ≤ 2000))) := by show _ = _; rw [HS.out, HCV.out, Bool.true_and]
                          go_wp2_with fail
                          clear a2 t0 t1 t2 t3 t4
                          refine HTF.out.mono ?_
                          rintro e w9 ⟨rfl, hb9⟩
                          have y9 := hb9.size
                          have b49 : Below W4.heap.size W4 w9 := b48.trans (hb9.mono (by omega))
                          have X9 := HX8.out.below hb9 (by omega)
                          have Y9 := HY8.out.below hb9 (by omega)
                          obtain ⟨Y9x0, Y9x1, Y9x2, Y9x3, Y9x4⟩ := Y9
                          obtain ⟨q0, q1, q2, q3, q4⟩ := HT8.out
                          have t0 := (hb9.cell (p := ⟨tb, tq + j * 5, none⟩) (show tb < _ by omega)).trans q0
                          have t1 := (hb9.cell (p := ⟨tb, tq + j * 5 + 1, none⟩) (show tb < _ by omega)).trans q1
                          have t2 := (hb9.cell (p := ⟨tb, tq + j * 5 + 2, none⟩) (show tb < _ by omega)).trans q2
                          have t3 := (hb9.cell (p := ⟨tb, tq + j * 5 + 3, none⟩) (show tb < _ by omega)).trans q3
                          have t4 := (hb9.cell (p := ⟨tb, tq + j * 5 + 4, none⟩) (show tb < _ by omega)).trans q4
                          clear q0 q1 q2 q3 q4
                          have lx9 : w.heap.size < w9.heap.size := by omega
                          have ly9 : wr.heap.size < w9.heap.size := by omega
                          have lt9 : tb < w9.heap.size := by omega
                          have hB9 : B ≤ w9.heap.size := by omega
                          have k2 : ∀ z : Near w9, z.at_.cell? ⟨w.heap.size, 2, none⟩ = some (.slice (some ⟨tb, tq, none⟩) x.l2.length x.c2) := fun z => by rw [← HTA.out]; exact z.cell 2 X9.x2 lx9
                          have yy0 : ∀ z : Near w9, z.at_.cell? ⟨wr.heap.size, 0, none⟩ = some (.int .i64 P.k) := fun z => z.cell 0 Y9x0 ly9
                          have yy1 : ∀ z : Near w9, z.at_.cell? ⟨wr.heap.size, 1, none⟩ = some (.int .i64 P.n) := fun z => z.cell 1 Y9x1 ly9
                          have yy2 : ∀ z : Near w9, z.at_.cell? ⟨wr.heap.size, 2, none⟩ = some (.string P.t) := fun z => z.cell 2 Y9x2 ly9
                          have yy3 : ∀ z : Near w9, z.at_.cell? ⟨wr.heap.size, 3, none⟩ = some (.slice P.sa P.s.length P.sc) := fun z => z.cell 3 Y9x3 ly9
                          have yy4 : ∀ z : Near w9, z.at_.cell? ⟨wr.heap.size, 4, none⟩ = some (.slice P.A P.l.length P.c) := fun z => z.cell 4 Y9x4 ly9
                          have tt0 : ∀ z : Near w9, z.at_.cell? ⟨tb, tq + j * 5, none⟩ = some (.int .i64 Q.k) := fun z => z.cell (tq + j * 5) t0 lt9
                          have tt1 : ∀ z : Near w9, z.at_.cell? ⟨tb, tq + j * 5 + 1, none⟩ = some (.int .i64 Q.n) := fun z => z.cell (tq + j * 5 + 1) t1 lt9
                          have tt2 : ∀ z : Near w9, z.at_.cell? ⟨tb, tq + j * 5 + 2, none⟩ = some (.string Q.t) := fun z => z.cell (tq + j * 5 + 2) t2 lt9
                          have tt3 : ∀ z : Near w9, z.at_.cell? ⟨tb, tq + j * 5 + 3, none⟩ = some (.slice Q.sa Q.s.length Q.sc) := fun z => z.cell (tq + j * 5 + 3) t3 lt9
                          have tt4 : ∀ z : Near w9, z.at_.cell? ⟨tb, tq + j * 5 + 4, none⟩ = some (.slice Q.A Q.l.length Q.c) := fun z => z.cell (tq + j * 5 + 4) t4 lt9
                          have HP : Hid (∀ z : Near w9, Calls Tryz.prog 36 #[.agg #[.int .i64 P.k, .int .i64 P.n, .string P.t, .slice P.sa P.s.length P.sc, .slice P.A P.l.length P.c]] z.at_ fun e w' => e = .returned (.int .i64 P.size) ∧ Below z.at_.heap.size z.at_ w') := fun z => specSCount_any 2000000 P B z.at_ (by omega) (Nat.le_refl _) ((hpi4.below (b49.mono (by omega))).below (z.below.mono hB9)) (Nat.le_trans hB9 z.size)
                          have HQc : Hid (∀ z : Near w9, Calls Tryz.prog 36 #[.agg #[.int .i64 Q.k, .int .i64 Q.n, .string Q.t, .slice Q.sa Q.s.length Q.sc, .slice Q.A Q.l.length Q.c]] z.at_ fun e w' => e = .returned (.int .i64 Q.size) ∧ Below z.at_.heap.size z.at_ w') := fun z => specSCount_any 2000000 Q B z.at_ (by omega) (Nat.le_refl _) ((hti4.below (b49.mono (by omega))).below (z.below.mono hB9)) (Nat.le_trans hB9 z.size)
                          have g0 : (0 : Int) ≤ (j : Int) := by omega
                          clear t0 t1 t2 t3 t4 X9
                          go_wp2_with fail
                          refine wp_region_near (by kernel_rfl) (by kernel_rfl) ?_
                          repeat (go_big_quiet_step ((first | (go_at_call 36; with_reducible exact Calls.near (HP.out _)) | (go_at_call 36; with_reducible exact Calls.near (HQc.out _)))))
                          refine wpQuiet_nil ?_
                          intro _ hw1
                          obtain ⟨nx, hw2⟩ := hw1
                          subst hw2
                          have hbx : Below w2.heap.size w2 nx.at_ := hb4.trans ((b49.trans (nx.below.mono (by omega))).mono (by omega))
                          go_wp2_with fail
                          exact ⟨⟨j + 1, by omega, by go_num, by rw [HNx.out], HQ, hbx⟩, by simp [intOf]; omega⟩
                  · have HQ : Hid (OK = false) := by show _ = _; rw [HS.out, S.clauseM_no5 HL.out HYD.out.symm]; rfl
                    go_wp2_with fail
                    go_ret
                    exact ⟨ret_bool HQ.out.symm, bw6⟩
                · have HQ : Hid (OK = false) := by show _ = _; rw [HS.out, S.clauseM_no4 HL.out hyk]; rfl
                  have eyk : (Y.k != 1) = true := by simpa using hyk
                  clear hyk
                  go_wp2_with fail
                  go_ret
                  exact ⟨ret_bool HQ.out.symm, bw5⟩
            · have HQ : Hid (OK = false) := by show _ = _; rw [HS.out, S.clauseM_no2 hk]; rfl
              have ek : (P.k != 0) = true := by simpa using hk
              clear hk
              go_wp2_with fail
              go_ret
              exact ⟨ret_bool HQ.out.symm, bw5⟩
        · have hj' : j = x.l1.length := by omega
          have e1 : x.l1.take j = x.l1 := List.take_of_length_le (by omega)
          have e2 : x.l2.take j = x.l2 := List.take_of_length_le (by omega)
          have HT : Hid (OK = decide (S.sizeL x.l1 + S.sizeL x.l2 ≤ 2000)) := by
            show _ = _
            rw [HF.out, List.drop_eq_nil_of_le (by omega : x.l1.length ≤ j), List.drop_eq_nil_of_le (by omega : x.l2.length ≤ j), Ru.clausesM, S.sizeL_append]
            · rfl
            · intro _ _ _ _ e; cases e
          rw [e1, e2]
          clear e1 e2
          by_cases hq : S.sizeL x.l1 + S.sizeL x.l2 ≤ 2000
          · have hq2 : decide ((S.sizeL x.l1 : Int) + (S.sizeL x.l2 : Int) ≤ 2000) = true := decide_eq_true (by omega)
            have HU : Hid (OK = true) := by show _ = _; rw [HT.out, decide_eq_true hq]
            go_wp2_with fail
            go_ret
            exact ⟨ret_bool (by rw [HU.out]), bw⟩
          · have hq2 : decide ((S.sizeL x.l1 : Int) + (S.sizeL x.l2 : Int) ≤ 2000) = false := decide_eq_false (by omega)
            have HU : Hid (OK = false) := by show _ = _; rw [HT.out, decide_eq_false hq]
            go_wp2_with fail
            go_ret
            exact ⟨ret_bool (by rw [HU.out]), bw⟩
  · have HQ : Hid (OK = false) := by show _ = _; rw [HM1.out, decide_eq_false h1]; rfl
    have E1 : Hid (((x.l1.length : Int) != (x.l2.length : Int)) = true) := by show _ = _; simp; omega
    clear h1 HM1
    go_enter Tryz.func7, Tryz.ntmps7
    go_upto_region 1 with fail
    rw [← hW1]
    clear hW1
    have X1q := X1
    obtain ⟨x0, x1, x2⟩ := X1q
    go_wp2_with fail
    clear x0 x1 x2
    (with_reducible refine HCL.out.mono ?_)
    rintro e w2 ⟨rfl, hb2⟩
    obtain ⟨x0, x1, x2⟩ := X1.below hb2 (by omega)
    have e1 := E1.out
    go_wp2_with fail
    go_ret
    exact ⟨ret_bool HQ.out.symm, b1.trans (hb2.mono (by omega))⟩
end Go.Proofs.YtnldlbglgalbaabGreat

namespace Go.Proofs.YtnldlbglgalbaabGreat
open Go.RowKit
namespace S
theorem isDots_erd (d : S) : isDots (er d) = isDots d := isDots_of_er (er_er d)
theorem isWild_erd (d : S) : isWild (er d) = isWild d := by unfold isWild; rw [k_of_er (er_er d), t_of_er (er_er d)]
theorem isNoneL_erd (d : S) : isNoneL (er d) = isNoneL d := by unfold isNoneL; rw [isI_of_er (er_er d), isDots_erd, isWild_erd]
theorem areLits_erL (l : List S) : areLits (erL l) = areLits l := by
  unfold areLits
  rw [erL_length, erL_map, List.any_map]
  have e : (isNoneL ∘ er) = isNoneL := by funext x; exact isNoneL_erd x
  rw [e]
theorem litM_erL (l : List S) (d : S) : litM (erL l) (er d) = litM l d := by
  unfold litM
  rw [erL_map, List.any_map]
  congr 1
  funext x
  show ((er x).t.toList == (er d).t.toList && (er x).s == (er d).s) = _
  rw [t_of_er (er_er x), t_of_er (er_er d), s_of_er (er_er x), s_of_er (er_er d)]
theorem headDots_erL (l : List S) : headDots (erL l) = headDots l := by
  cases l with
  | nil => rfl
  | cons x r => exact isDots_erd x
theorem okDots_erL (l : List S) : okDots (erL l) = okDots l := by
  unfold okDots
  rw [headDots_erL, erL_map, List.filter_map, List.length_map]
  have e : (isDots ∘ er) = isDots := by funext x; exact isDots_erd x
  rw [e]
theorem varsM_erd (f g : S → Bool) (hfg : ∀ x, g (er x) = f x) : ∀ (d : S) (v : Int) (out : List (S × Int)), varsM g (er d) v out = varsM f d v out := by
  intro d
  induction d using ind with
  | h d ih =>
    intro v out
    have key : ∀ l : List S, (∀ x ∈ l, x ∈ d.l) → ∀ (v : Int) (out : List (S × Int)), varsML g (erL l) v out = varsML f l v out := by
      intro l
      induction l with
      | nil => intro _ _ _; rfl
      | cons x r ih2 =>
        intro hm v out
        rw [erL, varsML, varsML, isDots_erd, headDots_erL, ih x (hm x (by simp))]
        by_cases hx : x.isDots = true
        · rw [if_pos hx, if_pos hx]
          exact ih2 (fun y hy => hm y (by simp [hy])) v out
        · rw [if_neg hx, if_neg hx]
          cases varsM f x (if headDots r = true then v + 1 else v) out with
          | none => rfl
          | some o => exact ih2 (fun y hy => hm y (by simp [hy])) v o
    have e2 : (er d).l = erL d.l := by cases d; rfl
    rw [varsM_eq, varsM_eq, k_of_er (er_er d), isWild_erd, hfg d, isDots_erd, er_er, e2, okDots_erL, key d.l (fun _ h => h)]
    have e3 : (fun x : S × Int => samN (er d) x.1) = fun x => samN d x.1 := by
      funext x
      unfold samN
      rw [t_of_er (er_er d), s_of_er (er_er d), isDots_erd]
    rw [e3]
theorem varsML_erL (f g : S → Bool) (hfg : ∀ x, g (er x) = f x) : ∀ (l : List S) (v : Int) (out : List (S × Int)), varsML g (erL l) v out = varsML f l v out
  | [], _, _ => rfl
  | x :: r, v, out => by
    rw [erL, varsML, varsML, isDots_erd, headDots_erL, varsM_erd f g hfg x]
    by_cases hx : x.isDots = true
    · rw [if_pos hx, if_pos hx]
      exact varsML_erL f g hfg r v out
    · rw [if_neg hx, if_neg hx]
      cases varsM f x (if headDots r = true then v + 1 else v) out with
      | none => rfl
      | some o => exact varsML_erL f g hfg r v o
theorem varsM_tail (f : S → Bool) (A : Option Addr) (p : S) : varsM f (behind A p) 0 [] = if okDots p.l.tail then varsML f p.l.tail 0 [] else none := by
  rw [varsM_eq]
  rfl
theorem tail_erL (l : List S) : (erL l).tail = erL l.tail := by cases l <;> rfl
theorem clauseM_erd (lits : List S) (p t : S) : clauseM (erL lits) (er p) (er t) = clauseM lits p t := by
  have e2 : (er p).l = erL p.l := by cases p; rfl
  have hv : varsM (litM (erL lits)) (behind none (er p)) 0 [] = varsM (litM lits) (behind none p) 0 [] := by
    rw [varsM_tail, varsM_tail, e2, tail_erL, okDots_erL, varsML_erL (litM lits) (litM (erL lits)) (litM_erL lits)]
  unfold clauseM
  rw [isS_of_er (er_er p), k_of_er (er_er p), hv]
  cases hl : p.l with
  | nil => rw [e2, hl]; rfl
  | cons x r =>
    rw [e2, hl]
    show (p.isS && (decide (p.k = 0) && (decide ((er x).k = 1) && (!(er x).isDots && _)))) = _
    rw [k_of_er (er_er x), isDots_erd]
    cases varsM (litM lits) (behind none p) 0 [] with
    | none => rfl
    | some V =>
      simp only
      rw [Ka.tfits_er (l := V.map kaOf) (l0 := V.map kaOf) rfl (er_er t)]
end S
namespace Ru
theorem clausesM_erL (lits : List S) : ∀ l m : List S, clausesM (S.erL lits) (S.erL l) (S.erL m) = clausesM lits l m
  | [], _ => by cases ‹List S› <;> rfl
  | _ :: _, [] => rfl
  | p :: ps, t :: ts => by
    rw [S.erL, S.erL, clausesM, clausesM, S.clauseM_erd, clausesM_erL lits ps ts]
theorem okM_of_er {x y : Ru} (h : x.er = y.er) : okM x = okM y := by
  have a := Prod.mk.inj h
  have b := Prod.mk.inj a.2
  have key : ∀ z : Ru, okM z = (S.areLits (S.erL z.l0) && ((decide ((S.erL z.l1).length = (S.erL z.l2).length) && decide (1 ≤ (S.erL z.l1).length ∧ (S.erL z.l1).length ≤ 12)) && (clausesM (S.erL z.l0) (S.erL z.l1) (S.erL z.l2) && decide (S.sizeL (S.erL z.l1) + S.sizeL (S.erL z.l2) ≤ 2000)))) := by
    intro z
    unfold okM
    rw [S.areLits_erL, S.erL_length, S.erL_length, clausesM_erL, S.sizeL_er, S.sizeL_er, S.sizeL_append]
  rw [key x, key y, a.1, b.1, b.2]
end Ru
theorem S.bulk_in {l : List S} {y : S} (h : y ∈ l) : y.bulk ≤ S.bulkL l ∧ y.size ≤ S.bulkL l + 1 := by
  obtain ⟨j, hj, rfl⟩ := List.mem_iff_getElem.1 h
  have h1 := S.bulkL_get l j hj
  have h2 := S.bulk_size l[j]
  exact ⟨h1, by omega⟩
theorem specIr_c (x : Ru) {x0 : Ru} (B : Nat) (w : World) (hxe : x.er = x0.er) {X : Bool} (hX : X = Ru.okM x0) (hbk0 : x0.bulk ≤ 1048576) (hx : x.In w B) (hB : B ≤ w.heap.size) :
    Calls Tryz.prog 7 #[x.val] w fun e w' => e = .returned (.bool X) ∧ Below w.heap.size w w' := by
  have hbk : S.bulkL x.l0 + S.bulkL x.l1 + S.bulkL x.l2 ≤ 1048576 := by
    have a := Prod.mk.inj hxe
    have b := Prod.mk.inj a.2
    rw [← (S.bulkL_er x.l0).1, ← (S.bulkL_er x.l1).1, ← (S.bulkL_er x.l2).1, a.1, b.1, b.2, (S.bulkL_er _).1, (S.bulkL_er _).1, (S.bulkL_er _).1]
    exact hbk0
  have h1 := S.bulkL_size x.l1
  have h2 := S.bulkL_size x.l2
  rw [hX, ← Ru.okM_of_er hxe]
  exact specRules_any x B w hx hB (fun y hy => by have := S.bulk_in hy; omega) (fun y hy => by have := S.bulk_in hy; omega) (fun y hy => by have := S.bulk_in hy; omega) (by omega) (by omega)
theorem implIr_c (x : Ru) {x0 : Ru} (B : Nat) (w : World) (hxe : x.er = x0.er) {X : Bool} (hX : X = Ru.okM x0) (hbk0 : x0.bulk ≤ 1048576) (hx : x.In w B) (hB : B ≤ w.heap.size) :
    Calls Tryz.prog 9 #[x.val] w fun e w' => e = .returned (.bool X) ∧ Below w.heap.size w w' := by
  have hbk : S.bulkL x.l0 + S.bulkL x.l1 + S.bulkL x.l2 ≤ 1048576 := by
    have a := Prod.mk.inj hxe
    have b := Prod.mk.inj a.2
    rw [← (S.bulkL_er x.l0).1, ← (S.bulkL_er x.l1).1, ← (S.bulkL_er x.l2).1, a.1, b.1, b.2, (S.bulkL_er _).1, (S.bulkL_er _).1, (S.bulkL_er _).1]
    exact hbk0
  have h1 := S.bulkL_size x.l1
  have h2 := S.bulkL_size x.l2
  rw [hX, ← Ru.okM_of_er hxe, Ru.ok_eq]
  exact implRules_any x B w hx hB (fun y hy => by have := S.bulk_in hy; omega) (fun y hy => by have := S.bulk_in hy; omega) (fun y hy => by have := S.bulk_in hy; omega)
end Go.Proofs.YtnldlbglgalbaabGreat
