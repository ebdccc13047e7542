/-
  Image: what it is and where it lies (written by gen/rec.py).
-/
import Derived.Test.YtpigpncbjckbcaaRecB
import Derived.Test.YtpigpncbjckbcaaRCd
import Derived.Test.YtpigpncbjckbcaaSTrees
import Derived.Deep.DeepCutAuto
import Derived.Deep.RegionHeld3
namespace Go.Proofs.Ytpigpncbjckbcaa
open Go.RowKit

structure Im where
  lA : Option Addr
  lC : Nat
  l : List Cd
  m : Int
namespace Im
def cells (x : Im) : List Value := [.slice x.lA x.l.length x.lC, .int .i64 x.m]
structure In (w : World) (B : Nat) (x : Im) : Prop where
  l : Cd.E.LIn w B x.lA x.lC x.l
def blks (x : Im) : List Nat := Cd.E.lblks x.lA x.l
def E : Elem Im where
  cells := cells
  n := 2
  pos := by decide
  len := fun _ => rfl
  one := by
    intro b u hu
    simp only [cells, List.mem_cons, List.not_mem_nil, or_false] at hu
    rcases hu with rfl | rfl <;> rfl
  In := In
  blks := blks
  lt := fun h b hb => h.l.blk_lt b hb
  keepB := fun h hk => ⟨h.l.keepB fun k hm => hk k hm⟩
  more := fun h hB => ⟨h.l.more hB⟩
theorem E_n : E.n = 2 := rfl
theorem E_in {w : World} {B : Nat} {d : Im} (h : E.In w B d) : In w B d := h
theorem E_mk {w : World} {B : Nat} {d : Im} (h : In w B d) : E.In w B d := h
abbrev Er := (List Cd.Er) × (Int)
def er (x : Im) : Er := (x.l.map Cd.er, x.m)
def bulk (x : Im) : Nat := Row.bulk Cd.bulk x.l
def val (d : Im) : Value := .agg #[.slice d.lA d.l.length d.lC, .int .i64 d.m]
theorem er_parts {x y : Im} (h : er x = er y) : x.l.map Cd.er = y.l.map Cd.er ∧ x.m = y.m := by
  unfold er at h
  obtain ⟨a0, h⟩ := Prod.mk.inj h
  exact ⟨a0, h⟩
theorem bulk_of_er {x y : Im} (h : er x = er y) : bulk x = bulk y := by
  obtain ⟨e_l, e_m⟩ := er_parts h
  unfold bulk
  rw [Row.bulk_of_er (fun _ _ => Cd.bulk_of_er) _ _ e_l]
theorem own_of {l0 l1 : Nat} {w : World} {x : Im} (h_l : Cd.E.LOwn l0 l1 w x.lA x.lC x.l) (h0 : l0 ≤ l1)  : E.Own l0 l1 w x := by
  refine ⟨⟨h_l.inn⟩, fun k hk => ?_, ?_, fun k hk o => ?_⟩
  · have := h_l.lo_ k hk; omega
  · exact h_l.nd
  · exact h_l.fr k hk o
/-- The cells of element i. -/
theorem at_ {w : World} {B : Nat} {A : Option Addr} {c : Nat} {l : List Im} (h : E.LIn w B A c l) {i : Nat} {x : Im} (hi : l[i]? = some x) :
    ∃ b o : Nat, A = some ⟨b, o, none⟩ ∧ b < B ∧ w.cell? ⟨b, o + i * 2, none⟩ = some (.slice x.lA x.l.length x.lC) ∧ w.cell? ⟨b, o + i * 2 + 1, none⟩ = some (.int .i64 x.m) ∧ E.In w B x := by
  obtain ⟨b, o, e, hb, hc, hx⟩ := h.at_ hi
  exact ⟨b, o, e, hb, hc 0 _ rfl, hc 1 _ rfl, hx⟩
/-- A variable that holds one. -/
structure Box (w : World) (g : Nat) (d : Im) : Prop where
  c0 : w.cell? ⟨g, 0, none⟩ = some (.slice d.lA d.l.length d.lC)
  c1 : w.cell? ⟨g, 1, none⟩ = some (.int .i64 d.m)
theorem Box.keep {w w' : World} {g : Nat} {d : Im} (h : Box w g d) (e : w'.heap[g]? = w.heap[g]?) : Box w' g d := by
  have e : ∀ q, w'.cell? ⟨g, q, none⟩ = w.cell? ⟨g, q, none⟩ := fun q => World.cell?_of_block (a := ⟨g, q, none⟩) e
  exact ⟨(e 0).trans h.c0, (e 1).trans h.c1⟩
theorem Box.below {w w' : World} {g B : Nat} {d : Im} (h : Box w g d) (hb : Below B w w') (hB : g < B) : Box w' g d := h.keep (hb.block g hB)
theorem Box.chg {w w' : World} {g : Nat} {d : Im} {T : List Nat} (h : Box w g d) (hb : Chg T w w') (hlt : g < w.heap.size) (hn : g ∉ T) : Box w' g d := h.keep (hb.block g hlt hn)
theorem Box.new (w : World) (d : Im) (t : TypeId) : Box (w.alloc (.cells #[.slice d.lA d.l.length d.lC, .int .i64 d.m] t)) w.heap.size d := by
  have h := D.Blk.new w t #[.slice d.lA d.l.length d.lC, .int .i64 d.m]
  exact ⟨h.cell 0, h.cell 1⟩
end Im

/-- Returned: one of the call's own. -/
def RetIm (x : Im.Er) (w : World) (e : Ending) (w' : World) : Prop := ∃ d : Im, e = .returned (Im.val d) ∧ Im.er d = x ∧ Im.E.Own w.heap.size w'.heap.size w' d ∧ Below w.heap.size w w'
/-- Returned: a list of the call's own. -/
def RetImL (x : List Im.Er) (w : World) (e : Ending) (w' : World) : Prop := ∃ (A : Option Addr) (c : Nat) (l : List Im), e = .returned (.slice A l.length c) ∧ l.map Im.er = x ∧ Im.E.LOwn w.heap.size w'.heap.size w' A c l ∧ Below w.heap.size w w'
end Go.Proofs.Ytpigpncbjckbcaa

namespace Go.Proofs.Ytpigpncbjckbcaa
open Go.RowKit

set_option maxRecDepth 100000 in
set_option maxHeartbeats 4000000 in
theorem Im_sz_any (d : Im) (B : Nat) (w : World) (left : Int) (h0 : 0 ≤ left) (h1 : left ≤ 1048576) (hin : Im.E.In w B d) (hB : B ≤ w.heap.size) :
    Calls Try.prog 9 #[Im.val d, .int .i64 left] w fun e w' => e = .returned (.int .i64 (szR (d.bulk) left)) ∧ Below w.heap.size w w' := by
  have h_d := Elem.In.more hin hB
  have hbu : ((d.bulk : Nat) : Int) = (Row.bulk Cd.bulk d.l : Int) := by unfold Im.bulk; omega
  unfold Im.val
  by_cases hz0 : (Row.bulk Cd.bulk d.l : Int) ≤ left
  · skip
    have HR : Hid (szR (d.bulk) left = left - (Row.bulk Cd.bulk d.l : Int)) := by show _ = _; rw [szR_yes (by omega)]; omega
    clear hbu
    have b0 : Below w.heap.size w w := Below.refl _ _
    have i_d := h_d
    go_enter Try.func9, Try.ntmps9
    go_wp2_with fail
    obtain ⟨w1, hw1⟩ : ∃ W, W = w.alloc (.cells #[.slice d.lA d.l.length d.lC, .int .i64 d.m] 26) := ⟨_, rfl⟩
    rw [← hw1]
    have hb1 : Below w.heap.size w w1 := by rw [hw1]; exact (Below.refl _ _).alloc (Nat.le_refl _) _
    have z1 : w.heap.size + 1 ≤ w1.heap.size := by rw [hw1]; simp
    have y1 : w1.heap.size ≤ w.heap.size + 1 := by rw [hw1]; simp
    have xb : Im.Box w1 w.heap.size d := by rw [hw1]; exact Im.Box.new _ _ _
    clear hw1
    have b1 := b0.trans (hb1.mono (by omega))
    have i_d := h_d.below b1
    clear hb1
    have xbq := xb
    obtain ⟨xb_0, xb_1⟩ := xbq
    have xblt : w.heap.size < w1.heap.size := (by omega)
    go_wp2_with fail
    clear xb_0 xb_1 xblt
    refine (Cd_szL_any d.lA d.lC d.l w.heap.size _ (left) (by omega) (by omega) (Im.E_in i_d).l (by omega)).mono ?_
    rintro e w2 ⟨rfl, hb2⟩
    have z2 := hb2.size
    have xb := xb.below hb2 (by omega)
    have b2 := b1.trans (hb2.mono (by omega))
    have i_d := h_d.below b2
    clear hb2
    rw [szR_yes (by omega)]
    have n0 : ¬ (left - (Row.bulk Cd.bulk d.l : Int) < 0) := by omega
    have xbq := xb
    obtain ⟨xb_0, xb_1⟩ := xbq
    have xblt : w.heap.size < w2.heap.size := (by omega)
    go_wp2_with fail
    clear xb_0 xb_1 xblt
    go_ret
    exact ⟨ret_int HR.out.symm, b2⟩
  · skip
    have HR : Hid (szR (d.bulk) left = -1) := szR_no (by omega)
    clear hbu
    have b0 : Below w.heap.size w w := Below.refl _ _
    have i_d := h_d
    go_enter Try.func9, Try.ntmps9
    go_wp2_with fail
    obtain ⟨w1, hw1⟩ : ∃ W, W = w.alloc (.cells #[.slice d.lA d.l.length d.lC, .int .i64 d.m] 26) := ⟨_, rfl⟩
    rw [← hw1]
    have hb1 : Below w.heap.size w w1 := by rw [hw1]; exact (Below.refl _ _).alloc (Nat.le_refl _) _
    have z1 : w.heap.size + 1 ≤ w1.heap.size := by rw [hw1]; simp
    have y1 : w1.heap.size ≤ w.heap.size + 1 := by rw [hw1]; simp
    have xb : Im.Box w1 w.heap.size d := by rw [hw1]; exact Im.Box.new _ _ _
    clear hw1
    have b1 := b0.trans (hb1.mono (by omega))
    have i_d := h_d.below b1
    clear hb1
    have xbq := xb
    obtain ⟨xb_0, xb_1⟩ := xbq
    have xblt : w.heap.size < w1.heap.size := (by omega)
    go_wp2_with fail
    clear xb_0 xb_1 xblt
    refine (Cd_szL_any d.lA d.lC d.l w.heap.size _ (left) (by omega) (by omega) (Im.E_in i_d).l (by omega)).mono ?_
    rintro e w2 ⟨rfl, hb2⟩
    have z2 := hb2.size
    have xb := xb.below hb2 (by omega)
    have b2 := b1.trans (hb2.mono (by omega))
    have i_d := h_d.below b2
    clear hb2
    rw [szR_no (by omega)]
    have xbq := xb
    obtain ⟨xb_0, xb_1⟩ := xbq
    have xblt : w.heap.size < w2.heap.size := (by omega)
    go_wp2_with fail
    clear xb_0 xb_1 xblt
    go_ret
    exact ⟨ret_int HR.out.symm, b2⟩
end Go.Proofs.Ytpigpncbjckbcaa

namespace Go.Proofs.Ytpigpncbjckbcaa
open Go.RowKit

set_option maxRecDepth 100000 in
set_option maxHeartbeats 8000000 in
theorem Im_to_any (x : Im) (B : Nat) (w : World) (hbk0 : x.bulk ≤ 1500000) (hin : Im.E.In w B x) (hB : B ≤ w.heap.size) : Calls Try.prog 11 #[Im.val x] w (RetIm (Im.er x) w) := by
  have hbk : Row.bulk Cd.bulk x.l ≤ 1500000 := hbk0
  clear hbk0
  obtain ⟨W1, hW1⟩ : ∃ W1, W1 = w.alloc (.cells #[.slice x.lA x.l.length x.lC, .int .i64 x.m] 26) := ⟨_, rfl⟩
  obtain ⟨W2, hW2⟩ : ∃ W2, W2 = W1.alloc (.cells #[.slice none 0 0, .int .i64 0] 31) := ⟨_, rfl⟩
  obtain ⟨W3, hW3⟩ : ∃ W3, W3 = W2.alloc (.cells #[.slice none 0 0, .int .i64 0] 31) := ⟨_, rfl⟩
  have z1 : W1.heap.size = w.heap.size + 1 := by rw [hW1]; simp
  have z2 : W2.heap.size = w.heap.size + 1 + 1 := by rw [hW2]; simp [z1]
  have z3 : W3.heap.size = w.heap.size + 1 + 1 + 1 := by rw [hW3]; simp [z2]
  have B1 : Below w.heap.size w W1 := by rw [hW1]; exact (Below.refl _ _).alloc (Nat.le_refl _) _
  have B2 : Below W1.heap.size W1 W2 := by rw [hW2]; exact (Below.refl _ _).alloc (Nat.le_refl _) _
  have B3 : Below W2.heap.size W2 W3 := by rw [hW3]; exact (Below.refl _ _).alloc (Nat.le_refl _) _
  have X0 : Im.Box W1 w.heap.size x := by rw [hW1]; exact Im.Box.new _ _ _
  have X0 := (X0.below B2 (by omega)).below B3 (by omega)
  have R0 : D.Blk W2 (w.heap.size + 1) 31 #[.slice none 0 0, .int .i64 0] := by rw [hW2, ← z1]; exact D.Blk.new _ _ _
  have R0 := R0.below B3 (by omega)
  have O0 : D.Blk W3 (w.heap.size + 1 + 1) 31 #[.slice none 0 0, .int .i64 0] := by rw [hW3, ← z2]; exact D.Blk.new _ _ _
  have b0 : Below w.heap.size w W3 := (B1.trans (B2.mono (by omega))).trans (B3.mono (by omega))
  have y3 : w.heap.size + 3 ≤ W3.heap.size := by omega
  have i0 := hin.below (b0.mono hB)
  unfold Im.val
  have X0q := X0
  obtain ⟨a0, a1⟩ := X0q
  go_enter Try.func11, Try.ntmps11
  go_wp2_with fail
  rw [← hW1, ← hW2, ← hW3]
  clear hW1 hW2 hW3 B1 B2 B3 z1 z2 z3 a0 a1
  refine (Cd_toL_any x.lA x.lC x.l B _ (by omega) (Im.E_in i0).l (by omega)).mono ?_
  rintro e v0 ⟨D0A, D0C, D0, rfl, he0, hod0, hq0⟩
  have zv0 := hq0.size
  have HE0 := Lib.hid he0
  clear he0
  have X0v := X0.below hq0 (by omega)
  have R0v := R0.below hq0 (by omega)
  have O0v := O0.below hq0 (by omega)
  have bv0 := b0.trans (hq0.mono (by omega))
  have P0 := hod0.wide (lo' := w.heap.size + 3) (by omega) (Nat.le_refl v0.heap.size)
  clear hod0
  clear hq0 X0 R0 O0 b0 i0
  have c0 : World.cell? v0 ⟨w.heap.size + 1 + 1, 0, none⟩ = some (.slice none 0 0) := O0v.cell 0
  have f0 := O0v.frozen 0
  have c1 : World.cell? v0 ⟨w.heap.size + 1 + 1, 1, none⟩ = some (.int .i64 0) := O0v.cell 1
  have f1 := O0v.frozen 1
  have X0q := X0v
  obtain ⟨a0, a1⟩ := X0q
  go_upto_region 4 with fail
  obtain ⟨U1, hU1⟩ : ∃ U, U = ((v0.setCell ⟨w.heap.size + 1 + 1, 0, none⟩ (.slice D0A D0.length D0C)).setCell ⟨w.heap.size + 1 + 1, 1, none⟩ (.int .i64 x.m)) := ⟨_, rfl⟩
  rw [← hU1]
  have O1 : D.Blk U1 (w.heap.size + 1 + 1) 31 #[.slice D0A D0.length D0C, .int .i64 x.m] := by rw [hU1]; have := ((O0v.set_ 0 (.slice D0A D0.length D0C)).set_ 1 (.int .i64 x.m)); simpa using this
  have R1 : D.Blk U1 (w.heap.size + 1) 31 #[.slice none 0 0, .int .i64 0] := by rw [hU1]; exact (rec_far (rec_far R0v (by simp) _) (by simp) _)
  have b1 : Below w.heap.size w U1 := by rw [hU1]; exact ((bv0.setCell (by simp; omega) _).setCell (by simp; omega) _)
  have y1 : U1.heap.size = v0.heap.size := by rw [hU1]; simp
  have P0 : Cd.E.LOwn (w.heap.size + 3) v0.heap.size U1 D0A D0C D0 := by rw [hU1]; exact ((P0.far (by simp <;> omega) _).far (by simp <;> omega) _)
  have yl1 : v0.heap.size ≤ U1.heap.size := by omega
  have yu1 : U1.heap.size ≤ v0.heap.size := by omega
  clear hU1 O0v R0v X0v bv0 y1 c0 f0 a0 c1 f1 a1
  have c0 : World.cell? U1 ⟨w.heap.size + 1 + 1, 0, none⟩ = some (.slice D0A D0.length D0C) := O1.cell 0
  have c1 : World.cell? U1 ⟨w.heap.size + 1 + 1, 1, none⟩ = some (.int .i64 x.m) := O1.cell 1
  have r0 : World.cell? U1 ⟨w.heap.size + 1, 0, none⟩ = some (.slice none 0 0) := R1.cell 0
  have g0 := R1.frozen 0
  have r1 : World.cell? U1 ⟨w.heap.size + 1, 1, none⟩ = some (.int .i64 0) := R1.cell 1
  have g1 := R1.frozen 1
  have PP : Hid (Im.E.Own (w.heap.size + 3) v0.heap.size U1 (⟨D0A, D0C, D0, x.m⟩ : Im)) := Im.own_of (x := (⟨D0A, D0C, D0, x.m⟩ : Im)) P0 (by omega) 
  clear P0 O1 R1
  go_wp2_with fail
  refine bodyPost_ret (v := .agg #[.slice D0A D0.length D0C, .int .i64 x.m]) (by simp [results, Try.results11, go_sem, r0, r1]) rfl ⟨(⟨D0A, D0C, D0, x.m⟩ : Im), rfl, ?_, ?_, ?_⟩
  · show Im.er _ = _
    simp only [Im.er, HE0.out]
  · simp only [World.size_setCell]
    exact ((PP.out.far (by simp <;> omega) _).far (by simp <;> omega) _).wide (by omega) (by omega)
  · exact ((b1.setCell (by simp <;> omega) _).setCell (by simp <;> omega) _)
end Go.Proofs.Ytpigpncbjckbcaa

namespace Go.Proofs.Ytpigpncbjckbcaa
open Go.RowKit

set_option maxRecDepth 100000 in
set_option maxHeartbeats 4000000 in
theorem Im_eq_any (x y : Im) (B : Nat) (w : World) (he : Im.er x = Im.er y) (hx : Im.E.In w B x) (hy : Im.E.In w B y) (hB : B ≤ w.heap.size) :
    Calls Try.prog 13 #[Im.val x, Im.val y] w fun e w' => e = .returned (.bool true) ∧ Below w.heap.size w w' := by
  have h_x := Elem.In.more hx hB
  have h_y := Elem.In.more hy hB
  obtain ⟨e_l, e_m⟩ := Im.er_parts he
  clear he
  have Q_l := Lib.hid e_l
  clear e_l
  have n_m : (x.m != y.m) = false := by rw [e_m]; simp
  clear e_m
  unfold Im.val
  have b0 : Below w.heap.size w w := Below.refl _ _
  have i_x := h_x
  have i_y := h_y
  go_enter Try.func13, Try.ntmps13
  go_wp2_with fail
  obtain ⟨w2, hw2⟩ : ∃ W, W = (w.alloc (.cells #[.slice x.lA x.l.length x.lC, .int .i64 x.m] 31)).alloc (.cells #[.slice y.lA y.l.length y.lC, .int .i64 y.m] 31) := ⟨_, rfl⟩
  rw [← hw2]
  have hb2 : Below w.heap.size w w2 := by rw [hw2]; exact ((Below.refl _ _).alloc (Nat.le_refl _) _).alloc (by simp) _
  have z2 : w.heap.size + 2 ≤ w2.heap.size := by rw [hw2]; simp
  have xa : Im.Box w2 w.heap.size x := by rw [hw2]; exact (Im.Box.new w x _).below ((Below.refl (w.heap.size + 1) _).alloc (by simp) _) (by omega)
  have xb : Im.Box w2 (w.heap.size + 1) y := by rw [hw2]; have := Im.Box.new (w.alloc (.cells #[.slice x.lA x.l.length x.lC, .int .i64 x.m] 31)) y 31; simpa using this
  clear hw2
  have b2 := b0.trans (hb2.mono (by omega))
  have i_x := h_x.below b2
  have i_y := h_y.below b2
  clear hb2 b0
  have xaq := xa
  obtain ⟨xa_0, xa_1⟩ := xaq
  have xalt : w.heap.size < w2.heap.size := (by omega)
  have xbq := xb
  obtain ⟨xb_0, xb_1⟩ := xbq
  have xblt : w.heap.size + 1 < w2.heap.size := (by omega)
  go_wp2_with fail
  clear xa_0 xa_1 xalt
  clear xb_0 xb_1 xblt
  refine (Cd_eqL_any x.lA x.lC x.l y.lA y.lC y.l w.heap.size _ Q_l.out (Im.E_in i_x).l (Im.E_in i_y).l (by omega)).mono ?_
  rintro e w3 ⟨rfl, hb3⟩
  have z3 := hb3.size
  have xa := xa.below hb3 (by omega)
  have xb := xb.below hb3 (by omega)
  have b3 := b2.trans (hb3.mono (by omega))
  have i_x := h_x.below b3
  have i_y := h_y.below b3
  clear hb3
  have xaq := xa
  obtain ⟨xa_0, xa_1⟩ := xaq
  have xalt : w.heap.size < w3.heap.size := (by omega)
  have xbq := xb
  obtain ⟨xb_0, xb_1⟩ := xbq
  have xblt : w.heap.size + 1 < w3.heap.size := (by omega)
  go_wp2_with fail
  clear xa_0 xa_1 xalt
  clear xb_0 xb_1 xblt
  go_ret
  exact ⟨rfl, b3⟩
end Go.Proofs.Ytpigpncbjckbcaa
