/-
  World: what it is and where it lies (written by gen/rec.py).
-/
import Derived.Test.YtndckeodpoommaaRecB
import Derived.Test.YtndckeodpoommaaExR
import Derived.Test.YtndckeodpoommaaRUn
import Derived.Test.YtndckeodpoommaaRXp
import Derived.Test.YtndckeodpoommaaSTrees
import Derived.Deep.DeepCutAuto
import Derived.Deep.RegionHeld3
namespace Go.Proofs.Ytndckeodpoommaa
open Go.RowKit

structure Wd where
  ex : Ex
  usA : Option Addr
  usC : Nat
  us : List Un
  esA : Option Addr
  esC : Nat
  es : List Xp
namespace Wd
def cells (x : Wd) : List Value := [.slice x.ex.A0 x.ex.l0.length x.ex.c0, .slice x.ex.A1 x.ex.l1.length x.ex.c1, .int .i64 x.ex.s, .int .i64 x.ex.v, .int .i64 x.ex.t, .slice x.usA x.us.length x.usC, .slice x.esA x.es.length x.esC]
structure In (w : World) (B : Nat) (x : Wd) : Prop where
  ex : Ex.E.In w B x.ex
  us : Un.E.LIn w B x.usA x.usC x.us
  es : Xp.E.LIn w B x.esA x.esC x.es
def blks (x : Wd) : List Nat := Ex.E.blks x.ex ++ (Un.E.lblks x.usA x.us ++ (Xp.E.lblks x.esA x.es))
def E : Elem Wd where
  cells := cells
  n := 7
  pos := by decide
  len := fun _ => rfl
  one := by
    intro b u hu
    simp only [cells, List.mem_cons, List.not_mem_nil, or_false] at hu
    rcases hu with rfl | rfl | rfl | rfl | rfl | rfl | rfl <;> rfl
  In := In
  blks := blks
  lt := fun h b hb => (List.mem_append.1 hb).elim (fun hb => Elem.In.blk_lt h.ex b hb) (fun hb => (List.mem_append.1 hb).elim (fun hb => h.us.blk_lt b hb) (fun hb => h.es.blk_lt b hb))
  keepB := fun h hk => ⟨Elem.In.keepB h.ex fun k hm => hk k (List.mem_append.2 (.inl hm)), h.us.keepB fun k hm => hk k (List.mem_append.2 (.inr (List.mem_append.2 (.inl hm)))), h.es.keepB fun k hm => hk k (List.mem_append.2 (.inr (List.mem_append.2 (.inr hm))))⟩
  more := fun h hB => ⟨Elem.In.more h.ex hB, h.us.more hB, h.es.more hB⟩
theorem E_n : E.n = 7 := rfl
theorem E_in {w : World} {B : Nat} {d : Wd} (h : E.In w B d) : In w B d := h
theorem E_mk {w : World} {B : Nat} {d : Wd} (h : In w B d) : E.In w B d := h
abbrev Er := ((List Bd × List (List S × List S × List S)) × (Int × Int × Int)) × (List Un.Er) × (List Xp.Er)
def er (x : Wd) : Er := (x.ex.er, x.us.map Un.er, x.es.map Xp.er)
def bulk (x : Wd) : Nat := x.ex.bulk + Row.bulk Un.bulk x.us + Row.bulk Xp.bulk x.es
def val (d : Wd) : Value := .agg #[.slice d.ex.A0 d.ex.l0.length d.ex.c0, .slice d.ex.A1 d.ex.l1.length d.ex.c1, .int .i64 d.ex.s, .int .i64 d.ex.v, .int .i64 d.ex.t, .slice d.usA d.us.length d.usC, .slice d.esA d.es.length d.esC]
theorem er_parts {x y : Wd} (h : er x = er y) : x.ex.er = y.ex.er ∧ x.us.map Un.er = y.us.map Un.er ∧ x.es.map Xp.er = y.es.map Xp.er := by
  unfold er at h
  obtain ⟨a0, h⟩ := Prod.mk.inj h
  obtain ⟨a1, h⟩ := Prod.mk.inj h
  exact ⟨a0, a1, h⟩
theorem bulk_of_er {x y : Wd} (h : er x = er y) : bulk x = bulk y := by
  obtain ⟨e_ex, e_us, e_es⟩ := er_parts h
  unfold bulk
  rw [Ex.bulk_of_er e_ex, Row.bulk_of_er (fun _ _ => Un.bulk_of_er) _ _ e_us, Row.bulk_of_er (fun _ _ => Xp.bulk_of_er) _ _ e_es]
theorem own_of {l0 l1 l2 l3 : Nat} {w : World} {x : Wd} (h_ex : Ex.E.Own l0 l1 w x.ex) (h_us : Un.E.LOwn l1 l2 w x.usA x.usC x.us) (h_es : Xp.E.LOwn l2 l3 w x.esA x.esC x.es) (h0 : l0 ≤ l1) (h1 : l1 ≤ l2) (h2 : l2 ≤ l3)  : E.Own l0 l3 w x := by
  refine ⟨⟨(Elem.In.more h_ex.inn (show l1 ≤ l3 by omega)), (h_us.inn.more (show l2 ≤ l3 by omega)), h_es.inn⟩, fun k hk => ?_, ?_, fun k hk o => ?_⟩
  · rcases List.mem_append.1 hk with hk | hk
    · have := h_ex.lo_ k hk; omega
    rcases List.mem_append.1 hk with hk | hk
    · have := h_us.lo_ k hk; omega
    have := h_es.lo_ k hk; omega
  · exact (List.nodup_append.2 ⟨h_ex.nd, (List.nodup_append.2 ⟨h_us.nd, h_es.nd, fun p hp q hq e => by
      have := h_us.inn.blk_lt p hp
      have := h_es.lo_ q hq; omega⟩), fun p hp q hq e => by
      have := Elem.In.blk_lt h_ex.inn p hp
      rcases List.mem_append.1 hq with hq | hq
      · have := h_us.lo_ q hq; omega
      have := h_es.lo_ q hq; omega⟩)
  · rcases List.mem_append.1 hk with hk | hk
    · exact h_ex.fr k hk o
    rcases List.mem_append.1 hk with hk | hk
    · exact h_us.fr k hk o
    exact h_es.fr k hk o
/-- The cells of element i. -/
theorem at_ {w : World} {B : Nat} {A : Option Addr} {c : Nat} {l : List Wd} (h : E.LIn w B A c l) {i : Nat} {x : Wd} (hi : l[i]? = some x) :
    ∃ b o : Nat, A = some ⟨b, o, none⟩ ∧ b < B ∧ w.cell? ⟨b, o + i * 7, none⟩ = some (.slice x.ex.A0 x.ex.l0.length x.ex.c0) ∧ w.cell? ⟨b, o + i * 7 + 1, none⟩ = some (.slice x.ex.A1 x.ex.l1.length x.ex.c1) ∧ w.cell? ⟨b, o + i * 7 + 2, none⟩ = some (.int .i64 x.ex.s) ∧ w.cell? ⟨b, o + i * 7 + 3, none⟩ = some (.int .i64 x.ex.v) ∧ w.cell? ⟨b, o + i * 7 + 4, none⟩ = some (.int .i64 x.ex.t) ∧ w.cell? ⟨b, o + i * 7 + 5, none⟩ = some (.slice x.usA x.us.length x.usC) ∧ w.cell? ⟨b, o + i * 7 + 6, none⟩ = some (.slice x.esA x.es.length x.esC) ∧ E.In w B x := by
  obtain ⟨b, o, e, hb, hc, hx⟩ := h.at_ hi
  exact ⟨b, o, e, hb, hc 0 _ rfl, hc 1 _ rfl, hc 2 _ rfl, hc 3 _ rfl, hc 4 _ rfl, hc 5 _ rfl, hc 6 _ rfl, hx⟩
/-- A variable that holds one. -/
structure Box (w : World) (g : Nat) (d : Wd) : Prop where
  c0 : w.cell? ⟨g, 0, none⟩ = some (.slice d.ex.A0 d.ex.l0.length d.ex.c0)
  c1 : w.cell? ⟨g, 1, none⟩ = some (.slice d.ex.A1 d.ex.l1.length d.ex.c1)
  c2 : w.cell? ⟨g, 2, none⟩ = some (.int .i64 d.ex.s)
  c3 : w.cell? ⟨g, 3, none⟩ = some (.int .i64 d.ex.v)
  c4 : w.cell? ⟨g, 4, none⟩ = some (.int .i64 d.ex.t)
  c5 : w.cell? ⟨g, 5, none⟩ = some (.slice d.usA d.us.length d.usC)
  c6 : w.cell? ⟨g, 6, none⟩ = some (.slice d.esA d.es.length d.esC)
theorem Box.keep {w w' : World} {g : Nat} {d : Wd} (h : Box w g d) (e : w'.heap[g]? = w.heap[g]?) : Box w' g d := by
  have e : ∀ q, w'.cell? ⟨g, q, none⟩ = w.cell? ⟨g, q, none⟩ := fun q => World.cell?_of_block (a := ⟨g, q, none⟩) e
  exact ⟨(e 0).trans h.c0, (e 1).trans h.c1, (e 2).trans h.c2, (e 3).trans h.c3, (e 4).trans h.c4, (e 5).trans h.c5, (e 6).trans h.c6⟩
theorem Box.below {w w' : World} {g B : Nat} {d : Wd} (h : Box w g d) (hb : Below B w w') (hB : g < B) : Box w' g d := h.keep (hb.block g hB)
theorem Box.chg {w w' : World} {g : Nat} {d : Wd} {T : List Nat} (h : Box w g d) (hb : Chg T w w') (hlt : g < w.heap.size) (hn : g ∉ T) : Box w' g d := h.keep (hb.block g hlt hn)
theorem Box.new (w : World) (d : Wd) (t : TypeId) : Box (w.alloc (.cells #[.slice d.ex.A0 d.ex.l0.length d.ex.c0, .slice d.ex.A1 d.ex.l1.length d.ex.c1, .int .i64 d.ex.s, .int .i64 d.ex.v, .int .i64 d.ex.t, .slice d.usA d.us.length d.usC, .slice d.esA d.es.length d.esC] t)) w.heap.size d := by
  have h := D.Blk.new w t #[.slice d.ex.A0 d.ex.l0.length d.ex.c0, .slice d.ex.A1 d.ex.l1.length d.ex.c1, .int .i64 d.ex.s, .int .i64 d.ex.v, .int .i64 d.ex.t, .slice d.usA d.us.length d.usC, .slice d.esA d.es.length d.esC]
  exact ⟨h.cell 0, h.cell 1, h.cell 2, h.cell 3, h.cell 4, h.cell 5, h.cell 6⟩
end Wd

/-- Returned: one of the call's own. -/
def RetWd (x : Wd.Er) (w : World) (e : Ending) (w' : World) : Prop := ∃ d : Wd, e = .returned (Wd.val d) ∧ Wd.er d = x ∧ Wd.E.Own w.heap.size w'.heap.size w' d ∧ Below w.heap.size w w'
/-- Returned: a list of the call's own. -/
def RetWdL (x : List Wd.Er) (w : World) (e : Ending) (w' : World) : Prop := ∃ (A : Option Addr) (c : Nat) (l : List Wd), e = .returned (.slice A l.length c) ∧ l.map Wd.er = x ∧ Wd.E.LOwn w.heap.size w'.heap.size w' A c l ∧ Below w.heap.size w w'
end Go.Proofs.Ytndckeodpoommaa

namespace Go.Proofs.Ytndckeodpoommaa
open Go.RowKit

set_option maxRecDepth 100000 in
set_option maxHeartbeats 4000000 in
theorem Wd_sz_any (d : Wd) (B : Nat) (w : World) (left : Int) (h0 : 0 ≤ left) (h1 : left ≤ 1048576) (hin : Wd.E.In w B d) (hB : B ≤ w.heap.size) :
    Calls Try.prog 22 #[Wd.val d, .int .i64 left] w fun e w' => e = .returned (.int .i64 (szR (d.bulk) left)) ∧ Below w.heap.size w w' := by
  have h_d := Elem.In.more hin hB
  have hbu : ((d.bulk : Nat) : Int) = (d.ex.bulk : Int) + (Row.bulk Un.bulk d.us : Int) + (Row.bulk Xp.bulk d.es : Int) := by unfold Wd.bulk; omega
  unfold Wd.val
  by_cases hz0 : (d.ex.bulk : Int) ≤ left
  · skip
    by_cases hz1 : (Row.bulk Un.bulk d.us : Int) ≤ left - (d.ex.bulk : Int)
    · skip
      by_cases hz2 : (Row.bulk Xp.bulk d.es : Int) ≤ left - (d.ex.bulk : Int) - (Row.bulk Un.bulk d.us : Int)
      · skip
        have HR : Hid (szR (d.bulk) left = left - (d.ex.bulk : Int) - (Row.bulk Un.bulk d.us : Int) - (Row.bulk Xp.bulk d.es : Int)) := by show _ = _; rw [szR_yes (by omega)]; omega
        clear hbu
        have b0 : Below w.heap.size w w := Below.refl _ _
        have i_d := h_d
        go_enter Try.func22, Try.ntmps22
        go_wp2_with fail
        obtain ⟨w1, hw1⟩ : ∃ W, W = w.alloc (.cells #[.slice d.ex.A0 d.ex.l0.length d.ex.c0, .slice d.ex.A1 d.ex.l1.length d.ex.c1, .int .i64 d.ex.s, .int .i64 d.ex.v, .int .i64 d.ex.t, .slice d.usA d.us.length d.usC, .slice d.esA d.es.length d.esC] 43) := ⟨_, rfl⟩
        rw [← hw1]
        have hb1 : Below w.heap.size w w1 := by rw [hw1]; exact (Below.refl _ _).alloc (Nat.le_refl _) _
        have z1 : w.heap.size + 1 ≤ w1.heap.size := by rw [hw1]; simp
        have y1 : w1.heap.size ≤ w.heap.size + 1 := by rw [hw1]; simp
        have xb : Wd.Box w1 w.heap.size d := by rw [hw1]; exact Wd.Box.new _ _ _
        clear hw1
        have b1 := b0.trans (hb1.mono (by omega))
        have i_d := h_d.below b1
        clear hb1
        have xbq := xb
        obtain ⟨xb_0, xb_1, xb_2, xb_3, xb_4, xb_5, xb_6⟩ := xbq
        have xblt : w.heap.size < w1.heap.size := (by omega)
        go_wp2_with fail
        clear xb_0 xb_1 xb_2 xb_3 xb_4 xb_5 xb_6 xblt
        refine (Ex_sz_any d.ex w.heap.size _ (left) (by omega) (by omega) (Wd.E_in i_d).ex (by omega)).mono ?_
        rintro e w2 ⟨rfl, hb2⟩
        have z2 := hb2.size
        have xb := xb.below hb2 (by omega)
        have b2 := b1.trans (hb2.mono (by omega))
        have i_d := h_d.below b2
        clear hb2
        rw [szR_yes (by omega)]
        have n0 : ¬ (left - (d.ex.bulk : Int) < 0) := by omega
        have xbq := xb
        obtain ⟨xb_0, xb_1, xb_2, xb_3, xb_4, xb_5, xb_6⟩ := xbq
        have xblt : w.heap.size < w2.heap.size := (by omega)
        go_wp2_with fail
        clear xb_0 xb_1 xb_2 xb_3 xb_4 xb_5 xb_6 xblt
        refine (Un_szL_any d.usA d.usC d.us w.heap.size _ (left - (d.ex.bulk : Int)) (by omega) (by omega) (Wd.E_in i_d).us (by omega)).mono ?_
        rintro e w3 ⟨rfl, hb3⟩
        have z3 := hb3.size
        have xb := xb.below hb3 (by omega)
        have b3 := b2.trans (hb3.mono (by omega))
        have i_d := h_d.below b3
        clear hb3
        rw [szR_yes (by omega)]
        have n1 : ¬ (left - (d.ex.bulk : Int) - (Row.bulk Un.bulk d.us : Int) < 0) := by omega
        have xbq := xb
        obtain ⟨xb_0, xb_1, xb_2, xb_3, xb_4, xb_5, xb_6⟩ := xbq
        have xblt : w.heap.size < w3.heap.size := (by omega)
        go_wp2_with fail
        clear xb_0 xb_1 xb_2 xb_3 xb_4 xb_5 xb_6 xblt
        refine (Xp_szL_any d.esA d.esC d.es w.heap.size _ (left - (d.ex.bulk : Int) - (Row.bulk Un.bulk d.us : Int)) (by omega) (by omega) (Wd.E_in i_d).es (by omega)).mono ?_
        rintro e w4 ⟨rfl, hb4⟩
        have z4 := hb4.size
        have xb := xb.below hb4 (by omega)
        have b4 := b3.trans (hb4.mono (by omega))
        have i_d := h_d.below b4
        clear hb4
        rw [szR_yes (by omega)]
        have n2 : ¬ (left - (d.ex.bulk : Int) - (Row.bulk Un.bulk d.us : Int) - (Row.bulk Xp.bulk d.es : Int) < 0) := by omega
        have xbq := xb
        obtain ⟨xb_0, xb_1, xb_2, xb_3, xb_4, xb_5, xb_6⟩ := xbq
        have xblt : w.heap.size < w4.heap.size := (by omega)
        go_wp2_with fail
        clear xb_0 xb_1 xb_2 xb_3 xb_4 xb_5 xb_6 xblt
        go_ret
        exact ⟨ret_int HR.out.symm, b4⟩
      · skip
        have HR : Hid (szR (d.bulk) left = -1) := szR_no (by omega)
        clear hbu
        have b0 : Below w.heap.size w w := Below.refl _ _
        have i_d := h_d
        go_enter Try.func22, Try.ntmps22
        go_wp2_with fail
        obtain ⟨w1, hw1⟩ : ∃ W, W = w.alloc (.cells #[.slice d.ex.A0 d.ex.l0.length d.ex.c0, .slice d.ex.A1 d.ex.l1.length d.ex.c1, .int .i64 d.ex.s, .int .i64 d.ex.v, .int .i64 d.ex.t, .slice d.usA d.us.length d.usC, .slice d.esA d.es.length d.esC] 43) := ⟨_, rfl⟩
        rw [← hw1]
        have hb1 : Below w.heap.size w w1 := by rw [hw1]; exact (Below.refl _ _).alloc (Nat.le_refl _) _
        have z1 : w.heap.size + 1 ≤ w1.heap.size := by rw [hw1]; simp
        have y1 : w1.heap.size ≤ w.heap.size + 1 := by rw [hw1]; simp
        have xb : Wd.Box w1 w.heap.size d := by rw [hw1]; exact Wd.Box.new _ _ _
        clear hw1
        have b1 := b0.trans (hb1.mono (by omega))
        have i_d := h_d.below b1
        clear hb1
        have xbq := xb
        obtain ⟨xb_0, xb_1, xb_2, xb_3, xb_4, xb_5, xb_6⟩ := xbq
        have xblt : w.heap.size < w1.heap.size := (by omega)
        go_wp2_with fail
        clear xb_0 xb_1 xb_2 xb_3 xb_4 xb_5 xb_6 xblt
        refine (Ex_sz_any d.ex w.heap.size _ (left) (by omega) (by omega) (Wd.E_in i_d).ex (by omega)).mono ?_
        rintro e w2 ⟨rfl, hb2⟩
        have z2 := hb2.size
        have xb := xb.below hb2 (by omega)
        have b2 := b1.trans (hb2.mono (by omega))
        have i_d := h_d.below b2
        clear hb2
        rw [szR_yes (by omega)]
        have n0 : ¬ (left - (d.ex.bulk : Int) < 0) := by omega
        have xbq := xb
        obtain ⟨xb_0, xb_1, xb_2, xb_3, xb_4, xb_5, xb_6⟩ := xbq
        have xblt : w.heap.size < w2.heap.size := (by omega)
        go_wp2_with fail
        clear xb_0 xb_1 xb_2 xb_3 xb_4 xb_5 xb_6 xblt
        refine (Un_szL_any d.usA d.usC d.us w.heap.size _ (left - (d.ex.bulk : Int)) (by omega) (by omega) (Wd.E_in i_d).us (by omega)).mono ?_
        rintro e w3 ⟨rfl, hb3⟩
        have z3 := hb3.size
        have xb := xb.below hb3 (by omega)
        have b3 := b2.trans (hb3.mono (by omega))
        have i_d := h_d.below b3
        clear hb3
        rw [szR_yes (by omega)]
        have n1 : ¬ (left - (d.ex.bulk : Int) - (Row.bulk Un.bulk d.us : Int) < 0) := by omega
        have xbq := xb
        obtain ⟨xb_0, xb_1, xb_2, xb_3, xb_4, xb_5, xb_6⟩ := xbq
        have xblt : w.heap.size < w3.heap.size := (by omega)
        go_wp2_with fail
        clear xb_0 xb_1 xb_2 xb_3 xb_4 xb_5 xb_6 xblt
        refine (Xp_szL_any d.esA d.esC d.es w.heap.size _ (left - (d.ex.bulk : Int) - (Row.bulk Un.bulk d.us : Int)) (by omega) (by omega) (Wd.E_in i_d).es (by omega)).mono ?_
        rintro e w4 ⟨rfl, hb4⟩
        have z4 := hb4.size
        have xb := xb.below hb4 (by omega)
        have b4 := b3.trans (hb4.mono (by omega))
        have i_d := h_d.below b4
        clear hb4
        rw [szR_no (by omega)]
        have xbq := xb
        obtain ⟨xb_0, xb_1, xb_2, xb_3, xb_4, xb_5, xb_6⟩ := xbq
        have xblt : w.heap.size < w4.heap.size := (by omega)
        go_wp2_with fail
        clear xb_0 xb_1 xb_2 xb_3 xb_4 xb_5 xb_6 xblt
        go_ret
        exact ⟨ret_int HR.out.symm, b4⟩
    · skip
      have HR : Hid (szR (d.bulk) left = -1) := szR_no (by omega)
      clear hbu
      have b0 : Below w.heap.size w w := Below.refl _ _
      have i_d := h_d
      go_enter Try.func22, Try.ntmps22
      go_wp2_with fail
      obtain ⟨w1, hw1⟩ : ∃ W, W = w.alloc (.cells #[.slice d.ex.A0 d.ex.l0.length d.ex.c0, .slice d.ex.A1 d.ex.l1.length d.ex.c1, .int .i64 d.ex.s, .int .i64 d.ex.v, .int .i64 d.ex.t, .slice d.usA d.us.length d.usC, .slice d.esA d.es.length d.esC] 43) := ⟨_, rfl⟩
      rw [← hw1]
      have hb1 : Below w.heap.size w w1 := by rw [hw1]; exact (Below.refl _ _).alloc (Nat.le_refl _) _
      have z1 : w.heap.size + 1 ≤ w1.heap.size := by rw [hw1]; simp
      have y1 : w1.heap.size ≤ w.heap.size + 1 := by rw [hw1]; simp
      have xb : Wd.Box w1 w.heap.size d := by rw [hw1]; exact Wd.Box.new _ _ _
      clear hw1
      have b1 := b0.trans (hb1.mono (by omega))
      have i_d := h_d.below b1
      clear hb1
      have xbq := xb
      obtain ⟨xb_0, xb_1, xb_2, xb_3, xb_4, xb_5, xb_6⟩ := xbq
      have xblt : w.heap.size < w1.heap.size := (by omega)
      go_wp2_with fail
      clear xb_0 xb_1 xb_2 xb_3 xb_4 xb_5 xb_6 xblt
      refine (Ex_sz_any d.ex w.heap.size _ (left) (by omega) (by omega) (Wd.E_in i_d).ex (by omega)).mono ?_
      rintro e w2 ⟨rfl, hb2⟩
      have z2 := hb2.size
      have xb := xb.below hb2 (by omega)
      have b2 := b1.trans (hb2.mono (by omega))
      have i_d := h_d.below b2
      clear hb2
      rw [szR_yes (by omega)]
      have n0 : ¬ (left - (d.ex.bulk : Int) < 0) := by omega
      have xbq := xb
      obtain ⟨xb_0, xb_1, xb_2, xb_3, xb_4, xb_5, xb_6⟩ := xbq
      have xblt : w.heap.size < w2.heap.size := (by omega)
      go_wp2_with fail
      clear xb_0 xb_1 xb_2 xb_3 xb_4 xb_5 xb_6 xblt
      refine (Un_szL_any d.usA d.usC d.us w.heap.size _ (left - (d.ex.bulk : Int)) (by omega) (by omega) (Wd.E_in i_d).us (by omega)).mono ?_
      rintro e w3 ⟨rfl, hb3⟩
      have z3 := hb3.size
      have xb := xb.below hb3 (by omega)
      have b3 := b2.trans (hb3.mono (by omega))
      have i_d := h_d.below b3
      clear hb3
      rw [szR_no (by omega)]
      have xbq := xb
      obtain ⟨xb_0, xb_1, xb_2, xb_3, xb_4, xb_5, xb_6⟩ := xbq
      have xblt : w.heap.size < w3.heap.size := (by omega)
      go_wp2_with fail
      clear xb_0 xb_1 xb_2 xb_3 xb_4 xb_5 xb_6 xblt
      go_ret
      exact ⟨ret_int HR.out.symm, b3⟩
  · skip
    have HR : Hid (szR (d.bulk) left = -1) := szR_no (by omega)
    clear hbu
    have b0 : Below w.heap.size w w := Below.refl _ _
    have i_d := h_d
    go_enter Try.func22, Try.ntmps22
    go_wp2_with fail
    obtain ⟨w1, hw1⟩ : ∃ W, W = w.alloc (.cells #[.slice d.ex.A0 d.ex.l0.length d.ex.c0, .slice d.ex.A1 d.ex.l1.length d.ex.c1, .int .i64 d.ex.s, .int .i64 d.ex.v, .int .i64 d.ex.t, .slice d.usA d.us.length d.usC, .slice d.esA d.es.length d.esC] 43) := ⟨_, rfl⟩
    rw [← hw1]
    have hb1 : Below w.heap.size w w1 := by rw [hw1]; exact (Below.refl _ _).alloc (Nat.le_refl _) _
    have z1 : w.heap.size + 1 ≤ w1.heap.size := by rw [hw1]; simp
    have y1 : w1.heap.size ≤ w.heap.size + 1 := by rw [hw1]; simp
    have xb : Wd.Box w1 w.heap.size d := by rw [hw1]; exact Wd.Box.new _ _ _
    clear hw1
    have b1 := b0.trans (hb1.mono (by omega))
    have i_d := h_d.below b1
    clear hb1
    have xbq := xb
    obtain ⟨xb_0, xb_1, xb_2, xb_3, xb_4, xb_5, xb_6⟩ := xbq
    have xblt : w.heap.size < w1.heap.size := (by omega)
    go_wp2_with fail
    clear xb_0 xb_1 xb_2 xb_3 xb_4 xb_5 xb_6 xblt
    refine (Ex_sz_any d.ex w.heap.size _ (left) (by omega) (by omega) (Wd.E_in i_d).ex (by omega)).mono ?_
    rintro e w2 ⟨rfl, hb2⟩
    have z2 := hb2.size
    have xb := xb.below hb2 (by omega)
    have b2 := b1.trans (hb2.mono (by omega))
    have i_d := h_d.below b2
    clear hb2
    rw [szR_no (by omega)]
    have xbq := xb
    obtain ⟨xb_0, xb_1, xb_2, xb_3, xb_4, xb_5, xb_6⟩ := xbq
    have xblt : w.heap.size < w2.heap.size := (by omega)
    go_wp2_with fail
    clear xb_0 xb_1 xb_2 xb_3 xb_4 xb_5 xb_6 xblt
    go_ret
    exact ⟨ret_int HR.out.symm, b2⟩
end Go.Proofs.Ytndckeodpoommaa

namespace Go.Proofs.Ytndckeodpoommaa
open Go.RowKit

set_option maxRecDepth 100000 in
set_option maxHeartbeats 8000000 in
theorem Wd_to_any (x : Wd) (B : Nat) (w : World) (hbk0 : x.bulk ≤ 1500000) (hin : Wd.E.In w B x) (hB : B ≤ w.heap.size) : Calls Try.prog 24 #[Wd.val x] w (RetWd (Wd.er x) w) := by
  have hbk : x.ex.bulk + Row.bulk Un.bulk x.us + Row.bulk Xp.bulk x.es ≤ 1500000 := hbk0
  clear hbk0
  obtain ⟨W1, hW1⟩ : ∃ W1, W1 = w.alloc (.cells #[.slice x.ex.A0 x.ex.l0.length x.ex.c0, .slice x.ex.A1 x.ex.l1.length x.ex.c1, .int .i64 x.ex.s, .int .i64 x.ex.v, .int .i64 x.ex.t, .slice x.usA x.us.length x.usC, .slice x.esA x.es.length x.esC] 43) := ⟨_, rfl⟩
  obtain ⟨W2, hW2⟩ : ∃ W2, W2 = W1.alloc (.cells #[.slice none 0 0, .slice none 0 0, .int .i64 0, .int .i64 0, .int .i64 0, .slice none 0 0, .slice none 0 0] 55) := ⟨_, rfl⟩
  obtain ⟨W3, hW3⟩ : ∃ W3, W3 = W2.alloc (.cells #[.slice none 0 0, .slice none 0 0, .int .i64 0, .int .i64 0, .int .i64 0, .slice none 0 0, .slice none 0 0] 55) := ⟨_, rfl⟩
  have z1 : W1.heap.size = w.heap.size + 1 := by rw [hW1]; simp
  have z2 : W2.heap.size = w.heap.size + 1 + 1 := by rw [hW2]; simp [z1]
  have z3 : W3.heap.size = w.heap.size + 1 + 1 + 1 := by rw [hW3]; simp [z2]
  have B1 : Below w.heap.size w W1 := by rw [hW1]; exact (Below.refl _ _).alloc (Nat.le_refl _) _
  have B2 : Below W1.heap.size W1 W2 := by rw [hW2]; exact (Below.refl _ _).alloc (Nat.le_refl _) _
  have B3 : Below W2.heap.size W2 W3 := by rw [hW3]; exact (Below.refl _ _).alloc (Nat.le_refl _) _
  have X0 : Wd.Box W1 w.heap.size x := by rw [hW1]; exact Wd.Box.new _ _ _
  have X0 := (X0.below B2 (by omega)).below B3 (by omega)
  have R0 : D.Blk W2 (w.heap.size + 1) 55 #[.slice none 0 0, .slice none 0 0, .int .i64 0, .int .i64 0, .int .i64 0, .slice none 0 0, .slice none 0 0] := by rw [hW2, ← z1]; exact D.Blk.new _ _ _
  have R0 := R0.below B3 (by omega)
  have O0 : D.Blk W3 (w.heap.size + 1 + 1) 55 #[.slice none 0 0, .slice none 0 0, .int .i64 0, .int .i64 0, .int .i64 0, .slice none 0 0, .slice none 0 0] := by rw [hW3, ← z2]; exact D.Blk.new _ _ _
  have b0 : Below w.heap.size w W3 := (B1.trans (B2.mono (by omega))).trans (B3.mono (by omega))
  have y3 : w.heap.size + 3 ≤ W3.heap.size := by omega
  have i0 := hin.below (b0.mono hB)
  unfold Wd.val
  have X0q := X0
  obtain ⟨a0, a1, a2, a3, a4, a5, a6⟩ := X0q
  go_enter Try.func24, Try.ntmps24
  go_wp2_with fail
  rw [← hW1, ← hW2, ← hW3]
  clear hW1 hW2 hW3 B1 B2 B3 z1 z2 z3 a0 a1 a2 a3 a4 a5 a6
  refine (Ex_to_any x.ex B _ (by omega) (Wd.E_in i0).ex (by omega)).mono ?_
  rintro e v0 ⟨D0, rfl, he0, hod0, hq0⟩
  have zv0 := hq0.size
  have HE0 := Lib.hid he0
  clear he0
  have X0v := X0.below hq0 (by omega)
  have R0v := R0.below hq0 (by omega)
  have O0v := O0.below hq0 (by omega)
  have bv0 := b0.trans (hq0.mono (by omega))
  have P0 := hod0.wide (lo' := w.heap.size + 3) (by omega) (Nat.le_refl v0.heap.size)
  clear hod0
  clear hq0 X0 R0 O0 b0 i0
  have c0 : World.cell? v0 ⟨w.heap.size + 1 + 1, 0, none⟩ = some (.slice none 0 0) := O0v.cell 0
  have f0 := O0v.frozen 0
  have c1 : World.cell? v0 ⟨w.heap.size + 1 + 1, 1, none⟩ = some (.slice none 0 0) := O0v.cell 1
  have f1 := O0v.frozen 1
  have c2 : World.cell? v0 ⟨w.heap.size + 1 + 1, 2, none⟩ = some (.int .i64 0) := O0v.cell 2
  have f2 := O0v.frozen 2
  have c3 : World.cell? v0 ⟨w.heap.size + 1 + 1, 3, none⟩ = some (.int .i64 0) := O0v.cell 3
  have f3 := O0v.frozen 3
  have c4 : World.cell? v0 ⟨w.heap.size + 1 + 1, 4, none⟩ = some (.int .i64 0) := O0v.cell 4
  have f4 := O0v.frozen 4
  have c5 : World.cell? v0 ⟨w.heap.size + 1 + 1, 5, none⟩ = some (.slice none 0 0) := O0v.cell 5
  have f5 := O0v.frozen 5
  have c6 : World.cell? v0 ⟨w.heap.size + 1 + 1, 6, none⟩ = some (.slice none 0 0) := O0v.cell 6
  have f6 := O0v.frozen 6
  have X0q := X0v
  obtain ⟨a0, a1, a2, a3, a4, a5, a6⟩ := X0q
  simp only [Ex.val]
  go_wp2_with fail
  obtain ⟨U1, hU1⟩ : ∃ U, U = (((((v0.setCell ⟨w.heap.size + 1 + 1, 0, none⟩ (.slice D0.A0 D0.l0.length D0.c0)).setCell ⟨w.heap.size + 1 + 1, 1, none⟩ (.slice D0.A1 D0.l1.length D0.c1)).setCell ⟨w.heap.size + 1 + 1, 2, none⟩ (.int .i64 D0.s)).setCell ⟨w.heap.size + 1 + 1, 3, none⟩ (.int .i64 D0.v)).setCell ⟨w.heap.size + 1 + 1, 4, none⟩ (.int .i64 D0.t)) := ⟨_, rfl⟩
  rw [← hU1]
  have O1 : D.Blk U1 (w.heap.size + 1 + 1) 55 #[.slice D0.A0 D0.l0.length D0.c0, .slice D0.A1 D0.l1.length D0.c1, .int .i64 D0.s, .int .i64 D0.v, .int .i64 D0.t, .slice none 0 0, .slice none 0 0] := by rw [hU1]; have := (((((O0v.set_ 0 (.slice D0.A0 D0.l0.length D0.c0)).set_ 1 (.slice D0.A1 D0.l1.length D0.c1)).set_ 2 (.int .i64 D0.s)).set_ 3 (.int .i64 D0.v)).set_ 4 (.int .i64 D0.t)); simpa using this
  have R1 : D.Blk U1 (w.heap.size + 1) 55 #[.slice none 0 0, .slice none 0 0, .int .i64 0, .int .i64 0, .int .i64 0, .slice none 0 0, .slice none 0 0] := by rw [hU1]; exact (rec_far (rec_far (rec_far (rec_far (rec_far R0v (by simp) _) (by simp) _) (by simp) _) (by simp) _) (by simp) _)
  have X1 : Wd.Box U1 w.heap.size x := by rw [hU1]; exact (((((X0v.keep (Below.heap_setCell _ _ _ _ (by simp; omega))).keep (Below.heap_setCell _ _ _ _ (by simp; omega))).keep (Below.heap_setCell _ _ _ _ (by simp; omega))).keep (Below.heap_setCell _ _ _ _ (by simp; omega))).keep (Below.heap_setCell _ _ _ _ (by simp; omega)))
  have b1 : Below w.heap.size w U1 := by rw [hU1]; exact (((((bv0.setCell (by simp; omega) _).setCell (by simp; omega) _).setCell (by simp; omega) _).setCell (by simp; omega) _).setCell (by simp; omega) _)
  have y1 : U1.heap.size = v0.heap.size := by rw [hU1]; simp
  have P0 : Ex.E.Own (w.heap.size + 3) v0.heap.size U1 D0 := by rw [hU1]; exact (((((P0.far (by simp <;> omega) _).far (by simp <;> omega) _).far (by simp <;> omega) _).far (by simp <;> omega) _).far (by simp <;> omega) _)
  have i1 := hin.below (b1.mono hB)
  have yl1 : v0.heap.size ≤ U1.heap.size := by omega
  have yu1 : U1.heap.size ≤ v0.heap.size := by omega
  clear hU1 O0v R0v X0v bv0 y1 c0 f0 a0 c1 f1 a1 c2 f2 a2 c3 f3 a3 c4 f4 a4 c5 f5 a5 c6 f6 a6
  refine (Un_toL_any x.usA x.usC x.us B _ (by omega) (Wd.E_in i1).us (by omega)).mono ?_
  rintro e v1 ⟨D1A, D1C, D1, rfl, he1, hod1, hq1⟩
  have zv1 := hq1.size
  have HE1 := Lib.hid he1
  clear he1
  have P0 := P0.below (hq1.mono (by omega))
  have X1v := X1.below hq1 (by omega)
  have R1v := R1.below hq1 (by omega)
  have O1v := O1.below hq1 (by omega)
  have bv1 := b1.trans (hq1.mono (by omega))
  have P1 := hod1.wide (lo' := v0.heap.size) (by omega) (Nat.le_refl v1.heap.size)
  clear hod1
  clear hq1 X1 R1 O1 b1 i1
  have c0 : World.cell? v1 ⟨w.heap.size + 1 + 1, 0, none⟩ = some (.slice D0.A0 D0.l0.length D0.c0) := O1v.cell 0
  have f0 := O1v.frozen 0
  have c1 : World.cell? v1 ⟨w.heap.size + 1 + 1, 1, none⟩ = some (.slice D0.A1 D0.l1.length D0.c1) := O1v.cell 1
  have f1 := O1v.frozen 1
  have c2 : World.cell? v1 ⟨w.heap.size + 1 + 1, 2, none⟩ = some (.int .i64 D0.s) := O1v.cell 2
  have f2 := O1v.frozen 2
  have c3 : World.cell? v1 ⟨w.heap.size + 1 + 1, 3, none⟩ = some (.int .i64 D0.v) := O1v.cell 3
  have f3 := O1v.frozen 3
  have c4 : World.cell? v1 ⟨w.heap.size + 1 + 1, 4, none⟩ = some (.int .i64 D0.t) := O1v.cell 4
  have f4 := O1v.frozen 4
  have c5 : World.cell? v1 ⟨w.heap.size + 1 + 1, 5, none⟩ = some (.slice none 0 0) := O1v.cell 5
  have f5 := O1v.frozen 5
  have c6 : World.cell? v1 ⟨w.heap.size + 1 + 1, 6, none⟩ = some (.slice none 0 0) := O1v.cell 6
  have f6 := O1v.frozen 6
  have X1q := X1v
  obtain ⟨a0, a1, a2, a3, a4, a5, a6⟩ := X1q
  go_wp2_with fail
  obtain ⟨U2, hU2⟩ : ∃ U, U = (v1.setCell ⟨w.heap.size + 1 + 1, 5, none⟩ (.slice D1A D1.length D1C)) := ⟨_, rfl⟩
  rw [← hU2]
  have O2 : D.Blk U2 (w.heap.size + 1 + 1) 55 #[.slice D0.A0 D0.l0.length D0.c0, .slice D0.A1 D0.l1.length D0.c1, .int .i64 D0.s, .int .i64 D0.v, .int .i64 D0.t, .slice D1A D1.length D1C, .slice none 0 0] := by rw [hU2]; have := (O1v.set_ 5 (.slice D1A D1.length D1C)); simpa using this
  have R2 : D.Blk U2 (w.heap.size + 1) 55 #[.slice none 0 0, .slice none 0 0, .int .i64 0, .int .i64 0, .int .i64 0, .slice none 0 0, .slice none 0 0] := by rw [hU2]; exact (rec_far R1v (by simp) _)
  have X2 : Wd.Box U2 w.heap.size x := by rw [hU2]; exact (X1v.keep (Below.heap_setCell _ _ _ _ (by simp; omega)))
  have b2 : Below w.heap.size w U2 := by rw [hU2]; exact (bv1.setCell (by simp; omega) _)
  have y2 : U2.heap.size = v1.heap.size := by rw [hU2]; simp
  have P0 : Ex.E.Own (w.heap.size + 3) v0.heap.size U2 D0 := by rw [hU2]; exact (P0.far (by simp <;> omega) _)
  have P1 : Un.E.LOwn (v0.heap.size) v1.heap.size U2 D1A D1C D1 := by rw [hU2]; exact (P1.far (by simp <;> omega) _)
  have i2 := hin.below (b2.mono hB)
  have yl2 : v1.heap.size ≤ U2.heap.size := by omega
  have yu2 : U2.heap.size ≤ v1.heap.size := by omega
  clear hU2 O1v R1v X1v bv1 y2 c0 f0 a0 c1 f1 a1 c2 f2 a2 c3 f3 a3 c4 f4 a4 c5 f5 a5 c6 f6 a6
  refine (Xp_toL_any x.esA x.esC x.es B _ (by omega) (Wd.E_in i2).es (by omega)).mono ?_
  rintro e v2 ⟨D2A, D2C, D2, rfl, he2, hod2, hq2⟩
  have zv2 := hq2.size
  have HE2 := Lib.hid he2
  clear he2
  have P0 := P0.below (hq2.mono (by omega))
  have P1 := P1.below (hq2.mono (by omega))
  have X2v := X2.below hq2 (by omega)
  have R2v := R2.below hq2 (by omega)
  have O2v := O2.below hq2 (by omega)
  have bv2 := b2.trans (hq2.mono (by omega))
  have P2 := hod2.wide (lo' := v1.heap.size) (by omega) (Nat.le_refl v2.heap.size)
  clear hod2
  clear hq2 X2 R2 O2 b2 i2
  have c0 : World.cell? v2 ⟨w.heap.size + 1 + 1, 0, none⟩ = some (.slice D0.A0 D0.l0.length D0.c0) := O2v.cell 0
  have f0 := O2v.frozen 0
  have c1 : World.cell? v2 ⟨w.heap.size + 1 + 1, 1, none⟩ = some (.slice D0.A1 D0.l1.length D0.c1) := O2v.cell 1
  have f1 := O2v.frozen 1
  have c2 : World.cell? v2 ⟨w.heap.size + 1 + 1, 2, none⟩ = some (.int .i64 D0.s) := O2v.cell 2
  have f2 := O2v.frozen 2
  have c3 : World.cell? v2 ⟨w.heap.size + 1 + 1, 3, none⟩ = some (.int .i64 D0.v) := O2v.cell 3
  have f3 := O2v.frozen 3
  have c4 : World.cell? v2 ⟨w.heap.size + 1 + 1, 4, none⟩ = some (.int .i64 D0.t) := O2v.cell 4
  have f4 := O2v.frozen 4
  have c5 : World.cell? v2 ⟨w.heap.size + 1 + 1, 5, none⟩ = some (.slice D1A D1.length D1C) := O2v.cell 5
  have f5 := O2v.frozen 5
  have c6 : World.cell? v2 ⟨w.heap.size + 1 + 1, 6, none⟩ = some (.slice none 0 0) := O2v.cell 6
  have f6 := O2v.frozen 6
  have X2q := X2v
  obtain ⟨a0, a1, a2, a3, a4, a5, a6⟩ := X2q
  go_upto_region 5 with fail
  obtain ⟨U3, hU3⟩ : ∃ U, U = (v2.setCell ⟨w.heap.size + 1 + 1, 6, none⟩ (.slice D2A D2.length D2C)) := ⟨_, rfl⟩
  rw [← hU3]
  have O3 : D.Blk U3 (w.heap.size + 1 + 1) 55 #[.slice D0.A0 D0.l0.length D0.c0, .slice D0.A1 D0.l1.length D0.c1, .int .i64 D0.s, .int .i64 D0.v, .int .i64 D0.t, .slice D1A D1.length D1C, .slice D2A D2.length D2C] := by rw [hU3]; have := (O2v.set_ 6 (.slice D2A D2.length D2C)); simpa using this
  have R3 : D.Blk U3 (w.heap.size + 1) 55 #[.slice none 0 0, .slice none 0 0, .int .i64 0, .int .i64 0, .int .i64 0, .slice none 0 0, .slice none 0 0] := by rw [hU3]; exact (rec_far R2v (by simp) _)
  have b3 : Below w.heap.size w U3 := by rw [hU3]; exact (bv2.setCell (by simp; omega) _)
  have y3 : U3.heap.size = v2.heap.size := by rw [hU3]; simp
  have P0 : Ex.E.Own (w.heap.size + 3) v0.heap.size U3 D0 := by rw [hU3]; exact (P0.far (by simp <;> omega) _)
  have P1 : Un.E.LOwn (v0.heap.size) v1.heap.size U3 D1A D1C D1 := by rw [hU3]; exact (P1.far (by simp <;> omega) _)
  have P2 : Xp.E.LOwn (v1.heap.size) v2.heap.size U3 D2A D2C D2 := by rw [hU3]; exact (P2.far (by simp <;> omega) _)
  have yl3 : v2.heap.size ≤ U3.heap.size := by omega
  have yu3 : U3.heap.size ≤ v2.heap.size := by omega
  clear hU3 O2v R2v X2v bv2 y3 c0 f0 a0 c1 f1 a1 c2 f2 a2 c3 f3 a3 c4 f4 a4 c5 f5 a5 c6 f6 a6
  have c0 : World.cell? U3 ⟨w.heap.size + 1 + 1, 0, none⟩ = some (.slice D0.A0 D0.l0.length D0.c0) := O3.cell 0
  have c1 : World.cell? U3 ⟨w.heap.size + 1 + 1, 1, none⟩ = some (.slice D0.A1 D0.l1.length D0.c1) := O3.cell 1
  have c2 : World.cell? U3 ⟨w.heap.size + 1 + 1, 2, none⟩ = some (.int .i64 D0.s) := O3.cell 2
  have c3 : World.cell? U3 ⟨w.heap.size + 1 + 1, 3, none⟩ = some (.int .i64 D0.v) := O3.cell 3
  have c4 : World.cell? U3 ⟨w.heap.size + 1 + 1, 4, none⟩ = some (.int .i64 D0.t) := O3.cell 4
  have c5 : World.cell? U3 ⟨w.heap.size + 1 + 1, 5, none⟩ = some (.slice D1A D1.length D1C) := O3.cell 5
  have c6 : World.cell? U3 ⟨w.heap.size + 1 + 1, 6, none⟩ = some (.slice D2A D2.length D2C) := O3.cell 6
  have r0 : World.cell? U3 ⟨w.heap.size + 1, 0, none⟩ = some (.slice none 0 0) := R3.cell 0
  have g0 := R3.frozen 0
  have r1 : World.cell? U3 ⟨w.heap.size + 1, 1, none⟩ = some (.slice none 0 0) := R3.cell 1
  have g1 := R3.frozen 1
  have r2 : World.cell? U3 ⟨w.heap.size + 1, 2, none⟩ = some (.int .i64 0) := R3.cell 2
  have g2 := R3.frozen 2
  have r3 : World.cell? U3 ⟨w.heap.size + 1, 3, none⟩ = some (.int .i64 0) := R3.cell 3
  have g3 := R3.frozen 3
  have r4 : World.cell? U3 ⟨w.heap.size + 1, 4, none⟩ = some (.int .i64 0) := R3.cell 4
  have g4 := R3.frozen 4
  have r5 : World.cell? U3 ⟨w.heap.size + 1, 5, none⟩ = some (.slice none 0 0) := R3.cell 5
  have g5 := R3.frozen 5
  have r6 : World.cell? U3 ⟨w.heap.size + 1, 6, none⟩ = some (.slice none 0 0) := R3.cell 6
  have g6 := R3.frozen 6
  have PP : Hid (Wd.E.Own (w.heap.size + 3) v2.heap.size U3 (⟨D0, D1A, D1C, D1, D2A, D2C, D2⟩ : Wd)) := Wd.own_of (x := (⟨D0, D1A, D1C, D1, D2A, D2C, D2⟩ : Wd)) P0 P1 P2 (by omega) (by omega) (by omega) 
  clear P0 P1 P2 O3 R3
  go_wp2_with fail
  refine bodyPost_ret (v := .agg #[.slice D0.A0 D0.l0.length D0.c0, .slice D0.A1 D0.l1.length D0.c1, .int .i64 D0.s, .int .i64 D0.v, .int .i64 D0.t, .slice D1A D1.length D1C, .slice D2A D2.length D2C]) (by simp [results, Try.results24, go_sem, r0, r1, r2, r3, r4, r5, r6]) rfl ⟨(⟨D0, D1A, D1C, D1, D2A, D2C, D2⟩ : Wd), rfl, ?_, ?_, ?_⟩
  · show Wd.er _ = _
    simp only [Wd.er, HE0.out, HE1.out, HE2.out]
  · simp only [World.size_setCell]
    exact (((((((PP.out.far (by simp <;> omega) _).far (by simp <;> omega) _).far (by simp <;> omega) _).far (by simp <;> omega) _).far (by simp <;> omega) _).far (by simp <;> omega) _).far (by simp <;> omega) _).wide (by omega) (by omega)
  · exact (((((((b3.setCell (by simp <;> omega) _).setCell (by simp <;> omega) _).setCell (by simp <;> omega) _).setCell (by simp <;> omega) _).setCell (by simp <;> omega) _).setCell (by simp <;> omega) _).setCell (by simp <;> omega) _)
end Go.Proofs.Ytndckeodpoommaa

namespace Go.Proofs.Ytndckeodpoommaa
open Go.RowKit

set_option maxRecDepth 100000 in
set_option maxHeartbeats 4000000 in
theorem Wd_eq_any (x y : Wd) (B : Nat) (w : World) (he : Wd.er x = Wd.er y) (hx : Wd.E.In w B x) (hy : Wd.E.In w B y) (hB : B ≤ w.heap.size) :
    Calls Try.prog 27 #[Wd.val x, Wd.val y] w fun e w' => e = .returned (.bool true) ∧ Below w.heap.size w w' := by
  have h_x := Elem.In.more hx hB
  have h_y := Elem.In.more hy hB
  obtain ⟨e_ex, e_us, e_es⟩ := Wd.er_parts he
  clear he
  have Q_ex := Lib.hid e_ex
  clear e_ex
  have Q_us := Lib.hid e_us
  clear e_us
  have Q_es := Lib.hid e_es
  clear e_es
  unfold Wd.val
  have b0 : Below w.heap.size w w := Below.refl _ _
  have i_x := h_x
  have i_y := h_y
  go_enter Try.func27, Try.ntmps27
  go_wp2_with fail
  obtain ⟨w2, hw2⟩ : ∃ W, W = (w.alloc (.cells #[.slice x.ex.A0 x.ex.l0.length x.ex.c0, .slice x.ex.A1 x.ex.l1.length x.ex.c1, .int .i64 x.ex.s, .int .i64 x.ex.v, .int .i64 x.ex.t, .slice x.usA x.us.length x.usC, .slice x.esA x.es.length x.esC] 55)).alloc (.cells #[.slice y.ex.A0 y.ex.l0.length y.ex.c0, .slice y.ex.A1 y.ex.l1.length y.ex.c1, .int .i64 y.ex.s, .int .i64 y.ex.v, .int .i64 y.ex.t, .slice y.usA y.us.length y.usC, .slice y.esA y.es.length y.esC] 55) := ⟨_, rfl⟩
  rw [← hw2]
  have hb2 : Below w.heap.size w w2 := by rw [hw2]; exact ((Below.refl _ _).alloc (Nat.le_refl _) _).alloc (by simp) _
  have z2 : w.heap.size + 2 ≤ w2.heap.size := by rw [hw2]; simp
  have xa : Wd.Box w2 w.heap.size x := by rw [hw2]; exact (Wd.Box.new w x _).below ((Below.refl (w.heap.size + 1) _).alloc (by simp) _) (by omega)
  have xb : Wd.Box w2 (w.heap.size + 1) y := by rw [hw2]; have := Wd.Box.new (w.alloc (.cells #[.slice x.ex.A0 x.ex.l0.length x.ex.c0, .slice x.ex.A1 x.ex.l1.length x.ex.c1, .int .i64 x.ex.s, .int .i64 x.ex.v, .int .i64 x.ex.t, .slice x.usA x.us.length x.usC, .slice x.esA x.es.length x.esC] 55)) y 55; simpa using this
  clear hw2
  have b2 := b0.trans (hb2.mono (by omega))
  have i_x := h_x.below b2
  have i_y := h_y.below b2
  clear hb2 b0
  have xaq := xa
  obtain ⟨xa_0, xa_1, xa_2, xa_3, xa_4, xa_5, xa_6⟩ := xaq
  have xalt : w.heap.size < w2.heap.size := (by omega)
  have xbq := xb
  obtain ⟨xb_0, xb_1, xb_2, xb_3, xb_4, xb_5, xb_6⟩ := xbq
  have xblt : w.heap.size + 1 < w2.heap.size := (by omega)
  go_wp2_with fail
  clear xa_0 xa_1 xa_2 xa_3 xa_4 xa_5 xa_6 xalt
  clear xb_0 xb_1 xb_2 xb_3 xb_4 xb_5 xb_6 xblt
  refine (Ex_eq_any x.ex y.ex w.heap.size _ Q_ex.out (Wd.E_in i_x).ex (Wd.E_in i_y).ex (by omega)).mono ?_
  rintro e w3 ⟨rfl, hb3⟩
  have z3 := hb3.size
  have xa := xa.below hb3 (by omega)
  have xb := xb.below hb3 (by omega)
  have b3 := b2.trans (hb3.mono (by omega))
  have i_x := h_x.below b3
  have i_y := h_y.below b3
  clear hb3
  have xaq := xa
  obtain ⟨xa_0, xa_1, xa_2, xa_3, xa_4, xa_5, xa_6⟩ := xaq
  have xalt : w.heap.size < w3.heap.size := (by omega)
  have xbq := xb
  obtain ⟨xb_0, xb_1, xb_2, xb_3, xb_4, xb_5, xb_6⟩ := xbq
  have xblt : w.heap.size + 1 < w3.heap.size := (by omega)
  go_wp2_with fail
  clear xa_0 xa_1 xa_2 xa_3 xa_4 xa_5 xa_6 xalt
  clear xb_0 xb_1 xb_2 xb_3 xb_4 xb_5 xb_6 xblt
  refine (Un_eqL_any x.usA x.usC x.us y.usA y.usC y.us w.heap.size _ Q_us.out (Wd.E_in i_x).us (Wd.E_in i_y).us (by omega)).mono ?_
  rintro e w4 ⟨rfl, hb4⟩
  have z4 := hb4.size
  have xa := xa.below hb4 (by omega)
  have xb := xb.below hb4 (by omega)
  have b4 := b3.trans (hb4.mono (by omega))
  have i_x := h_x.below b4
  have i_y := h_y.below b4
  clear hb4
  have xaq := xa
  obtain ⟨xa_0, xa_1, xa_2, xa_3, xa_4, xa_5, xa_6⟩ := xaq
  have xalt : w.heap.size < w4.heap.size := (by omega)
  have xbq := xb
  obtain ⟨xb_0, xb_1, xb_2, xb_3, xb_4, xb_5, xb_6⟩ := xbq
  have xblt : w.heap.size + 1 < w4.heap.size := (by omega)
  go_wp2_with fail
  clear xa_0 xa_1 xa_2 xa_3 xa_4 xa_5 xa_6 xalt
  clear xb_0 xb_1 xb_2 xb_3 xb_4 xb_5 xb_6 xblt
  refine (Xp_eqL_any x.esA x.esC x.es y.esA y.esC y.es w.heap.size _ Q_es.out (Wd.E_in i_x).es (Wd.E_in i_y).es (by omega)).mono ?_
  rintro e w5 ⟨rfl, hb5⟩
  have z5 := hb5.size
  have xa := xa.below hb5 (by omega)
  have xb := xb.below hb5 (by omega)
  have b5 := b4.trans (hb5.mono (by omega))
  have i_x := h_x.below b5
  have i_y := h_y.below b5
  clear hb5
  have xaq := xa
  obtain ⟨xa_0, xa_1, xa_2, xa_3, xa_4, xa_5, xa_6⟩ := xaq
  have xalt : w.heap.size < w5.heap.size := (by omega)
  have xbq := xb
  obtain ⟨xb_0, xb_1, xb_2, xb_3, xb_4, xb_5, xb_6⟩ := xbq
  have xblt : w.heap.size + 1 < w5.heap.size := (by omega)
  go_wp2_with fail
  clear xa_0 xa_1 xa_2 xa_3 xa_4 xa_5 xa_6 xalt
  clear xb_0 xb_1 xb_2 xb_3 xb_4 xb_5 xb_6 xblt
  go_ret
  exact ⟨rfl, b5⟩
end Go.Proofs.Ytndckeodpoommaa
