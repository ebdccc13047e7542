/-
  Unit: what it is and where it lies (written by gen/rec.py).
-/
import Derived.Test.YtndckeodpoommaaRecB
import Derived.Test.YtndckeodpoommaaKoBase
import Derived.Test.YtndckeodpoommaaInts
import Derived.Test.YtndckeodpoommaaSTrees
import Derived.Test.YtndckeodpoommaaKoCopy
import Derived.Deep.DeepCutAuto
import Derived.Deep.RegionHeld3
import Derived.Test.YtndckeodpoommaaCopy
namespace Go.Proofs.Ytndckeodpoommaa
open Go.RowKit

structure Un where
  nm : ByteArray
  gA : Option Addr
  gC : Nat
  g : List Int
  b : Tr Ko
namespace Un
def cells (x : Un) : List Value := [.string x.nm, .slice x.gA x.g.length x.gC, .int .i64 x.b.a.k, .int .i64 x.b.a.n, .slice x.b.a.sA x.b.a.s.length x.b.a.sC, .int .i64 x.b.a.d.k, .int .i64 x.b.a.d.n, .string x.b.a.d.t, .slice x.b.a.d.A x.b.a.d.l.length x.b.a.d.c, .slice x.b.A x.b.l.length x.b.c]
structure In (w : World) (B : Nat) (x : Un) : Prop where
  nm : x.nm.size ≤ 9223372036854775807
  g : IIn w B x.gA x.gC x.g
  b : Ko.E.In w B x.b
def blks (x : Un) : List Nat := iblk x.gA x.g ++ (Ko.E.blks x.b)
def E : Elem Un where
  cells := cells
  n := 10
  pos := by decide
  len := fun _ => rfl
  one := by
    intro b u hu
    simp only [cells, List.mem_cons, List.not_mem_nil, or_false] at hu
    rcases hu with rfl | rfl | rfl | rfl | rfl | rfl | rfl | rfl | rfl | rfl <;> rfl
  In := In
  blks := blks
  lt := fun h b hb => (List.mem_append.1 hb).elim (fun hb => h.g.blk_lt b hb) (fun hb => Elem.In.blk_lt h.b b hb)
  keepB := fun h hk => ⟨h.nm, h.g.keep fun k hm => hk k (List.mem_append.2 (.inl hm)), Elem.In.keepB h.b fun k hm => hk k (List.mem_append.2 (.inr hm))⟩
  more := fun h hB => ⟨h.nm, h.g.more hB, Elem.In.more h.b hB⟩
theorem E_n : E.n = 10 := rfl
theorem E_in {w : World} {B : Nat} {d : Un} (h : E.In w B d) : In w B d := h
theorem E_mk {w : World} {B : Nat} {d : Un} (h : In w B d) : E.In w B d := h
abbrev Er := (ByteArray) × (List Int) × (Tr Ko)
def er (x : Un) : Er := (x.nm, x.g, x.b.er Ko.er)
def bulk (x : Un) : Nat := x.nm.size + x.g.length + x.b.bulk Ko.bulk
def val (d : Un) : Value := .agg #[.string d.nm, .slice d.gA d.g.length d.gC, .int .i64 d.b.a.k, .int .i64 d.b.a.n, .slice d.b.a.sA d.b.a.s.length d.b.a.sC, .int .i64 d.b.a.d.k, .int .i64 d.b.a.d.n, .string d.b.a.d.t, .slice d.b.a.d.A d.b.a.d.l.length d.b.a.d.c, .slice d.b.A d.b.l.length d.b.c]
theorem er_parts {x y : Un} (h : er x = er y) : x.nm = y.nm ∧ x.g = y.g ∧ x.b.er Ko.er = y.b.er Ko.er := by
  unfold er at h
  obtain ⟨a0, h⟩ := Prod.mk.inj h
  obtain ⟨a1, h⟩ := Prod.mk.inj h
  exact ⟨a0, a1, h⟩
theorem bulk_of_er {x y : Un} (h : er x = er y) : bulk x = bulk y := by
  obtain ⟨e_nm, e_g, e_b⟩ := er_parts h
  unfold bulk
  rw [e_nm, e_g, Tr.bulk_of_er (fun _ _ => Ko.bulk_of_er) _ _ e_b]
theorem own_of {l0 l1 l2 : Nat} {w : World} {x : Un} (h_g : IOwn l0 l1 w x.gA x.gC x.g) (h_b : Ko.E.Own l1 l2 w x.b) (h0 : l0 ≤ l1) (h1 : l1 ≤ l2) (p_nm : x.nm.size ≤ 9223372036854775807) : E.Own l0 l2 w x := by
  refine ⟨⟨p_nm, (h_g.inn.more (show l1 ≤ l2 by omega)), h_b.inn⟩, fun k hk => ?_, ?_, fun k hk o => ?_⟩
  · rcases List.mem_append.1 hk with hk | hk
    · have := h_g.lo_ k hk; omega
    have := h_b.lo_ k hk; omega
  · exact (List.nodup_append.2 ⟨S.iblk_nodup _ _, h_b.nd, fun p hp q hq e => by
      have := h_g.inn.blk_lt p hp
      have := h_b.lo_ q hq; omega⟩)
  · rcases List.mem_append.1 hk with hk | hk
    · exact h_g.fr k hk o
    exact h_b.fr k hk o
/-- The cells of element i. -/
theorem at_ {w : World} {B : Nat} {A : Option Addr} {c : Nat} {l : List Un} (h : E.LIn w B A c l) {i : Nat} {x : Un} (hi : l[i]? = some x) :
    ∃ b o : Nat, A = some ⟨b, o, none⟩ ∧ b < B ∧ w.cell? ⟨b, o + i * 10, none⟩ = some (.string x.nm) ∧ w.cell? ⟨b, o + i * 10 + 1, none⟩ = some (.slice x.gA x.g.length x.gC) ∧ w.cell? ⟨b, o + i * 10 + 2, none⟩ = some (.int .i64 x.b.a.k) ∧ w.cell? ⟨b, o + i * 10 + 3, none⟩ = some (.int .i64 x.b.a.n) ∧ w.cell? ⟨b, o + i * 10 + 4, none⟩ = some (.slice x.b.a.sA x.b.a.s.length x.b.a.sC) ∧ w.cell? ⟨b, o + i * 10 + 5, none⟩ = some (.int .i64 x.b.a.d.k) ∧ w.cell? ⟨b, o + i * 10 + 6, none⟩ = some (.int .i64 x.b.a.d.n) ∧ w.cell? ⟨b, o + i * 10 + 7, none⟩ = some (.string x.b.a.d.t) ∧ w.cell? ⟨b, o + i * 10 + 8, none⟩ = some (.slice x.b.a.d.A x.b.a.d.l.length x.b.a.d.c) ∧ w.cell? ⟨b, o + i * 10 + 9, none⟩ = some (.slice x.b.A x.b.l.length x.b.c) ∧ E.In w B x := by
  obtain ⟨b, o, e, hb, hc, hx⟩ := h.at_ hi
  exact ⟨b, o, e, hb, hc 0 _ rfl, hc 1 _ rfl, hc 2 _ rfl, hc 3 _ rfl, hc 4 _ rfl, hc 5 _ rfl, hc 6 _ rfl, hc 7 _ rfl, hc 8 _ rfl, hc 9 _ rfl, hx⟩
/-- A variable that holds one. -/
structure Box (w : World) (g : Nat) (d : Un) : Prop where
  c0 : w.cell? ⟨g, 0, none⟩ = some (.string d.nm)
  c1 : w.cell? ⟨g, 1, none⟩ = some (.slice d.gA d.g.length d.gC)
  c2 : w.cell? ⟨g, 2, none⟩ = some (.int .i64 d.b.a.k)
  c3 : w.cell? ⟨g, 3, none⟩ = some (.int .i64 d.b.a.n)
  c4 : w.cell? ⟨g, 4, none⟩ = some (.slice d.b.a.sA d.b.a.s.length d.b.a.sC)
  c5 : w.cell? ⟨g, 5, none⟩ = some (.int .i64 d.b.a.d.k)
  c6 : w.cell? ⟨g, 6, none⟩ = some (.int .i64 d.b.a.d.n)
  c7 : w.cell? ⟨g, 7, none⟩ = some (.string d.b.a.d.t)
  c8 : w.cell? ⟨g, 8, none⟩ = some (.slice d.b.a.d.A d.b.a.d.l.length d.b.a.d.c)
  c9 : w.cell? ⟨g, 9, none⟩ = some (.slice d.b.A d.b.l.length d.b.c)
theorem Box.keep {w w' : World} {g : Nat} {d : Un} (h : Box w g d) (e : w'.heap[g]? = w.heap[g]?) : Box w' g d := by
  have e : ∀ q, w'.cell? ⟨g, q, none⟩ = w.cell? ⟨g, q, none⟩ := fun q => World.cell?_of_block (a := ⟨g, q, none⟩) e
  exact ⟨(e 0).trans h.c0, (e 1).trans h.c1, (e 2).trans h.c2, (e 3).trans h.c3, (e 4).trans h.c4, (e 5).trans h.c5, (e 6).trans h.c6, (e 7).trans h.c7, (e 8).trans h.c8, (e 9).trans h.c9⟩
theorem Box.below {w w' : World} {g B : Nat} {d : Un} (h : Box w g d) (hb : Below B w w') (hB : g < B) : Box w' g d := h.keep (hb.block g hB)
theorem Box.chg {w w' : World} {g : Nat} {d : Un} {T : List Nat} (h : Box w g d) (hb : Chg T w w') (hlt : g < w.heap.size) (hn : g ∉ T) : Box w' g d := h.keep (hb.block g hlt hn)
theorem Box.new (w : World) (d : Un) (t : TypeId) : Box (w.alloc (.cells #[.string d.nm, .slice d.gA d.g.length d.gC, .int .i64 d.b.a.k, .int .i64 d.b.a.n, .slice d.b.a.sA d.b.a.s.length d.b.a.sC, .int .i64 d.b.a.d.k, .int .i64 d.b.a.d.n, .string d.b.a.d.t, .slice d.b.a.d.A d.b.a.d.l.length d.b.a.d.c, .slice d.b.A d.b.l.length d.b.c] t)) w.heap.size d := by
  have h := D.Blk.new w t #[.string d.nm, .slice d.gA d.g.length d.gC, .int .i64 d.b.a.k, .int .i64 d.b.a.n, .slice d.b.a.sA d.b.a.s.length d.b.a.sC, .int .i64 d.b.a.d.k, .int .i64 d.b.a.d.n, .string d.b.a.d.t, .slice d.b.a.d.A d.b.a.d.l.length d.b.a.d.c, .slice d.b.A d.b.l.length d.b.c]
  exact ⟨h.cell 0, h.cell 1, h.cell 2, h.cell 3, h.cell 4, h.cell 5, h.cell 6, h.cell 7, h.cell 8, h.cell 9⟩
end Un

/-- Returned: one of the call's own. -/
def RetUn (x : Un.Er) (w : World) (e : Ending) (w' : World) : Prop := ∃ d : Un, e = .returned (Un.val d) ∧ Un.er d = x ∧ Un.E.Own w.heap.size w'.heap.size w' d ∧ Below w.heap.size w w'
/-- Returned: a list of the call's own. -/
def RetUnL (x : List Un.Er) (w : World) (e : Ending) (w' : World) : Prop := ∃ (A : Option Addr) (c : Nat) (l : List Un), e = .returned (.slice A l.length c) ∧ l.map Un.er = x ∧ Un.E.LOwn w.heap.size w'.heap.size w' A c l ∧ Below w.heap.size w w'
end Go.Proofs.Ytndckeodpoommaa

namespace Go.Proofs.Ytndckeodpoommaa
open Go.RowKit

set_option maxRecDepth 100000 in
set_option maxHeartbeats 4000000 in
theorem Un_sz_any (d : Un) (B : Nat) (w : World) (left : Int) (h0 : 0 ≤ left) (h1 : left ≤ 1048576) (hin : Un.E.In w B d) (hB : B ≤ w.heap.size) :
    Calls Try.prog 28 #[Un.val d, .int .i64 left] w fun e w' => e = .returned (.int .i64 (szR (d.bulk) left)) ∧ Below w.heap.size w w' := by
  have h_d := Elem.In.more hin hB
  have hbu : ((d.bulk : Nat) : Int) = (d.nm.size : Int) + (d.g.length : Int) + (d.b.bulk Ko.bulk : Int) := by unfold Un.bulk; omega
  have hin_nm := (Un.E_in hin).nm
  unfold Un.val
  by_cases hz0 : (d.nm.size : Int) ≤ left
  · skip
    by_cases hz1 : (d.g.length : Int) ≤ left - (d.nm.size : Int)
    · skip
      by_cases hz2 : (d.b.bulk Ko.bulk : Int) ≤ left - (d.nm.size : Int) - (d.g.length : Int)
      · skip
        have HR : Hid (szR (d.bulk) left = left - (d.nm.size : Int) - (d.g.length : Int) - (d.b.bulk Ko.bulk : Int)) := by show _ = _; rw [szR_yes (by omega)]; omega
        clear hbu
        have b0 : Below w.heap.size w w := Below.refl _ _
        have i_d := h_d
        go_enter Try.func28, Try.ntmps28
        have n0 : ¬ (left - (d.nm.size : Int) < 0) := by omega
        go_wp2_with fail
        obtain ⟨w1, hw1⟩ : ∃ W, W = w.alloc (.cells #[.string d.nm, .slice d.gA d.g.length d.gC, .int .i64 d.b.a.k, .int .i64 d.b.a.n, .slice d.b.a.sA d.b.a.s.length d.b.a.sC, .int .i64 d.b.a.d.k, .int .i64 d.b.a.d.n, .string d.b.a.d.t, .slice d.b.a.d.A d.b.a.d.l.length d.b.a.d.c, .slice d.b.A d.b.l.length d.b.c] 67) := ⟨_, rfl⟩
        rw [← hw1]
        have hb1 : Below w.heap.size w w1 := by rw [hw1]; exact (Below.refl _ _).alloc (Nat.le_refl _) _
        have z1 : w.heap.size + 1 ≤ w1.heap.size := by rw [hw1]; simp
        have y1 : w1.heap.size ≤ w.heap.size + 1 := by rw [hw1]; simp
        have xb : Un.Box w1 w.heap.size d := by rw [hw1]; exact Un.Box.new _ _ _
        clear hw1
        have b1 := b0.trans (hb1.mono (by omega))
        have i_d := h_d.below b1
        clear hb1
        have xbq := xb
        obtain ⟨xb_0, xb_1, xb_2, xb_3, xb_4, xb_5, xb_6, xb_7, xb_8, xb_9⟩ := xbq
        have xblt : w.heap.size < w1.heap.size := (by omega)
        go_wp2_with fail
        clear xb_0 xb_1 xb_2 xb_3 xb_4 xb_5 xb_6 xb_7 xb_8 xb_9 xblt
        refine (szIR_any d.gA d.gC d.g _ (left - (d.nm.size : Int)) (Un.E_in i_d).g.cap (by omega) (by omega)).mono ?_
        rintro e w0 ⟨rfl, hw0⟩
        obtain rfl := hw0.symm
        rw [szR_yes (by omega)]
        have n1 : ¬ (left - (d.nm.size : Int) - (d.g.length : Int) < 0) := by omega
        have xbq := xb
        obtain ⟨xb_0, xb_1, xb_2, xb_3, xb_4, xb_5, xb_6, xb_7, xb_8, xb_9⟩ := xbq
        have xblt : w.heap.size < w1.heap.size := (by omega)
        go_wp2_with fail
        clear xb_0 xb_1 xb_2 xb_3 xb_4 xb_5 xb_6 xb_7 xb_8 xb_9 xblt
        refine (Ko_sz_any _ d.b w.heap.size _ (left - (d.nm.size : Int) - (d.g.length : Int)) (Nat.le_refl _) (by omega) (by omega) (Un.E_in i_d).b (by omega)).mono ?_
        rintro e w2 ⟨rfl, hb2⟩
        have z2 := hb2.size
        have xb := xb.below hb2 (by omega)
        have b2 := b1.trans (hb2.mono (by omega))
        have i_d := h_d.below b2
        clear hb2
        rw [szR_yes (by omega)]
        have n2 : ¬ (left - (d.nm.size : Int) - (d.g.length : Int) - (d.b.bulk Ko.bulk : Int) < 0) := by omega
        have xbq := xb
        obtain ⟨xb_0, xb_1, xb_2, xb_3, xb_4, xb_5, xb_6, xb_7, xb_8, xb_9⟩ := xbq
        have xblt : w.heap.size < w2.heap.size := (by omega)
        go_wp2_with fail
        clear xb_0 xb_1 xb_2 xb_3 xb_4 xb_5 xb_6 xb_7 xb_8 xb_9 xblt
        go_ret
        exact ⟨ret_int HR.out.symm, b2⟩
      · skip
        have HR : Hid (szR (d.bulk) left = -1) := szR_no (by omega)
        clear hbu
        have b0 : Below w.heap.size w w := Below.refl _ _
        have i_d := h_d
        go_enter Try.func28, Try.ntmps28
        have n0 : ¬ (left - (d.nm.size : Int) < 0) := by omega
        go_wp2_with fail
        obtain ⟨w1, hw1⟩ : ∃ W, W = w.alloc (.cells #[.string d.nm, .slice d.gA d.g.length d.gC, .int .i64 d.b.a.k, .int .i64 d.b.a.n, .slice d.b.a.sA d.b.a.s.length d.b.a.sC, .int .i64 d.b.a.d.k, .int .i64 d.b.a.d.n, .string d.b.a.d.t, .slice d.b.a.d.A d.b.a.d.l.length d.b.a.d.c, .slice d.b.A d.b.l.length d.b.c] 67) := ⟨_, rfl⟩
        rw [← hw1]
        have hb1 : Below w.heap.size w w1 := by rw [hw1]; exact (Below.refl _ _).alloc (Nat.le_refl _) _
        have z1 : w.heap.size + 1 ≤ w1.heap.size := by rw [hw1]; simp
        have y1 : w1.heap.size ≤ w.heap.size + 1 := by rw [hw1]; simp
        have xb : Un.Box w1 w.heap.size d := by rw [hw1]; exact Un.Box.new _ _ _
        clear hw1
        have b1 := b0.trans (hb1.mono (by omega))
        have i_d := h_d.below b1
        clear hb1
        have xbq := xb
        obtain ⟨xb_0, xb_1, xb_2, xb_3, xb_4, xb_5, xb_6, xb_7, xb_8, xb_9⟩ := xbq
        have xblt : w.heap.size < w1.heap.size := (by omega)
        go_wp2_with fail
        clear xb_0 xb_1 xb_2 xb_3 xb_4 xb_5 xb_6 xb_7 xb_8 xb_9 xblt
        refine (szIR_any d.gA d.gC d.g _ (left - (d.nm.size : Int)) (Un.E_in i_d).g.cap (by omega) (by omega)).mono ?_
        rintro e w0 ⟨rfl, hw0⟩
        obtain rfl := hw0.symm
        rw [szR_yes (by omega)]
        have n1 : ¬ (left - (d.nm.size : Int) - (d.g.length : Int) < 0) := by omega
        have xbq := xb
        obtain ⟨xb_0, xb_1, xb_2, xb_3, xb_4, xb_5, xb_6, xb_7, xb_8, xb_9⟩ := xbq
        have xblt : w.heap.size < w1.heap.size := (by omega)
        go_wp2_with fail
        clear xb_0 xb_1 xb_2 xb_3 xb_4 xb_5 xb_6 xb_7 xb_8 xb_9 xblt
        refine (Ko_sz_any _ d.b w.heap.size _ (left - (d.nm.size : Int) - (d.g.length : Int)) (Nat.le_refl _) (by omega) (by omega) (Un.E_in i_d).b (by omega)).mono ?_
        rintro e w2 ⟨rfl, hb2⟩
        have z2 := hb2.size
        have xb := xb.below hb2 (by omega)
        have b2 := b1.trans (hb2.mono (by omega))
        have i_d := h_d.below b2
        clear hb2
        rw [szR_no (by omega)]
        have xbq := xb
        obtain ⟨xb_0, xb_1, xb_2, xb_3, xb_4, xb_5, xb_6, xb_7, xb_8, xb_9⟩ := xbq
        have xblt : w.heap.size < w2.heap.size := (by omega)
        go_wp2_with fail
        clear xb_0 xb_1 xb_2 xb_3 xb_4 xb_5 xb_6 xb_7 xb_8 xb_9 xblt
        go_ret
        exact ⟨ret_int HR.out.symm, b2⟩
    · skip
      have HR : Hid (szR (d.bulk) left = -1) := szR_no (by omega)
      clear hbu
      have b0 : Below w.heap.size w w := Below.refl _ _
      have i_d := h_d
      go_enter Try.func28, Try.ntmps28
      have n0 : ¬ (left - (d.nm.size : Int) < 0) := by omega
      go_wp2_with fail
      obtain ⟨w1, hw1⟩ : ∃ W, W = w.alloc (.cells #[.string d.nm, .slice d.gA d.g.length d.gC, .int .i64 d.b.a.k, .int .i64 d.b.a.n, .slice d.b.a.sA d.b.a.s.length d.b.a.sC, .int .i64 d.b.a.d.k, .int .i64 d.b.a.d.n, .string d.b.a.d.t, .slice d.b.a.d.A d.b.a.d.l.length d.b.a.d.c, .slice d.b.A d.b.l.length d.b.c] 67) := ⟨_, rfl⟩
      rw [← hw1]
      have hb1 : Below w.heap.size w w1 := by rw [hw1]; exact (Below.refl _ _).alloc (Nat.le_refl _) _
      have z1 : w.heap.size + 1 ≤ w1.heap.size := by rw [hw1]; simp
      have y1 : w1.heap.size ≤ w.heap.size + 1 := by rw [hw1]; simp
      have xb : Un.Box w1 w.heap.size d := by rw [hw1]; exact Un.Box.new _ _ _
      clear hw1
      have b1 := b0.trans (hb1.mono (by omega))
      have i_d := h_d.below b1
      clear hb1
      have xbq := xb
      obtain ⟨xb_0, xb_1, xb_2, xb_3, xb_4, xb_5, xb_6, xb_7, xb_8, xb_9⟩ := xbq
      have xblt : w.heap.size < w1.heap.size := (by omega)
      go_wp2_with fail
      clear xb_0 xb_1 xb_2 xb_3 xb_4 xb_5 xb_6 xb_7 xb_8 xb_9 xblt
      refine (szIR_any d.gA d.gC d.g _ (left - (d.nm.size : Int)) (Un.E_in i_d).g.cap (by omega) (by omega)).mono ?_
      rintro e w0 ⟨rfl, hw0⟩
      obtain rfl := hw0.symm
      rw [szR_no (by omega)]
      have xbq := xb
      obtain ⟨xb_0, xb_1, xb_2, xb_3, xb_4, xb_5, xb_6, xb_7, xb_8, xb_9⟩ := xbq
      have xblt : w.heap.size < w1.heap.size := (by omega)
      go_wp2_with fail
      clear xb_0 xb_1 xb_2 xb_3 xb_4 xb_5 xb_6 xb_7 xb_8 xb_9 xblt
      go_ret
      exact ⟨ret_int HR.out.symm, b1⟩
  · skip
    have HR : Hid (szR (d.bulk) left = -1) := szR_no (by omega)
    clear hbu
    have b0 : Below w.heap.size w w := Below.refl _ _
    have i_d := h_d
    go_enter Try.func28, Try.ntmps28
    have n0 : left - (d.nm.size : Int) < 0 := by omega
    go_wp2_with fail
    go_ret
    exact ⟨ret_int HR.out.symm, (Below.refl _ _).alloc (Nat.le_refl _) _⟩
end Go.Proofs.Ytndckeodpoommaa

namespace Go.Proofs.Ytndckeodpoommaa
open Go.RowKit

set_option maxRecDepth 100000 in
set_option maxHeartbeats 8000000 in
theorem Un_to_any (x : Un) (B : Nat) (w : World) (hbk0 : x.bulk ≤ 1500000) (hin : Un.E.In w B x) (hB : B ≤ w.heap.size) : Calls Try.prog 30 #[Un.val x] w (RetUn (Un.er x) w) := by
  have hbk : x.nm.size + x.g.length + x.b.bulk Ko.bulk ≤ 1500000 := hbk0
  clear hbk0
  obtain ⟨W1, hW1⟩ : ∃ W1, W1 = w.alloc (.cells #[.string x.nm, .slice x.gA x.g.length x.gC, .int .i64 x.b.a.k, .int .i64 x.b.a.n, .slice x.b.a.sA x.b.a.s.length x.b.a.sC, .int .i64 x.b.a.d.k, .int .i64 x.b.a.d.n, .string x.b.a.d.t, .slice x.b.a.d.A x.b.a.d.l.length x.b.a.d.c, .slice x.b.A x.b.l.length x.b.c] 67) := ⟨_, rfl⟩
  obtain ⟨W2, hW2⟩ : ∃ W2, W2 = W1.alloc (.cells #[.string ⟨#[]⟩, .slice none 0 0, .int .i64 0, .int .i64 0, .slice none 0 0, .int .i64 0, .int .i64 0, .string ⟨#[]⟩, .slice none 0 0, .slice none 0 0] 77) := ⟨_, rfl⟩
  obtain ⟨W3, hW3⟩ : ∃ W3, W3 = W2.alloc (.cells #[.string x.nm, .slice none 0 0, .int .i64 0, .int .i64 0, .slice none 0 0, .int .i64 0, .int .i64 0, .string ⟨#[]⟩, .slice none 0 0, .slice none 0 0] 77) := ⟨_, rfl⟩
  have z1 : W1.heap.size = w.heap.size + 1 := by rw [hW1]; simp
  have z2 : W2.heap.size = w.heap.size + 1 + 1 := by rw [hW2]; simp [z1]
  have z3 : W3.heap.size = w.heap.size + 1 + 1 + 1 := by rw [hW3]; simp [z2]
  have B1 : Below w.heap.size w W1 := by rw [hW1]; exact (Below.refl _ _).alloc (Nat.le_refl _) _
  have B2 : Below W1.heap.size W1 W2 := by rw [hW2]; exact (Below.refl _ _).alloc (Nat.le_refl _) _
  have B3 : Below W2.heap.size W2 W3 := by rw [hW3]; exact (Below.refl _ _).alloc (Nat.le_refl _) _
  have X0 : Un.Box W1 w.heap.size x := by rw [hW1]; exact Un.Box.new _ _ _
  have X0 := (X0.below B2 (by omega)).below B3 (by omega)
  have R0 : D.Blk W2 (w.heap.size + 1) 77 #[.string ⟨#[]⟩, .slice none 0 0, .int .i64 0, .int .i64 0, .slice none 0 0, .int .i64 0, .int .i64 0, .string ⟨#[]⟩, .slice none 0 0, .slice none 0 0] := by rw [hW2, ← z1]; exact D.Blk.new _ _ _
  have R0 := R0.below B3 (by omega)
  have O0 : D.Blk W3 (w.heap.size + 1 + 1) 77 #[.string x.nm, .slice none 0 0, .int .i64 0, .int .i64 0, .slice none 0 0, .int .i64 0, .int .i64 0, .string ⟨#[]⟩, .slice none 0 0, .slice none 0 0] := by rw [hW3, ← z2]; exact D.Blk.new _ _ _
  have b0 : Below w.heap.size w W3 := (B1.trans (B2.mono (by omega))).trans (B3.mono (by omega))
  have y3 : w.heap.size + 3 ≤ W3.heap.size := by omega
  have i0 := hin.below (b0.mono hB)
  unfold Un.val
  have X0q := X0
  obtain ⟨a0, a1, a2, a3, a4, a5, a6, a7, a8, a9⟩ := X0q
  go_enter Try.func30, Try.ntmps30
  go_wp2_with fail
  rw [← hW1, ← hW2, ← hW3]
  clear hW1 hW2 hW3 B1 B2 B3 z1 z2 z3 a0 a1 a2 a3 a4 a5 a6 a7 a8 a9
  refine (toI_any x.gA x.gC x.g B _ (by omega) (Un.E_in i0).g (by omega)).mono ?_
  rintro e v0 ⟨D0A, D0C, rfl, hod0, hq0⟩
  have zv0 := hq0.size
  have X0v := X0.below hq0 (by omega)
  have R0v := R0.below hq0 (by omega)
  have O0v := O0.below hq0 (by omega)
  have bv0 := b0.trans (hq0.mono (by omega))
  have P0 := hod0.wide (lo' := w.heap.size + 3) (by omega) (Nat.le_refl v0.heap.size)
  clear hod0
  clear hq0 X0 R0 O0 b0 i0
  have c0 : World.cell? v0 ⟨w.heap.size + 1 + 1, 0, none⟩ = some (.string x.nm) := O0v.cell 0
  have f0 := O0v.frozen 0
  have c1 : World.cell? v0 ⟨w.heap.size + 1 + 1, 1, none⟩ = some (.slice none 0 0) := O0v.cell 1
  have f1 := O0v.frozen 1
  have c2 : World.cell? v0 ⟨w.heap.size + 1 + 1, 2, none⟩ = some (.int .i64 0) := O0v.cell 2
  have f2 := O0v.frozen 2
  have c3 : World.cell? v0 ⟨w.heap.size + 1 + 1, 3, none⟩ = some (.int .i64 0) := O0v.cell 3
  have f3 := O0v.frozen 3
  have c4 : World.cell? v0 ⟨w.heap.size + 1 + 1, 4, none⟩ = some (.slice none 0 0) := O0v.cell 4
  have f4 := O0v.frozen 4
  have c5 : World.cell? v0 ⟨w.heap.size + 1 + 1, 5, none⟩ = some (.int .i64 0) := O0v.cell 5
  have f5 := O0v.frozen 5
  have c6 : World.cell? v0 ⟨w.heap.size + 1 + 1, 6, none⟩ = some (.int .i64 0) := O0v.cell 6
  have f6 := O0v.frozen 6
  have c7 : World.cell? v0 ⟨w.heap.size + 1 + 1, 7, none⟩ = some (.string ⟨#[]⟩) := O0v.cell 7
  have f7 := O0v.frozen 7
  have c8 : World.cell? v0 ⟨w.heap.size + 1 + 1, 8, none⟩ = some (.slice none 0 0) := O0v.cell 8
  have f8 := O0v.frozen 8
  have c9 : World.cell? v0 ⟨w.heap.size + 1 + 1, 9, none⟩ = some (.slice none 0 0) := O0v.cell 9
  have f9 := O0v.frozen 9
  have X0q := X0v
  obtain ⟨a0, a1, a2, a3, a4, a5, a6, a7, a8, a9⟩ := X0q
  go_wp2_with fail
  obtain ⟨U1, hU1⟩ : ∃ U, U = (v0.setCell ⟨w.heap.size + 1 + 1, 1, none⟩ (.slice D0A x.g.length D0C)) := ⟨_, rfl⟩
  rw [← hU1]
  have O1 : D.Blk U1 (w.heap.size + 1 + 1) 77 #[.string x.nm, .slice D0A x.g.length D0C, .int .i64 0, .int .i64 0, .slice none 0 0, .int .i64 0, .int .i64 0, .string ⟨#[]⟩, .slice none 0 0, .slice none 0 0] := by rw [hU1]; have := (O0v.set_ 1 (.slice D0A x.g.length D0C)); simpa using this
  have R1 : D.Blk U1 (w.heap.size + 1) 77 #[.string ⟨#[]⟩, .slice none 0 0, .int .i64 0, .int .i64 0, .slice none 0 0, .int .i64 0, .int .i64 0, .string ⟨#[]⟩, .slice none 0 0, .slice none 0 0] := by rw [hU1]; exact (rec_far R0v (by simp) _)
  have X1 : Un.Box U1 w.heap.size x := by rw [hU1]; exact (X0v.keep (Below.heap_setCell _ _ _ _ (by simp; omega)))
  have b1 : Below w.heap.size w U1 := by rw [hU1]; exact (bv0.setCell (by simp; omega) _)
  have y1 : U1.heap.size = v0.heap.size := by rw [hU1]; simp
  have P0 : IOwn (w.heap.size + 3) v0.heap.size U1 D0A D0C x.g := by rw [hU1]; exact (P0.far (by simp <;> omega) _)
  have i1 := hin.below (b1.mono hB)
  have yl1 : v0.heap.size ≤ U1.heap.size := by omega
  have yu1 : U1.heap.size ≤ v0.heap.size := by omega
  clear hU1 O0v R0v X0v bv0 y1 c0 f0 a0 c1 f1 a1 c2 f2 a2 c3 f3 a3 c4 f4 a4 c5 f5 a5 c6 f6 a6 c7 f7 a7 c8 f8 a8 c9 f9 a9
  refine (Ko_to_any _ x.b B _ (by omega) (Nat.le_refl _) (Un.E_in i1).b (by omega)).mono ?_
  rintro e v1 ⟨D1, rfl, he1, hod1, hq1⟩
  have zv1 := hq1.size
  have HE1 := Lib.hid he1
  clear he1
  have P0 := P0.below (hq1.mono (by omega))
  have X1v := X1.below hq1 (by omega)
  have R1v := R1.below hq1 (by omega)
  have O1v := O1.below hq1 (by omega)
  have bv1 := b1.trans (hq1.mono (by omega))
  have P1 := hod1.wide (lo' := v0.heap.size) (by omega) (Nat.le_refl v1.heap.size)
  clear hod1
  clear hq1 X1 R1 O1 b1 i1
  have c0 : World.cell? v1 ⟨w.heap.size + 1 + 1, 0, none⟩ = some (.string x.nm) := O1v.cell 0
  have f0 := O1v.frozen 0
  have c1 : World.cell? v1 ⟨w.heap.size + 1 + 1, 1, none⟩ = some (.slice D0A x.g.length D0C) := O1v.cell 1
  have f1 := O1v.frozen 1
  have c2 : World.cell? v1 ⟨w.heap.size + 1 + 1, 2, none⟩ = some (.int .i64 0) := O1v.cell 2
  have f2 := O1v.frozen 2
  have c3 : World.cell? v1 ⟨w.heap.size + 1 + 1, 3, none⟩ = some (.int .i64 0) := O1v.cell 3
  have f3 := O1v.frozen 3
  have c4 : World.cell? v1 ⟨w.heap.size + 1 + 1, 4, none⟩ = some (.slice none 0 0) := O1v.cell 4
  have f4 := O1v.frozen 4
  have c5 : World.cell? v1 ⟨w.heap.size + 1 + 1, 5, none⟩ = some (.int .i64 0) := O1v.cell 5
  have f5 := O1v.frozen 5
  have c6 : World.cell? v1 ⟨w.heap.size + 1 + 1, 6, none⟩ = some (.int .i64 0) := O1v.cell 6
  have f6 := O1v.frozen 6
  have c7 : World.cell? v1 ⟨w.heap.size + 1 + 1, 7, none⟩ = some (.string ⟨#[]⟩) := O1v.cell 7
  have f7 := O1v.frozen 7
  have c8 : World.cell? v1 ⟨w.heap.size + 1 + 1, 8, none⟩ = some (.slice none 0 0) := O1v.cell 8
  have f8 := O1v.frozen 8
  have c9 : World.cell? v1 ⟨w.heap.size + 1 + 1, 9, none⟩ = some (.slice none 0 0) := O1v.cell 9
  have f9 := O1v.frozen 9
  have X1q := X1v
  obtain ⟨a0, a1, a2, a3, a4, a5, a6, a7, a8, a9⟩ := X1q
  simp only [Ko.val]
  go_upto_region 5 with fail
  obtain ⟨U2, hU2⟩ : ∃ U, U = ((((((((v1.setCell ⟨w.heap.size + 1 + 1, 2, none⟩ (.int .i64 D1.a.k)).setCell ⟨w.heap.size + 1 + 1, 3, none⟩ (.int .i64 D1.a.n)).setCell ⟨w.heap.size + 1 + 1, 4, none⟩ (.slice D1.a.sA D1.a.s.length D1.a.sC)).setCell ⟨w.heap.size + 1 + 1, 5, none⟩ (.int .i64 D1.a.d.k)).setCell ⟨w.heap.size + 1 + 1, 6, none⟩ (.int .i64 D1.a.d.n)).setCell ⟨w.heap.size + 1 + 1, 7, none⟩ (.string D1.a.d.t)).setCell ⟨w.heap.size + 1 + 1, 8, none⟩ (.slice D1.a.d.A D1.a.d.l.length D1.a.d.c)).setCell ⟨w.heap.size + 1 + 1, 9, none⟩ (.slice D1.A D1.l.length D1.c)) := ⟨_, rfl⟩
  rw [← hU2]
  have O2 : D.Blk U2 (w.heap.size + 1 + 1) 77 #[.string x.nm, .slice D0A x.g.length D0C, .int .i64 D1.a.k, .int .i64 D1.a.n, .slice D1.a.sA D1.a.s.length D1.a.sC, .int .i64 D1.a.d.k, .int .i64 D1.a.d.n, .string D1.a.d.t, .slice D1.a.d.A D1.a.d.l.length D1.a.d.c, .slice D1.A D1.l.length D1.c] := by rw [hU2]; have := ((((((((O1v.set_ 2 (.int .i64 D1.a.k)).set_ 3 (.int .i64 D1.a.n)).set_ 4 (.slice D1.a.sA D1.a.s.length D1.a.sC)).set_ 5 (.int .i64 D1.a.d.k)).set_ 6 (.int .i64 D1.a.d.n)).set_ 7 (.string D1.a.d.t)).set_ 8 (.slice D1.a.d.A D1.a.d.l.length D1.a.d.c)).set_ 9 (.slice D1.A D1.l.length D1.c)); simpa using this
  have R2 : D.Blk U2 (w.heap.size + 1) 77 #[.string ⟨#[]⟩, .slice none 0 0, .int .i64 0, .int .i64 0, .slice none 0 0, .int .i64 0, .int .i64 0, .string ⟨#[]⟩, .slice none 0 0, .slice none 0 0] := by rw [hU2]; exact (rec_far (rec_far (rec_far (rec_far (rec_far (rec_far (rec_far (rec_far R1v (by simp) _) (by simp) _) (by simp) _) (by simp) _) (by simp) _) (by simp) _) (by simp) _) (by simp) _)
  have b2 : Below w.heap.size w U2 := by rw [hU2]; exact ((((((((bv1.setCell (by simp; omega) _).setCell (by simp; omega) _).setCell (by simp; omega) _).setCell (by simp; omega) _).setCell (by simp; omega) _).setCell (by simp; omega) _).setCell (by simp; omega) _).setCell (by simp; omega) _)
  have y2 : U2.heap.size = v1.heap.size := by rw [hU2]; simp
  have P0 : IOwn (w.heap.size + 3) v0.heap.size U2 D0A D0C x.g := by rw [hU2]; exact ((((((((P0.far (by simp <;> omega) _).far (by simp <;> omega) _).far (by simp <;> omega) _).far (by simp <;> omega) _).far (by simp <;> omega) _).far (by simp <;> omega) _).far (by simp <;> omega) _).far (by simp <;> omega) _)
  have P1 : Ko.E.Own (v0.heap.size) v1.heap.size U2 D1 := by rw [hU2]; exact ((((((((P1.far (by simp <;> omega) _).far (by simp <;> omega) _).far (by simp <;> omega) _).far (by simp <;> omega) _).far (by simp <;> omega) _).far (by simp <;> omega) _).far (by simp <;> omega) _).far (by simp <;> omega) _)
  have yl2 : v1.heap.size ≤ U2.heap.size := by omega
  have yu2 : U2.heap.size ≤ v1.heap.size := by omega
  clear hU2 O1v R1v X1v bv1 y2 c0 f0 a0 c1 f1 a1 c2 f2 a2 c3 f3 a3 c4 f4 a4 c5 f5 a5 c6 f6 a6 c7 f7 a7 c8 f8 a8 c9 f9 a9
  have c0 : World.cell? U2 ⟨w.heap.size + 1 + 1, 0, none⟩ = some (.string x.nm) := O2.cell 0
  have c1 : World.cell? U2 ⟨w.heap.size + 1 + 1, 1, none⟩ = some (.slice D0A x.g.length D0C) := O2.cell 1
  have c2 : World.cell? U2 ⟨w.heap.size + 1 + 1, 2, none⟩ = some (.int .i64 D1.a.k) := O2.cell 2
  have c3 : World.cell? U2 ⟨w.heap.size + 1 + 1, 3, none⟩ = some (.int .i64 D1.a.n) := O2.cell 3
  have c4 : World.cell? U2 ⟨w.heap.size + 1 + 1, 4, none⟩ = some (.slice D1.a.sA D1.a.s.length D1.a.sC) := O2.cell 4
  have c5 : World.cell? U2 ⟨w.heap.size + 1 + 1, 5, none⟩ = some (.int .i64 D1.a.d.k) := O2.cell 5
  have c6 : World.cell? U2 ⟨w.heap.size + 1 + 1, 6, none⟩ = some (.int .i64 D1.a.d.n) := O2.cell 6
  have c7 : World.cell? U2 ⟨w.heap.size + 1 + 1, 7, none⟩ = some (.string D1.a.d.t) := O2.cell 7
  have c8 : World.cell? U2 ⟨w.heap.size + 1 + 1, 8, none⟩ = some (.slice D1.a.d.A D1.a.d.l.length D1.a.d.c) := O2.cell 8
  have c9 : World.cell? U2 ⟨w.heap.size + 1 + 1, 9, none⟩ = some (.slice D1.A D1.l.length D1.c) := O2.cell 9
  have r0 : World.cell? U2 ⟨w.heap.size + 1, 0, none⟩ = some (.string ⟨#[]⟩) := R2.cell 0
  have g0 := R2.frozen 0
  have r1 : World.cell? U2 ⟨w.heap.size + 1, 1, none⟩ = some (.slice none 0 0) := R2.cell 1
  have g1 := R2.frozen 1
  have r2 : World.cell? U2 ⟨w.heap.size + 1, 2, none⟩ = some (.int .i64 0) := R2.cell 2
  have g2 := R2.frozen 2
  have r3 : World.cell? U2 ⟨w.heap.size + 1, 3, none⟩ = some (.int .i64 0) := R2.cell 3
  have g3 := R2.frozen 3
  have r4 : World.cell? U2 ⟨w.heap.size + 1, 4, none⟩ = some (.slice none 0 0) := R2.cell 4
  have g4 := R2.frozen 4
  have r5 : World.cell? U2 ⟨w.heap.size + 1, 5, none⟩ = some (.int .i64 0) := R2.cell 5
  have g5 := R2.frozen 5
  have r6 : World.cell? U2 ⟨w.heap.size + 1, 6, none⟩ = some (.int .i64 0) := R2.cell 6
  have g6 := R2.frozen 6
  have r7 : World.cell? U2 ⟨w.heap.size + 1, 7, none⟩ = some (.string ⟨#[]⟩) := R2.cell 7
  have g7 := R2.frozen 7
  have r8 : World.cell? U2 ⟨w.heap.size + 1, 8, none⟩ = some (.slice none 0 0) := R2.cell 8
  have g8 := R2.frozen 8
  have r9 : World.cell? U2 ⟨w.heap.size + 1, 9, none⟩ = some (.slice none 0 0) := R2.cell 9
  have g9 := R2.frozen 9
  have PP : Hid (Un.E.Own (w.heap.size + 3) v1.heap.size U2 (⟨x.nm, D0A, D0C, x.g, D1⟩ : Un)) := Un.own_of (x := (⟨x.nm, D0A, D0C, x.g, D1⟩ : Un)) P0 P1 (by omega) (by omega) (Un.E_in hin).nm
  clear P0 P1 O2 R2
  go_wp2_with fail
  refine bodyPost_ret (v := .agg #[.string x.nm, .slice D0A x.g.length D0C, .int .i64 D1.a.k, .int .i64 D1.a.n, .slice D1.a.sA D1.a.s.length D1.a.sC, .int .i64 D1.a.d.k, .int .i64 D1.a.d.n, .string D1.a.d.t, .slice D1.a.d.A D1.a.d.l.length D1.a.d.c, .slice D1.A D1.l.length D1.c]) (by simp [results, Try.results30, go_sem, r0, r1, r2, r3, r4, r5, r6, r7, r8, r9]) rfl ⟨(⟨x.nm, D0A, D0C, x.g, D1⟩ : Un), rfl, ?_, ?_, ?_⟩
  · show Un.er _ = _
    simp only [Un.er, HE1.out]
  · simp only [World.size_setCell]
    exact ((((((((((PP.out.far (by simp <;> omega) _).far (by simp <;> omega) _).far (by simp <;> omega) _).far (by simp <;> omega) _).far (by simp <;> omega) _).far (by simp <;> omega) _).far (by simp <;> omega) _).far (by simp <;> omega) _).far (by simp <;> omega) _).far (by simp <;> omega) _).wide (by omega) (by omega)
  · exact ((((((((((b2.setCell (by simp <;> omega) _).setCell (by simp <;> omega) _).setCell (by simp <;> omega) _).setCell (by simp <;> omega) _).setCell (by simp <;> omega) _).setCell (by simp <;> omega) _).setCell (by simp <;> omega) _).setCell (by simp <;> omega) _).setCell (by simp <;> omega) _).setCell (by simp <;> omega) _)
end Go.Proofs.Ytndckeodpoommaa

namespace Go.Proofs.Ytndckeodpoommaa
open Go.RowKit

set_option maxRecDepth 100000 in
set_option maxHeartbeats 4000000 in
theorem Un_eq_any (x y : Un) (B : Nat) (w : World) (he : Un.er x = Un.er y) (hx : Un.E.In w B x) (hy : Un.E.In w B y) (hB : B ≤ w.heap.size) :
    Calls Try.prog 33 #[Un.val x, Un.val y] w fun e w' => e = .returned (.bool true) ∧ Below w.heap.size w w' := by
  have h_x := Elem.In.more hx hB
  have h_y := Elem.In.more hy hB
  obtain ⟨e_nm, e_g, e_b⟩ := Un.er_parts he
  clear he
  have n_nm : (x.nm.toList == y.nm.toList) = true := by rw [e_nm]; simp
  clear e_nm
  have Q_g := Lib.hid (show (x.g == y.g) = true by rw [e_g]; exact beq_self_eq_true _)
  clear e_g
  have Q_b := Lib.hid e_b
  clear e_b
  unfold Un.val
  have b0 : Below w.heap.size w w := Below.refl _ _
  have i_x := h_x
  have i_y := h_y
  go_enter Try.func33, Try.ntmps33
  go_wp2_with fail
  obtain ⟨w2, hw2⟩ : ∃ W, W = (w.alloc (.cells #[.string x.nm, .slice x.gA x.g.length x.gC, .int .i64 x.b.a.k, .int .i64 x.b.a.n, .slice x.b.a.sA x.b.a.s.length x.b.a.sC, .int .i64 x.b.a.d.k, .int .i64 x.b.a.d.n, .string x.b.a.d.t, .slice x.b.a.d.A x.b.a.d.l.length x.b.a.d.c, .slice x.b.A x.b.l.length x.b.c] 77)).alloc (.cells #[.string y.nm, .slice y.gA y.g.length y.gC, .int .i64 y.b.a.k, .int .i64 y.b.a.n, .slice y.b.a.sA y.b.a.s.length y.b.a.sC, .int .i64 y.b.a.d.k, .int .i64 y.b.a.d.n, .string y.b.a.d.t, .slice y.b.a.d.A y.b.a.d.l.length y.b.a.d.c, .slice y.b.A y.b.l.length y.b.c] 77) := ⟨_, rfl⟩
  rw [← hw2]
  have hb2 : Below w.heap.size w w2 := by rw [hw2]; exact ((Below.refl _ _).alloc (Nat.le_refl _) _).alloc (by simp) _
  have z2 : w.heap.size + 2 ≤ w2.heap.size := by rw [hw2]; simp
  have xa : Un.Box w2 w.heap.size x := by rw [hw2]; exact (Un.Box.new w x _).below ((Below.refl (w.heap.size + 1) _).alloc (by simp) _) (by omega)
  have xb : Un.Box w2 (w.heap.size + 1) y := by rw [hw2]; have := Un.Box.new (w.alloc (.cells #[.string x.nm, .slice x.gA x.g.length x.gC, .int .i64 x.b.a.k, .int .i64 x.b.a.n, .slice x.b.a.sA x.b.a.s.length x.b.a.sC, .int .i64 x.b.a.d.k, .int .i64 x.b.a.d.n, .string x.b.a.d.t, .slice x.b.a.d.A x.b.a.d.l.length x.b.a.d.c, .slice x.b.A x.b.l.length x.b.c] 77)) y 77; simpa using this
  clear hw2
  have b2 := b0.trans (hb2.mono (by omega))
  have i_x := h_x.below b2
  have i_y := h_y.below b2
  clear hb2 b0
  have xaq := xa
  obtain ⟨xa_0, xa_1, xa_2, xa_3, xa_4, xa_5, xa_6, xa_7, xa_8, xa_9⟩ := xaq
  have xalt : w.heap.size < w2.heap.size := (by omega)
  have xbq := xb
  obtain ⟨xb_0, xb_1, xb_2, xb_3, xb_4, xb_5, xb_6, xb_7, xb_8, xb_9⟩ := xbq
  have xblt : w.heap.size + 1 < w2.heap.size := (by omega)
  go_wp2_with fail
  clear xa_0 xa_1 xa_2 xa_3 xa_4 xa_5 xa_6 xa_7 xa_8 xa_9 xalt
  clear xb_0 xb_1 xb_2 xb_3 xb_4 xb_5 xb_6 xb_7 xb_8 xb_9 xblt
  refine (eqI_any x.gA x.gC x.g y.gA y.gC y.g w.heap.size _ (Un.E_in i_x).g (Un.E_in i_y).g (by omega)).mono ?_
  rintro e w3 ⟨rfl, hb3⟩
  have z3 := hb3.size
  have xa := xa.below hb3 (by omega)
  have xb := xb.below hb3 (by omega)
  have b3 := b2.trans (hb3.mono (by omega))
  have i_x := h_x.below b3
  have i_y := h_y.below b3
  clear hb3
  rw [Q_g.out]
  have xaq := xa
  obtain ⟨xa_0, xa_1, xa_2, xa_3, xa_4, xa_5, xa_6, xa_7, xa_8, xa_9⟩ := xaq
  have xalt : w.heap.size < w3.heap.size := (by omega)
  have xbq := xb
  obtain ⟨xb_0, xb_1, xb_2, xb_3, xb_4, xb_5, xb_6, xb_7, xb_8, xb_9⟩ := xbq
  have xblt : w.heap.size + 1 < w3.heap.size := (by omega)
  go_wp2_with fail
  clear xa_0 xa_1 xa_2 xa_3 xa_4 xa_5 xa_6 xa_7 xa_8 xa_9 xalt
  clear xb_0 xb_1 xb_2 xb_3 xb_4 xb_5 xb_6 xb_7 xb_8 xb_9 xblt
  refine (Ko_eq_any _ x.b y.b w.heap.size _ (Nat.le_refl _) Q_b.out (Un.E_in i_x).b (Un.E_in i_y).b (by omega)).mono ?_
  rintro e w4 ⟨rfl, hb4⟩
  have z4 := hb4.size
  have xa := xa.below hb4 (by omega)
  have xb := xb.below hb4 (by omega)
  have b4 := b3.trans (hb4.mono (by omega))
  have i_x := h_x.below b4
  have i_y := h_y.below b4
  clear hb4
  have xaq := xa
  obtain ⟨xa_0, xa_1, xa_2, xa_3, xa_4, xa_5, xa_6, xa_7, xa_8, xa_9⟩ := xaq
  have xalt : w.heap.size < w4.heap.size := (by omega)
  have xbq := xb
  obtain ⟨xb_0, xb_1, xb_2, xb_3, xb_4, xb_5, xb_6, xb_7, xb_8, xb_9⟩ := xbq
  have xblt : w.heap.size + 1 < w4.heap.size := (by omega)
  go_wp2_with fail
  clear xa_0 xa_1 xa_2 xa_3 xa_4 xa_5 xa_6 xa_7 xa_8 xa_9 xalt
  clear xb_0 xb_1 xb_2 xb_3 xb_4 xb_5 xb_6 xb_7 xb_8 xb_9 xblt
  go_ret
  exact ⟨rfl, b4⟩
end Go.Proofs.Ytndckeodpoommaa

namespace Go.Proofs.Ytndckeodpoommaa
open Go.RowKit

theorem Un_info : (Try.prog.info? 77).map (fun i => (i.zero, i.size, i.bytes)) = some (some (.agg #[.string ⟨#[]⟩, .slice none 0 0, .int .i64 0, .int .i64 0, .slice none 0 0, .int .i64 0, .int .i64 0, .string ⟨#[]⟩, .slice none 0 0, .slice none 0 0]), 10, 160) := by kernel_rfl
set_option maxRecDepth 100000 in
set_option maxHeartbeats 1000000 in
theorem Un_szL_any (A : Option Addr) (c : Nat) (l : List Un) (B : Nat) (w : World) (left : Int) (h0 : 0 ≤ left) (hl : left ≤ 1048576) (hin : Un.E.LIn w B A c l) (hB : B ≤ w.heap.size) :
    Calls Try.prog 13 #[.slice A l.length c, .int .i64 left] w fun e w' => e = .returned (.int .i64 (szR (Row.bulk Un.bulk l) left)) ∧ Below w.heap.size w w' := by
  have hcap := hin.cap
  by_cases hfit : (l.length : Int) ≤ left
  · have hn : ¬ (left - (l.length : Int) < 0) := by omega
    have hb0 := Row.bulk_take_le Un.bulk l 0
    go_enter Try.func13, Try.ntmps13
    go_wp2_with fail
    go_loopw [1, 5] (fun lf i wr => ∃ j : Nat, j ≤ l.length ∧ i = .int .i64 j ∧ (Row.bulk Un.bulk (l.take j) : Int) + (l.length - j : Nat) ≤ left ∧ lf = .int .i64 (left - Row.bulk Un.bulk (l.take j) - (l.length - j : Nat)) ∧ Below w.heap.size w wr) (fun _ i _ => l.length - (intOf i).toNat)
    case atStart => exact ⟨0, Nat.zero_le _, rfl, by simp [Row.bulk]; omega, by simp [Row.bulk], Below.refl _ _⟩
    case round =>
      obtain ⟨j, hj, rfl, hf, rfl, hb⟩ := hrel
      by_cases hlt : j < l.length
      · obtain ⟨b, o, rfl, hblk, c0, c1, c2, c3, c4, c5, c6, c7, c8, c9, hix⟩ := Un.at_ (hin.below (hb.mono hB)) (i := j) (x := l[j]) (List.getElem?_eq_getElem hlt)
        have hs2 := hb.size
        have HS : Hid (Row.bulk Un.bulk (l.take (j + 1)) = Row.bulk Un.bulk (l.take j) + 1 + (l[j]).bulk) := Row.bulk_take_succ _ l j hlt
        have hle := Row.bulk_take_le Un.bulk l (j + 1)
        rw [HS.out] at hle
        go_wp2_with fail
        refine (Un_sz_any l[j] B _ _ (by omega) (by omega) hix (by omega)).mono ?_
        rintro e w1 ⟨rfl, hb1⟩
        by_cases hy : ((l[j]).bulk : Int) ≤ left - Row.bulk Un.bulk (l.take j) - (l.length - j : Nat)
        · rw [szR_yes hy]
          have hy2 : ¬ (left - (Row.bulk Un.bulk (l.take j) : Int) - (l.length - j : Nat) - ((l[j]).bulk : Int) < 0) := by omega
          go_wp2_with fail
          go_roundw
          case rel => exact ⟨j + 1, by omega, by go_num, by rw [HS.out]; omega, by rw [HS.out]; go_num, hb.trans (hb1.mono (by omega))⟩
          case measure => simp [intOf]; omega
        · rw [szR_no hy]
          go_wp2_with fail
          go_ret
          exact ⟨ret_int (by rw [szR_no (by omega)]), hb.trans (hb1.mono (by omega))⟩
      · have hj' : j = l.length := by omega
        subst hj'
        go_wp2_with fail
        go_ret
        rw [List.take_length] at *
        exact ⟨ret_int (by rw [szR_yes (by omega)]; omega), hb⟩
  · have hn : left - (l.length : Int) < 0 := by omega
    go_enter Try.func13, Try.ntmps13
    go_wp2_with fail
    go_ret
    have := Row.bulk_take_le Un.bulk l 0
    exact ⟨ret_int (by rw [szR_no (by omega)]), Below.refl _ _⟩

set_option maxRecDepth 100000 in
set_option maxHeartbeats 2000000 in
theorem Un_toL_any (A : Option Addr) (c : Nat) (l : List Un) (B : Nat) (w : World) (hbk : Row.bulk Un.bulk l ≤ 1500000) (hin : Un.E.LIn w B A c l) (hB : B ≤ w.heap.size) : Calls Try.prog 15 #[.slice A l.length c] w (RetUnL (l.map Un.er) w) := by
  have hcap := hin.cap
  have hll := Row.bulk_len Un.bulk l
  obtain ⟨i0, hi0, hz0, hz1, hz2⟩ := info_parts Un_info
  have hmk := fun W => run_make_rowN (P := Try.prog) 30 77 i0 _ Try.underlying30 hi0 hz0 .i64 .i64 l.length l.length (Nat.le_refl _) (by rw [hz2]; omega) (by omega) W
  rw [hz1] at hmk
  go_enter Try.func15, Try.ntmps15
  go_wp2_with fail
  go_loopw [4] (fun i wr => ∃ j : Nat, j ≤ l.length ∧ i = .int .i64 j ∧ ∃ ds : List Un, Hid (ds.map Un.er = (l.take j).map Un.er) ∧ ds.length ≤ j ∧ j ≤ ds.length ∧ Un.E.Fill wr w.heap.size 77 l.length ds ∧ Below w.heap.size w wr) (fun i _ => l.length - (intOf i).toNat)
  case atStart => exact ⟨0, Nat.zero_le _, rfl, [], by simp [Hid], Nat.le_refl _, Nat.le_refl _, Elem.Fill.new w _ (by rw [size_madeCells]; show l.length * 10 = 10 * l.length; omega), (Below.refl _ _).alloc (Nat.le_refl _) _⟩
  case round =>
    obtain ⟨j, hj, rfl, ds, HE, hd1, hd2, hF, hb⟩ := hrel
    by_cases hlt : j < l.length
    · obtain ⟨b, o, rfl, hblk, c0, c1, c2, c3, c4, c5, c6, c7, c8, c9, hix⟩ := Un.at_ (hin.below (hb.mono hB)) (i := j) (x := l[j]) (List.getElem?_eq_getElem hlt)
      have hs2 := hb.size
      have hbk1 := Row.bulk_mem (f := Un.bulk) (l := l) (List.getElem_mem hlt)
      have hglt : w.heap.size < wr.heap.size := hF.row.lt
      go_wp2_with fail
      refine (Un_to_any l[j] B _ (by omega) hix (by omega)).mono ?_
      rintro e w1 ⟨d, rfl, hde, hod, hb1⟩
      have hrow1 := hF.row.below hb1 hglt
      have e4 : Un.E.n = 10 := rfl
      obtain ⟨v0, hc0⟩ := hrow1.old (i := j * 10) (by rw [e4]; omega)
      have f0 := hrow1.frozen (j * 10)
      obtain ⟨v1, hc1⟩ := hrow1.old (i := j * 10 + 1) (by rw [e4]; omega)
      have f1 := hrow1.frozen (j * 10 + 1)
      obtain ⟨v2, hc2⟩ := hrow1.old (i := j * 10 + 2) (by rw [e4]; omega)
      have f2 := hrow1.frozen (j * 10 + 2)
      obtain ⟨v3, hc3⟩ := hrow1.old (i := j * 10 + 3) (by rw [e4]; omega)
      have f3 := hrow1.frozen (j * 10 + 3)
      obtain ⟨v4, hc4⟩ := hrow1.old (i := j * 10 + 4) (by rw [e4]; omega)
      have f4 := hrow1.frozen (j * 10 + 4)
      obtain ⟨v5, hc5⟩ := hrow1.old (i := j * 10 + 5) (by rw [e4]; omega)
      have f5 := hrow1.frozen (j * 10 + 5)
      obtain ⟨v6, hc6⟩ := hrow1.old (i := j * 10 + 6) (by rw [e4]; omega)
      have f6 := hrow1.frozen (j * 10 + 6)
      obtain ⟨v7, hc7⟩ := hrow1.old (i := j * 10 + 7) (by rw [e4]; omega)
      have f7 := hrow1.frozen (j * 10 + 7)
      obtain ⟨v8, hc8⟩ := hrow1.old (i := j * 10 + 8) (by rw [e4]; omega)
      have f8 := hrow1.frozen (j * 10 + 8)
      obtain ⟨v9, hc9⟩ := hrow1.old (i := j * 10 + 9) (by rw [e4]; omega)
      have f9 := hrow1.frozen (j * 10 + 9)
      have hst := hF.step hb1 hod (by omega)
      have ej : Un.E.n * ds.length = j * 10 := by rw [e4]; omega
      rw [ej] at hst
      have Hst := Lib.hid hst
      have Hde := Lib.hid hde
      clear hde hst e4 ej hrow1
      simp only [Un.val]
      go_wp2_with fail
      refine ⟨⟨j + 1, by omega, by go_num, ds ++ [d], ?_, by simp; omega, by simp; omega, Hst.out, ?_⟩, by simp [intOf]; omega⟩
      · show _ = _
        rw [List.take_succ_eq_append_getElem hlt, List.map_append, List.map_append, HE.out]
        simp [Hde.out]
      · exact ((((((((((hb.trans (hb1.mono (by omega))).setCell (by simp) _).setCell (by simp) _).setCell (by simp) _).setCell (by simp) _).setCell (by simp) _).setCell (by simp) _).setCell (by simp) _).setCell (by simp) _).setCell (by simp) _).setCell (by simp) _
    · have hj' : j = l.length := by omega
      have hj'' : ds.length = l.length := by omega
      subst hj'
      have hdone := hF.done hj'' (by omega)
      have HE' := HE.out
      rw [List.take_length] at HE'
      have HR := Lib.hid HE'
      have HL := Lib.hid hj''
      clear hj'' HE'
      go_wp2_with fail
      go_ret
      exact ⟨some ⟨w.heap.size, 0, none⟩, l.length, ds, ret_sl HL.out.symm, HR.out, hdone, hb⟩
end Go.Proofs.Ytndckeodpoommaa

namespace Go.Proofs.Ytndckeodpoommaa
open Go.RowKit

set_option maxRecDepth 100000 in
set_option maxHeartbeats 4000000 in
theorem Un_eqL_any (A : Option Addr) (c : Nat) (l : List Un) (A' : Option Addr) (c' : Nat) (l' : List Un) (B : Nat) (w : World) (he : l.map Un.er = l'.map Un.er) (hin : Un.E.LIn w B A c l) (hin' : Un.E.LIn w B A' c' l') (hB : B ≤ w.heap.size) :
    Calls Try.prog 18 #[.slice A l.length c, .slice A' l'.length c'] w fun e w' => e = .returned (.bool true) ∧ Below w.heap.size w w' := by
  have hcap := hin.cap
  have hcap' := hin'.cap
  have hlen : l.length = l'.length := by have := congrArg List.length he; simpa using this
  have hn1 : ((l.length : Int) != (l'.length : Int)) = false := by simp [hlen]
  have hlen1 : l'.length ≤ l.length := by omega
  have hlen2 : l.length ≤ l'.length := by omega
  clear hlen
  have HE := Lib.hid he
  clear he
  go_enter Try.func18, Try.ntmps18
  go_wp2_with fail
  go_loopw [5] (fun i wr => ∃ j : Nat, j ≤ l.length ∧ i = .int .i64 j ∧ Below w.heap.size w wr) (fun i _ => l.length - (intOf i).toNat)
  case atStart => exact ⟨0, Nat.zero_le _, rfl, Below.refl _ _⟩
  case round =>
    obtain ⟨j, hj, rfl, hb⟩ := hrel
    by_cases hlt : j < l.length
    · have hlt' : j < l'.length := by omega
      have hs2 := hb.size
      obtain ⟨b, o, rfl, hblk, c0, c1, c2, c3, c4, c5, c6, c7, c8, c9, hix⟩ := Un.at_ (hin.below (hb.mono hB)) (i := j) (x := l[j]) (List.getElem?_eq_getElem hlt)
      obtain ⟨b', o', rfl, hblk', c0', c1', c2', c3', c4', c5', c6', c7', c8', c9', hix'⟩ := Un.at_ (hin'.below (hb.mono hB)) (i := j) (x := l'[j]) (List.getElem?_eq_getElem hlt')
      have g1 : (0 : Int) ≤ (j : Int) := by omega
      have g2 : (j : Int) < (l.length : Int) := by omega
      have g3 : (j : Int) < (l'.length : Int) := by omega
      have heq := Row.er_get HE.out hlt hlt'
      have Heq := Lib.hid heq
      clear heq
      have lc : b < wr.heap.size := by omega
      have ld : b' < wr.heap.size := by omega
      go_wp2_with fail
      first
      | go_region_held3 (fun w' => w'.cell? ⟨b, o + j * 10, none⟩ = some (.string l[j].nm) ∧ w'.cell? ⟨b, o + j * 10 + 1, none⟩ = some (.slice l[j].gA l[j].g.length l[j].gC) ∧ w'.cell? ⟨b, o + j * 10 + 2, none⟩ = some (.int .i64 l[j].b.a.k) ∧ w'.cell? ⟨b, o + j * 10 + 3, none⟩ = some (.int .i64 l[j].b.a.n) ∧ w'.cell? ⟨b, o + j * 10 + 4, none⟩ = some (.slice l[j].b.a.sA l[j].b.a.s.length l[j].b.a.sC) ∧ w'.cell? ⟨b, o + j * 10 + 5, none⟩ = some (.int .i64 l[j].b.a.d.k) ∧ w'.cell? ⟨b, o + j * 10 + 6, none⟩ = some (.int .i64 l[j].b.a.d.n) ∧ w'.cell? ⟨b, o + j * 10 + 7, none⟩ = some (.string l[j].b.a.d.t) ∧ w'.cell? ⟨b, o + j * 10 + 8, none⟩ = some (.slice l[j].b.a.d.A l[j].b.a.d.l.length l[j].b.a.d.c) ∧ w'.cell? ⟨b, o + j * 10 + 9, none⟩ = some (.slice l[j].b.A l[j].b.l.length l[j].b.c) ∧ w'.cell? ⟨b', o' + j * 10, none⟩ = some (.string l'[j].nm) ∧ w'.cell? ⟨b', o' + j * 10 + 1, none⟩ = some (.slice l'[j].gA l'[j].g.length l'[j].gC) ∧ w'.cell? ⟨b', o' + j * 10 + 2, none⟩ = some (.int .i64 l'[j].b.a.k) ∧ w'.cell? ⟨b', o' + j * 10 + 3, none⟩ = some (.int .i64 l'[j].b.a.n) ∧ w'.cell? ⟨b', o' + j * 10 + 4, none⟩ = some (.slice l'[j].b.a.sA l'[j].b.a.s.length l'[j].b.a.sC) ∧ w'.cell? ⟨b', o' + j * 10 + 5, none⟩ = some (.int .i64 l'[j].b.a.d.k) ∧ w'.cell? ⟨b', o' + j * 10 + 6, none⟩ = some (.int .i64 l'[j].b.a.d.n) ∧ w'.cell? ⟨b', o' + j * 10 + 7, none⟩ = some (.string l'[j].b.a.d.t) ∧ w'.cell? ⟨b', o' + j * 10 + 8, none⟩ = some (.slice l'[j].b.a.d.A l'[j].b.a.d.l.length l'[j].b.a.d.c) ∧ w'.cell? ⟨b', o' + j * 10 + 9, none⟩ = some (.slice l'[j].b.A l'[j].b.l.length l'[j].b.c)) (go_keep)
          ((go_at_call 33; refine (Un_eq_any l[j] l'[j] B _ Heq.out ?_ ?_ ?_).mono ?_; exact Elem.In.drew hix; exact Elem.In.drew hix'; (show B ≤ wr.heap.size); omega; rintro e w1 ⟨rfl, hb1⟩; have hb1 : Below wr.heap.size wr w1 := below_undrew hb1; have a0 := (hb1.cell (p := ⟨b, o + j * 10, none⟩) lc).trans c0; have a1 := (hb1.cell (p := ⟨b, o + j * 10 + 1, none⟩) lc).trans c1; have a2 := (hb1.cell (p := ⟨b, o + j * 10 + 2, none⟩) lc).trans c2; have a3 := (hb1.cell (p := ⟨b, o + j * 10 + 3, none⟩) lc).trans c3; have a4 := (hb1.cell (p := ⟨b, o + j * 10 + 4, none⟩) lc).trans c4; have a5 := (hb1.cell (p := ⟨b, o + j * 10 + 5, none⟩) lc).trans c5; have a6 := (hb1.cell (p := ⟨b, o + j * 10 + 6, none⟩) lc).trans c6; have a7 := (hb1.cell (p := ⟨b, o + j * 10 + 7, none⟩) lc).trans c7; have a8 := (hb1.cell (p := ⟨b, o + j * 10 + 8, none⟩) lc).trans c8; have a9 := (hb1.cell (p := ⟨b, o + j * 10 + 9, none⟩) lc).trans c9; have d0 := (hb1.cell (p := ⟨b', o' + j * 10, none⟩) ld).trans c0'; have d1 := (hb1.cell (p := ⟨b', o' + j * 10 + 1, none⟩) ld).trans c1'; have d2 := (hb1.cell (p := ⟨b', o' + j * 10 + 2, none⟩) ld).trans c2'; have d3 := (hb1.cell (p := ⟨b', o' + j * 10 + 3, none⟩) ld).trans c3'; have d4 := (hb1.cell (p := ⟨b', o' + j * 10 + 4, none⟩) ld).trans c4'; have d5 := (hb1.cell (p := ⟨b', o' + j * 10 + 5, none⟩) ld).trans c5'; have d6 := (hb1.cell (p := ⟨b', o' + j * 10 + 6, none⟩) ld).trans c6'; have d7 := (hb1.cell (p := ⟨b', o' + j * 10 + 7, none⟩) ld).trans c7'; have d8 := (hb1.cell (p := ⟨b', o' + j * 10 + 8, none⟩) ld).trans c8'; have d9 := (hb1.cell (p := ⟨b', o' + j * 10 + 9, none⟩) ld).trans c9'))
      | fail
      all_goals go_wp2_with fail
      all_goals refine ⟨⟨j + 1, by omega, by go_num, hb.trans (hb1.mono (by omega))⟩, by simp [intOf]; omega⟩
    · have hj' : j = l.length := by omega
      subst hj'
      go_wp2_with fail
      go_ret
      exact ⟨rfl, hb⟩
end Go.Proofs.Ytndckeodpoommaa
