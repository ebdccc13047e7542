/-
  Export: what it is and where it lies (written by gen/rec.py).
-/
import Derived.Test.YtndckeodpoommaaRecB
import Derived.Test.YtndckeodpoommaaSTrees
import Derived.Deep.DeepCutAuto
import Derived.Deep.RegionHeld3
import Derived.Test.YtndckeodpoommaaCopy
namespace Go.Proofs.Ytndckeodpoommaa
open Go.RowKit

structure Xp where
  m : ByteArray
  t : ByteArray
  k : Int
  n : Int
namespace Xp
def cells (x : Xp) : List Value := [.string x.m, .string x.t, .int .i64 x.k, .int .i64 x.n]
structure In (w : World) (B : Nat) (x : Xp) : Prop where
  m : x.m.size ≤ 9223372036854775807
  t : x.t.size ≤ 9223372036854775807
def blks (x : Xp) : List Nat := []
def E : Elem Xp where
  cells := cells
  n := 4
  pos := by decide
  len := fun _ => rfl
  one := by
    intro b u hu
    simp only [cells, List.mem_cons, List.not_mem_nil, or_false] at hu
    rcases hu with rfl | rfl | rfl | rfl <;> rfl
  In := In
  blks := blks
  lt := fun h b hb => by cases hb
  keepB := fun h hk => ⟨h.m, h.t⟩
  more := fun h hB => ⟨h.m, h.t⟩
theorem E_n : E.n = 4 := rfl
theorem E_in {w : World} {B : Nat} {d : Xp} (h : E.In w B d) : In w B d := h
theorem E_mk {w : World} {B : Nat} {d : Xp} (h : In w B d) : E.In w B d := h
abbrev Er := (ByteArray) × (ByteArray) × (Int) × (Int)
def er (x : Xp) : Er := (x.m, x.t, x.k, x.n)
def bulk (x : Xp) : Nat := x.m.size + x.t.size
def val (d : Xp) : Value := .agg #[.string d.m, .string d.t, .int .i64 d.k, .int .i64 d.n]
theorem er_parts {x y : Xp} (h : er x = er y) : x.m = y.m ∧ x.t = y.t ∧ x.k = y.k ∧ x.n = y.n := by
  unfold er at h
  obtain ⟨a0, h⟩ := Prod.mk.inj h
  obtain ⟨a1, h⟩ := Prod.mk.inj h
  obtain ⟨a2, h⟩ := Prod.mk.inj h
  exact ⟨a0, a1, a2, h⟩
theorem bulk_of_er {x y : Xp} (h : er x = er y) : bulk x = bulk y := by
  obtain ⟨e_m, e_t, e_k, e_n⟩ := er_parts h
  unfold bulk
  rw [e_m, e_t]
theorem own_of {lo hi : Nat} {w : World} {x : Xp} (h : In w hi x) : E.Own lo hi w x := by
  refine ⟨h, ?_, ?_, ?_⟩ <;> simp [E, blks]
/-- The cells of element i. -/
theorem at_ {w : World} {B : Nat} {A : Option Addr} {c : Nat} {l : List Xp} (h : E.LIn w B A c l) {i : Nat} {x : Xp} (hi : l[i]? = some x) :
    ∃ b o : Nat, A = some ⟨b, o, none⟩ ∧ b < B ∧ w.cell? ⟨b, o + i * 4, none⟩ = some (.string x.m) ∧ w.cell? ⟨b, o + i * 4 + 1, none⟩ = some (.string x.t) ∧ w.cell? ⟨b, o + i * 4 + 2, none⟩ = some (.int .i64 x.k) ∧ w.cell? ⟨b, o + i * 4 + 3, none⟩ = some (.int .i64 x.n) ∧ E.In w B x := by
  obtain ⟨b, o, e, hb, hc, hx⟩ := h.at_ hi
  exact ⟨b, o, e, hb, hc 0 _ rfl, hc 1 _ rfl, hc 2 _ rfl, hc 3 _ rfl, hx⟩
/-- A variable that holds one. -/
structure Box (w : World) (g : Nat) (d : Xp) : Prop where
  c0 : w.cell? ⟨g, 0, none⟩ = some (.string d.m)
  c1 : w.cell? ⟨g, 1, none⟩ = some (.string d.t)
  c2 : w.cell? ⟨g, 2, none⟩ = some (.int .i64 d.k)
  c3 : w.cell? ⟨g, 3, none⟩ = some (.int .i64 d.n)
theorem Box.keep {w w' : World} {g : Nat} {d : Xp} (h : Box w g d) (e : w'.heap[g]? = w.heap[g]?) : Box w' g d := by
  have e : ∀ q, w'.cell? ⟨g, q, none⟩ = w.cell? ⟨g, q, none⟩ := fun q => World.cell?_of_block (a := ⟨g, q, none⟩) e
  exact ⟨(e 0).trans h.c0, (e 1).trans h.c1, (e 2).trans h.c2, (e 3).trans h.c3⟩
theorem Box.below {w w' : World} {g B : Nat} {d : Xp} (h : Box w g d) (hb : Below B w w') (hB : g < B) : Box w' g d := h.keep (hb.block g hB)
theorem Box.chg {w w' : World} {g : Nat} {d : Xp} {T : List Nat} (h : Box w g d) (hb : Chg T w w') (hlt : g < w.heap.size) (hn : g ∉ T) : Box w' g d := h.keep (hb.block g hlt hn)
theorem Box.new (w : World) (d : Xp) (t : TypeId) : Box (w.alloc (.cells #[.string d.m, .string d.t, .int .i64 d.k, .int .i64 d.n] t)) w.heap.size d := by
  have h := D.Blk.new w t #[.string d.m, .string d.t, .int .i64 d.k, .int .i64 d.n]
  exact ⟨h.cell 0, h.cell 1, h.cell 2, h.cell 3⟩
end Xp

/-- Returned: one of the call's own. -/
def RetXp (x : Xp.Er) (w : World) (e : Ending) (w' : World) : Prop := ∃ d : Xp, e = .returned (Xp.val d) ∧ Xp.er d = x ∧ Xp.E.Own w.heap.size w'.heap.size w' d ∧ Below w.heap.size w w'
/-- Returned: a list of the call's own. -/
def RetXpL (x : List Xp.Er) (w : World) (e : Ending) (w' : World) : Prop := ∃ (A : Option Addr) (c : Nat) (l : List Xp), e = .returned (.slice A l.length c) ∧ l.map Xp.er = x ∧ Xp.E.LOwn w.heap.size w'.heap.size w' A c l ∧ Below w.heap.size w w'
end Go.Proofs.Ytndckeodpoommaa

namespace Go.Proofs.Ytndckeodpoommaa
open Go.RowKit

set_option maxRecDepth 100000 in
set_option maxHeartbeats 4000000 in
theorem Xp_sz_any (d : Xp) (B : Nat) (w : World) (left : Int) (h0 : 0 ≤ left) (h1 : left ≤ 1048576) (hin : Xp.E.In w B d) (hB : B ≤ w.heap.size) :
    Calls Try.prog 86 #[Xp.val d, .int .i64 left] w fun e w' => e = .returned (.int .i64 (szR (d.bulk) left)) ∧ Below w.heap.size w w' := by
  have h_d := Elem.In.more hin hB
  have hbu : ((d.bulk : Nat) : Int) = (d.m.size : Int) + (d.t.size : Int) := by unfold Xp.bulk; omega
  have hin_m := (Xp.E_in hin).m
  have hin_t := (Xp.E_in hin).t
  unfold Xp.val
  by_cases hz0 : (d.m.size : Int) ≤ left
  · skip
    by_cases hz1 : (d.t.size : Int) ≤ left - (d.m.size : Int)
    · skip
      have HR : Hid (szR (d.bulk) left = left - (d.m.size : Int) - (d.t.size : Int)) := by show _ = _; rw [szR_yes (by omega)]; omega
      clear hbu
      have b0 : Below w.heap.size w w := Below.refl _ _
      have i_d := h_d
      go_enter Try.func86, Try.ntmps86
      have n0 : ¬ (left - (d.m.size : Int) < 0) := by omega
      have n1 : ¬ (left - (d.m.size : Int) - (d.t.size : Int) < 0) := by omega
      go_wp2_with fail
      go_ret
      exact ⟨ret_int HR.out.symm, (Below.refl _ _).alloc (Nat.le_refl _) _⟩
    · skip
      have HR : Hid (szR (d.bulk) left = -1) := szR_no (by omega)
      clear hbu
      have b0 : Below w.heap.size w w := Below.refl _ _
      have i_d := h_d
      go_enter Try.func86, Try.ntmps86
      have n0 : ¬ (left - (d.m.size : Int) < 0) := by omega
      have n1 : left - (d.m.size : Int) - (d.t.size : Int) < 0 := by omega
      go_wp2_with fail
      go_ret
      exact ⟨ret_int HR.out.symm, (Below.refl _ _).alloc (Nat.le_refl _) _⟩
  · skip
    have HR : Hid (szR (d.bulk) left = -1) := szR_no (by omega)
    clear hbu
    have b0 : Below w.heap.size w w := Below.refl _ _
    have i_d := h_d
    go_enter Try.func86, Try.ntmps86
    have n0 : left - (d.m.size : Int) < 0 := by omega
    go_wp2_with fail
    go_ret
    exact ⟨ret_int HR.out.symm, (Below.refl _ _).alloc (Nat.le_refl _) _⟩
end Go.Proofs.Ytndckeodpoommaa

namespace Go.Proofs.Ytndckeodpoommaa
open Go.RowKit

set_option maxRecDepth 100000 in
set_option maxHeartbeats 8000000 in
theorem Xp_to_any (x : Xp) (B : Nat) (w : World) (hbk0 : x.bulk ≤ 1500000) (hin : Xp.E.In w B x) (hB : B ≤ w.heap.size) : Calls Try.prog 89 #[Xp.val x] w (RetXp (Xp.er x) w) := by
  have hbk : x.m.size + x.t.size ≤ 1500000 := hbk0
  clear hbk0
  obtain ⟨W1, hW1⟩ : ∃ W1, W1 = w.alloc (.cells #[.string x.m, .string x.t, .int .i64 x.k, .int .i64 x.n] 145) := ⟨_, rfl⟩
  obtain ⟨W2, hW2⟩ : ∃ W2, W2 = W1.alloc (.cells #[.string ⟨#[]⟩, .string ⟨#[]⟩, .int .i64 0, .int .i64 0] 46) := ⟨_, rfl⟩
  obtain ⟨W3, hW3⟩ : ∃ W3, W3 = W2.alloc (.cells #[.string x.m, .string x.t, .int .i64 x.k, .int .i64 x.n] 46) := ⟨_, rfl⟩
  have z1 : W1.heap.size = w.heap.size + 1 := by rw [hW1]; simp
  have z2 : W2.heap.size = w.heap.size + 1 + 1 := by rw [hW2]; simp [z1]
  have z3 : W3.heap.size = w.heap.size + 1 + 1 + 1 := by rw [hW3]; simp [z2]
  have B1 : Below w.heap.size w W1 := by rw [hW1]; exact (Below.refl _ _).alloc (Nat.le_refl _) _
  have B2 : Below W1.heap.size W1 W2 := by rw [hW2]; exact (Below.refl _ _).alloc (Nat.le_refl _) _
  have B3 : Below W2.heap.size W2 W3 := by rw [hW3]; exact (Below.refl _ _).alloc (Nat.le_refl _) _
  have X0 : Xp.Box W1 w.heap.size x := by rw [hW1]; exact Xp.Box.new _ _ _
  have X0 := (X0.below B2 (by omega)).below B3 (by omega)
  have R0 : D.Blk W2 (w.heap.size + 1) 46 #[.string ⟨#[]⟩, .string ⟨#[]⟩, .int .i64 0, .int .i64 0] := by rw [hW2, ← z1]; exact D.Blk.new _ _ _
  have R0 := R0.below B3 (by omega)
  have O0 : D.Blk W3 (w.heap.size + 1 + 1) 46 #[.string x.m, .string x.t, .int .i64 x.k, .int .i64 x.n] := by rw [hW3, ← z2]; exact D.Blk.new _ _ _
  have b0 : Below w.heap.size w W3 := (B1.trans (B2.mono (by omega))).trans (B3.mono (by omega))
  have y3 : w.heap.size + 3 ≤ W3.heap.size := by omega
  have i0 := hin.below (b0.mono hB)
  unfold Xp.val
  have X0q := X0
  obtain ⟨a0, a1, a2, a3⟩ := X0q
  go_enter Try.func89, Try.ntmps89
  go_upto_region 6 with fail
  rw [← hW1, ← hW2, ← hW3]
  clear hW1 hW2 hW3 B1 B2 B3 z1 z2 z3 a0 a1 a2 a3
  have c0 : World.cell? W3 ⟨w.heap.size + 1 + 1, 0, none⟩ = some (.string x.m) := O0.cell 0
  have c1 : World.cell? W3 ⟨w.heap.size + 1 + 1, 1, none⟩ = some (.string x.t) := O0.cell 1
  have c2 : World.cell? W3 ⟨w.heap.size + 1 + 1, 2, none⟩ = some (.int .i64 x.k) := O0.cell 2
  have c3 : World.cell? W3 ⟨w.heap.size + 1 + 1, 3, none⟩ = some (.int .i64 x.n) := O0.cell 3
  have r0 : World.cell? W3 ⟨w.heap.size + 1, 0, none⟩ = some (.string ⟨#[]⟩) := R0.cell 0
  have g0 := R0.frozen 0
  have r1 : World.cell? W3 ⟨w.heap.size + 1, 1, none⟩ = some (.string ⟨#[]⟩) := R0.cell 1
  have g1 := R0.frozen 1
  have r2 : World.cell? W3 ⟨w.heap.size + 1, 2, none⟩ = some (.int .i64 0) := R0.cell 2
  have g2 := R0.frozen 2
  have r3 : World.cell? W3 ⟨w.heap.size + 1, 3, none⟩ = some (.int .i64 0) := R0.cell 3
  have g3 := R0.frozen 3
  clear X0 O0 R0 i0
  go_wp2_with fail
  refine bodyPost_ret (v := .agg #[.string x.m, .string x.t, .int .i64 x.k, .int .i64 x.n]) (by simp [results, Try.results89, go_sem, r0, r1, r2, r3]) rfl ⟨x, rfl, rfl, Xp.own_of ⟨(Xp.E_in hin).m, (Xp.E_in hin).t⟩, ?_⟩
  exact ((((b0.setCell (by simp <;> omega) _).setCell (by simp <;> omega) _).setCell (by simp <;> omega) _).setCell (by simp <;> omega) _)
end Go.Proofs.Ytndckeodpoommaa

namespace Go.Proofs.Ytndckeodpoommaa
open Go.RowKit

set_option maxRecDepth 100000 in
set_option maxHeartbeats 4000000 in
theorem Xp_eq_any (x y : Xp) (B : Nat) (w : World) (he : Xp.er x = Xp.er y) (hx : Xp.E.In w B x) (hy : Xp.E.In w B y) (hB : B ≤ w.heap.size) :
    Calls Try.prog 26 #[Xp.val x, Xp.val y] w fun e w' => e = .returned (.bool true) ∧ Below w.heap.size w w' := by
  have h_x := Elem.In.more hx hB
  have h_y := Elem.In.more hy hB
  obtain ⟨e_m, e_t, e_k, e_n⟩ := Xp.er_parts he
  clear he
  have n_m : (x.m.toList == y.m.toList) = true := by rw [e_m]; simp
  clear e_m
  have n_t : (x.t.toList == y.t.toList) = true := by rw [e_t]; simp
  clear e_t
  have n_k : (x.k != y.k) = false := by rw [e_k]; simp
  clear e_k
  have n_n : (x.n != y.n) = false := by rw [e_n]; simp
  clear e_n
  unfold Xp.val
  have b0 : Below w.heap.size w w := Below.refl _ _
  have i_x := h_x
  have i_y := h_y
  go_enter Try.func26, Try.ntmps26
  go_wp2_with fail
  obtain ⟨w2, hw2⟩ : ∃ W, W = (w.alloc (.cells #[.string x.m, .string x.t, .int .i64 x.k, .int .i64 x.n] 46)).alloc (.cells #[.string y.m, .string y.t, .int .i64 y.k, .int .i64 y.n] 46) := ⟨_, rfl⟩
  rw [← hw2]
  have hb2 : Below w.heap.size w w2 := by rw [hw2]; exact ((Below.refl _ _).alloc (Nat.le_refl _) _).alloc (by simp) _
  have z2 : w.heap.size + 2 ≤ w2.heap.size := by rw [hw2]; simp
  have xa : Xp.Box w2 w.heap.size x := by rw [hw2]; exact (Xp.Box.new w x _).below ((Below.refl (w.heap.size + 1) _).alloc (by simp) _) (by omega)
  have xb : Xp.Box w2 (w.heap.size + 1) y := by rw [hw2]; have := Xp.Box.new (w.alloc (.cells #[.string x.m, .string x.t, .int .i64 x.k, .int .i64 x.n] 46)) y 46; simpa using this
  clear hw2
  have b2 := b0.trans (hb2.mono (by omega))
  have i_x := h_x.below b2
  have i_y := h_y.below b2
  clear hb2 b0
  have xaq := xa
  obtain ⟨xa_0, xa_1, xa_2, xa_3⟩ := xaq
  have xalt : w.heap.size < w2.heap.size := (by omega)
  have xbq := xb
  obtain ⟨xb_0, xb_1, xb_2, xb_3⟩ := xbq
  have xblt : w.heap.size + 1 < w2.heap.size := (by omega)
  go_wp2_with fail
  clear xa_0 xa_1 xa_2 xa_3 xalt
  clear xb_0 xb_1 xb_2 xb_3 xblt
  go_ret
  exact ⟨rfl, b2⟩
end Go.Proofs.Ytndckeodpoommaa

namespace Go.Proofs.Ytndckeodpoommaa
open Go.RowKit

theorem Xp_info : (Try.prog.info? 46).map (fun i => (i.zero, i.size, i.bytes)) = some (some (.agg #[.string ⟨#[]⟩, .string ⟨#[]⟩, .int .i64 0, .int .i64 0]), 4, 48) := by kernel_rfl
set_option maxRecDepth 100000 in
set_option maxHeartbeats 1000000 in
theorem Xp_szL_any (A : Option Addr) (c : Nat) (l : List Xp) (B : Nat) (w : World) (left : Int) (h0 : 0 ≤ left) (hl : left ≤ 1048576) (hin : Xp.E.LIn w B A c l) (hB : B ≤ w.heap.size) :
    Calls Try.prog 49 #[.slice A l.length c, .int .i64 left] w fun e w' => e = .returned (.int .i64 (szR (Row.bulk Xp.bulk l) left)) ∧ Below w.heap.size w w' := by
  have hcap := hin.cap
  by_cases hfit : (l.length : Int) ≤ left
  · have hn : ¬ (left - (l.length : Int) < 0) := by omega
    have hb0 := Row.bulk_take_le Xp.bulk l 0
    go_enter Try.func49, Try.ntmps49
    go_wp2_with fail
    go_loopw [1, 5] (fun lf i wr => ∃ j : Nat, j ≤ l.length ∧ i = .int .i64 j ∧ (Row.bulk Xp.bulk (l.take j) : Int) + (l.length - j : Nat) ≤ left ∧ lf = .int .i64 (left - Row.bulk Xp.bulk (l.take j) - (l.length - j : Nat)) ∧ Below w.heap.size w wr) (fun _ i _ => l.length - (intOf i).toNat)
    case atStart => exact ⟨0, Nat.zero_le _, rfl, by simp [Row.bulk]; omega, by simp [Row.bulk], Below.refl _ _⟩
    case round =>
      obtain ⟨j, hj, rfl, hf, rfl, hb⟩ := hrel
      by_cases hlt : j < l.length
      · obtain ⟨b, o, rfl, hblk, c0, c1, c2, c3, hix⟩ := Xp.at_ (hin.below (hb.mono hB)) (i := j) (x := l[j]) (List.getElem?_eq_getElem hlt)
        have hs2 := hb.size
        have HS : Hid (Row.bulk Xp.bulk (l.take (j + 1)) = Row.bulk Xp.bulk (l.take j) + 1 + (l[j]).bulk) := Row.bulk_take_succ _ l j hlt
        have hle := Row.bulk_take_le Xp.bulk l (j + 1)
        rw [HS.out] at hle
        go_wp2_with fail
        refine (Xp_sz_any l[j] B _ _ (by omega) (by omega) hix (by omega)).mono ?_
        rintro e w1 ⟨rfl, hb1⟩
        by_cases hy : ((l[j]).bulk : Int) ≤ left - Row.bulk Xp.bulk (l.take j) - (l.length - j : Nat)
        · rw [szR_yes hy]
          have hy2 : ¬ (left - (Row.bulk Xp.bulk (l.take j) : Int) - (l.length - j : Nat) - ((l[j]).bulk : Int) < 0) := by omega
          go_wp2_with fail
          go_roundw
          case rel => exact ⟨j + 1, by omega, by go_num, by rw [HS.out]; omega, by rw [HS.out]; go_num, hb.trans (hb1.mono (by omega))⟩
          case measure => simp [intOf]; omega
        · rw [szR_no hy]
          go_wp2_with fail
          go_ret
          exact ⟨ret_int (by rw [szR_no (by omega)]), hb.trans (hb1.mono (by omega))⟩
      · have hj' : j = l.length := by omega
        subst hj'
        go_wp2_with fail
        go_ret
        rw [List.take_length] at *
        exact ⟨ret_int (by rw [szR_yes (by omega)]; omega), hb⟩
  · have hn : left - (l.length : Int) < 0 := by omega
    go_enter Try.func49, Try.ntmps49
    go_wp2_with fail
    go_ret
    have := Row.bulk_take_le Xp.bulk l 0
    exact ⟨ret_int (by rw [szR_no (by omega)]), Below.refl _ _⟩

set_option maxRecDepth 100000 in
set_option maxHeartbeats 2000000 in
theorem Xp_toL_any (A : Option Addr) (c : Nat) (l : List Xp) (B : Nat) (w : World) (hbk : Row.bulk Xp.bulk l ≤ 1500000) (hin : Xp.E.LIn w B A c l) (hB : B ≤ w.heap.size) : Calls Try.prog 52 #[.slice A l.length c] w (RetXpL (l.map Xp.er) w) := by
  have hcap := hin.cap
  have hll := Row.bulk_len Xp.bulk l
  obtain ⟨i0, hi0, hz0, hz1, hz2⟩ := info_parts Xp_info
  have hmk := fun W => run_make_rowN (P := Try.prog) 53 46 i0 _ Try.underlying53 hi0 hz0 .i64 .i64 l.length l.length (Nat.le_refl _) (by rw [hz2]; omega) (by omega) W
  rw [hz1] at hmk
  go_enter Try.func52, Try.ntmps52
  go_wp2_with fail
  go_loopw [4] (fun i wr => ∃ j : Nat, j ≤ l.length ∧ i = .int .i64 j ∧ ∃ ds : List Xp, Hid (ds.map Xp.er = (l.take j).map Xp.er) ∧ ds.length ≤ j ∧ j ≤ ds.length ∧ Xp.E.Fill wr w.heap.size 46 l.length ds ∧ Below w.heap.size w wr) (fun i _ => l.length - (intOf i).toNat)
  case atStart => exact ⟨0, Nat.zero_le _, rfl, [], by simp [Hid], Nat.le_refl _, Nat.le_refl _, Elem.Fill.new w _ (by rw [size_madeCells]; show l.length * 4 = 4 * l.length; omega), (Below.refl _ _).alloc (Nat.le_refl _) _⟩
  case round =>
    obtain ⟨j, hj, rfl, ds, HE, hd1, hd2, hF, hb⟩ := hrel
    by_cases hlt : j < l.length
    · obtain ⟨b, o, rfl, hblk, c0, c1, c2, c3, hix⟩ := Xp.at_ (hin.below (hb.mono hB)) (i := j) (x := l[j]) (List.getElem?_eq_getElem hlt)
      have hs2 := hb.size
      have hbk1 := Row.bulk_mem (f := Xp.bulk) (l := l) (List.getElem_mem hlt)
      have hglt : w.heap.size < wr.heap.size := hF.row.lt
      go_wp2_with fail
      refine (Xp_to_any l[j] B _ (by omega) hix (by omega)).mono ?_
      rintro e w1 ⟨d, rfl, hde, hod, hb1⟩
      have hrow1 := hF.row.below hb1 hglt
      have e4 : Xp.E.n = 4 := rfl
      obtain ⟨v0, hc0⟩ := hrow1.old (i := j * 4) (by rw [e4]; omega)
      have f0 := hrow1.frozen (j * 4)
      obtain ⟨v1, hc1⟩ := hrow1.old (i := j * 4 + 1) (by rw [e4]; omega)
      have f1 := hrow1.frozen (j * 4 + 1)
      obtain ⟨v2, hc2⟩ := hrow1.old (i := j * 4 + 2) (by rw [e4]; omega)
      have f2 := hrow1.frozen (j * 4 + 2)
      obtain ⟨v3, hc3⟩ := hrow1.old (i := j * 4 + 3) (by rw [e4]; omega)
      have f3 := hrow1.frozen (j * 4 + 3)
      have hst := hF.step hb1 hod (by omega)
      have ej : Xp.E.n * ds.length = j * 4 := by rw [e4]; omega
      rw [ej] at hst
      have Hst := Lib.hid hst
      have Hde := Lib.hid hde
      clear hde hst e4 ej hrow1
      simp only [Xp.val]
      go_wp2_with fail
      refine ⟨⟨j + 1, by omega, by go_num, ds ++ [d], ?_, by simp; omega, by simp; omega, Hst.out, ?_⟩, by simp [intOf]; omega⟩
      · show _ = _
        rw [List.take_succ_eq_append_getElem hlt, List.map_append, List.map_append, HE.out]
        simp [Hde.out]
      · exact ((((hb.trans (hb1.mono (by omega))).setCell (by simp) _).setCell (by simp) _).setCell (by simp) _).setCell (by simp) _
    · have hj' : j = l.length := by omega
      have hj'' : ds.length = l.length := by omega
      subst hj'
      have hdone := hF.done hj'' (by omega)
      have HE' := HE.out
      rw [List.take_length] at HE'
      have HR := Lib.hid HE'
      have HL := Lib.hid hj''
      clear hj'' HE'
      go_wp2_with fail
      go_ret
      exact ⟨some ⟨w.heap.size, 0, none⟩, l.length, ds, ret_sl HL.out.symm, HR.out, hdone, hb⟩
end Go.Proofs.Ytndckeodpoommaa

namespace Go.Proofs.Ytndckeodpoommaa
open Go.RowKit

set_option maxRecDepth 100000 in
set_option maxHeartbeats 4000000 in
theorem Xp_eqL_any (A : Option Addr) (c : Nat) (l : List Xp) (A' : Option Addr) (c' : Nat) (l' : List Xp) (B : Nat) (w : World) (he : l.map Xp.er = l'.map Xp.er) (hin : Xp.E.LIn w B A c l) (hin' : Xp.E.LIn w B A' c' l') (hB : B ≤ w.heap.size) :
    Calls Try.prog 55 #[.slice A l.length c, .slice A' l'.length c'] w fun e w' => e = .returned (.bool true) ∧ Below w.heap.size w w' := by
  have hcap := hin.cap
  have hcap' := hin'.cap
  have hlen : l.length = l'.length := by have := congrArg List.length he; simpa using this
  have hn1 : ((l.length : Int) != (l'.length : Int)) = false := by simp [hlen]
  have hlen1 : l'.length ≤ l.length := by omega
  have hlen2 : l.length ≤ l'.length := by omega
  clear hlen
  have HE := Lib.hid he
  clear he
  go_enter Try.func55, Try.ntmps55
  go_wp2_with fail
  go_loopw [5] (fun i wr => ∃ j : Nat, j ≤ l.length ∧ i = .int .i64 j ∧ Below w.heap.size w wr) (fun i _ => l.length - (intOf i).toNat)
  case atStart => exact ⟨0, Nat.zero_le _, rfl, Below.refl _ _⟩
  case round =>
    obtain ⟨j, hj, rfl, hb⟩ := hrel
    by_cases hlt : j < l.length
    · have hlt' : j < l'.length := by omega
      have hs2 := hb.size
      obtain ⟨b, o, rfl, hblk, c0, c1, c2, c3, hix⟩ := Xp.at_ (hin.below (hb.mono hB)) (i := j) (x := l[j]) (List.getElem?_eq_getElem hlt)
      obtain ⟨b', o', rfl, hblk', c0', c1', c2', c3', hix'⟩ := Xp.at_ (hin'.below (hb.mono hB)) (i := j) (x := l'[j]) (List.getElem?_eq_getElem hlt')
      have g1 : (0 : Int) ≤ (j : Int) := by omega
      have g2 : (j : Int) < (l.length : Int) := by omega
      have g3 : (j : Int) < (l'.length : Int) := by omega
      have heq := Row.er_get HE.out hlt hlt'
      have Heq := Lib.hid heq
      clear heq
      have lc : b < wr.heap.size := by omega
      have ld : b' < wr.heap.size := by omega
      go_wp2_with fail
      first
      | go_region_held3 (fun w' => w'.cell? ⟨b, o + j * 4, none⟩ = some (.string l[j].m) ∧ w'.cell? ⟨b, o + j * 4 + 1, none⟩ = some (.string l[j].t) ∧ w'.cell? ⟨b, o + j * 4 + 2, none⟩ = some (.int .i64 l[j].k) ∧ w'.cell? ⟨b, o + j * 4 + 3, none⟩ = some (.int .i64 l[j].n) ∧ w'.cell? ⟨b', o' + j * 4, none⟩ = some (.string l'[j].m) ∧ w'.cell? ⟨b', o' + j * 4 + 1, none⟩ = some (.string l'[j].t) ∧ w'.cell? ⟨b', o' + j * 4 + 2, none⟩ = some (.int .i64 l'[j].k) ∧ w'.cell? ⟨b', o' + j * 4 + 3, none⟩ = some (.int .i64 l'[j].n)) (go_keep)
          ((go_at_call 26; refine (Xp_eq_any l[j] l'[j] B _ Heq.out ?_ ?_ ?_).mono ?_; exact Elem.In.drew hix; exact Elem.In.drew hix'; (show B ≤ wr.heap.size); omega; rintro e w1 ⟨rfl, hb1⟩; have hb1 : Below wr.heap.size wr w1 := below_undrew hb1; have a0 := (hb1.cell (p := ⟨b, o + j * 4, none⟩) lc).trans c0; have a1 := (hb1.cell (p := ⟨b, o + j * 4 + 1, none⟩) lc).trans c1; have a2 := (hb1.cell (p := ⟨b, o + j * 4 + 2, none⟩) lc).trans c2; have a3 := (hb1.cell (p := ⟨b, o + j * 4 + 3, none⟩) lc).trans c3; have d0 := (hb1.cell (p := ⟨b', o' + j * 4, none⟩) ld).trans c0'; have d1 := (hb1.cell (p := ⟨b', o' + j * 4 + 1, none⟩) ld).trans c1'; have d2 := (hb1.cell (p := ⟨b', o' + j * 4 + 2, none⟩) ld).trans c2'; have d3 := (hb1.cell (p := ⟨b', o' + j * 4 + 3, none⟩) ld).trans c3'))
      | fail
      all_goals go_wp2_with fail
      all_goals refine ⟨⟨j + 1, by omega, by go_num, hb.trans (hb1.mono (by omega))⟩, by simp [intOf]; omega⟩
    · have hj' : j = l.length := by omega
      subst hj'
      go_wp2_with fail
      go_ret
      exact ⟨rfl, hb⟩
end Go.Proofs.Ytndckeodpoommaa
