/-
  FindExport, the model's and the program's (written by gen/fx.py).
-/
import Derived.Test.YtndckeodpoommaaRWd
import Derived.Test.YtndckeodpoommaaRXp
import Derived.Deep.DeepCutAuto
namespace Go.Proofs.Ytndckeodpoommaa
open Go.RowKit

/-- Whether an export is the one that is looked for. -/
def Xp.is (m t : ByteArray) (x : Xp) : Bool := (x.m.toList == m.toList) && (x.t.toList == t.toList)
/-- The first one. -/
def Xp.find (l : List Xp) (m t : ByteArray) : Option Xp := l.find? (Xp.is m t)
theorem Xp.find_take {l : List Xp} {m t : ByteArray} {j : Nat} (h : j < l.length) (hn : Xp.find (l.take j) m t = none) (hy : Xp.is m t l[j] = true) : Xp.find l m t = some l[j] := by
  unfold Xp.find at *
  conv => lhs; rw [← List.take_append_drop j l]
  rw [List.find?_append, hn, List.drop_eq_getElem_cons h, List.find?_cons_of_pos hy]
  rfl
theorem Xp.find_take_succ {l : List Xp} {m t : ByteArray} {j : Nat} (h : j < l.length) (hn : Xp.find (l.take j) m t = none) (hy : Xp.is m t l[j] = false) : Xp.find (l.take (j + 1)) m t = none := by
  unfold Xp.find at *
  rw [List.take_succ_eq_append_getElem h, List.find?_append, hn]
  simp [hy]
/-- Where it is. -/
def Xp.at' (l : List Xp) (m t : ByteArray) : Int := match l.findIdx? (Xp.is m t) with | some i => i | none => -1
theorem Xp.find_idx {l : List Xp} {m t : ByteArray} : (Xp.at' l m t = -1 ∧ Xp.find l m t = none) ∨ ∃ (j : Nat) (h : j < l.length), Xp.at' l m t = j ∧ Xp.find l m t = some l[j] := by
  unfold Xp.at' Xp.find
  cases h : l.findIdx? (Xp.is m t) with
  | none =>
    left
    exact ⟨rfl, by rw [List.find?_eq_none]; rw [List.findIdx?_eq_none_iff] at h; intro x hx; simpa using h x hx⟩
  | some i =>
    right
    obtain ⟨hi, hy, hn⟩ := List.findIdx?_eq_some_iff_getElem.1 h
    refine ⟨i, hi, rfl, ?_⟩
    refine Xp.find_take hi ?_ hy
    unfold Xp.find
    rw [List.find?_eq_none]
    intro x hx
    obtain ⟨j, hj, rfl⟩ := List.mem_take_iff_getElem.1 hx
    have hj' := hn j (by omega)
    simpa using hj'
theorem Xp.at_take {l : List Xp} {m t : ByteArray} {j : Nat} (h : j < l.length) (hn : ∀ x ∈ l.take j, Xp.is m t x = false) (hy : Xp.is m t l[j] = true) : Xp.at' l m t = j := by
  unfold Xp.at'
  have : l.findIdx? (Xp.is m t) = some j := by
    rw [List.findIdx?_eq_some_iff_getElem]
    refine ⟨h, hy, fun i hi => ?_⟩
    have := hn l[i] (List.mem_take_iff_getElem.2 ⟨i, by omega, rfl⟩)
    simp [this]
  rw [this]
theorem Xp.at_none {l : List Xp} {m t : ByteArray} (hn : ∀ x ∈ l, Xp.is m t x = false) : Xp.at' l m t = -1 := by
  unfold Xp.at'
  have : l.findIdx? (Xp.is m t) = none := by rw [List.findIdx?_eq_none_iff]; exact hn
  rw [this]
theorem Xp.none_succ {l : List Xp} {m t : ByteArray} {j : Nat} (h : j < l.length) (hn : ∀ x ∈ l.take j, Xp.is m t x = false) (hy : Xp.is m t l[j] = false) : ∀ x ∈ l.take (j + 1), Xp.is m t x = false := by
  intro x hx
  rw [List.take_succ_eq_append_getElem h] at hx
  rcases List.mem_append.1 hx with hx | hx
  · exact hn x hx
  · simp at hx; subst hx; exact hy
/-- What FindExport answers. -/
def Wd.find (w : Wd) (m t : ByteArray) : Option Xp := Xp.find w.es m t
theorem Xp.er_eq {x y : Xp} (h : x.er = y.er) : x = y := by
  obtain ⟨e1, e2, e3, e4⟩ := Xp.er_parts h
  cases x; cases y
  simp_all
theorem Xp.map_er {l k : List Xp} (h : l.map Xp.er = k.map Xp.er) : l = k := by
  induction l generalizing k with
  | nil => cases k with
    | nil => rfl
    | cons _ _ => simp at h
  | cons a r ih => cases k with
    | nil => simp at h
    | cons b s =>
      simp only [List.map_cons, List.cons.injEq] at h
      rw [Xp.er_eq h.1, ih h.2]
theorem Wd.find_er {x y : Wd} (h : x.er = y.er) (m t : ByteArray) : x.find m t = y.find m t := by
  obtain ⟨_, _, e3⟩ := Wd.er_parts h
  unfold Wd.find
  rw [Xp.map_er e3]

set_option maxRecDepth 100000 in
set_option maxHeartbeats 2000000 in
theorem l7Find_any (A : Option Addr) (c : Nat) (l : List Xp) (m t : ByteArray) (B : Nat) (w : World) (hin : Xp.E.LIn w B A c l) (hB : B ≤ w.heap.size) :
    Calls Try.prog 50 #[.slice A l.length c, .string m, .string t] w fun e w' => e = .returned (.int .i64 (Xp.at' l m t)) ∧ Below w.heap.size w w' := by
  have hcap := hin.cap
  go_enter Try.func50, Try.ntmps50
  go_wp2_with fail
  go_loopw [11] (fun i wr => ∃ j : Nat, j ≤ l.length ∧ i = .int .i64 j ∧ (∀ x ∈ l.take j, Xp.is m t x = false) ∧ Below w.heap.size w wr) (fun i _ => l.length - (intOf i).toNat)
  case atStart => exact ⟨0, Nat.zero_le _, rfl, by simp, Below.refl _ _⟩
  case round =>
    obtain ⟨j, hj, rfl, HN, hb⟩ := hrel
    have hs2 := hb.size
    by_cases hlt : j < l.length
    · obtain ⟨b, o, rfl, hblk, c0, c1, c2, c3, hix⟩ := Xp.at_ (hin.below (hb.mono hB)) (i := j) (x := l[j]) (List.getElem?_eq_getElem hlt)
      have HN := Lib.hid HN
      obtain ⟨W2, hW2⟩ : ∃ W2, W2 = wr.alloc (.cells #[.string l[j].m, .string l[j].t, .int .i64 l[j].k, .int .i64 l[j].n] 46) := ⟨_, rfl⟩
      have bA : Below wr.heap.size wr W2 := by rw [hW2]; exact (Below.refl _ _).alloc (Nat.le_refl _) _
      have y0 : Xp.Box W2 wr.heap.size l[j] := by rw [hW2]; exact Xp.Box.new wr l[j] _
      obtain ⟨d0, d1, d2, d3⟩ := y0
      cases q1 : l[j].m.toList == m.toList
      · have HQ : Hid (Xp.is m t l[j] = false) := by show _ = _; unfold Xp.is; rw [q1]; rfl
        go_wp2_with fail
        rw [← hW2]
        go_wp2_with fail
        go_roundw
        case rel => exact ⟨j + 1, by omega, by go_num, Xp.none_succ hlt HN.out HQ.out, hb.trans (bA.mono (by omega))⟩
        case measure => simp [intOf]; omega
      · cases q2 : l[j].t.toList == t.toList
        · have HQ : Hid (Xp.is m t l[j] = false) := by show _ = _; unfold Xp.is; rw [q1, q2]; rfl
          go_wp2_with fail
          rw [← hW2]
          go_wp2_with fail
          go_roundw
          case rel => exact ⟨j + 1, by omega, by go_num, Xp.none_succ hlt HN.out HQ.out, hb.trans (bA.mono (by omega))⟩
          case measure => simp [intOf]; omega
        · have HQ : Hid (Xp.is m t l[j] = true) := by show _ = _; unfold Xp.is; rw [q1, q2]; rfl
          go_wp2_with fail
          rw [← hW2]
          go_wp2_with fail
          go_ret
          exact ⟨ret_int (Xp.at_take hlt HN.out HQ.out).symm, hb.trans (bA.mono (by omega))⟩
    · have hj' : j = l.length := by omega
      subst hj'
      have HF : Hid (Xp.at' l m t = -1) := Xp.at_none (by rw [List.take_length] at HN; exact HN)
      clear HN
      go_wp2_with fail
      go_ret
      exact ⟨ret_int HF.out.symm, hb⟩
/-- The answer's export. -/
def Xp.valO : Option Xp → Value | some x => Xp.val x | none => .agg #[.string ⟨#[]⟩, .string ⟨#[]⟩, .int .i64 0, .int .i64 0]
theorem iXname_any (x : Xp) (w : World) : Calls Try.prog 53 #[Xp.val x] w fun e w' => e = .returned (.agg #[.string x.m, .string x.t]) ∧ Below w.heap.size w w' := by
  obtain ⟨W1, hW1⟩ : ∃ W1, W1 = w.alloc (.cells #[.string x.m, .string x.t, .int .i64 x.k, .int .i64 x.n] 46) := ⟨_, rfl⟩
  obtain ⟨W2, hW2⟩ : ∃ W2, W2 = W1.alloc (.cells #[.string ⟨#[]⟩, .string ⟨#[]⟩] 106) := ⟨_, rfl⟩
  have z1 : W1.heap.size = w.heap.size + 1 := by rw [hW1]; simp
  have B1 : Below w.heap.size w W1 := by rw [hW1]; exact (Below.refl _ _).alloc (Nat.le_refl _) _
  have B2 : Below W1.heap.size W1 W2 := by rw [hW2]; exact (Below.refl _ _).alloc (Nat.le_refl _) _
  have X0 : Xp.Box W1 w.heap.size x := by rw [hW1]; exact Xp.Box.new _ _ _
  have X0 := X0.below B2 (by omega)
  have R0 : D.Blk W2 (w.heap.size + 1) 106 #[.string ⟨#[]⟩, .string ⟨#[]⟩] := by rw [hW2, ← z1]; exact D.Blk.new _ _ _
  have r0 : World.cell? W2 ⟨w.heap.size + 1, 0, none⟩ = some (.string ⟨#[]⟩) := R0.cell 0
  have r1 : World.cell? W2 ⟨w.heap.size + 1, 1, none⟩ = some (.string ⟨#[]⟩) := R0.cell 1
  have g0 := R0.frozen 0
  have g1 := R0.frozen 1
  have b0 : Below w.heap.size w W2 := B1.trans (B2.mono (by omega))
  obtain ⟨a0, a1, a2, a3⟩ := X0
  unfold Xp.val
  go_enter Try.func53, Try.ntmps53
  go_upto_region 1 with fail
  rw [← hW1, ← hW2]
  clear hW1 hW2 B1 B2 z1
  go_wp2_with fail
  refine bodyPost_ret (v := .agg #[.string x.m, .string x.t]) (by simp [results, Try.results53, go_sem, r0, r1]) rfl ⟨rfl, ?_⟩
  exact (b0.setCell (by simp) _).setCell (by simp) _
end Go.Proofs.Ytndckeodpoommaa

namespace Go.Proofs.Ytndckeodpoommaa
open Go.RowKit

set_option maxRecDepth 100000 in
set_option maxHeartbeats 4000000 in
theorem specFx_any (x : Wd) (m t : ByteArray) (B : Nat) (w : World) (hin : Wd.E.In w B x) (hB : B ≤ w.heap.size) :
    Calls Try.prog 23 #[Wd.val x, .string m, .string t] w fun e w' => e = .returned (.tuple #[Xp.valO (x.find m t), .bool (x.find m t).isSome]) ∧ Below w.heap.size w w' := by
  have hcap := (Wd.E_in hin).es.cap
  obtain ⟨W1, hW1⟩ : ∃ W1, W1 = w.alloc (.cells #[.slice x.ex.A0 x.ex.l0.length x.ex.c0, .slice x.ex.A1 x.ex.l1.length x.ex.c1, .int .i64 x.ex.s, .int .i64 x.ex.v, .int .i64 x.ex.t, .slice x.usA x.us.length x.usC, .slice x.esA x.es.length x.esC] 55) := ⟨_, rfl⟩
  obtain ⟨W2, hW2⟩ : ∃ W2, W2 = W1.alloc (.cells #[.string ⟨#[]⟩, .string ⟨#[]⟩, .int .i64 0, .int .i64 0] 46) := ⟨_, rfl⟩
  have z1 : W1.heap.size = w.heap.size + 1 := by rw [hW1]; simp
  have z2 : W2.heap.size = w.heap.size + 1 + 1 := by rw [hW2]; simp [z1]
  have B1 : Below w.heap.size w W1 := by rw [hW1]; exact (Below.refl _ _).alloc (Nat.le_refl _) _
  have B2 : Below W1.heap.size W1 W2 := by rw [hW2]; exact (Below.refl _ _).alloc (Nat.le_refl _) _
  have X0 : Wd.Box W1 w.heap.size x := by rw [hW1]; exact Wd.Box.new _ _ _
  have X0 := X0.below B2 (by omega)
  have R0 : D.Blk W2 (w.heap.size + 1) 46 #[.string ⟨#[]⟩, .string ⟨#[]⟩, .int .i64 0, .int .i64 0] := by rw [hW2, ← z1]; exact D.Blk.new _ _ _
  have b0 : Below w.heap.size w W2 := B1.trans (B2.mono (by omega))
  have i0 := Elem.In.below hin (b0.mono hB)
  have X0q := X0
  obtain ⟨a0, a1, a2, a3, a4, a5, a6⟩ := X0q
  unfold Wd.val
  go_enter Try.func23, Try.ntmps23
  go_upto_region 1 with fail
  rw [← hW1, ← hW2]
  clear hW1 hW2 B1 B2 z1
  go_wp2_with fail
  refine (l7Find_any x.esA x.esC x.es m t B _ (Wd.E_in i0).es (by omega)).mono ?_
  rintro e w1 ⟨rfl, hb1⟩
  have z3 := hb1.size
  have b1 := b0.trans (hb1.mono (by omega))
  have R1 := R0.below hb1 (by omega)
  have r0 : World.cell? w1 ⟨w.heap.size + 1, 0, none⟩ = some (.string ⟨#[]⟩) := R1.cell 0
  have g0 := R1.frozen 0
  have r1 : World.cell? w1 ⟨w.heap.size + 1, 1, none⟩ = some (.string ⟨#[]⟩) := R1.cell 1
  have g1 := R1.frozen 1
  have r2 : World.cell? w1 ⟨w.heap.size + 1, 2, none⟩ = some (.int .i64 0) := R1.cell 2
  have g2 := R1.frozen 2
  have r3 : World.cell? w1 ⟨w.heap.size + 1, 3, none⟩ = some (.int .i64 0) := R1.cell 3
  have g3 := R1.frozen 3
  have X1 := X0.below hb1 (by omega)
  clear a0 a1 a2 a3 a4 a5 a6
  obtain ⟨a0, a1, a2, a3, a4, a5, a6⟩ := X1
  have HF : Hid (x.find m t = Xp.find x.es m t) := rfl
  rcases Xp.find_idx (l := x.es) (m := m) (t := t) with ⟨h1, h2⟩ | ⟨j, hj, h1, h2⟩
  · have H2 := Lib.hid h2
    rw [h1]
    clear h1 h2
    go_wp2_with fail
    refine bodyPost_ret (v := .tuple #[.agg #[.string ⟨#[]⟩, .string ⟨#[]⟩, .int .i64 0, .int .i64 0], .bool false]) (by simp [results, Try.results23, go_sem, r0, r1, r2, r3]) rfl ⟨by rw [HF.out, H2.out]; rfl, ?_⟩
    exact (((b1.setCell (by simp) _).setCell (by simp) _).setCell (by simp) _).setCell (by simp) _
  · have H2 := Lib.hid h2
    rw [h1]
    clear h1 h2
    have i1 := (Wd.E_in (Elem.In.below hin (b1.mono hB))).es
    obtain ⟨b, o, hA, hblk, c0, c1, c2, c3, hix⟩ := Xp.at_ i1 (i := j) (x := x.es[j]) (List.getElem?_eq_getElem hj)
    rw [hA] at a6
    clear hA
    have g6 : (j : Int) < (x.es.length : Int) := by omega
    go_wp2_with fail
    refine bodyPost_ret (v := .tuple #[.agg #[.string x.es[j].m, .string x.es[j].t, .int .i64 x.es[j].k, .int .i64 x.es[j].n], .bool true]) (by simp [results, Try.results23, go_sem, r0, r1, r2, r3]) rfl ⟨by rw [HF.out, H2.out]; rfl, ?_⟩
    exact (((b1.setCell (by simp) _).setCell (by simp) _).setCell (by simp) _).setCell (by simp) _

set_option maxRecDepth 100000 in
set_option maxHeartbeats 4000000 in
theorem implFx_any (x : Wd) (m t : ByteArray) (B : Nat) (w : World) (hin : Wd.E.In w B x) (hB : B ≤ w.heap.size) :
    Calls Try.prog 25 #[Wd.val x, .string m, .string t] w fun e w' => e = .returned (.tuple #[Xp.valO (x.find m t), .bool (x.find m t).isSome]) ∧ Below w.heap.size w w' := by
  have hcap := (Wd.E_in hin).es.cap
  obtain ⟨W1, hW1⟩ : ∃ W1, W1 = w.alloc (.cells #[.slice x.ex.A0 x.ex.l0.length x.ex.c0, .slice x.ex.A1 x.ex.l1.length x.ex.c1, .int .i64 x.ex.s, .int .i64 x.ex.v, .int .i64 x.ex.t, .slice x.usA x.us.length x.usC, .slice x.esA x.es.length x.esC] 55) := ⟨_, rfl⟩
  obtain ⟨W2, hW2⟩ : ∃ W2, W2 = W1.alloc (.cells #[.string ⟨#[]⟩, .string ⟨#[]⟩, .int .i64 0, .int .i64 0] 46) := ⟨_, rfl⟩
  have z1 : W1.heap.size = w.heap.size + 1 := by rw [hW1]; simp
  have z2 : W2.heap.size = w.heap.size + 1 + 1 := by rw [hW2]; simp [z1]
  have B1 : Below w.heap.size w W1 := by rw [hW1]; exact (Below.refl _ _).alloc (Nat.le_refl _) _
  have B2 : Below W1.heap.size W1 W2 := by rw [hW2]; exact (Below.refl _ _).alloc (Nat.le_refl _) _
  have X0 : Wd.Box W1 w.heap.size x := by rw [hW1]; exact Wd.Box.new _ _ _
  have X0 := X0.below B2 (by omega)
  have R0 : D.Blk W2 (w.heap.size + 1) 46 #[.string ⟨#[]⟩, .string ⟨#[]⟩, .int .i64 0, .int .i64 0] := by rw [hW2, ← z1]; exact D.Blk.new _ _ _
  have b0 : Below w.heap.size w W2 := B1.trans (B2.mono (by omega))
  have i0 := Elem.In.below hin (b0.mono hB)
  unfold Wd.val
  have HF : Hid (x.find m t = Xp.find x.es m t) := rfl
  have a6 := X0.c6
  go_enter Try.func25, Try.ntmps25
  go_upto_region 1 with fail
  rw [← hW1, ← hW2]
  clear hW1 hW2 B1 B2 z1
  go_wp2_with fail
  clear a6
  go_loopw [13] (fun i wr => ∃ j : Nat, j ≤ x.es.length ∧ i = .int .i64 j ∧ Hid (Xp.find (x.es.take j) m t = none) ∧ Below W2.heap.size W2 wr) (fun i _ => x.es.length - (intOf i).toNat)
  case atStart => exact ⟨0, Nat.zero_le _, rfl, by simp [Hid, Xp.find], Below.refl _ _⟩
  case round =>
    obtain ⟨j, hj, rfl, HN, hb⟩ := hrel
    have hs2 := hb.size
    have b1 := b0.trans (hb.mono (by omega))
    have R1 := R0.below hb (by omega)
    by_cases hlt : j < x.es.length
    · have i1 := (Wd.E_in (Elem.In.below hin (b1.mono hB))).es
      obtain ⟨b, o, hA, hblk, c0, c1, c2, c3, hix⟩ := Xp.at_ i1 (i := j) (x := x.es[j]) (List.getElem?_eq_getElem hlt)
      have g6 : (j : Int) < (x.es.length : Int) := by omega
      rw [hA]
      clear hA
      obtain ⟨W3, hW3⟩ : ∃ W3, W3 = wr.alloc (.cells #[.string x.es[j].m, .string x.es[j].t, .int .i64 x.es[j].k, .int .i64 x.es[j].n] 46) := ⟨_, rfl⟩
      have bA : Below wr.heap.size wr W3 := by rw [hW3]; exact (Below.refl _ _).alloc (Nat.le_refl _) _
      have z5 := bA.size
      have zW : W3.heap.size = wr.heap.size + 1 := by rw [hW3]; simp
      have y0 : Xp.Box W3 wr.heap.size x.es[j] := by rw [hW3]; exact Xp.Box.new wr x.es[j] _
      have y1 := y0
      obtain ⟨d0, d1, d2, d3⟩ := y1
      have b2 := b1.trans (bA.mono (by omega))
      have hcn := iXname_any x.es[j] W3
      unfold Xp.val at hcn
      have HQ0 : Hid (Xp.is m t x.es[j] = ((x.es[j].m.toList == m.toList) && (x.es[j].t.toList == t.toList))) := rfl
      go_wp2_with fail
      rw [← hW3]
      clear hW3
      go_wp2_with fail
      (with_reducible refine hcn.mono ?_)
      clear hcn
      rintro e w4 ⟨rfl, hb4⟩
      have z4 := hb4.size
      have b4 := b2.trans (hb4.mono (by omega))
      have hbW : Below W2.heap.size W2 w4 := (hb.trans (bA.mono hs2)).trans (hb4.mono (by omega))
      have y4 := y0.below hb4 (by omega)
      have R2 := R1.below (bA.mono (Nat.le_refl _)) (by omega)
      have R4 := R2.below hb4 (by omega)
      clear d0 d1 d2 d3
      obtain ⟨d0, d1, d2, d3⟩ := y4
      clear c0 c1 c2 c3
      have r0 : World.cell? w4 ⟨w.heap.size + 1, 0, none⟩ = some (.string ⟨#[]⟩) := R4.cell 0
      have g0 := R4.frozen 0
      have r1 : World.cell? w4 ⟨w.heap.size + 1, 1, none⟩ = some (.string ⟨#[]⟩) := R4.cell 1
      have g1 := R4.frozen 1
      have r2 : World.cell? w4 ⟨w.heap.size + 1, 2, none⟩ = some (.int .i64 0) := R4.cell 2
      have g2 := R4.frozen 2
      have r3 : World.cell? w4 ⟨w.heap.size + 1, 3, none⟩ = some (.int .i64 0) := R4.cell 3
      have g3 := R4.frozen 3
      cases q1 : x.es[j].m.toList == m.toList
      · have HQ : Hid (Xp.is m t x.es[j] = false) := by show _ = _; rw [HQ0.out, q1]; rfl
        go_wp2_with fail
        go_roundw
        case rel => exact ⟨j + 1, by omega, by go_num, Xp.find_take_succ hlt HN.out HQ.out, hbW⟩
        case measure => simp [intOf]; omega
      · cases q2 : x.es[j].t.toList == t.toList
        · have HQ : Hid (Xp.is m t x.es[j] = false) := by show _ = _; rw [HQ0.out, q1, q2]; rfl
          go_wp2_with fail
          go_roundw
          case rel => exact ⟨j + 1, by omega, by go_num, Xp.find_take_succ hlt HN.out HQ.out, hbW⟩
          case measure => simp [intOf]; omega
        · have HQ : Hid (Xp.is m t x.es[j] = true) := by show _ = _; rw [HQ0.out, q1, q2]; rfl
          go_wp2_with fail
          refine bodyPost_ret (v := .tuple #[.agg #[.string x.es[j].m, .string x.es[j].t, .int .i64 x.es[j].k, .int .i64 x.es[j].n], .bool true]) (by simp [results, Try.results25, go_sem, r0, r1, r2, r3]) rfl ⟨by rw [HF.out, Xp.find_take hlt HN.out HQ.out]; rfl, ?_⟩
          exact (((b4.setCell (by simp) _).setCell (by simp) _).setCell (by simp) _).setCell (by simp) _
    · have hj' : j = x.es.length := by omega
      subst hj'
      rw [List.take_length] at HN
      have r0 : World.cell? wr ⟨w.heap.size + 1, 0, none⟩ = some (.string ⟨#[]⟩) := R1.cell 0
      have g0 := R1.frozen 0
      have r1 : World.cell? wr ⟨w.heap.size + 1, 1, none⟩ = some (.string ⟨#[]⟩) := R1.cell 1
      have g1 := R1.frozen 1
      have r2 : World.cell? wr ⟨w.heap.size + 1, 2, none⟩ = some (.int .i64 0) := R1.cell 2
      have g2 := R1.frozen 2
      have r3 : World.cell? wr ⟨w.heap.size + 1, 3, none⟩ = some (.int .i64 0) := R1.cell 3
      have g3 := R1.frozen 3
      go_wp2_with fail
      refine bodyPost_ret (v := .tuple #[.agg #[.string ⟨#[]⟩, .string ⟨#[]⟩, .int .i64 0, .int .i64 0], .bool false]) (by simp [results, Try.results25, go_sem, r0, r1, r2, r3]) rfl ⟨by rw [HF.out, HN.out]; rfl, ?_⟩
      exact (((b1.setCell (by simp) _).setCell (by simp) _).setCell (by simp) _).setCell (by simp) _
end Go.Proofs.Ytndckeodpoommaa
