/-
  The model's substitution in a core term (written by gen/kosub.py).
-/
import Derived.Test.YtnkdfphbglcnmaaGreatKcy
import Derived.Test.YtnkdfphbglcnmaaGreatGEl
import Derived.Test.YtnkdfphbglcnmaaGreatGMk
import Derived.Deep.RegionHeld3
namespace Go.Proofs.YtnkdfphbglcnmaaGreat
open Go.RowKit
mutual
def Tr.sub (n : Int) (y : Tr Ko) : Tr Ko → Tr Ko | .mk a A c l => if a.k = 2 ∧ a.n = n then y else .mk a A c (Tr.subL n y l)
def Tr.subL (n : Int) (y : Tr Ko) : List (Tr Ko) → List (Tr Ko) | [] => [] | d :: r => Tr.sub n y d :: Tr.subL n y r
end
theorem Tr.sub_eq (n : Int) (y d : Tr Ko) : Tr.sub n y d = if d.a.k = 2 ∧ d.a.n = n then y else .mk d.a d.A d.c (Tr.subL n y d.l) := by cases d; rfl
theorem Tr.subL_append (n : Int) (y : Tr Ko) : ∀ (a b : List (Tr Ko)), Tr.subL n y (a ++ b) = Tr.subL n y a ++ Tr.subL n y b
  | [], b => rfl
  | d :: r, b => by simp only [List.cons_append, Tr.subL, Tr.subL_append n y r b]
theorem Ko.own_join {lo hi : Nat} {w : World} {x : Ko} {P : Option Addr} {k : Nat} {m : List (Tr Ko)} (hx : Ko.H.Own lo hi w x) (hl : Ko.E.LOwn lo hi w P k m) (hd : ∀ b ∈ Ko.H.blks x, b ∉ Ko.E.lblks P m) : Ko.E.Own lo hi w (.mk x P k m) := by
  have eb : Ko.E.blks (.mk x P k m) = Ko.H.blks x ++ Ko.E.lblks P m := Tr.blks_eq x P k m
  refine ⟨Tr.in_iff.2 ⟨hx.inn, hl.inn⟩, fun b hb => ?_, ?_, fun b hb o => ?_⟩
  · rw [eb, List.mem_append] at hb
    exact hb.elim (hx.lo_ b) (hl.lo_ b)
  · rw [eb]
    exact List.nodup_append.2 ⟨hx.nd, hl.nd, fun p hp q hq e => hd p hp (e ▸ hq)⟩
  · rw [eb, List.mem_append] at hb
    exact hb.elim (fun h => hx.fr b h o) (fun h => hl.fr b h o)
def SubOk (n : Int) (y : Tr Ko) (B : Nat) (m : Nat) : Prop := ∀ (d : Tr Ko) (w : World), d.bulk Ko.bulk ≤ 1500000 → y.bulk Ko.bulk ≤ 1500000 → d.size ≤ m → Ko.E.In w B d → Ko.E.In w B y → B ≤ w.heap.size →
    Calls Tryz.prog 69 #[Ko.val d, .int .i64 n, Ko.val y] w (RetKo ((Tr.sub n y d).er Ko.er) w)
structure SubRun (n : Int) (y : Tr Ko) (lo : Nat) (A : Option Addr) (c : Nat) (l dl : List (Tr Ko)) (U : World) (j : Nat) (wr : World) (pre : List (Tr Ko)) : Prop where
  own : Ko.E.LOwn lo wr.heap.size wr A c (pre ++ dl.drop j)
  er : Tr.erL Ko.er pre = Tr.erL Ko.er (Tr.subL n y (l.take j))
  len : pre.length = j
  hi : ∀ k ∈ Ko.E.blksL pre, U.heap.size ≤ k
  chg : Chg (Elem.lblk A dl) U wr
def Ko.put8 (w1 : World) (b p : Nat) (y : Tr Ko) : World := ((((((((w1.setCell ⟨b, p, none⟩ (.int .i64 y.a.k)).setCell ⟨b, p + 1, none⟩ (.int .i64 y.a.n)).setCell ⟨b, p + 2, none⟩ (.slice y.a.sA y.a.s.length y.a.sC)).setCell ⟨b, p + 3, none⟩ (.int .i64 y.a.d.k)).setCell ⟨b, p + 4, none⟩ (.int .i64 y.a.d.n)).setCell ⟨b, p + 5, none⟩ (.string y.a.d.t)).setCell ⟨b, p + 6, none⟩ (.slice y.a.d.A y.a.d.l.length y.a.d.c)).setCell ⟨b, p + 7, none⟩ (.slice y.A y.l.length y.c))
theorem Ko.repl8 {w w1 : World} {lo hi b o c j : Nat} {pre suf : List (Tr Ko)} {x y : Tr Ko} (h : Ko.E.LOwn lo hi w (some ⟨b, o, none⟩) c (pre ++ x :: suf)) (hj : pre.length = j) (hhi : hi ≤ w.heap.size) (hb1 : Below w.heap.size w w1) (hy : Ko.E.Own w.heap.size w1.heap.size w1 y) :
    Ko.E.LOwn lo w1.heap.size (Ko.put8 w1 b (o + j * 8) y) (some ⟨b, o, none⟩) c (pre ++ y :: suf) ∧ Chg [b] w (Ko.put8 w1 b (o + j * 8) y) ∧ (Ko.put8 w1 b (o + j * 8) y).heap.size = w1.heap.size := by
  obtain ⟨b', o', e, hblk, c0, c1, c2, c3, c4, c5, c6, c7, hix⟩ := Ko.at_ h.inn (i := j) (x := x) (by rw [List.getElem?_append_right (by omega), hj]; simp)
  obtain ⟨rfl, rfl, _⟩ := Addr.mk.inj (Option.some.inj e)
  have hz : (Ko.put8 w1 b (o + j * 8) y).heap.size = w1.heap.size := by unfold Ko.put8; simp only [World.size_setCell]
  have lb : b < w.heap.size := by omega
  have d0 := (hb1.cell (p := ⟨b, o + j * 8, none⟩) lb).trans c0
  have d1 := (hb1.cell (p := ⟨b, o + j * 8 + 1, none⟩) lb).trans c1
  have d2 := (hb1.cell (p := ⟨b, o + j * 8 + 2, none⟩) lb).trans c2
  have d3 := (hb1.cell (p := ⟨b, o + j * 8 + 3, none⟩) lb).trans c3
  have d4 := (hb1.cell (p := ⟨b, o + j * 8 + 4, none⟩) lb).trans c4
  have d5 := (hb1.cell (p := ⟨b, o + j * 8 + 5, none⟩) lb).trans c5
  have d6 := (hb1.cell (p := ⟨b, o + j * 8 + 6, none⟩) lb).trans c6
  have d7 := (hb1.cell (p := ⟨b, o + j * 8 + 7, none⟩) lb).trans c7
  refine ⟨?_, ?_, hz⟩
  · have := h.repl (w' := Ko.put8 w1 b (o + j * 8) y) (y := y) hhi hb1 hy hz (fun k hk => ?_) (fun q => ?_) (fun q hq => ?_) (fun i u hu => ?_)
    · rw [hz] at this; exact this
    · unfold Ko.put8
      have e : ∀ (u : World) (p : Nat) (x : Value), (u.setCell ⟨b, p, none⟩ x).heap[k]? = u.heap[k]? := fun u p x => Below.heap_setCell _ _ _ _ (by simpa using hk)
      rw [e, e, e, e, e, e, e, e]
    · unfold Ko.put8
      rw [World.frozen?_setCell, World.frozen?_setCell, World.frozen?_setCell, World.frozen?_setCell, World.frozen?_setCell, World.frozen?_setCell, World.frozen?_setCell, World.frozen?_setCell]
    · rw [hj, Ko.E_n] at hq
      unfold Ko.put8
      rw [icell_ne _ _ _ _ _ (by omega), icell_ne _ _ _ _ _ (by omega), icell_ne _ _ _ _ _ (by omega), icell_ne _ _ _ _ _ (by omega), icell_ne _ _ _ _ _ (by omega), icell_ne _ _ _ _ _ (by omega), icell_ne _ _ _ _ _ (by omega), icell_ne _ _ _ _ _ (by omega)]
    · rw [hj, Ko.E_n]
      have hi8 : i < 8 := by
        have h1 := (List.getElem?_eq_some_iff.1 hu).1
        have h2 := Ko.E.len y
        rw [h2, Ko.E_n] at h1; exact h1
      have ec : Ko.E.cells y = [.int .i64 y.a.k, .int .i64 y.a.n, .slice y.a.sA y.a.s.length y.a.sC, .int .i64 y.a.d.k, .int .i64 y.a.d.n, .string y.a.d.t, .slice y.a.d.A y.a.d.l.length y.a.d.c, .slice y.A y.l.length y.c] := rfl
      rw [ec] at hu
      unfold Ko.put8
      have e8 : i = 0 ∨ i = 1 ∨ i = 2 ∨ i = 3 ∨ i = 4 ∨ i = 5 ∨ i = 6 ∨ i = 7 := by omega
      rcases e8 with rfl | rfl | rfl | rfl | rfl | rfl | rfl | rfl <;> simp at hu <;> subst hu
      · show World.cell? _ ⟨b, o + j * 8, none⟩ = _; rw [icell_ne _ _ _ _ _ (by omega), icell_ne _ _ _ _ _ (by omega), icell_ne _ _ _ _ _ (by omega), icell_ne _ _ _ _ _ (by omega), icell_ne _ _ _ _ _ (by omega), icell_ne _ _ _ _ _ (by omega), icell_ne _ _ _ _ _ (by omega), icell_eq (v := .int .i64 x.a.k) d0]
      · rw [icell_ne _ _ _ _ _ (by omega), icell_ne _ _ _ _ _ (by omega), icell_ne _ _ _ _ _ (by omega), icell_ne _ _ _ _ _ (by omega), icell_ne _ _ _ _ _ (by omega), icell_ne _ _ _ _ _ (by omega), icell_eq (v := .int .i64 x.a.n) (by rw [icell_ne _ _ _ _ _ (by omega)]; exact d1)]
      · rw [icell_ne _ _ _ _ _ (by omega), icell_ne _ _ _ _ _ (by omega), icell_ne _ _ _ _ _ (by omega), icell_ne _ _ _ _ _ (by omega), icell_ne _ _ _ _ _ (by omega), icell_eq (v := .slice x.a.sA x.a.s.length x.a.sC) (by rw [icell_ne _ _ _ _ _ (by omega), icell_ne _ _ _ _ _ (by omega)]; exact d2)]
      · rw [icell_ne _ _ _ _ _ (by omega), icell_ne _ _ _ _ _ (by omega), icell_ne _ _ _ _ _ (by omega), icell_ne _ _ _ _ _ (by omega), icell_eq (v := .int .i64 x.a.d.k) (by rw [icell_ne _ _ _ _ _ (by omega), icell_ne _ _ _ _ _ (by omega), icell_ne _ _ _ _ _ (by omega)]; exact d3)]
      · rw [icell_ne _ _ _ _ _ (by omega), icell_ne _ _ _ _ _ (by omega), icell_ne _ _ _ _ _ (by omega), icell_eq (v := .int .i64 x.a.d.n) (by rw [icell_ne _ _ _ _ _ (by omega), icell_ne _ _ _ _ _ (by omega), icell_ne _ _ _ _ _ (by omega), icell_ne _ _ _ _ _ (by omega)]; exact d4)]
      · rw [icell_ne _ _ _ _ _ (by omega), icell_ne _ _ _ _ _ (by omega), icell_eq (v := .string x.a.d.t) (by rw [icell_ne _ _ _ _ _ (by omega), icell_ne _ _ _ _ _ (by omega), icell_ne _ _ _ _ _ (by omega), icell_ne _ _ _ _ _ (by omega), icell_ne _ _ _ _ _ (by omega)]; exact d5)]
      · rw [icell_ne _ _ _ _ _ (by omega), icell_eq (v := .slice x.a.d.A x.a.d.l.length x.a.d.c) (by rw [icell_ne _ _ _ _ _ (by omega), icell_ne _ _ _ _ _ (by omega), icell_ne _ _ _ _ _ (by omega), icell_ne _ _ _ _ _ (by omega), icell_ne _ _ _ _ _ (by omega), icell_ne _ _ _ _ _ (by omega)]; exact d6)]
      · rw [icell_eq (v := .slice x.A x.l.length x.c) (by rw [icell_ne _ _ _ _ _ (by omega), icell_ne _ _ _ _ _ (by omega), icell_ne _ _ _ _ _ (by omega), icell_ne _ _ _ _ _ (by omega), icell_ne _ _ _ _ _ (by omega), icell_ne _ _ _ _ _ (by omega), icell_ne _ _ _ _ _ (by omega)]; exact d7)]
  · have m0 : b ∈ [b] := by simp
    unfold Ko.put8
    exact (((((((((Chg.of_below hb1).setCell (p := ⟨b, o + j * 8, none⟩) (.inl m0) (.int .i64 y.a.k)).setCell (p := ⟨b, o + j * 8 + 1, none⟩) (.inl m0) (.int .i64 y.a.n)).setCell (p := ⟨b, o + j * 8 + 2, none⟩) (.inl m0) (.slice y.a.sA y.a.s.length y.a.sC)).setCell (p := ⟨b, o + j * 8 + 3, none⟩) (.inl m0) (.int .i64 y.a.d.k)).setCell (p := ⟨b, o + j * 8 + 4, none⟩) (.inl m0) (.int .i64 y.a.d.n)).setCell (p := ⟨b, o + j * 8 + 5, none⟩) (.inl m0) (.string y.a.d.t)).setCell (p := ⟨b, o + j * 8 + 6, none⟩) (.inl m0) (.slice y.a.d.A y.a.d.l.length y.a.d.c)).setCell (p := ⟨b, o + j * 8 + 7, none⟩) (.inl m0) (.slice y.A y.l.length y.c))
set_option maxRecDepth 100000 in
set_option maxHeartbeats 8000000 in
theorem sub_step (n : Int) (y : Tr Ko) (B : Nat) (m : Nat) (ih : SubOk n y B m) : SubOk n y B (m + 1) := by
  intro d w hbk hbky hm hd hy hB
  have hmm : Tr.sizeL d.l ≤ m := by rw [Tr.size_eq] at hm; omega
  have hbk2 : Tr.bulkL Ko.bulk d.l ≤ 1500000 := by rw [Tr.bulk_eq] at hbk; omega
  have hll : d.l.length ≤ 1500000 := by have := Tr.length_le_sizeL d.l; have := Tr.sizeL_le_bulkL Ko.bulk d.l; omega
  have hcap := (Ko.E_in hd).2.cap
  clear hm
  obtain ⟨W1, hW1⟩ : ∃ W1, W1 = w.alloc (.cells #[.int .i64 d.a.k, .int .i64 d.a.n, .slice d.a.sA d.a.s.length d.a.sC, .int .i64 d.a.d.k, .int .i64 d.a.d.n, .string d.a.d.t, .slice d.a.d.A d.a.d.l.length d.a.d.c, .slice d.A d.l.length d.c] 35) := ⟨_, rfl⟩
  obtain ⟨W2, hW2⟩ : ∃ W2, W2 = W1.alloc (.cells #[.int .i64 y.a.k, .int .i64 y.a.n, .slice y.a.sA y.a.s.length y.a.sC, .int .i64 y.a.d.k, .int .i64 y.a.d.n, .string y.a.d.t, .slice y.a.d.A y.a.d.l.length y.a.d.c, .slice y.A y.l.length y.c] 35) := ⟨_, rfl⟩
  obtain ⟨W3, hW3⟩ : ∃ W3, W3 = W2.alloc (.cells #[.int .i64 0, .int .i64 0, .slice none 0 0, .int .i64 0, .int .i64 0, .string ⟨#[]⟩, .slice none 0 0, .slice none 0 0] 35) := ⟨_, rfl⟩
  have z1 : W1.heap.size = w.heap.size + 1 := by rw [hW1]; simp
  have z2 : W2.heap.size = w.heap.size + 1 + 1 := by rw [hW2]; simp [z1]
  have z3 : W3.heap.size = w.heap.size + 1 + 1 + 1 := by rw [hW3]; simp [z2]
  have B1 : Below w.heap.size w W1 := by rw [hW1]; exact (Below.refl _ _).alloc (Nat.le_refl _) _
  have B2 : Below W1.heap.size W1 W2 := by rw [hW2]; exact (Below.refl _ _).alloc (Nat.le_refl _) _
  have B3 : Below W2.heap.size W2 W3 := by rw [hW3]; exact (Below.refl _ _).alloc (Nat.le_refl _) _
  have X0 : Ko.Box W1 w.heap.size d := by rw [hW1]; exact Ko.Box.new _ _ _
  have X0 := (X0.below B2 (by omega)).below B3 (by omega)
  have Y0 : Ko.Box W2 (w.heap.size + 1) y := by rw [hW2, ← z1]; exact Ko.Box.new _ _ _
  have Y0 := Y0.below B3 (by omega)
  have R0 : D.Blk W3 (w.heap.size + 1 + 1) 35 #[.int .i64 0, .int .i64 0, .slice none 0 0, .int .i64 0, .int .i64 0, .string ⟨#[]⟩, .slice none 0 0, .slice none 0 0] := by rw [hW3, ← z2]; exact D.Blk.new _ _ _
  have b0 : Below w.heap.size w W3 := (B1.trans (B2.mono (by omega))).trans (B3.mono (by omega))
  have zb : w.heap.size + 3 ≤ W3.heap.size := by omega
  have lB : B ≤ W3.heap.size := by omega
  have hdW : ∀ z : World, Below W3.heap.size W3 z → Ko.E.In z B d := fun z hz => Elem.In.below hd ((b0.trans (hz.mono (by omega))).mono hB)
  have hyW : ∀ z : World, Below W3.heap.size W3 z → Ko.E.In z B y := fun z hz => Elem.In.below hy ((b0.trans (hz.mono (by omega))).mono hB)
  have HSU := Lib.hid (Tr.sub_eq n y d)
  obtain ⟨a0, a1, a2, a3, a4, a5, a6, a7⟩ := id X0
  obtain ⟨y0, y1, y2, y3, y4, y5, y6, y7⟩ := id Y0
  have hconY := l5Copy_any y B W3 hbky (hyW _ (Below.refl _ _)) lB
  have hconD := l5Copy_any d B W3 hbk (hdW _ (Below.refl _ _)) lB
  unfold Ko.val at hconY hconD ⊢
  by_cases hmt : d.a.k = 2 ∧ d.a.n = n
  · have q1 : (d.a.k == 2) = true := by rw [beq_iff_eq]; exact hmt.1
    have q2 : (d.a.n == n) = true := by rw [beq_iff_eq]; exact hmt.2
    rw [if_pos hmt] at HSU
    clear hmt hconD
    go_enter Tryz.func69, Tryz.ntmps69
    go_upto_region 1 with fail
    rw [← hW1, ← hW2, ← hW3]
    clear hW1 hW2 hW3 B1 B2 B3 z1 z2 z3
    go_wp2_with fail
    (with_reducible refine hconY.mono ?_)
    clear hconY
    rintro e v ⟨d', rfl, he, ho, hb⟩
    have zv := hb.size
    have Rv := R0.below hb (by omega)
    have bv := b0.trans (hb.mono (by omega))
    have HE := Lib.hid he
    have P0 := ho.wide (lo' := w.heap.size + 3) (by omega) (Nat.le_refl v.heap.size)
    clear he ho hb R0 b0
    have r0 : World.cell? v ⟨w.heap.size + 1 + 1, 0, none⟩ = some (.int .i64 0) := Rv.cell 0
    have g0 := Rv.frozen 0
    have r1 : World.cell? v ⟨w.heap.size + 1 + 1, 1, none⟩ = some (.int .i64 0) := Rv.cell 1
    have g1 := Rv.frozen 1
    have r2 : World.cell? v ⟨w.heap.size + 1 + 1, 2, none⟩ = some (.slice none 0 0) := Rv.cell 2
    have g2 := Rv.frozen 2
    have r3 : World.cell? v ⟨w.heap.size + 1 + 1, 3, none⟩ = some (.int .i64 0) := Rv.cell 3
    have g3 := Rv.frozen 3
    have r4 : World.cell? v ⟨w.heap.size + 1 + 1, 4, none⟩ = some (.int .i64 0) := Rv.cell 4
    have g4 := Rv.frozen 4
    have r5 : World.cell? v ⟨w.heap.size + 1 + 1, 5, none⟩ = some (.string ⟨#[]⟩) := Rv.cell 5
    have g5 := Rv.frozen 5
    have r6 : World.cell? v ⟨w.heap.size + 1 + 1, 6, none⟩ = some (.slice none 0 0) := Rv.cell 6
    have g6 := Rv.frozen 6
    have r7 : World.cell? v ⟨w.heap.size + 1 + 1, 7, none⟩ = some (.slice none 0 0) := Rv.cell 7
    have g7 := Rv.frozen 7
    have PP := Lib.hid P0
    clear P0 Rv
    simp only [Ko.val]
    go_wp2_with fail
    refine bodyPost_ret (v := .agg #[.int .i64 d'.a.k, .int .i64 d'.a.n, .slice d'.a.sA d'.a.s.length d'.a.sC, .int .i64 d'.a.d.k, .int .i64 d'.a.d.n, .string d'.a.d.t, .slice d'.a.d.A d'.a.d.l.length d'.a.d.c, .slice d'.A d'.l.length d'.c]) (by simp [results, Tryz.results69, go_sem, r0, r1, r2, r3, r4, r5, r6, r7]) rfl ⟨d', rfl, by rw [HSU.out]; exact HE.out, ?_, ?_⟩
    · simp only [World.size_setCell]
      exact (((((((((PP.out.far (by simp <;> omega) _).far (by simp <;> omega) _).far (by simp <;> omega) _).far (by simp <;> omega) _).far (by simp <;> omega) _).far (by simp <;> omega) _).far (by simp <;> omega) _).far (by simp <;> omega) _).wide (by omega) (Nat.le_refl _))
    · exact ((((((((bv.setCell (by simp <;> omega) _).setCell (by simp <;> omega) _).setCell (by simp <;> omega) _).setCell (by simp <;> omega) _).setCell (by simp <;> omega) _).setCell (by simp <;> omega) _).setCell (by simp <;> omega) _).setCell (by simp <;> omega) _)
  · rw [if_neg hmt] at HSU
    have hq : (d.a.k == 2) = false ∨ ((d.a.k == 2) = true ∧ (d.a.n == n) = false) := by
      by_cases h : d.a.k = 2
      · exact .inr ⟨by rw [beq_iff_eq]; exact h, by rw [beq_eq_false_iff_ne]; exact fun h2 => hmt ⟨h, h2⟩⟩
      · exact .inl (by rw [beq_eq_false_iff_ne]; exact h)
    clear hmt hconY
    rcases hq with q1 | ⟨q1, q2⟩
    all_goals
      go_enter Tryz.func69, Tryz.ntmps69
      go_upto_region 1 with fail
      rw [← hW1, ← hW2, ← hW3]
      clear hW1 hW2 hW3 B1 B2 B3 z1 z2 z3
      go_wp2_with fail
      (with_reducible refine hconD.mono ?_)
      clear hconD
      rintro e v ⟨dO, rfl, he, ho, hb⟩
      have zv := hb.size
      have HE := Lib.hid he
      obtain ⟨H, hH⟩ : ∃ H, H = v.heap.size := ⟨_, rfl⟩
      obtain ⟨U, hU⟩ : ∃ U, U = v.alloc (.cells #[.int .i64 dO.a.k, .int .i64 dO.a.n, .slice dO.a.sA dO.a.s.length dO.a.sC, .int .i64 dO.a.d.k, .int .i64 dO.a.d.n, .string dO.a.d.t, .slice dO.a.d.A dO.a.d.l.length dO.a.d.c, .slice dO.A dO.l.length dO.c] 35) := ⟨_, rfl⟩
      have zU : U.heap.size = v.heap.size + 1 := by rw [hU]; simp
      have BU : Below v.heap.size v U := by rw [hU]; exact (Below.refl _ _).alloc (Nat.le_refl _) _
      have O0 : Ko.Box U H dO := by rw [hU, hH]; exact Ko.Box.new _ _ _
      have hbU := hb.trans (BU.mono zv)
      have bU := b0.trans (hbU.mono (by omega))
      have X1 := X0.below hbU (by omega)
      have Y1 := Y0.below hbU (by omega)
      have R1 := R0.below hbU (by omega)
      have P0 := (ho.below BU).wide (lo' := w.heap.size + 3) (by omega) (show v.heap.size ≤ H by omega)
      have hH1 : w.heap.size + 3 ≤ H := by omega
      have hH2 : H < U.heap.size := by omega
      have hlenO : dO.l.length = d.l.length := by
        have h1 := congrArg Tr.l he
        have h2 : (Tr.erL Ko.er dO.l).length = (Tr.erL Ko.er d.l).length := by cases dO; cases d; simpa [Tr.er, Tr.l] using congrArg List.length h1
        rwa [Tr.erL_length, Tr.erL_length] at h2
      have HLO := Lib.hid hlenO
      have hexp : U = v.alloc (.cells #[.int .i64 dO.a.k, .int .i64 dO.a.n, .slice dO.a.sA dO.a.s.length dO.a.sC, .int .i64 dO.a.d.k, .int .i64 dO.a.d.n, .string dO.a.d.t, .slice dO.a.d.A dO.a.d.l.length dO.a.d.c, .slice dO.A dO.l.length dO.c] 35) := hU
      obtain ⟨hoh, hol, hdj⟩ := Ko.own_parts P0
      have hlbk : ∀ k ∈ Elem.lblk dO.A dO.l, w.heap.size + 3 ≤ k ∧ k < H := fun k hk => ⟨hol.lo_ k (List.mem_append.2 (.inl hk)), hol.inn.blk_lt k (List.mem_append.2 (.inl hk))⟩
      have h7 : U.cell? ⟨H, 7, none⟩ = some (.slice dO.A d.l.length dO.c) := by rw [← hlenO]; exact O0.c7
      rw [hlenO] at hexp
      simp only [Ko.val]
      rw [hlenO]
      clear he ho hb R0 b0 X0 Y0 a0 a1 a2 a3 a4 a5 a6 a7 y0 y1 y2 y3 y4 y5 y6 y7 BU hbU hU hlenO
      go_upto_region 4 with fail
      rw [← hexp, ← hH]
      clear hexp hH zv zU
      obtain ⟨a0, a1, a2, a3, a4, a5, a6, a7⟩ := id X1
      go_wp2_with fail
      go_loopw [25] (fun i wr => ∃ (j : Nat) (pre : List (Tr Ko)), j ≤ d.l.length ∧ i = .int .i64 j ∧ SubRun n y (w.heap.size + 3) dO.A dO.c d.l dO.l U j wr pre) (fun i _ => d.l.length - (intOf i).toNat)
      case atStart => exact ⟨0, [], Nat.zero_le _, rfl, ⟨by simpa using hol.wide (Nat.le_refl _) (by omega), by simp [Tr.erL, Tr.subL], rfl, by simp [Elem.blksL], Chg.refl _ _⟩⟩
      case round =>
        obtain ⟨j, pre, hj, rfl, hr⟩ := hrel
        have hch := hr.chg
        have hs2 := hch.size
        have hcur : Below w.heap.size w wr := bU.trans (hch.below (fun k hk => by have := hlbk k hk; omega) (by omega))
        have hkb : ∀ k, k < w.heap.size + 3 ∨ k = H → wr.heap[k]? = U.heap[k]? := fun k hk => hch.block k (by omega) (fun hm => by have := hlbk k hm; omega)
        have X2 : Ko.Box wr w.heap.size d := X1.keep (hkb _ (.inl (by omega)))
        have Y2 : Ko.Box wr (w.heap.size + 1) y := Y1.keep (hkb _ (.inl (by omega)))
        have R2 : D.Blk wr (w.heap.size + 1 + 1) 35 #[.int .i64 0, .int .i64 0, .slice none 0 0, .int .i64 0, .int .i64 0, .string ⟨#[]⟩, .slice none 0 0, .slice none 0 0] := (hkb _ (.inl (by omega))).trans R1
        have O2 : Ko.Box wr H dO := O0.keep (hkb _ (.inr rfl))
        have g7 : wr.cell? ⟨H, 7, none⟩ = some (.slice dO.A d.l.length dO.c) := by rw [← HLO.out]; exact O2.c7
        have HCH := Lib.hid hch
        clear hch hkb
        by_cases hlt : j < d.l.length
        · obtain ⟨bi, oi, hAe, hblk, c0, c1, c2, c3, c4, c5, c6, c7, hix⟩ := Ko.at_ ((Ko.E_in (Elem.In.below hd (hcur.mono hB))).2) (i := j) (x := d.l[j]) (List.getElem?_eq_getElem hlt)
          have hjO : j < dO.l.length := by rw [HLO.out]; exact hlt
          have hnO : dO.l ≠ [] := by intro h; rw [h] at hjO; simp at hjO
          obtain ⟨bo, oo, hAo, hbo, _⟩ := hol.inn.mem hnO
          have hwo := hr.own
          rw [List.drop_eq_getElem_cons hjO, hAo] at hwo
          obtain ⟨_, _, e', _, d0, d1, d2, d3, d4, d5, d6, d7, _⟩ := Ko.at_ hwo.inn (i := j) (x := dO.l[j]) (by rw [List.getElem?_append_right (by have := hr.len; omega), hr.len]; simp)
          obtain ⟨rfl, rfl, _⟩ := Addr.mk.inj (Option.some.inj e')
          have lbo : bo < wr.heap.size := by omega
          have hbo2 := hlbk bo (by rw [hAo, Elem.lblk_some hnO]; simp)
          have hbib : bi < w.heap.size := by omega
          have hfz : ∀ q, wr.frozen? ⟨bo, q, none⟩ = false := fun q => hwo.fr bo (by unfold Elem.lblks; rw [Elem.lblk_some (List.append_ne_nil_of_right_ne_nil _ (List.cons_ne_nil _ _))]; simp) q
          have HOLD : Hid (∀ w1 : World, Below wr.heap.size wr w1 → ((∃ v, w1.cell? ⟨bo, oo + j * 8, none⟩ = some v) ∧ (∃ v, w1.cell? ⟨bo, oo + j * 8 + 1, none⟩ = some v) ∧ (∃ v, w1.cell? ⟨bo, oo + j * 8 + 2, none⟩ = some v) ∧ (∃ v, w1.cell? ⟨bo, oo + j * 8 + 3, none⟩ = some v) ∧ (∃ v, w1.cell? ⟨bo, oo + j * 8 + 4, none⟩ = some v) ∧ (∃ v, w1.cell? ⟨bo, oo + j * 8 + 5, none⟩ = some v) ∧ (∃ v, w1.cell? ⟨bo, oo + j * 8 + 6, none⟩ = some v) ∧ (∃ v, w1.cell? ⟨bo, oo + j * 8 + 7, none⟩ = some v))) := fun w1 h1 => ⟨⟨_, (h1.cell (p := ⟨bo, oo + j * 8, none⟩) lbo).trans d0⟩, ⟨_, (h1.cell (p := ⟨bo, oo + j * 8 + 1, none⟩) lbo).trans d1⟩, ⟨_, (h1.cell (p := ⟨bo, oo + j * 8 + 2, none⟩) lbo).trans d2⟩, ⟨_, (h1.cell (p := ⟨bo, oo + j * 8 + 3, none⟩) lbo).trans d3⟩, ⟨_, (h1.cell (p := ⟨bo, oo + j * 8 + 4, none⟩) lbo).trans d4⟩, ⟨_, (h1.cell (p := ⟨bo, oo + j * 8 + 5, none⟩) lbo).trans d5⟩, ⟨_, (h1.cell (p := ⟨bo, oo + j * 8 + 6, none⟩) lbo).trans d6⟩, ⟨_, (h1.cell (p := ⟨bo, oo + j * 8 + 7, none⟩) lbo).trans d7⟩⟩
          have HFR : Hid (∀ w1 : World, Below wr.heap.size wr w1 → ∀ q, w1.frozen? ⟨bo, q, none⟩ = false) := fun w1 h1 q => (h1.frozen (p := ⟨bo, q, none⟩) lbo).trans (hfz q)
          rw [hAo] at g7
          rw [hAe] at a7 ⊢
          rw [hAo]
          obtain ⟨p0, p1, p2, p3, p4, p5, p6, p7⟩ := id X2
          rw [hAe] at p7
          obtain ⟨y0, y1, y2, y3, y4, y5, y6, y7⟩ := id Y2
          have hsz := Tr.sizeL_mem (l := d.l) (List.getElem_mem hlt)
          have hbk1 := Tr.bulkL_mem (f := Ko.bulk) (l := d.l) (List.getElem_mem hlt)
          have hyi := Elem.In.below hy (hcur.mono hB)
          have n1 : bo ≠ w.heap.size := by omega
          have n2 : bo ≠ w.heap.size + 1 := by omega
          have n3 : bo ≠ H := by omega
          have n4 : bo ≠ bi := by omega
          have n1' : w.heap.size ≠ bo := by omega
          have n2' : w.heap.size + 1 ≠ bo := by omega
          have n3' : H ≠ bo := by omega
          have n4' : bi ≠ bo := by omega
          have lx : w.heap.size < wr.heap.size := by omega
          have ly : w.heap.size + 1 < wr.heap.size := by omega
          have lH : H < wr.heap.size := by omega
          have lbi : bi < wr.heap.size := by omega
          have gj0 : (0 : Int) ≤ (j : Int) := by omega
          have gj1 : (j : Int) < (d.l.length : Int) := by omega
          have HX := Lib.hid X2
          have HR := Lib.hid hr
          have HWO := Lib.hid hwo
          have HRB := Lib.hid R2
          clear X2 hr hwo R2 O2 hfz d0 d1 d2 d3 d4 d5 d6 d7 e' a0 a1 a2 a3 a4 a5 a6 a7
          go_wp2_with fail
          go_region_held3 (fun w' => w'.cell? ⟨bi, oi + j * 8, none⟩ = some (.int .i64 d.l[j].a.k) ∧ w'.cell? ⟨bi, oi + j * 8 + 1, none⟩ = some (.int .i64 d.l[j].a.n) ∧ w'.cell? ⟨bi, oi + j * 8 + 2, none⟩ = some (.slice d.l[j].a.sA d.l[j].a.s.length d.l[j].a.sC) ∧ w'.cell? ⟨bi, oi + j * 8 + 3, none⟩ = some (.int .i64 d.l[j].a.d.k) ∧ w'.cell? ⟨bi, oi + j * 8 + 4, none⟩ = some (.int .i64 d.l[j].a.d.n) ∧ w'.cell? ⟨bi, oi + j * 8 + 5, none⟩ = some (.string d.l[j].a.d.t) ∧ w'.cell? ⟨bi, oi + j * 8 + 6, none⟩ = some (.slice d.l[j].a.d.A d.l[j].a.d.l.length d.l[j].a.d.c) ∧ w'.cell? ⟨bi, oi + j * 8 + 7, none⟩ = some (.slice d.l[j].A d.l[j].l.length d.l[j].c) ∧ w'.cell? ⟨w.heap.size + 1, 0, none⟩ = some (.int .i64 y.a.k) ∧ w'.cell? ⟨w.heap.size + 1, 1, none⟩ = some (.int .i64 y.a.n) ∧ w'.cell? ⟨w.heap.size + 1, 2, none⟩ = some (.slice y.a.sA y.a.s.length y.a.sC) ∧ w'.cell? ⟨w.heap.size + 1, 3, none⟩ = some (.int .i64 y.a.d.k) ∧ w'.cell? ⟨w.heap.size + 1, 4, none⟩ = some (.int .i64 y.a.d.n) ∧ w'.cell? ⟨w.heap.size + 1, 5, none⟩ = some (.string y.a.d.t) ∧ w'.cell? ⟨w.heap.size + 1, 6, none⟩ = some (.slice y.a.d.A y.a.d.l.length y.a.d.c) ∧ w'.cell? ⟨w.heap.size + 1, 7, none⟩ = some (.slice y.A y.l.length y.c) ∧ w'.cell? ⟨w.heap.size, 7, none⟩ = some (.slice (some ⟨bi, oi, none⟩) d.l.length d.c) ∧ w'.cell? ⟨H, 7, none⟩ = some (.slice (some ⟨bo, oo, none⟩) d.l.length dO.c)) (go_keep) (first
            | (go_simp; go_at_call 69; have hcon := ih d.l[j] wr.drew (by omega) hbky (by omega) (Elem.In.drew hix) (Elem.In.drew hyi) (show B ≤ wr.heap.size by omega); unfold Ko.val at hcon; (with_reducible refine hcon.mono ?_); clear hcon; rintro e w1 ⟨x1, rfl, hde, hod, hb1⟩; unfold Ko.val; have hb1 : Below wr.heap.size wr w1 := below_undrew hb1; have hs3 := hb1.size; have HDE := Lib.hid hde; clear hde; have c0 := (hb1.cell (p := ⟨bi, oi + j * 8, none⟩) lbi).trans c0; have c1 := (hb1.cell (p := ⟨bi, oi + j * 8 + 1, none⟩) lbi).trans c1; have c2 := (hb1.cell (p := ⟨bi, oi + j * 8 + 2, none⟩) lbi).trans c2; have c3 := (hb1.cell (p := ⟨bi, oi + j * 8 + 3, none⟩) lbi).trans c3; have c4 := (hb1.cell (p := ⟨bi, oi + j * 8 + 4, none⟩) lbi).trans c4; have c5 := (hb1.cell (p := ⟨bi, oi + j * 8 + 5, none⟩) lbi).trans c5; have c6 := (hb1.cell (p := ⟨bi, oi + j * 8 + 6, none⟩) lbi).trans c6; have c7 := (hb1.cell (p := ⟨bi, oi + j * 8 + 7, none⟩) lbi).trans c7; have y0 := (hb1.cell (p := ⟨w.heap.size + 1, 0, none⟩) ly).trans y0; have y1 := (hb1.cell (p := ⟨w.heap.size + 1, 1, none⟩) ly).trans y1; have y2 := (hb1.cell (p := ⟨w.heap.size + 1, 2, none⟩) ly).trans y2; have y3 := (hb1.cell (p := ⟨w.heap.size + 1, 3, none⟩) ly).trans y3; have y4 := (hb1.cell (p := ⟨w.heap.size + 1, 4, none⟩) ly).trans y4; have y5 := (hb1.cell (p := ⟨w.heap.size + 1, 5, none⟩) ly).trans y5; have y6 := (hb1.cell (p := ⟨w.heap.size + 1, 6, none⟩) ly).trans y6; have y7 := (hb1.cell (p := ⟨w.heap.size + 1, 7, none⟩) ly).trans y7; have p7 := (hb1.cell (p := ⟨w.heap.size, 7, none⟩) lx).trans p7; have g7 := (hb1.cell (p := ⟨H, 7, none⟩) lH).trans g7; obtain ⟨⟨v0, hv0⟩, ⟨v1, hv1⟩, ⟨v2, hv2⟩, ⟨v3, hv3⟩, ⟨v4, hv4⟩, ⟨v5, hv5⟩, ⟨v6, hv6⟩, ⟨v7, hv7⟩⟩ := HOLD.out w1 hb1; have f0 := HFR.out w1 hb1 (oo + j * 8); have f1 := HFR.out w1 hb1 (oo + j * 8 + 1); have f2 := HFR.out w1 hb1 (oo + j * 8 + 2); have f3 := HFR.out w1 hb1 (oo + j * 8 + 3); have f4 := HFR.out w1 hb1 (oo + j * 8 + 4); have f5 := HFR.out w1 hb1 (oo + j * 8 + 5); have f6 := HFR.out w1 hb1 (oo + j * 8 + 6); have f7 := HFR.out w1 hb1 (oo + j * 8 + 7))
            | fail)
          all_goals
            have hrp := Ko.repl8 HWO.out HR.out.len (Nat.le_refl _) hb1 (by simpa using hod)
            unfold Ko.put8 at hrp
            have HRP := Lib.hid hrp
            clear hrp
            go_wp2_with fail
            refine ⟨⟨j + 1, pre ++ [x1], by omega, by go_num, ⟨?_, ?_, ?_, ?_, ?_⟩⟩, by simp [intOf]; omega⟩
            · have h1 := HRP.out.1
              simp only [World.size_setCell]
              rw [List.append_assoc]
              exact h1
            · rw [List.take_succ_eq_append_getElem hlt, Tr.subL_append, Tr.erL_append, Tr.erL_append, HR.out.er]
              simp only [Tr.subL, Tr.erL, HDE.out]
            · rw [List.length_append, HR.out.len]; rfl
            · intro k hk
              rw [Elem.blksL_append, List.mem_append, Elem.blksL_one] at hk
              rcases hk with hk | hk
              · exact HR.out.hi k hk
              · have h2 := hod.lo_ k hk
                have h3 : wr.drew.heap.size = wr.heap.size := rfl
                omega
            · have h2 := HCH.out.trans (HRP.out.2.1.mono (S' := Elem.lblk dO.A dO.l) (by rw [hAo, Elem.lblk_some hnO]; exact fun k hk => hk))
              rw [hAo] at h2
              exact h2
        · have hj' : j = d.l.length := by omega
          subst hj'
          have hdr : dO.l.drop d.l.length = [] := by rw [← HLO.out]; exact List.drop_length
          have PK := hr.own
          rw [hdr, List.append_nil] at PK
          have hkk : ∀ k ∈ Ko.H.blks dO.a, wr.heap[k]? = U.heap[k]? := fun k hk => HCH.out.block k (by have := Ko.H.lt hoh.inn k hk; omega) (fun hm => hdj k hk (List.mem_append.2 (.inl hm)))
          have PH : Ko.H.Own (w.heap.size + 3) wr.heap.size wr dO.a := (hoh.keepB hkk).wide (Nat.le_refl _) (by omega)
          have PP : Hid (Ko.E.Own (w.heap.size + 3) wr.heap.size wr (Tr.mk dO.a dO.A dO.c pre)) := Ko.own_join PH PK (fun k hk hm => by
            have h1 := Ko.H.lt hoh.inn k hk
            rcases List.mem_append.1 hm with hm | hm
            · have hm2 : k ∈ Elem.lblk dO.A dO.l := by
                have e : Elem.lblk dO.A pre = Elem.lblk dO.A dO.l := by
                  unfold Elem.lblk
                  have h2 : pre.isEmpty = dO.l.isEmpty := by rw [Bool.eq_iff_iff, List.isEmpty_iff_length_eq_zero, List.isEmpty_iff_length_eq_zero, hr.len, HLO.out]
                  rw [h2]
                rwa [e] at hm
              exact hdj k hk (List.mem_append.2 (.inl hm2))
            · have := hr.hi k hm; omega)
          obtain ⟨o0, o1, o2, o3, o4, o5, o6, _⟩ := id O2
          have HER : Hid (Tr.er Ko.er (Tr.mk dO.a dO.A dO.c pre) = Tr.er Ko.er (Tr.sub n y d)) := by
            show _ = _
            have h1 := hr.er
            rw [List.take_length] at h1
            have h2 : dO.a.er = d.a.er := by have := HE.out; cases dO; cases d; simp only [Tr.er, Tr.mk.injEq] at this; exact this.1
            rw [HSU.out]
            simp only [Tr.er, h1, h2]
          have hlp : pre.length = d.l.length := hr.len
          have HLP := Lib.hid hlp
          clear PK PH hkk X2 Y2 O2 hr hlp
          have r0 : World.cell? wr ⟨w.heap.size + 1 + 1, 0, none⟩ = some (.int .i64 0) := R2.cell 0
          have g0 := R2.frozen 0
          have r1 : World.cell? wr ⟨w.heap.size + 1 + 1, 1, none⟩ = some (.int .i64 0) := R2.cell 1
          have g1 := R2.frozen 1
          have r2 : World.cell? wr ⟨w.heap.size + 1 + 1, 2, none⟩ = some (.slice none 0 0) := R2.cell 2
          have g2 := R2.frozen 2
          have r3 : World.cell? wr ⟨w.heap.size + 1 + 1, 3, none⟩ = some (.int .i64 0) := R2.cell 3
          have g3 := R2.frozen 3
          have r4 : World.cell? wr ⟨w.heap.size + 1 + 1, 4, none⟩ = some (.int .i64 0) := R2.cell 4
          have g4 := R2.frozen 4
          have r5 : World.cell? wr ⟨w.heap.size + 1 + 1, 5, none⟩ = some (.string ⟨#[]⟩) := R2.cell 5
          have g5 := R2.frozen 5
          have r6 : World.cell? wr ⟨w.heap.size + 1 + 1, 6, none⟩ = some (.slice none 0 0) := R2.cell 6
          have g6 := R2.frozen 6
          have r7 : World.cell? wr ⟨w.heap.size + 1 + 1, 7, none⟩ = some (.slice none 0 0) := R2.cell 7
          have g7 := R2.frozen 7
          go_wp2_with fail
          refine bodyPost_ret (v := .agg #[.int .i64 dO.a.k, .int .i64 dO.a.n, .slice dO.a.sA dO.a.s.length dO.a.sC, .int .i64 dO.a.d.k, .int .i64 dO.a.d.n, .string dO.a.d.t, .slice dO.a.d.A dO.a.d.l.length dO.a.d.c, .slice dO.A d.l.length dO.c]) (by simp [results, Tryz.results69, go_sem, r0, r1, r2, r3, r4, r5, r6, r7]) rfl ⟨(Tr.mk dO.a dO.A dO.c pre), by rw [← HLP.out]; rfl, HER.out, ?_, ?_⟩
          · simp only [World.size_setCell]
            exact (((((((((PP.out.far (by simp <;> omega) _).far (by simp <;> omega) _).far (by simp <;> omega) _).far (by simp <;> omega) _).far (by simp <;> omega) _).far (by simp <;> omega) _).far (by simp <;> omega) _).far (by simp <;> omega) _).wide (by omega) (Nat.le_refl _))
          · exact ((((((((hcur.setCell (by simp <;> omega) _).setCell (by simp <;> omega) _).setCell (by simp <;> omega) _).setCell (by simp <;> omega) _).setCell (by simp <;> omega) _).setCell (by simp <;> omega) _).setCell (by simp <;> omega) _).setCell (by simp <;> omega) _)
theorem l9Sub_any (n : Int) (d y : Tr Ko) (B : Nat) (w : World) (hbk : d.bulk Ko.bulk ≤ 1500000) (hbky : y.bulk Ko.bulk ≤ 1500000) (hd : Ko.E.In w B d) (hy : Ko.E.In w B y) (hB : B ≤ w.heap.size) :
    Calls Tryz.prog 69 #[Ko.val d, .int .i64 n, Ko.val y] w (RetKo ((Tr.sub n y d).er Ko.er) w) := by
  have key : ∀ m, SubOk n y B m := by
    intro m
    induction m with
    | zero => intro d w _ _ h; have := d.size_pos; omega
    | succ m ih => exact sub_step n y B m ih
  exact key d.size d w hbk hbky (Nat.le_refl _) hd hy hB
end Go.Proofs.YtnkdfphbglcnmaaGreat
