/-
  Templates: where ellipses are, the program's (written by gen/tfi.py).
-/
import Derived.Test.YtnldlbglgalbaabGreatTfModel
import Derived.Test.YtnldlbglgalbaabGreatTfViews
namespace Go.Proofs.YtnldlbglgalbaabGreat
open Go.RowKit

namespace S
/-- Whether nothing or an ellipsis is ahead of place j. -/
def ahead (l : List S) (j : Nat) : Bool := match j with | 0 => true | j + 1 => match l[j]? with | some x => x.isDots | none => true
theorem ahead_succ {l : List S} {j : Nat} (h : j < l.length) : ahead l (j + 1) = l[j].isDots := by
  show (match l[j]? with | some x => x.isDots | none => true) = _
  rw [List.getElem?_eq_getElem h]
theorem followL_step {l : List S} {j : Nat} (h : j < l.length) (p : Bool) : followL p (l.drop j) = (!(l[j].isDots && p) && (followL true l[j].l && followL (ahead l (j + 1)) (l.drop (j + 1)))) := by
  rw [List.drop_eq_getElem_cons h, followL, ahead_succ h, follow_eq]
end S

set_option maxRecDepth 100000 in
set_option maxHeartbeats 2000000 in
theorem isRep_any (d : S) (j : Nat) (B : Nat) (w : World) (hd : d.In w B) (hj : j < d.l.length) (hB : B ≤ w.heap.size) (hs : d.size ≤ 9000000) :
    Calls Tryz.prog 136 #[.slice d.A d.l.length d.c, .int .i64 j] w fun e w' => e = .returned (.bool (S.headDots (d.l.drop (j + 1)))) ∧ Below w.heap.size w w' := by
  have hcd := hd.cap
  have hll : d.l.length ≤ 9000000 := by have := S.length_le_sizeL d.l; have := S.size_eq d; omega
  by_cases h1 : j + 1 < d.l.length
  · have g2 : (j : Int) + 1 < (d.l.length : Int) := by omega
    have g3 : (0 : Int) ≤ (j : Int) + 1 := by omega
    have HF : Hid (S.headDots (d.l.drop (j + 1)) = d.l[j + 1].isDots) := by show _ = _; rw [List.drop_eq_getElem_cons h1]; rfl
    obtain ⟨b, o, hA, hblk, c0, c1, c2, c3, c4, hix⟩ := hd.at_ (i := j + 1) (x := d.l[j + 1]) (List.getElem?_eq_getElem h1)
    rw [hA]
    clear hA
    have hc := implDots_any d.l[j + 1] w
    unfold S.val at hc
    obtain ⟨V, hV⟩ : ∃ V, V = d.l[j + 1].isDots := ⟨_, rfl⟩
    rw [← hV] at hc
    have HV := Lib.hid hV
    clear hV
    go_enter Tryz.func136, Tryz.ntmps136
    go_wp2_with fail
    (with_reducible refine hc.mono ?_)
    clear hc
    rintro e w1 ⟨rfl, hb1⟩
    go_wp2_with fail
    go_ret
    exact ⟨ret_bool (by rw [HF.out, HV.out]), hb1⟩
  · have g2 : ¬ ((j : Int) + 1 < (d.l.length : Int)) := by omega
    have HF : Hid (S.headDots (d.l.drop (j + 1)) = false) := by show _ = _; rw [List.drop_eq_nil_of_le (by omega)]; rfl
    go_enter Tryz.func136, Tryz.ntmps136
    go_wp2_with fail
    go_ret
    exact ⟨ret_bool (by rw [HF.out]), Below.refl _ _⟩

set_option maxRecDepth 100000 in
set_option maxHeartbeats 8000000 in
theorem follow_any : ∀ (m : Nat) (d : S) (B : Nat) (w : World), d.size ≤ m → d.size ≤ 2000000 → d.In w B → B ≤ w.heap.size →
    Calls Tryz.prog 135 #[.slice d.A d.l.length d.c] w fun e w' => e = .returned (.bool (S.followL true d.l)) ∧ Below w.heap.size w w' := by
  intro m
  induction m with
  | zero => intro d B w h; have := d.size_pos; omega
  | succ m ih =>
  intro d B w hm hs hd hB
  have hcd := hd.cap
  have hll : d.l.length ≤ 2000000 := by have := S.length_le_sizeL d.l; have := S.size_eq d; omega
  go_enter Tryz.func135, Tryz.ntmps135
  go_wp2_with fail
  go_loopw [7] (fun i wr => ∃ j : Nat, j ≤ d.l.length ∧ i = .int .i64 j ∧ Hid (S.followL true d.l = S.followL (S.ahead d.l j) (d.l.drop j)) ∧ Below w.heap.size w wr) (fun i _ => d.l.length - (intOf i).toNat)
  case atStart => exact ⟨0, Nat.zero_le _, rfl, by simp [Hid, S.ahead], Below.refl _ _⟩
  case round =>
    obtain ⟨j, hj, rfl, HN, hb⟩ := hrel
    have hs2 := hb.size
    by_cases hlt : j < d.l.length
    · obtain ⟨b, o, hA, hblk, c0, c1, c2, c3, c4, hix⟩ := (hd.below (hb.mono hB)).at_ (i := j) (x := d.l[j]) (List.getElem?_eq_getElem hlt)
      have hsz := S.size_item (d := d) (x := d.l[j]) (List.getElem_mem hlt)
      have g1 : (j : Int) < (d.l.length : Int) := by omega
      have HA := Lib.hid hA
      rw [hA]
      clear hA
      obtain ⟨W2, hW2⟩ : ∃ W2, W2 = wr.alloc (.cells #[.int .i64 d.l[j].k, .int .i64 d.l[j].n, .string d.l[j].t, .slice d.l[j].sa d.l[j].s.length d.l[j].sc, .slice d.l[j].A d.l[j].l.length d.l[j].c] 43) := ⟨_, rfl⟩
      have hb2 : Below wr.heap.size wr W2 := by rw [hW2]; exact (Below.refl _ _).alloc (Nat.le_refl _) _
      have z2 : W2.heap.size = wr.heap.size + 1 := by rw [hW2]; simp
      have Y2 : S.Box W2 wr.heap.size d.l[j] := by rw [hW2]; exact S.Box.new _ _ _
      have b2 := hb.trans (hb2.mono hs2)
      have hi2 := hix.below (hb2.mono (by omega))
      have HS : Hid (S.followL (S.ahead d.l j) (d.l.drop j) = (!(d.l[j].isDots && S.ahead d.l j) && (S.followL true d.l[j].l && S.followL (S.ahead d.l (j + 1)) (d.l.drop (j + 1))))) := S.followL_step hlt _
      go_upto_region 4 with fail
      rw [← hW2]
      clear hW2 c0 c1 c2 c3 c4
      have Y2q := Y2
      obtain ⟨y0, y1, y2, y3, y4⟩ := Y2q
      have hc1 := implDots_any d.l[j] W2
      unfold S.val at hc1
      go_wp2_with fail
      clear y0 y1 y2 y3 y4
      cases q1 : d.l[j].isDots
      · rw [q1] at hc1
        have HQ := Lib.hid q1
        clear q1
        (with_reducible refine hc1.mono ?_)
        clear hc1
        rintro e w3 ⟨rfl, hb3⟩
        have z3 := hb3.size
        have b3 := b2.trans (hb3.mono (by omega))
        have hi3 := hi2.below (hb3.mono (by omega))
        obtain ⟨y0, y1, y2, y3, y4⟩ := Y2.below hb3 (by omega)
        have hcf := ih d.l[j] B w3 (by omega) (by omega) hi3 (by omega)
        have HT : Hid (S.followL (S.ahead d.l j) (d.l.drop j) = (S.followL true d.l[j].l && S.followL (S.ahead d.l (j + 1)) (d.l.drop (j + 1)))) := by show _ = _; rw [HS.out, HQ.out]; rfl
        go_wp2_with fail
        clear y0 y1 y2 y3 y4
        cases q4 : S.followL true d.l[j].l
        · rw [q4] at hcf
          have HQ4 := Lib.hid q4
          clear q4
          (with_reducible refine hcf.mono ?_)
          clear hcf
          rintro e w9 ⟨rfl, hb9⟩
          go_wp2_with fail
          go_ret
          exact ⟨ret_bool (by rw [HN.out, HT.out, HQ4.out]; rfl), b3.trans (hb9.mono (by omega))⟩
        · rw [q4] at hcf
          have HQ4 := Lib.hid q4
          clear q4
          (with_reducible refine hcf.mono ?_)
          clear hcf
          rintro e w9 ⟨rfl, hb9⟩
          go_wp2_with fail
          go_roundw
          case rel => exact ⟨j + 1, by omega, by go_num, by show _ = _; rw [HN.out, HT.out, HQ4.out, Bool.true_and], b3.trans (hb9.mono (by omega))⟩
          case measure => simp [intOf]; omega
      · rw [q1] at hc1
        have HQ := Lib.hid q1
        clear q1
        (with_reducible refine hc1.mono ?_)
        clear hc1
        rintro e w3 ⟨rfl, hb3⟩
        have z3 := hb3.size
        have b3 := b2.trans (hb3.mono (by omega))
        have hi3 := hi2.below (hb3.mono (by omega))
        have Y3 := Y2.below hb3 (by omega)
        obtain rfl | ⟨i, rfl⟩ : j = 0 ∨ ∃ i, j = i + 1 := (by cases j with | zero => exact .inl rfl | succ i => exact .inr ⟨i, rfl⟩)
        · obtain ⟨y0, y1, y2, y3, y4⟩ := Y3
          go_wp2_with fail
          go_ret
          exact ⟨ret_bool (by rw [HN.out, HS.out, HQ.out]; rfl), b3⟩
        · have hi : i < d.l.length := by omega
          obtain ⟨b', o', hA', hblk', c0, c1, c2, c3, c4, hix'⟩ := (hd.below (b3.mono hB)).at_ (i := i) (x := d.l[i]) (List.getElem?_eq_getElem hi)
          rw [HA.out] at hA'
          obtain ⟨rfl, rfl, _⟩ := Addr.mk.inj (Option.some.inj hA')
          clear hA' hix'
          have hA2 := Lib.hid (S.ahead_succ hi)
          have e0 : (((i + 1 : Nat) : Int) == 0) = false := by simp; omega
          have e1 : ((i + 1 : Nat) : Int) - 1 = (i : Int) := by omega
          have g4 : (i : Int) < (d.l.length : Int) := by omega
          have g5 : (0 : Int) ≤ (i : Int) := by omega
          have hc2 := implDots_any d.l[i] w3
          unfold S.val at hc2
          have Y3q := Y3
          obtain ⟨y0, y1, y2, y3, y4⟩ := Y3q
          go_wp2_with fail
          clear y0 y1 y2 y3 y4 c0 c1 c2 c3 c4
          cases q2 : d.l[i].isDots
          · rw [q2] at hc2
            have HQ2 := Lib.hid q2
            clear q2
            (with_reducible refine hc2.mono ?_)
            clear hc2
            rintro e w4 ⟨rfl, hb4⟩
            have z4 := hb4.size
            have b4 := b3.trans (hb4.mono (by omega))
            have hi4 := hi3.below (hb4.mono (by omega))
            obtain ⟨y0, y1, y2, y3, y4⟩ := Y3.below hb4 (by omega)
            have hcf := ih d.l[i + 1] B w4 (by omega) (by omega) hi4 (by omega)
            have HT : Hid (S.followL (S.ahead d.l (i + 1)) (d.l.drop (i + 1)) = (S.followL true d.l[i + 1].l && S.followL (S.ahead d.l (i + 1 + 1)) (d.l.drop (i + 1 + 1)))) := by show _ = _; rw [HS.out, HQ.out, hA2.out, HQ2.out]; rfl
            go_wp2_with fail
            clear y0 y1 y2 y3 y4
            cases q4 : S.followL true d.l[i + 1].l
            · rw [q4] at hcf
              have HQ4 := Lib.hid q4
              clear q4
              (with_reducible refine hcf.mono ?_)
              clear hcf
              rintro e w9 ⟨rfl, hb9⟩
              go_wp2_with fail
              go_ret
              exact ⟨ret_bool (by rw [HN.out, HT.out, HQ4.out]; rfl), b4.trans (hb9.mono (by omega))⟩
            · rw [q4] at hcf
              have HQ4 := Lib.hid q4
              clear q4
              (with_reducible refine hcf.mono ?_)
              clear hcf
              rintro e w9 ⟨rfl, hb9⟩
              go_wp2_with fail
              go_roundw
              case rel => exact ⟨i + 1 + 1, by omega, by go_num, by show _ = _; rw [HN.out, HT.out, HQ4.out, Bool.true_and], b4.trans (hb9.mono (by omega))⟩
              case measure => simp [intOf]; omega
          · rw [q2] at hc2
            have HQ2 := Lib.hid q2
            clear q2
            (with_reducible refine hc2.mono ?_)
            clear hc2
            rintro e w4 ⟨rfl, hb4⟩
            go_wp2_with fail
            go_ret
            exact ⟨ret_bool (by rw [HN.out, HS.out, HQ.out, hA2.out, HQ2.out]; rfl), b3.trans (hb4.mono (by omega))⟩
    · have hj' : j = d.l.length := by omega
      subst hj'
      have HE : Hid (S.followL true d.l = true) := by show _ = _; rw [HN.out, List.drop_length, S.followL]
      go_wp2_with fail
      go_ret
      exact ⟨ret_bool (by rw [HE.out]), hb⟩

/-- What isTemplate answers. -/
def S.isTpl (d : S) : Bool := d.isS && (!d.isDots && S.followL true d.l)
set_option maxRecDepth 100000 in
set_option maxHeartbeats 4000000 in
theorem isTpl_any (d : S) (B : Nat) (w : World) (hd : d.In w B) (hB : B ≤ w.heap.size) (hs : d.size ≤ 2000000) :
    Calls Tryz.prog 106 #[d.val] w fun e w' => e = .returned (.bool d.isTpl) ∧ Below w.heap.size w w' := by
  obtain ⟨W1, hW1⟩ : ∃ W1, W1 = w.alloc (.cells #[.int .i64 d.k, .int .i64 d.n, .string d.t, .slice d.sa d.s.length d.sc, .slice d.A d.l.length d.c] 43) := ⟨_, rfl⟩
  have z1 : W1.heap.size = w.heap.size + 1 := by rw [hW1]; simp
  have b0 : Below w.heap.size w W1 := by rw [hW1]; exact (Below.refl _ _).alloc (Nat.le_refl _) _
  have X0 : S.Box W1 w.heap.size d := by rw [hW1]; exact S.Box.new _ _ _
  have hd1 := hd.below (b0.mono hB)
  have hcd := hd.cap
  unfold S.val
  have HF : Hid (d.isTpl = (d.isS && (!d.isDots && S.followL true d.l))) := rfl
  go_enter Tryz.func106, Tryz.ntmps106
  go_upto_region 1 with fail
  rw [← hW1]
  clear hW1
  have hc := implIsS_any d B W1 hd1 (by omega)
  unfold S.val at hc
  have X0q := X0
  obtain ⟨x0, x1, x2, x3, x4⟩ := X0q
  go_wp2_with fail
  clear x0 x1 x2 x3 x4
  cases q1 : d.isS
  · rw [q1] at hc
    have HQ := Lib.hid q1
    clear q1
    (with_reducible refine hc.mono ?_)
    clear hc
    rintro e w2 ⟨rfl, hb2⟩
    go_wp2_with fail
    go_ret
    exact ⟨ret_bool (by rw [HF.out, HQ.out]; rfl), b0.trans (hb2.mono (by omega))⟩
  · rw [q1] at hc
    have HQ := Lib.hid q1
    clear q1
    (with_reducible refine hc.mono ?_)
    clear hc
    rintro e w2 ⟨rfl, hb2⟩
    have z2 := hb2.size
    have b2 := b0.trans (hb2.mono (by omega))
    have X2 := X0.below hb2 (by omega)
    have X2q := X2
    obtain ⟨x0, x1, x2, x3, x4⟩ := X2q
    have hc2 := implDots_any d w2
    unfold S.val at hc2
    go_wp2_with fail
    clear x0 x1 x2 x3 x4
    cases q2 : d.isDots
    · rw [q2] at hc2
      have HQ2 := Lib.hid q2
      clear q2
      (with_reducible refine hc2.mono ?_)
      clear hc2
      rintro e w3 ⟨rfl, hb3⟩
      have z3 := hb3.size
      have b3 := b2.trans (hb3.mono (by omega))
      obtain ⟨x0, x1, x2, x3, x4⟩ := X2.below hb3 (by omega)
      have hc3 := follow_any d.size d B w3 (Nat.le_refl _) hs (hd.below (b3.mono hB)) (by omega)
      obtain ⟨V, hV⟩ : ∃ V, V = S.followL true d.l := ⟨_, rfl⟩
      rw [← hV] at hc3
      have HV := Lib.hid hV
      clear hV
      go_wp2_with fail
      (with_reducible refine hc3.mono ?_)
      clear hc3
      rintro e w4 ⟨rfl, hb4⟩
      go_wp2_with fail
      go_ret
      exact ⟨ret_bool (by rw [HF.out, HQ.out, HQ2.out, HV.out]; rfl), b3.trans (hb4.mono (by omega))⟩
    · rw [q2] at hc2
      have HQ2 := Lib.hid q2
      clear q2
      (with_reducible refine hc2.mono ?_)
      clear hc2
      rintro e w3 ⟨rfl, hb3⟩
      go_wp2_with fail
      go_ret
      exact ⟨ret_bool (by rw [HF.out, HQ.out, HQ2.out]; rfl), b2.trans (hb3.mono (by omega))⟩
end Go.Proofs.YtnldlbglgalbaabGreat

namespace Go.Proofs.YtnldlbglgalbaabGreat
open Go.RowKit

/-- The program's depth of a variable. -/
def Vw.pdep (vs : List Vw) (d : S) : Option Int := if d.k = 1 ∧ d.isDots = false then (vs.find? (Vw.samP d)).map fun v => v.x.a.dep else none
theorem Vw.ix_cases (vs : List Vw) (d : S) : (Vw.ix vs d = -1 ∧ Vw.pdep vs d = none) ∨ ∃ (j : Nat) (h : j < vs.length), Vw.ix vs d = j ∧ Vw.pdep vs d = some vs[j].x.a.dep := by
  unfold Vw.ix Vw.pdep
  split
  · rcases fidx_find (Vw.samP d) vs with ⟨h1, h2⟩ | ⟨j, hj, h1, h2⟩
    · exact .inl ⟨h1, by rw [h2]; rfl⟩
    · exact .inr ⟨j, hj, h1, by rw [h2]; rfl⟩
  · exact .inl ⟨rfl, rfl⟩
theorem S.fitsPL_step {f : S → Option Int} {l : List S} {j : Nat} (h : j < l.length) (v g : Int) : S.fitsPL f (l.drop j) v g =
    if !(S.fitsP f l[j] (if S.headDots (l.drop (j + 1)) then v + 1 else v)).2 || (S.headDots (l.drop (j + 1)) && decide ((S.fitsP f l[j] (if S.headDots (l.drop (j + 1)) then v + 1 else v)).1 ≤ v)) then (0, false) else S.fitsPL f (l.drop (j + 1)) v (max g (S.fitsP f l[j] (if S.headDots (l.drop (j + 1)) then v + 1 else v)).1) := by
  rw [List.drop_eq_getElem_cons h, S.fitsPL]
theorem tuple2 {p : Int × Bool} {a : Int} {b : Bool} (h : p = (a, b)) : (Ending.returned (.tuple #[.int .i64 a, .bool b]) : Ending) = .returned (.tuple #[.int .i64 p.1, .bool p.2]) := by rw [h]

set_option maxRecDepth 100000 in
set_option maxHeartbeats 16000000 in
theorem fitsV_any (A : Option Addr) (c : Nat) (vs : List Vw) (M n : Nat) (V : ByteArray → Value) (DD : DataW Value) (hl : vs.length ≤ 2000000) : ∀ (m : Nat) (d : S) (B : Nat) (w : World) (v : Int), d.size ≤ m → 0 ≤ v → v + d.size ≤ 9000000 → Vw.E.LIn w B A c vs → Gri w M n (Vw.idx 0 vs) V DD → d.In w B → B ≤ w.heap.size →
    Calls Tryz.prog 109 #[.agg #[.slice A vs.length c, .map (some M)], d.val, .int .i64 v] w fun e w' => e = .returned (.tuple #[.int .i64 (S.fitsP (Vw.pdep vs) d v).1, .bool (S.fitsP (Vw.pdep vs) d v).2]) ∧ Below w.heap.size w w' := by
  intro m
  induction m with
  | zero => intro d B w v h; have := d.size_pos; omega
  | succ m ih =>
  intro d B w v hm hv0 hv1 hin hG hd hB
  have hcap := hin.cap
  have hcd := hd.cap
  have hll : d.l.length ≤ 9000000 := by have := S.length_le_sizeL d.l; have := S.size_eq d; omega
  obtain ⟨W1, hW1⟩ : ∃ W1, W1 = w.alloc (.cells #[.slice A vs.length c, .map (some M)] 134) := ⟨_, rfl⟩
  obtain ⟨W2, hW2⟩ : ∃ W2, W2 = W1.alloc (.cells #[.int .i64 d.k, .int .i64 d.n, .string d.t, .slice d.sa d.s.length d.sc, .slice d.A d.l.length d.c] 43) := ⟨_, rfl⟩
  have z1 : W1.heap.size = w.heap.size + 1 := by rw [hW1]; simp
  have z2 : W2.heap.size = w.heap.size + 1 + 1 := by rw [hW2]; simp [z1]
  have B1 : Below w.heap.size w W1 := by rw [hW1]; exact (Below.refl _ _).alloc (Nat.le_refl _) _
  have B2 : Below W1.heap.size W1 W2 := by rw [hW2]; exact (Below.refl _ _).alloc (Nat.le_refl _) _
  have R1 : D.Blk W1 w.heap.size 134 #[.slice A vs.length c, .map (some M)] := by rw [hW1]; exact D.Blk.new _ _ _
  have R2 := R1.below B2 (by omega)
  have X2 : S.Box W2 (w.heap.size + 1) d := by rw [hW2, ← z1]; exact S.Box.new _ _ _
  have b2 : Below w.heap.size w W2 := B1.trans (B2.mono (by omega))
  have G2 := hG.below b2
  have v0 : World.cell? W2 ⟨w.heap.size, 0, none⟩ = some (.slice A vs.length c) := R2.cell 0
  have v1 : World.cell? W2 ⟨w.heap.size, 1, none⟩ = some (.map (some M)) := R2.cell 1
  have hc := indexOf_any A c vs M n V DD d B W2 (hin.below (b2.mono hB)) (hd.below (b2.mono hB)) (by omega) hl G2
  unfold S.val at hc ⊢
  go_enter Tryz.func109, Tryz.ntmps109
  go_upto_region 1 with fail
  rw [← hW1, ← hW2]
  clear hW1 hW2 B1 B2 z1 R1
  have X2q := X2
  obtain ⟨x0, x1, x2, x3, x4⟩ := X2q
  go_wp2_with fail
  clear x0 x1 x2 x3 x4
  (with_reducible refine hc.mono ?_)
  clear hc
  rintro e w3 ⟨rfl, hb3⟩
  have z3 := hb3.size
  have b3 := b2.trans (hb3.mono (by omega))
  have G3 := G2.below hb3
  have X3 := X2.below hb3 (by omega)
  have vq0 := (hb3.cell (p := ⟨w.heap.size, 0, none⟩) (show w.heap.size < W2.heap.size by omega)).trans v0
  have vq1 := (hb3.cell (p := ⟨w.heap.size, 1, none⟩) (show w.heap.size < W2.heap.size by omega)).trans v1
  clear v0 v1 R2 X2 G2
  rcases Vw.ix_cases vs d with ⟨h1, h2⟩ | ⟨i, hi, h1, h2⟩
  · -- no variable
    have HF : Hid (S.fitsP (Vw.pdep vs) d v = S.fitsPL (Vw.pdep vs) d.l v 0) := by show _ = _; rw [S.fitsP_eq, h2]
    rw [h1]
    clear h1 h2
    have X3q := X3
    obtain ⟨x0, x1, x2, x3, x4⟩ := X3q
    go_wp2_with fail
    clear x0 x1 x2 x3 x4
    have u0 := vq0
    have u1 := vq1
    have XX := X3
    clear vq0 vq1 X3
    go_loopw [10, 36] (fun gg i wr => ∃ (j : Nat) (g : Int), j ≤ d.l.length ∧ i = .int .i64 j ∧ gg = .int .i64 g ∧ Hid (S.fitsPL (Vw.pdep vs) d.l v 0 = S.fitsPL (Vw.pdep vs) (d.l.drop j) v g) ∧ Below w3.heap.size w3 wr) (fun _ i _ => d.l.length - (intOf i).toNat)
    case atStart => exact ⟨0, 0, Nat.zero_le _, rfl, rfl, by simp [Hid], Below.refl _ _⟩
    case round =>
      obtain ⟨j, g, hj, rfl, rfl, HN, hb⟩ := hrel
      have hs2 := hb.size
      have bw := b3.trans (hb.mono (by omega))
      by_cases hlt : j < d.l.length
      · obtain ⟨b, o, hA, hblk, c0, c1, c2, c3, c4, hix⟩ := (hd.below (bw.mono hB)).at_ (i := j) (x := d.l[j]) (List.getElem?_eq_getElem hlt)
        have hsz := S.size_item (d := d) (x := d.l[j]) (List.getElem_mem hlt)
        have g1 : (j : Int) < (d.l.length : Int) := by omega
        obtain ⟨W4, hW4⟩ : ∃ W4, W4 = wr.alloc (.cells #[.int .i64 d.l[j].k, .int .i64 d.l[j].n, .string d.l[j].t, .slice d.l[j].sa d.l[j].s.length d.l[j].sc, .slice d.l[j].A d.l[j].l.length d.l[j].c] 43) := ⟨_, rfl⟩
        have bA : Below wr.heap.size wr W4 := by rw [hW4]; exact (Below.refl _ _).alloc (Nat.le_refl _) _
        have z4 : W4.heap.size = wr.heap.size + 1 := by rw [hW4]; simp
        have Y3 : S.Box W4 wr.heap.size d.l[j] := by rw [hW4]; exact S.Box.new _ _ _
        have hbA := hb.trans (bA.mono hs2)
        have X3 := XX.below hbA (by omega)
        have vq0 := (hbA.cell (p := ⟨w.heap.size, 0, none⟩) (show w.heap.size < w3.heap.size by omega)).trans u0
        have vq1 := (hbA.cell (p := ⟨w.heap.size, 1, none⟩) (show w.heap.size < w3.heap.size by omega)).trans u1
        have hG4 := G3.below hbA
        have hi3 := hix.below (bA.mono (by omega))
        have b3' := bw.trans (bA.mono (by omega))
        have hcr := isRep_any d j B W4 (hd.below (b3'.mono hB)) hlt (by omega) (by omega)
        have HA := Lib.hid hA
        rw [hA]
        rw [hA] at hcr
        clear hA
        go_upto_region 9 with fail
        rw [← hW4]
        clear hW4 c0 c1 c2 c3 c4
        obtain ⟨w3x, hw3x⟩ : ∃ z, z = W4 := ⟨_, rfl⟩
        have X3q := X3
        obtain ⟨x0, x1, x2, x3, x4⟩ := X3q
        rw [HA.out] at x4
        go_wp2_with fail
        clear x0 x1 x2 x3 x4
        cases hr : S.headDots (d.l.drop (j + 1))
        · rw [hr] at hcr
          have HR := Lib.hid hr
          clear hr
          (with_reducible refine hcr.mono ?_)
          clear hcr
          rintro e w4 ⟨rfl, hb4⟩
          have zz4 := hb4.size
          have hbl4 := hbA.trans (hb4.mono (by omega))
          have b4 := b3'.trans (hb4.mono (by omega))
          have hi4 := hi3.below (hb4.mono (by omega))
          have hcf := ih d.l[j] B w4 (v) (by omega) (by omega) (by omega) (hin.below (b4.mono hB)) (hG4.below hb4) hi4 (by omega)
          unfold S.val at hcf
          obtain ⟨p1, hp1⟩ : ∃ z, z = (S.fitsP (Vw.pdep vs) d.l[j] (v)).1 := ⟨_, rfl⟩
          have hP1 := hp1.symm
          have HP1 := Lib.hid hP1
          rw [hP1] at hcf
          clear hp1
          have vr0 := (hb4.cell (p := ⟨w.heap.size, 0, none⟩) (show w.heap.size < W4.heap.size by omega)).trans vq0
          have vr1 := (hb4.cell (p := ⟨w.heap.size, 1, none⟩) (show w.heap.size < W4.heap.size by omega)).trans vq1
          have X4 := X3.below hb4 (by omega)
          have Y4 := Y3.below hb4 (by omega)
          have X4q := X4
          obtain ⟨x0, x1, x2, x3, x4⟩ := X4q
          have Y4q := Y4
          obtain ⟨y0, y1, y2, y3, y4⟩ := Y4q
          go_wp2_with fail
          clear x0 x1 x2 x3 x4 y0 y1 y2 y3 y4 vr0 vr1
          cases q2 : (S.fitsP (Vw.pdep vs) d.l[j] (v)).2
          · rw [q2] at hcf
            have HS : Hid (S.fitsPL (Vw.pdep vs) (d.l.drop j) v g = (0, false)) := by show _ = _; rw [S.fitsPL_step hlt, HR.out]; simp [q2]
            clear q2
            (with_reducible refine hcf.mono ?_)
            clear hcf
            rintro e w5 ⟨rfl, hb5⟩
            have X5 := X4.below hb5 (by omega)
            obtain ⟨x0, x1, x2, x3, x4⟩ := X5
            go_wp2_with fail
            (go_ret2; exact ⟨tuple2 (by rw [HF.out, HN.out, HS.out]), (b4.trans (hb5.mono (by omega)))⟩)
          · rw [q2] at hcf
            have HQ2 := Lib.hid q2
            clear q2
            have gw : ¬ (v < v) := by omega
            have HS : Hid (S.fitsPL (Vw.pdep vs) (d.l.drop j) v g = S.fitsPL (Vw.pdep vs) (d.l.drop (j + 1)) v (max g (S.fitsP (Vw.pdep vs) d.l[j] v).1)) := by show _ = _; rw [S.fitsPL_step hlt, HR.out]; simp [HQ2.out]
            (with_reducible refine hcf.mono ?_)
            clear hcf
            rintro e w5 ⟨rfl, hb5⟩
            have hbl5 := hbl4.trans (hb5.mono (by omega))
            obtain ⟨x0, x1, x2, x3, x4⟩ := X4.below hb5 (by omega)
            go_wp2_with fail
            go_roundw
            case rel => exact ⟨j + 1, max g p1, by omega, by go_num, rfl, by show _ = _; rw [HN.out, HS.out, HP1.out], hbl5⟩
            case measure => simp [intOf]; omega
        · rw [hr] at hcr
          have HR := Lib.hid hr
          clear hr
          (with_reducible refine hcr.mono ?_)
          clear hcr
          rintro e w4 ⟨rfl, hb4⟩
          have zz4 := hb4.size
          have hbl4 := hbA.trans (hb4.mono (by omega))
          have b4 := b3'.trans (hb4.mono (by omega))
          have hi4 := hi3.below (hb4.mono (by omega))
          have hcf := ih d.l[j] B w4 (v + 1) (by omega) (by omega) (by omega) (hin.below (b4.mono hB)) (hG4.below hb4) hi4 (by omega)
          unfold S.val at hcf
          obtain ⟨p1, hp1⟩ : ∃ z, z = (S.fitsP (Vw.pdep vs) d.l[j] (v + 1)).1 := ⟨_, rfl⟩
          have hP1 := hp1.symm
          have HP1 := Lib.hid hP1
          rw [hP1] at hcf
          clear hp1
          have vr0 := (hb4.cell (p := ⟨w.heap.size, 0, none⟩) (show w.heap.size < W4.heap.size by omega)).trans vq0
          have vr1 := (hb4.cell (p := ⟨w.heap.size, 1, none⟩) (show w.heap.size < W4.heap.size by omega)).trans vq1
          have X4 := X3.below hb4 (by omega)
          have Y4 := Y3.below hb4 (by omega)
          have X4q := X4
          obtain ⟨x0, x1, x2, x3, x4⟩ := X4q
          have Y4q := Y4
          obtain ⟨y0, y1, y2, y3, y4⟩ := Y4q
          go_wp2_with fail
          clear x0 x1 x2 x3 x4 y0 y1 y2 y3 y4 vr0 vr1
          cases q2 : (S.fitsP (Vw.pdep vs) d.l[j] (v + 1)).2
          · rw [q2] at hcf
            have HS : Hid (S.fitsPL (Vw.pdep vs) (d.l.drop j) v g = (0, false)) := by show _ = _; rw [S.fitsPL_step hlt, HR.out]; simp [q2]
            clear q2
            (with_reducible refine hcf.mono ?_)
            clear hcf
            rintro e w5 ⟨rfl, hb5⟩
            have X5 := X4.below hb5 (by omega)
            obtain ⟨x0, x1, x2, x3, x4⟩ := X5
            go_wp2_with fail
            (go_ret2; exact ⟨tuple2 (by rw [HF.out, HN.out, HS.out]), (b4.trans (hb5.mono (by omega)))⟩)
          · rw [q2] at hcf
            have HQ2 := Lib.hid q2
            clear q2
            have gw : v < v + 1 := by omega
            by_cases hle : p1 ≤ v
            · have HS : Hid (S.fitsPL (Vw.pdep vs) (d.l.drop j) v g = (0, false)) := by show _ = _; rw [S.fitsPL_step hlt, HR.out]; simp [HQ2.out, HP1.out, hle]
              (with_reducible refine hcf.mono ?_)
              clear hcf
              rintro e w5 ⟨rfl, hb5⟩
              obtain ⟨x0, x1, x2, x3, x4⟩ := X4.below hb5 (by omega)
              go_wp2_with fail
              (go_ret2; exact ⟨tuple2 (by rw [HF.out, HN.out, HS.out]), (b4.trans (hb5.mono (by omega)))⟩)
            · have HS : Hid (S.fitsPL (Vw.pdep vs) (d.l.drop j) v g = S.fitsPL (Vw.pdep vs) (d.l.drop (j + 1)) v (max g (S.fitsP (Vw.pdep vs) d.l[j] (v + 1)).1)) := by show _ = _; rw [S.fitsPL_step hlt, HR.out]; simp [HQ2.out, HP1.out, hle]
              (with_reducible refine hcf.mono ?_)
              clear hcf
              rintro e w5 ⟨rfl, hb5⟩
              have hbl5 := hbl4.trans (hb5.mono (by omega))
              obtain ⟨x0, x1, x2, x3, x4⟩ := X4.below hb5 (by omega)
              go_wp2_with fail
              go_roundw
              case rel => exact ⟨j + 1, max g p1, by omega, by go_num, rfl, by show _ = _; rw [HN.out, HS.out, HP1.out], hbl5⟩
              case measure => simp [intOf]; omega
      · have hj' : j = d.l.length := by omega
        subst hj'
        have HE : Hid (S.fitsPL (Vw.pdep vs) d.l v 0 = (g, true)) := by show _ = _; rw [HN.out, List.drop_length, S.fitsPL]
        go_wp2_with fail
        (go_ret2; exact ⟨tuple2 (by rw [HF.out, HE.out]), bw⟩)
  · -- a variable
    have HF : Hid (S.fitsP (Vw.pdep vs) d v = (vs[i].x.a.dep, decide (vs[i].x.a.dep ≤ v))) := by show _ = _; rw [S.fitsP_eq, h2]
    rw [h1]
    clear h1 h2
    obtain ⟨b, o, hA, hblk, q0, hvin⟩ := Vw.at_ (hin.below (b3.mono hB)) (i := i) (v := vs[i]) (List.getElem?_eq_getElem hi)
    obtain ⟨_, _, _, _, _, n5, _⟩ := hvin.c
    have g0 : (0 : Int) ≤ (i : Int) := by omega
    have g1 : (i : Int) < (vs.length : Int) := by omega
    rw [hA] at vq0
    clear hA
    go_wp2_with fail
    (go_ret2; exact ⟨tuple2 (by rw [HF.out]), b3⟩)
end Go.Proofs.YtnldlbglgalbaabGreat

namespace Go.Proofs.YtnldlbglgalbaabGreat
open Go.RowKit

namespace S
theorem fits_congr (f g : S → Option Int) (hfg : ∀ x : S, valid x = true → x.k = 1 → f x = g x) : ∀ d : S, valid d = true → ∀ n : Int, fitsM f d n = fitsM g d n ∧ drives f d n = drives g d n := by
  intro d
  induction d using ind with
  | h d ih =>
    intro hv n
    have key : ∀ (k : Nat) (l : List S), l.length ≤ k → (∀ x ∈ l, x ∈ d.l) → ∀ n : Int, fitsML f l n = fitsML g l n ∧ drivesL f l n = drivesL g l n := by
      intro k
      induction k with
      | zero =>
        intro l hl _ n
        obtain rfl := List.length_eq_zero_iff.1 (Nat.le_zero.1 hl)
        simp [fitsML, drivesL]
      | succ k ik =>
        intro l hl hm n
        match l, hl, hm with
        | [], _, _ => simp [fitsML, drivesL]
        | [x], _, hm =>
          have hx := ih x (hm x (by simp)) (valid_item hv (hm x (by simp)))
          simp only [fitsML, drivesL, (hx n).1, (hx n).2, and_self]
        | x :: y :: r, hl, hm =>
          simp only [List.length_cons] at hl
          have hx := ih x (hm x (by simp)) (valid_item hv (hm x (by simp)))
          have h1 := ik (y :: r) (by simp; omega) (fun z hz => hm z (by simp at hz ⊢; right; exact hz)) n
          have h2 := ik r (by omega) (fun z hz => hm z (by simp [hz])) n
          refine ⟨?_, ?_⟩
          · rw [fitsML, fitsML, (hx n).1, (hx n).2, (hx (n + 1)).1, h1.1, h2.1]
          · show (drives f x n || drivesL f (y :: r) n) = (drives g x n || drivesL g (y :: r) n)
            rw [(hx n).2, h1.2]
    have hl := key d.l.length d.l (Nat.le_refl _) (fun _ h => h) n
    rw [fitsM_eq, fitsM_eq, drives_eq, drives_eq, hl.1, hl.2]
    by_cases hk : d.k = 1
    · rw [hfg d hv hk]; constructor <;> first | rfl | trivial
    · constructor <;> simp only [if_neg hk]
theorem isI_of_valid {x : S} (hv : valid x = true) (hk : x.k = 1) : x.isI = true := by
  have hl := valid_leaf hv (by rw [hk]; decide)
  have hs : x.size = 1 := by rw [size_eq, hl]; rfl
  have hd : x.depth = 1 := by
    cases x with
    | mk k n t sa sc s A c l =>
      have hl' : l = [] := hl
      subst hl'
      rfl
  unfold isI isS
  rw [hk, hs, hd, hv]
  decide
theorem valid_of_isSt {d : S} (h : d.isS = true) : valid d = true := by
  unfold isS at h
  simp only [Bool.and_eq_true] at h
  exact h.2.2
end S
theorem Vw.pdep_eq {vs : List Vw} {l : List (Tr Ka)} (hm : vs.map (·.x) = l) (ha : ∀ x ∈ l, Ka.okV x = true) {d : S} (hi : d.isI = true) : Ka.mdep l d = Vw.pdep vs d := by
  subst hm
  have hk := (S.isI_parts hi).1
  have hid : ∀ v ∈ vs, Ka.samM d v.x = (!d.isDots && Vw.samP d v) := by
    intro v hv
    have h1 := ha v.x (List.mem_map.2 ⟨v, hv, rfl⟩)
    unfold Ka.okV at h1
    simp only [Bool.and_eq_true] at h1
    have h2 := S.sameI_eq (e := d) h1.1
    unfold S.sameI at h2
    rw [h1.1, hi, Bool.true_and, Bool.true_and] at h2
    unfold Ka.samM Vw.samP
    rw [h2, h1.1, Bool.and_true, Bool.and_comm]
  unfold Ka.mdep Vw.pdep
  rw [List.find?_map]
  cases hd : d.isDots
  · rw [if_pos ⟨hk, rfl⟩]
    have e : vs.find? ((Ka.samM d) ∘ fun v => v.x) = vs.find? (Vw.samP d) := by
      have key : ∀ a : List Vw, (∀ v ∈ a, v ∈ vs) → a.find? ((Ka.samM d) ∘ fun v => v.x) = a.find? (Vw.samP d) := by
        intro a
        induction a with
        | nil => intro _; rfl
        | cons v r ih =>
          intro hs
          have h := hid v (hs v (by simp))
          rw [hd] at h
          simp only [List.find?_cons, Function.comp, h, Bool.not_false, Bool.true_and]
          rw [ih fun z hz => hs z (by simp [hz])]
      exact key vs fun _ h => h
    rw [e]
    cases vs.find? (Vw.samP d) <;> rfl
  · rw [if_neg (by simp)]
    have e : vs.find? ((Ka.samM d) ∘ fun v => v.x) = none := by
      rw [List.find?_eq_none]
      intro v hv
      simp [Function.comp, hid v hv, hd]
    rw [e]
    rfl
theorem Vw.pdep_ok {vs : List Vw} {l : List (Tr Ka)} (hm : vs.map (·.x) = l) (ha : ∀ x ∈ l, Ka.okV x = true) : ∀ d e, Vw.pdep vs d = some e → 0 ≤ e ∧ d.k = 1 ∧ d.isDots = false := by
  intro d e h
  unfold Vw.pdep at h
  split at h
  · rename_i hc
    cases hq : vs.find? (Vw.samP d) with
    | none => rw [hq] at h; cases h
    | some v =>
      rw [hq] at h
      simp only [Option.map_some, Option.some.injEq] at h
      have h1 := ha v.x (by rw [← hm]; exact List.mem_map.2 ⟨v, List.mem_of_find?_eq_some hq, rfl⟩)
      unfold Ka.okV at h1
      simp only [Bool.and_eq_true, decide_eq_true_eq] at h1
      exact ⟨by omega, hc.1, hc.2⟩
  · cases h
theorem Ka.tfits_eq {vs : List Vw} {l : List (Tr Ka)} (hm : vs.map (·.x) = l) {d : S} (ha : ∀ x ∈ l, Ka.okV x = true) : Ka.tfits l d = (d.isTpl && (S.fitsP (Vw.pdep vs) d 0).2) := by
  unfold Ka.tfits S.isTpl
  rw [all_yes ha, Bool.true_and]
  cases hs : d.isS
  · simp
  · have hv := S.valid_of_isSt hs
    have h1 := (S.fits_congr (Ka.mdep l) (Vw.pdep vs) (fun x hx hk => Vw.pdep_eq hm ha (S.isI_of_valid hx hk)) d hv 0).1
    have h2 := (S.fits_agree (Vw.pdep vs) (Vw.pdep_ok hm ha) d hv 0 (Int.le_refl 0)).1
    rw [h1, h2, S.follow_eq]
    simp [Bool.and_assoc]

set_option maxRecDepth 100000 in
set_option maxHeartbeats 2000000 in
theorem isNoneV_any (x : Tr Ka) (B : Nat) (w : World) (hin : Ka.E.In w B x) (hB : B ≤ w.heap.size) : Calls Tryz.prog 103 #[Ka.val x] w fun e w' => e = .returned (.bool (!Ka.okV x)) ∧ Below w.heap.size w w' := by
  obtain ⟨W1, hW1⟩ : ∃ W1, W1 = w.alloc (.cells #[.int .i64 x.a.N.k, .int .i64 x.a.N.n, .string x.a.N.t, .slice x.a.N.sa x.a.N.s.length x.a.N.sc, .slice x.a.N.A x.a.N.l.length x.a.N.c, .int .i64 x.a.dep, .int .i64 x.a.F.k, .int .i64 x.a.F.n, .string x.a.F.t, .slice x.a.F.sa x.a.F.s.length x.a.F.sc, .slice x.a.F.A x.a.F.l.length x.a.F.c, .slice x.A x.l.length x.c] 82) := ⟨_, rfl⟩
  have z1 : W1.heap.size = w.heap.size + 1 := by rw [hW1]; simp
  have b0 : Below w.heap.size w W1 := by rw [hW1]; exact (Below.refl _ _).alloc (Nat.le_refl _) _
  have X0 : Ka.Box W1 w.heap.size x := by rw [hW1]; exact Ka.Box.new _ _ _
  have HF : Hid (Ka.okV x = (x.a.N.isI && decide (0 ≤ x.a.dep))) := rfl
  have hc := implIdent_any x.a.N B W1 ((Ka.E_in (hin.below (b0.mono hB))).1.N) (by omega)
  unfold S.val at hc
  unfold Ka.val
  go_enter Tryz.func103, Tryz.ntmps103
  go_upto_region 1 with fail
  rw [← hW1]
  clear hW1
  have X0q := X0
  obtain ⟨y0, y1, y2, y3, y4, y5, y6, y7, y8, y9, y10, y11⟩ := X0q
  go_wp2_with fail
  clear y0 y1 y2 y3 y4 y5 y6 y7 y8 y9 y10 y11
  cases q1 : x.a.N.isI
  · rw [q1] at hc
    have HQ := Lib.hid q1
    clear q1
    (with_reducible refine hc.mono ?_)
    clear hc
    rintro e w2 ⟨rfl, hb2⟩
    go_wp2_with fail
    go_ret
    exact ⟨ret_bool (by rw [HF.out, HQ.out]; rfl), b0.trans (hb2.mono (by omega))⟩
  · rw [q1] at hc
    have HQ := Lib.hid q1
    clear q1
    (with_reducible refine hc.mono ?_)
    clear hc
    rintro e w2 ⟨rfl, hb2⟩
    obtain ⟨y0, y1, y2, y3, y4, y5, y6, y7, y8, y9, y10, y11⟩ := X0.below hb2 (by omega)
    go_wp2_with fail
    go_ret
    exact ⟨ret_bool (by rw [HF.out, HQ.out, Bool.true_and, ← decide_not]; congr 1; simp), b0.trans (hb2.mono (by omega))⟩

set_option maxRecDepth 100000 in
set_option maxHeartbeats 2000000 in
theorem idxNone_any (A : Option Addr) (c : Nat) (l : List (Tr Ka)) (B : Nat) (w : World) (hin : Ka.E.LIn w B A c l) (hB : B ≤ w.heap.size) :
    Calls Tryz.prog 134 #[.slice A l.length c, .func (.func 103) #[] #[]] w fun e w' => (∃ x : Int, e = .returned (.int .i64 x) ∧ -1 ≤ x ∧ x ≤ 9223372036854775807 ∧ decide (0 ≤ x) = !l.all Ka.okV) ∧ Below w.heap.size w w' := by
  have hcap := hin.cap
  go_enter Tryz.func134, Tryz.ntmps134
  go_wp2_with fail
  go_loopw [8] (fun i wr => ∃ j : Nat, j ≤ l.length ∧ i = .int .i64 j ∧ Hid (∀ x ∈ l.take j, Ka.okV x = true) ∧ Below w.heap.size w wr) (fun i _ => l.length - (intOf i).toNat)
  case atStart => exact ⟨0, Nat.zero_le _, rfl, by simp [Hid], Below.refl _ _⟩
  case round =>
    obtain ⟨j, hj, rfl, HN, hb⟩ := hrel
    have hs2 := hb.size
    by_cases hlt : j < l.length
    · obtain ⟨b, o, rfl, hblk, c0, c1, c2, c3, c4, c5, c6, c7, c8, c9, c10, c11, hix⟩ := Ka.at_ (hin.below (hb.mono hB)) (i := j) (x := l[j]) (List.getElem?_eq_getElem hlt)
      have gg1 : (0 : Int) ≤ (j : Int) := by omega
      have gg2 : (j : Int) < (l.length : Int) := by omega
      have hc := isNoneV_any l[j] B wr hix (by omega)
      unfold Ka.val at hc
      go_wp2_with fail
      (with_reducible refine hc.mono ?_)
      clear hc
      rintro e w1 ⟨rfl, hb1⟩
      have HB := Lib.hid (hb.trans (hb1.mono hs2))
      clear hb1
      cases hq : Ka.okV l[j]
      · have HQ : Hid (l.all Ka.okV = false) := all_no hlt hq
        clear hq
        go_wp2_with fail
        go_ret
        exact ⟨⟨j, rfl, by omega, by omega, by rw [HQ.out]; simp⟩, HB.out⟩
      · have HQ := Lib.hid hq
        clear hq
        go_wp2_with fail
        go_roundw
        case rel => exact ⟨j + 1, by omega, by go_num, all_take hlt HN.out HQ.out, HB.out⟩
        case measure => simp [intOf]; omega
    · have hj' : j = l.length := by omega
      subst hj'
      have HQ : Hid (l.all Ka.okV = true) := all_yes (by have := HN.out; rwa [List.take_length] at this)
      go_wp2_with fail
      go_ret
      exact ⟨⟨-1, rfl, by omega, by omega, by rw [HQ.out]; decide⟩, hb⟩

set_option maxRecDepth 100000 in
theorem conNone_any (A : Option Addr) (c : Nat) (l : List (Tr Ka)) (B : Nat) (w : World) (hin : Ka.E.LIn w B A c l) (hB : B ≤ w.heap.size) :
    Calls Tryz.prog 105 #[.slice A l.length c, .func (.func 103) #[] #[]] w fun e w' => e = .returned (.bool (!l.all Ka.okV)) ∧ Below w.heap.size w w' := by
  obtain ⟨V, hV⟩ : ∃ V, V = !l.all Ka.okV := ⟨_, rfl⟩
  have hi := idxNone_any A c l B w hin hB
  rw [← hV] at hi ⊢
  clear hV
  go_enter Tryz.func105, Tryz.ntmps105
  go_wp2_with fail
  refine hi.mono ?_
  rintro e w1 ⟨⟨x, rfl, x1, x2, hx⟩, hb1⟩
  have HX := Lib.hid hx
  clear hx
  go_wp2_with fail
  go_ret
  exact ⟨ret_bool HX.out, hb1⟩

set_option maxRecDepth 100000 in
set_option maxHeartbeats 8000000 in
theorem implTf_any (A : Option Addr) (c : Nat) (l : List (Tr Ka)) (d : S) (B : Nat) (w : World) (ha : Ka.E.LIn w B A c l) (hd : d.In w B) (hB : B ≤ w.heap.size) (hll : l.length ≤ 2000000) (hds : d.size ≤ 2000000) :
    Calls Tryz.prog 78 #[.slice A l.length c, d.val] w fun e w' => e = .returned (.bool (Ka.tfits l d)) ∧ Below w.heap.size w w' := by
  obtain ⟨W1, hW1⟩ : ∃ W1, W1 = w.alloc (.cells #[.int .i64 d.k, .int .i64 d.n, .string d.t, .slice d.sa d.s.length d.sc, .slice d.A d.l.length d.c] 43) := ⟨_, rfl⟩
  have z1 : W1.heap.size = w.heap.size + 1 := by rw [hW1]; simp
  have b0 : Below w.heap.size w W1 := by rw [hW1]; exact (Below.refl _ _).alloc (Nat.le_refl _) _
  have X0 : S.Box W1 w.heap.size d := by rw [hW1]; exact S.Box.new _ _ _
  have ha1 := ha.below (b0.mono hB)
  have hd1 := hd.below (b0.mono hB)
  have hcap := ha.cap
  have hcd := hd.cap
  unfold S.val
  have lx : w.heap.size < W1.heap.size := by omega
  have hc := conNone_any A c l B W1 ha1 (by omega)
  go_enter Tryz.func78, Tryz.ntmps78
  go_upto_region 1 with fail
  rw [← hW1]
  clear hW1
  have X0q := X0
  obtain ⟨x0, x1, x2, x3, x4⟩ := X0q
  go_wp2_with fail
  clear x0 x1 x2 x3 x4
  cases q1 : l.all Ka.okV
  · rw [q1] at hc
    have HF : Hid (Ka.tfits l d = false) := by show _ = _; unfold Ka.tfits; rw [q1]; rfl
    clear q1
    (with_reducible refine hc.mono ?_)
    clear hc
    rintro e w2 ⟨rfl, hb2⟩
    go_wp2_with fail
    go_ret
    exact ⟨ret_bool HF.out.symm, b0.trans (hb2.mono (by omega))⟩
  · rw [q1] at hc
    have HQ : Hid (∀ x ∈ l, Ka.okV x = true) := List.all_eq_true.1 q1
    clear q1
    (with_reducible refine hc.mono ?_)
    clear hc
    rintro e w2 ⟨rfl, hb2⟩
    have z2 := hb2.size
    have b2 := b0.trans (hb2.mono (by omega))
    have X2 := X0.below hb2 (by omega)
    have X2q := X2
    obtain ⟨x0, x1, x2, x3, x4⟩ := X2q
    have hc2 := isTpl_any d B w2 (hd.below (b2.mono hB)) (by omega) hds
    unfold S.val at hc2
    go_wp2_with fail
    clear x0 x1 x2 x3 x4
    cases q2 : d.isTpl
    · rw [q2] at hc2
      have HF : Hid (Ka.tfits l d = false) := by
        show _ = _
        rw [Ka.tfits_eq (Vw.of_map 0 0 l) HQ.out, q2]; rfl
      clear q2
      (with_reducible refine hc2.mono ?_)
      clear hc2
      rintro e w3 ⟨rfl, hb3⟩
      go_wp2_with fail
      go_ret
      exact ⟨ret_bool HF.out.symm, b2.trans (hb3.mono (by omega))⟩
    · rw [q2] at hc2
      have HT := Lib.hid q2
      clear q2
      (with_reducible refine hc2.mono ?_)
      clear hc2
      rintro e w3 ⟨rfl, hb3⟩
      have z3 := hb3.size
      have b3 := b2.trans (hb3.mono (by omega))
      have X3 := X2.below hb3 (by omega)
      have lx3 : w.heap.size < w3.heap.size := by omega
      obtain ⟨W, hW⟩ : ∃ W, W = w3 := ⟨_, rfl⟩
      rw [← hW] at X3 b3 z3 lx3 ⊢
      clear hW
      obtain ⟨r0, r1, r2, r3, r4⟩ := X3
      have x0 := r0
      have x1 := r1
      have x2 := r2
      have x3 := r3
      have x4 := r4
      have lx := lx3
      have tok0 : True := trivial
      go_wp2_with fail
      go_region_held3 (fun w' => w'.cell? ⟨w.heap.size, 0, none⟩ = some (.int .i64 d.k) ∧ w'.cell? ⟨w.heap.size, 1, none⟩ = some (.int .i64 d.n) ∧ w'.cell? ⟨w.heap.size, 2, none⟩ = some (.string d.t) ∧ w'.cell? ⟨w.heap.size, 3, none⟩ = some (.slice d.sa d.s.length d.sc) ∧ w'.cell? ⟨w.heap.size, 4, none⟩ = some (.slice d.A d.l.length d.c)) (go_keep) (first
        | (go_at_call 108; have _t := tok0; refine (ptrs_any A c l B _ (ha.below (b3.mono hB)).drew (show B ≤ W.heap.size by omega) hll).mono ?_; rintro e w4 ⟨Ap, cp, vs, rfl, hvm, hvin, hk4⟩; clear tok0; have hh4 : Below W.heap.size W w4 := below_undrew hk4; have y4 := hh4.size; have HVM := Lib.hid hvm; have hvl : vs.length = l.length := (by have := congrArg List.length hvm; simpa using this); have hvl2 : vs.length ≤ 2000000 := (by omega); clear hvm hvl; have x0 := (hh4.cell (p := ⟨w.heap.size, 0, none⟩) lx).trans r0; have x1 := (hh4.cell (p := ⟨w.heap.size, 1, none⟩) lx).trans r1; have x2 := (hh4.cell (p := ⟨w.heap.size, 2, none⟩) lx).trans r2; have x3 := (hh4.cell (p := ⟨w.heap.size, 3, none⟩) lx).trans r3; have x4 := (hh4.cell (p := ⟨w.heap.size, 4, none⟩) lx).trans r4)
        | (go_simp; go_at_call 107; (with_reducible refine (viewOf_any Ap cp vs w4.heap.size w4 hvin (Nat.le_refl _) hvl2).mono ?_); rintro e w5 ⟨M, nn, V, DD, rfl, hG, hk5⟩; have hh5 := hh4.trans (hk5.mono y4); have y5 := hh5.size; have y6 := hk5.size; have hvin5 := hvin.below hk5; have x0 := (hh5.cell (p := ⟨w.heap.size, 0, none⟩) lx).trans r0; have x1 := (hh5.cell (p := ⟨w.heap.size, 1, none⟩) lx).trans r1; have x2 := (hh5.cell (p := ⟨w.heap.size, 2, none⟩) lx).trans r2; have x3 := (hh5.cell (p := ⟨w.heap.size, 3, none⟩) lx).trans r3; have x4 := (hh5.cell (p := ⟨w.heap.size, 4, none⟩) lx).trans r4)
        | (go_simp; go_at_call 109; have hcon := fitsV_any Ap cp vs M nn V DD hvl2 d.size d w5.heap.size w5 0 (Nat.le_refl _) (Int.le_refl 0) (by omega) (hvin5.more y6) hG ((hd.below ((b3.trans (hh5.mono (by omega))).mono hB)).more (by omega)) (Nat.le_refl _); unfold S.val at hcon; obtain ⟨P1, hP1⟩ : ∃ z, z = (S.fitsP (Vw.pdep vs) d 0).1 := ⟨_, rfl⟩; obtain ⟨P2, hP2⟩ : ∃ z, z = (S.fitsP (Vw.pdep vs) d 0).2 := ⟨_, rfl⟩; rw [← hP1, ← hP2] at hcon; have HP2 := Lib.hid hP2; clear hP1 hP2; (with_reducible refine hcon.mono ?_); clear hcon; rintro e w6 ⟨rfl, hk6⟩; have hh6 := hh5.trans (hk6.mono y5); have x0 := (hh6.cell (p := ⟨w.heap.size, 0, none⟩) lx).trans r0; have x1 := (hh6.cell (p := ⟨w.heap.size, 1, none⟩) lx).trans r1; have x2 := (hh6.cell (p := ⟨w.heap.size, 2, none⟩) lx).trans r2; have x3 := (hh6.cell (p := ⟨w.heap.size, 3, none⟩) lx).trans r3; have x4 := (hh6.cell (p := ⟨w.heap.size, 4, none⟩) lx).trans r4)
        | fail)
      all_goals go_wp2_with fail
      all_goals go_ret
      all_goals exact ⟨ret_bool (by rw [Ka.tfits_eq HVM.out HQ.out, HT.out, HP2.out]; rfl), b3.trans (hh6.mono (by omega))⟩
end Go.Proofs.YtnldlbglgalbaabGreat
