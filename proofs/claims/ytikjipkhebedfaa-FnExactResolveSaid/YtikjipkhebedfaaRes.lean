/-
  Resolving an identifier: the program's resolve and the model's l3Resolve.
-/
import Derived.Test.YtikjipkhebedfaaCandT
import Derived.Test.YtikjipkhebedfaaMaxB
namespace Go.Proofs.Ytikjipkhebedfaa
open Go.RowKit
namespace Bd
def zeroB : Bd := ⟨⟨#[]⟩, none, 0, [], 0, 0⟩
def topB : List Bd → Bd | [] => zeroB | b :: r => bestL b r
def okB (cs : List Bd) : Bool := cs.all fun x => subL x.s (topB cs).s
def codeB (cs : List Bd) : Int := if cs.length = 0 then 0 else if okB cs then 1 else 2
def pickB (cs : List Bd) : Bd := if codeB cs = 1 then topB cs else zeroB
theorem topB_eq {cs : List Bd} (h : 0 < cs.length) : topB cs = bestL cs[0] cs.tail := by
  cases cs with
  | nil => simp at h
  | cons b r => rfl
theorem topB_mem {cs : List Bd} (h : 0 < cs.length) : topB cs ∈ cs := by
  cases cs with
  | nil => simp at h
  | cons b r => exact bestL_mem b r
theorem res_none {cs : List Bd} (h : cs.length = 0) : codeB cs = 0 ∧ pickB cs = zeroB := by
  have e : codeB cs = 0 := by unfold codeB; rw [if_pos h]
  refine ⟨e, ?_⟩
  unfold pickB; rw [e]; rfl
theorem res_no {cs : List Bd} (h : 0 < cs.length) {j : Nat} (hj : j < cs.length) (hs : subL cs[j].s (topB cs).s = false) : codeB cs = 2 ∧ pickB cs = zeroB := by
  have ho : okB cs = false := by
    rw [okB, List.all_eq_false]
    exact ⟨cs[j], List.getElem_mem hj, by rw [hs]; decide⟩
  have e : codeB cs = 2 := by unfold codeB; rw [if_neg (by omega), ho]; rfl
  refine ⟨e, ?_⟩
  unfold pickB; rw [e]; rfl
theorem res_yes {cs : List Bd} (h : 0 < cs.length) (hs : ∀ x ∈ cs, subL x.s (topB cs).s = true) : codeB cs = 1 ∧ pickB cs = topB cs := by
  have ho : okB cs = true := by rw [okB, List.all_eq_true]; exact hs
  have e : codeB cs = 1 := by unfold codeB; rw [if_neg (by omega), ho]; rfl
  refine ⟨e, ?_⟩
  unfold pickB; rw [if_pos e]
theorem zeroB_in {w : World} {B : Nat} : zeroB.In w B := ⟨by decide, IIn.nil_ (Nat.zero_le _) (fun _ => rfl)⟩
theorem pickB_in {w : World} {B : Nat} {cs : List Bd} (h : ∀ x ∈ cs, x.In w B) : (pickB cs).In w B := by
  unfold pickB
  split
  · rename_i e
    have : 0 < cs.length := by
      rcases Nat.eq_zero_or_pos cs.length with h0 | h0
      · rw [(res_none h0).1] at e; exact absurd e (by decide)
      · exact h0
    exact h _ (topB_mem this)
  · exact zeroB_in
theorem all_step {cs : List Bd} {j : Nat} (h : j < cs.length) {m : Bd} (ha : ∀ x ∈ cs.take j, subL x.s m.s = true) (hs : subL cs[j].s m.s = true) : ∀ x ∈ cs.take (j + 1), subL x.s m.s = true := by
  intro x hx
  rw [List.take_succ_eq_append_getElem h, List.mem_append] at hx
  rcases hx with hx | hx
  · exact ha x hx
  · simp at hx; rw [hx]; exact hs
end Bd

set_option maxRecDepth 100000 in
set_option maxHeartbeats 4000000 in
theorem implRes_any (A : Option Addr) (c : Nat) (l : List Bd) (d : S) (B : Nat) (w : World) (hA : Bd.areB l = true) (hI : d.isI = true) (hbk : Bd.bulkL l ≤ 2000000) (hs : d.s.length ≤ 2000000) (hin : Bd.E.LIn w B A c l) (hd : d.In w B) (hB : B ≤ w.heap.size) :
    Calls Try.prog 92 #[.slice A l.length c, d.val] w fun e w' => e = .returned (.tuple #[(Bd.pickB (l.filter (Bd.fitM d))).val, .int .i64 (Bd.codeB (l.filter (Bd.fitM d)))]) ∧ Below w.heap.size w w' := by
  have hcap := hin.cap
  have hll := Bd.bulkL_len l
  have hmem : ∀ x ∈ l.filter (Bd.fitM d), x.s.length ≤ 2000000 ∧ isSetI x.s = true := fun x hx => by
    have hx := (List.mem_filter.1 hx).1
    have := Bd.bulkL_mem hx
    exact ⟨by unfold Bd.bulk at this; omega, Bd.isB_set (Bd.areB_all hA x hx)⟩
  have hfit := Bd.filter_fit hA hI
  obtain ⟨cs, hcs⟩ : ∃ cs, cs = l.filter (Bd.fitM d) := ⟨_, rfl⟩
  rw [← hcs] at hmem hfit ⊢
  have hinz : ∀ w' : World, (∀ x ∈ l, x.In w' B) → ∀ x ∈ cs, x.In w' B := fun w' h x hx => h x (by rw [hcs] at hx; exact (List.mem_filter.1 hx).1)
  have HFIT := Lib.hid hfit
  clear hcs hfit
  obtain ⟨W1, hW1⟩ : ∃ W1, W1 = (w.alloc (.cells #[.int .i64 d.k, .int .i64 d.n, .string d.t, .slice d.sa d.s.length d.sc, .slice d.A d.l.length d.c] 57)).alloc (.cells #[.string ⟨#[]⟩, .slice none 0 0, .int .i64 0, .int .i64 0] 43) := ⟨_, rfl⟩
  have z1 : w.heap.size + 2 ≤ W1.heap.size := by rw [hW1]; simp
  have B1 : Below w.heap.size w W1 := by rw [hW1]; exact ((Below.refl _ _).alloc (Nat.le_refl _) _).alloc (by simp) _
  have x0 : S.Box W1 w.heap.size d := by rw [hW1]; exact (S.Box.new w d _).below ((Below.refl (w.heap.size + 1) _).alloc (by simp) _) (by omega)
  have K0 : Hid (D.Blk W1 (w.heap.size + 1) 43 #[.string ⟨#[]⟩, .slice none 0 0, .int .i64 0, .int .i64 0]) := by rw [hW1]; have := D.Blk.new (w.alloc (.cells #[.int .i64 d.k, .int .i64 d.n, .string d.t, .slice d.sa d.s.length d.sc, .slice d.A d.l.length d.c] 57)) 43 #[.string ⟨#[]⟩, .slice none 0 0, .int .i64 0, .int .i64 0]; simpa [Hid] using this
  have hc1 := candI_any A c l d B W1 (hin.below (B1.mono hB)) (hd.below (B1.mono hB)) (by omega) hs (by omega)
  rw [HFIT.out] at hc1
  unfold S.val at hc1 ⊢
  obtain ⟨a0, a1, a2, a3, a4⟩ := x0
  go_enter Try.func92, Try.ntmps92
  go_wp2_with fail
  rw [← hW1]
  clear hW1
  go_wp2_with fail
  refine hc1.mono ?_
  rintro e w1 ⟨A1, c1, rfl, hr1, hb1⟩
  have zz1 := hb1.size
  have b1 := B1.trans (hb1.mono (by omega))
  have K1 := Lib.hid (K0.out.below hb1 (by omega))
  clear hc1 K0 a0 a1 a2 a3 a4
  by_cases hne : cs.length = 0
  · have hres := Bd.res_none hne
    have hl0 : (cs.length : Int) = 0 := by omega
    have HRES := Lib.hid hres
    clear hres
    have r0 := K1.out.cell 0
    have r1 := K1.out.cell 1
    have r2 := K1.out.cell 2
    have r3 := K1.out.cell 3
    have f0 := K1.out.frozen 0
    have f1 := K1.out.frozen 1
    have f2 := K1.out.frozen 2
    have f3 := K1.out.frozen 3
    simp at r0 r1 r2 r3
    go_wp2_with fail
    refine bodyPost_ret (v := .tuple #[.agg #[.string ⟨#[]⟩, .slice none 0 0, .int .i64 0, .int .i64 0], .int .i64 0]) (by simp [results, Try.results92, go_sem, r0, r1, r2, r3]) rfl ⟨by rw [HRES.out.1, HRES.out.2]; rfl, ?_⟩
    exact (((b1.setCell (by simp <;> omega) _).setCell (by simp <;> omega) _).setCell (by simp <;> omega) _).setCell (by simp <;> omega) _
  · have hpos : 0 < cs.length := by omega
    have hl0 : ¬ ((cs.length : Int) = 0) := by omega
    have hc2 := maxB_any A1 c1 cs hpos w1.heap.size w1 hr1 (Nat.le_refl _) (fun x hx => by have := (hmem x hx).1; omega)
    rw [← Bd.topB_eq hpos] at hc2
    obtain ⟨m, hm⟩ : ∃ m, m = Bd.topB cs := ⟨_, rfl⟩
    have hmm : m.s.length ≤ 2000000 ∧ isSetI m.s = true := by rw [hm]; exact hmem _ (Bd.topB_mem hpos)
    have hmi := hinz w1 (fun x hx => (hin.below (b1.mono hB)).all x hx) m (by rw [hm]; exact Bd.topB_mem hpos)
    rw [← hm] at hc2
    have HM := Lib.hid hm
    clear hm
    unfold Bd.val at hc2
    go_wp2_with fail
    refine hc2.mono ?_
    rintro e w2 ⟨rfl, hb2⟩
    clear hc2
    have zz2 := hb2.size
    obtain ⟨W3, hW3⟩ : ∃ W3, W3 = w2.alloc (.cells #[.string m.t, .slice m.sa m.s.length m.sc, .int .i64 m.k, .int .i64 m.n] 43) := ⟨_, rfl⟩
    have bA3 : Below w2.heap.size w2 W3 := by rw [hW3]; exact (Below.refl _ _).alloc (Nat.le_refl _) _
    have z3 : w2.heap.size + 1 ≤ W3.heap.size := by rw [hW3]; simp
    have y3 : Bd.Box W3 w2.heap.size m := by rw [hW3]; exact Bd.Box.new w2 m _
    have hb3 := hb2.trans (bA3.mono zz2)
    have b3 := b1.trans (hb3.mono (by omega))
    have K3 := Lib.hid (K1.out.below hb3 (by omega))
    have hr3 := hr1.below hb3
    have hmi3 := hmi.below ((hb3.mono (by omega) : Below B w1 W3))
    have hcs := hr3.cap
    clear K1
    go_wp2_with fail
    rw [← hW3]
    clear hW3 bA3 hb2 hb3 hr1
    go_loopw [21] (fun i wr => ∃ j : Nat, j ≤ cs.length ∧ i = .int .i64 j ∧ Hid (∀ x ∈ cs.take j, subL x.s m.s = true) ∧ Below W3.heap.size W3 wr) (fun i _ => cs.length - (intOf i).toNat)
    case atStart => exact ⟨0, Nat.zero_le _, rfl, by simp [Hid], Below.refl _ _⟩
    case round =>
      obtain ⟨j, hj, rfl, HS, hb⟩ := hrel
      have hz := hb.size
      have b4 := b3.trans (hb.mono (by omega))
      have KR := K3.out.below hb (by omega)
      have r0 := KR.cell 0
      have r1 := KR.cell 1
      have r2 := KR.cell 2
      have r3 := KR.cell 3
      have f0 := KR.frozen 0
      have f1 := KR.frozen 1
      have f2 := KR.frozen 2
      have f3 := KR.frozen 3
      simp at r0 r1 r2 r3
      obtain ⟨m0, m1, m2, m3⟩ := y3.below hb (by omega)
      have HKR := Lib.hid KR
      clear KR
      by_cases hlt : j < cs.length
      · obtain ⟨b, o, rfl, hblk, c0, c1', c2, c3, hix⟩ := Bd.at_ (hr3.below (hb.mono (by omega))) (i := j) (x := cs[j]) (List.getElem?_eq_getElem hlt)
        have hxj := hmem cs[j] (List.getElem_mem hlt)
        obtain ⟨W5, hW5⟩ : ∃ W5, W5 = wr.alloc (.cells #[.string cs[j].t, .slice cs[j].sa cs[j].s.length cs[j].sc, .int .i64 cs[j].k, .int .i64 cs[j].n] 43) := ⟨_, rfl⟩
        have bA5 : Below wr.heap.size wr W5 := by rw [hW5]; exact (Below.refl _ _).alloc (Nat.le_refl _) _
        have z5 : wr.heap.size + 1 ≤ W5.heap.size := by rw [hW5]; simp
        have b5 := hb.trans (bA5.mono hz)
        have b5w := b4.trans (bA5.mono (by omega))
        have hix5 := (hinz W5 (fun x hx => (hin.below (b5w.mono hB)).all x hx) cs[j] (List.getElem_mem hlt)).2
        have hmi5 := (hmi3.below (b5.mono (by omega))).2
        have p0 := (bA5.cell (p := ⟨w2.heap.size, 0, none⟩) (show w2.heap.size < wr.heap.size by omega)).trans m0
        have p1 := (bA5.cell (p := ⟨w2.heap.size, 1, none⟩) (show w2.heap.size < wr.heap.size by omega)).trans m1
        rw [hW5] at p0 p1
        have K5 := HKR.out.below bA5 (by omega)
        have HK5 := Lib.hid K5
        have hc4 := implSub_any cs[j].sa cs[j].sc cs[j].s m.sa m.sc m.s B W5 hix5 hmi5 (by omega) hmm.1
        have et : subTop cs[j].s m.s = subL cs[j].s m.s := by unfold subTop; rw [hxj.2, hmm.2, Bool.true_and, Bool.true_and]
        rw [et] at hc4
        clear r0 r1 r2 r3 f0 f1 f2 f3 m0 m1 m2 m3 et hix K5
        go_wp2_with fail
        rw [← hW5]
        clear hW5 p0 p1
        refine hc4.mono ?_
        rintro e w6 ⟨rfl, hb6⟩
        have zz6 := hb6.size
        have b6 := b5.trans (hb6.mono (by omega))
        have b6w := b5w.trans (hb6.mono (by omega))
        have K6 := HK5.out.below hb6 (by omega)
        have r0 := K6.cell 0
        have r1 := K6.cell 1
        have r2 := K6.cell 2
        have r3 := K6.cell 3
        have f0 := K6.frozen 0
        have f1 := K6.frozen 1
        have f2 := K6.frozen 2
        have f3 := K6.frozen 3
        simp at r0 r1 r2 r3
        clear hc4 K6 HK5
        cases hq : subL cs[j].s m.s
        · have hres := Bd.res_no hpos hlt (by rw [← HM.out]; exact hq)
          have HRES := Lib.hid hres
          clear hres
          go_wp2_with fail
          refine bodyPost_ret (v := .tuple #[.agg #[.string ⟨#[]⟩, .slice none 0 0, .int .i64 0, .int .i64 0], .int .i64 2]) (by simp [results, Try.results92, go_sem, r0, r1, r2, r3]) rfl ⟨by rw [HRES.out.1, HRES.out.2]; rfl, ?_⟩
          exact (((b6w.setCell (by simp <;> omega) _).setCell (by simp <;> omega) _).setCell (by simp <;> omega) _).setCell (by simp <;> omega) _
        · have hs2 := Bd.all_step hlt HS.out hq
          have HS2 := Lib.hid hs2
          clear hs2 r0 r1 r2 r3 f0 f1 f2 f3
          go_wp2_with fail
          exact ⟨⟨j + 1, by omega, by go_num, HS2, b6⟩, by simp [intOf]; omega⟩
      · have hj' : j = cs.length := by omega
        subst hj'
        have hres := Bd.res_yes hpos (by rw [← HM.out]; have := HS.out; rwa [List.take_length] at this)
        have HRES := Lib.hid hres
        clear hres
        go_wp2_with fail
        refine bodyPost_ret (v := .tuple #[.agg #[.string m.t, .slice m.sa m.s.length m.sc, .int .i64 m.k, .int .i64 m.n], .int .i64 1]) (by simp [results, Try.results92, go_sem, r0, r1, r2, r3]) rfl ⟨by rw [HRES.out.1, HRES.out.2, ← HM.out]; rfl, ?_⟩
        exact (((b4.setCell (by simp <;> omega) _).setCell (by simp <;> omega) _).setCell (by simp <;> omega) _).setCell (by simp <;> omega) _

theorem Bd.best_self (cs : List Bd) (h : 0 < cs.length) : Bd.bestL cs[0] cs = Bd.topB cs := by
  cases cs with
  | nil => simp at h
  | cons b r => simp [Bd.bestL, Bd.topB]
theorem Bd.best_step (cs : List Bd) (x : Bd) (j : Nat) (h : j < cs.length) : Bd.bestL x (cs.take (j + 1)) = if (Bd.bestL x (cs.take j)).s.length < cs[j].s.length then cs[j] else Bd.bestL x (cs.take j) := by
  rw [List.take_succ_eq_append_getElem h, Bd.bestL_snoc]
theorem Bd.zero_own {lo hi : Nat} {w : World} : Bd.E.Own lo hi w Bd.zeroB := bd_own (b := Bd.zeroB) (by decide) (IOwn.nil_ (Nat.zero_le _) (fun _ => rfl))

set_option maxRecDepth 100000 in
set_option maxHeartbeats 4000000 in
theorem specRes_any (A : Option Addr) (c : Nat) (l : List Bd) (d : S) (B : Nat) (w : World) (hbk : Bd.bulkL l ≤ 2000000) (hs : d.s.length ≤ 2000000) (hin : Bd.E.LIn w B A c l) (hd : d.In w B) (hB : B ≤ w.heap.size) :
    Calls Try.prog 91 #[.slice A l.length c, d.val] w fun e w' => ∃ b : Bd, e = .returned (.tuple #[b.val, .int .i64 (Bd.codeB (l.filter (Bd.fitM d)))]) ∧ b.er = (Bd.pickB (l.filter (Bd.fitM d))).er ∧ Bd.E.Own w.heap.size w'.heap.size w' b ∧ Below w.heap.size w w' := by
  have hcap := hin.cap
  have hll := Bd.bulkL_len l
  have hmem : ∀ x ∈ l.filter (Bd.fitM d), x.s.length ≤ 2000000 ∧ x.bulk ≤ 2000000 - 1 := fun x hx => by
    have hx := (List.mem_filter.1 hx).1
    have := Bd.bulkL_mem hx
    exact ⟨by unfold Bd.bulk at this; omega, by omega⟩
  have hc1 := fun W1 h1 h2 h3 => candM_any A c l d B W1 h1 h2 h3 hs (by omega)
  obtain ⟨cs, hcs⟩ : ∃ cs, cs = l.filter (Bd.fitM d) := ⟨_, rfl⟩
  rw [← hcs] at hmem hc1 ⊢
  have hinz : ∀ w' : World, (∀ x ∈ l, x.In w' B) → ∀ x ∈ cs, x.In w' B := fun w' h x hx => h x (by rw [hcs] at hx; exact (List.mem_filter.1 hx).1)
  clear hcs
  obtain ⟨W1, hW1⟩ : ∃ W1, W1 = (w.alloc (.cells #[.int .i64 d.k, .int .i64 d.n, .string d.t, .slice d.sa d.s.length d.sc, .slice d.A d.l.length d.c] 57)).alloc (.cells #[.string ⟨#[]⟩, .slice none 0 0, .int .i64 0, .int .i64 0] 43) := ⟨_, rfl⟩
  have z1 : w.heap.size + 2 ≤ W1.heap.size := by rw [hW1]; simp
  have B1 : Below w.heap.size w W1 := by rw [hW1]; exact ((Below.refl _ _).alloc (Nat.le_refl _) _).alloc (by simp) _
  have x0 : S.Box W1 w.heap.size d := by rw [hW1]; exact (S.Box.new w d _).below ((Below.refl (w.heap.size + 1) _).alloc (by simp) _) (by omega)
  have K0 : Hid (D.Blk W1 (w.heap.size + 1) 43 #[.string ⟨#[]⟩, .slice none 0 0, .int .i64 0, .int .i64 0]) := by rw [hW1]; have := D.Blk.new (w.alloc (.cells #[.int .i64 d.k, .int .i64 d.n, .string d.t, .slice d.sa d.s.length d.sc, .slice d.A d.l.length d.c] 57)) 43 #[.string ⟨#[]⟩, .slice none 0 0, .int .i64 0, .int .i64 0]; simpa [Hid] using this
  have hc1 := hc1 W1 (hin.below (B1.mono hB)) (hd.below (B1.mono hB)) (by omega)
  unfold S.val at hc1 ⊢
  obtain ⟨a0, a1, a2, a3, a4⟩ := x0
  go_enter Try.func91, Try.ntmps91
  go_wp2_with fail
  rw [← hW1]
  clear hW1
  go_wp2_with fail
  refine hc1.mono ?_
  rintro e w1 ⟨A1, c1, rfl, hr1, hb1⟩
  have zz1 := hb1.size
  have b1 := B1.trans (hb1.mono (by omega))
  have K1 := Lib.hid (K0.out.below hb1 (by omega))
  clear hc1 K0 a0 a1 a2 a3 a4
  by_cases hne : cs.length = 0
  · have hres := Bd.res_none hne
    have hl0 : (cs.length : Int) = 0 := by omega
    have HRES := Lib.hid hres
    clear hres
    have r0 := K1.out.cell 0
    have r1 := K1.out.cell 1
    have r2 := K1.out.cell 2
    have r3 := K1.out.cell 3
    have f0 := K1.out.frozen 0
    have f1 := K1.out.frozen 1
    have f2 := K1.out.frozen 2
    have f3 := K1.out.frozen 3
    simp at r0 r1 r2 r3
    go_wp2_with fail
    refine bodyPost_ret (v := .tuple #[.agg #[.string ⟨#[]⟩, .slice none 0 0, .int .i64 0, .int .i64 0], .int .i64 0]) (by simp [results, Try.results91, go_sem, r0, r1, r2, r3]) rfl ⟨Bd.zeroB, by rw [HRES.out.1]; rfl, by rw [HRES.out.2], Bd.zero_own, ?_⟩
    exact (((b1.setCell (by simp <;> omega) _).setCell (by simp <;> omega) _).setCell (by simp <;> omega) _).setCell (by simp <;> omega) _
  · have hpos : 0 < cs.length := by omega
    have hl0 : ((cs.length : Int) == 0) = false := beq_false_of_ne (by omega)
    have n2 : (0 : Int) < (cs.length : Int) := by omega
    obtain ⟨b, o, rfl, hblk, c0, c1', c2, c3, hix⟩ := Bd.at_ hr1 (i := 0) (x := cs[0]) (List.getElem?_eq_getElem hpos)
    simp only [Nat.zero_mul, Nat.add_zero] at c0 c1' c2 c3
    obtain ⟨W2, hW2⟩ : ∃ W2, W2 = w1.alloc (.cells #[.string cs[0].t, .slice cs[0].sa cs[0].s.length cs[0].sc, .int .i64 cs[0].k, .int .i64 cs[0].n] 43) := ⟨_, rfl⟩
    have bA2 : Below w1.heap.size w1 W2 := by rw [hW2]; exact (Below.refl _ _).alloc (Nat.le_refl _) _
    have z2 : w1.heap.size + 1 ≤ W2.heap.size := by rw [hW2]; simp
    have KM : Hid (D.Blk W2 w1.heap.size 43 #[.string cs[0].t, .slice cs[0].sa cs[0].s.length cs[0].sc, .int .i64 cs[0].k, .int .i64 cs[0].n]) := by rw [hW2]; exact D.Blk.new w1 _ _
    have hcs := hr1.cap
    go_wp2_with fail
    rw [← hW2]
    clear hW2 c0 c1' c2 c3 hix
    go_loopw [24] (fun i wr => ∃ j : Nat, j ≤ cs.length ∧ i = .int .i64 j ∧ Below w1.heap.size w1 wr ∧ W2.heap.size ≤ wr.heap.size ∧ ∃ m, Hid (m = Bd.bestL cs[0] (cs.take j)) ∧ Hid (D.Blk wr w1.heap.size 43 #[.string m.t, .slice m.sa m.s.length m.sc, .int .i64 m.k, .int .i64 m.n])) (fun i _ => cs.length - (intOf i).toNat)
    case atStart => exact ⟨0, Nat.zero_le _, rfl, bA2, Nat.le_refl _, cs[0], by simp [Hid, Bd.bestL], KM⟩
    case round =>
      obtain ⟨j, hj, rfl, hb, hz, m, HM, KM⟩ := hrel
      by_cases hlt : j < cs.length
      · obtain ⟨b', o', e, hblk', c0, c1', c2, c3, hix⟩ := Bd.at_ (hr1.below hb) (i := j) (x := cs[j]) (List.getElem?_eq_getElem hlt)
        obtain ⟨rfl, rfl, _⟩ := Addr.mk.inj (Option.some.inj e)
        obtain ⟨W5, hW5⟩ : ∃ W5, W5 = wr.alloc (.cells #[.string cs[j].t, .slice cs[j].sa cs[j].s.length cs[j].sc, .int .i64 cs[j].k, .int .i64 cs[j].n] 43) := ⟨_, rfl⟩
        have bA5 : Below wr.heap.size wr W5 := by rw [hW5]; exact (Below.refl _ _).alloc (Nat.le_refl _) _
        have z5 : wr.heap.size + 1 ≤ W5.heap.size := by rw [hW5]; simp
        have b5 := hb.trans (bA5.mono (by omega))
        have KM5 := KM.out.below bA5 (by omega)
        have y5 : Bd.Box W5 wr.heap.size cs[j] := by rw [hW5]; exact Bd.Box.new wr cs[j] _
        obtain ⟨d0, d1, d2, d3⟩ := y5
        have p1 := KM5.cell 1
        have f0 := KM5.frozen 0
        have f1 := KM5.frozen 1
        have f2 := KM5.frozen 2
        have f3 := KM5.frozen 3
        have o0 := KM5.cell 0
        have o2 := KM5.cell 2
        have o3 := KM5.cell 3
        simp at o0 p1 o2 o3
        rw [hW5] at o0 p1 o2 o3 f0 f1 f2 f3
        have HKM5 := Lib.hid KM5
        have HST := Lib.hid (Bd.best_step cs cs[0] j hlt)
        clear KM5 KM
        by_cases hlen : m.s.length < cs[j].s.length
        · have hlen1 : (m.s.length : Int) < (cs[j].s.length : Int) := by omega
          have HM3 : Hid (cs[j] = Bd.bestL cs[0] (cs.take (j + 1))) := by
            show cs[j] = _
            rw [HST.out, ← HM.out, if_pos hlen]
          go_wp2_with fail
          rw [← hW5]
          exact ⟨⟨j + 1, by omega, by go_num, (((b5.setCell (by simp) _).setCell (by simp) _).setCell (by simp) _).setCell (by simp) _, by simp only [World.size_setCell]; omega, cs[j], HM3, Lib.hid (mbox_put HKM5.out)⟩, by simp [intOf]; omega⟩
        · have hlen1 : ¬ (m.s.length : Int) < (cs[j].s.length : Int) := by omega
          have HM3 : Hid (m = Bd.bestL cs[0] (cs.take (j + 1))) := by
            show m = _
            rw [HST.out, ← HM.out, if_neg hlen]
          go_wp2_with fail
          rw [← hW5]
          exact ⟨⟨j + 1, by omega, by go_num, b5, by omega, m, HM3, HKM5⟩, by simp [intOf]; omega⟩
      · have hj' : j = cs.length := by omega
        subst hj'
        have hm : m = Bd.topB cs := by have := HM.out; rw [List.take_length] at this; rw [this]; exact Bd.best_self cs hpos
        have hmm := hmem m (by rw [hm]; exact Bd.topB_mem hpos)
        have hmi := hinz w1 (fun x hx => (hin.below (b1.mono hB)).all x hx) m (by rw [hm]; exact Bd.topB_mem hpos)
        have HM2 := Lib.hid hm
        clear hm HM
        have hmiR := hmi.below (hb.mono (show B ≤ w1.heap.size by omega))
        obtain ⟨wm, hwm⟩ : ∃ wm, wm = wr := ⟨_, rfl⟩
        have b3 := b1.trans (hb.mono (by omega))
        have K3 := Lib.hid (K1.out.below hb (by omega))
        rw [← hwm] at KM b3 K3 hb hz hmiR
        go_wp2_with fail
        rw [← hwm]
        go_loopw [39] (fun i wr => ∃ j : Nat, j ≤ cs.length ∧ i = .int .i64 j ∧ Hid (∀ x ∈ cs.take j, subL x.s m.s = true) ∧ Below wm.heap.size wm wr) (fun i _ => cs.length - (intOf i).toNat)
        case atStart => exact ⟨0, Nat.zero_le _, rfl, by simp [Hid], Below.refl _ _⟩
        case round =>
          clear hwm
          obtain ⟨j, hj, rfl, HS, hb9⟩ := hrel
          have hz9 := hb9.size
          have b4 := b3.trans (hb9.mono (by omega))
          have hb19 := hb.trans (hb9.mono (by omega))
          have KR := K3.out.below hb9 (by omega)
          have KMr := KM.out.below hb9 (by omega)
          have r0 := KR.cell 0
          have r1 := KR.cell 1
          have r2 := KR.cell 2
          have r3 := KR.cell 3
          have f0 := KR.frozen 0
          have f1 := KR.frozen 1
          have f2 := KR.frozen 2
          have f3 := KR.frozen 3
          have m0 := KMr.cell 0
          have m1 := KMr.cell 1
          have m2 := KMr.cell 2
          have m3 := KMr.cell 3
          simp at r0 r1 r2 r3 m0 m1 m2 m3
          have HKR := Lib.hid KR
          clear KR KMr
          by_cases hlt : j < cs.length
          · obtain ⟨b', o', e, hblk', c0, c1', c2, c3, hix⟩ := Bd.at_ (hr1.below hb19) (i := j) (x := cs[j]) (List.getElem?_eq_getElem hlt)
            obtain ⟨rfl, rfl, _⟩ := Addr.mk.inj (Option.some.inj e)
            obtain ⟨W5, hW5⟩ : ∃ W5, W5 = wr.alloc (.cells #[.string cs[j].t, .slice cs[j].sa cs[j].s.length cs[j].sc, .int .i64 cs[j].k, .int .i64 cs[j].n] 43) := ⟨_, rfl⟩
            have bA5 : Below wr.heap.size wr W5 := by rw [hW5]; exact (Below.refl _ _).alloc (Nat.le_refl _) _
            have z5 : wr.heap.size + 1 ≤ W5.heap.size := by rw [hW5]; simp
            have b5 := hb9.trans (bA5.mono hz9)
            have b5w := b4.trans (bA5.mono (by omega))
            have hix5 := (hinz W5 (fun x hx => (hin.below (b5w.mono hB)).all x hx) cs[j] (List.getElem_mem hlt)).2
            have hmi5 := (hmiR.below (b5.mono (by omega))).2
            have p1 := (bA5.cell (p := ⟨w1.heap.size, 1, none⟩) (show w1.heap.size < wr.heap.size by omega)).trans m1
            rw [hW5] at p1
            have K5 := HKR.out.below bA5 (by omega)
            have HK5 := Lib.hid K5
            have hc4 := l2Subset_any cs[j].sa cs[j].sc cs[j].s m.sa m.sc m.s B W5 hix5 hmi5
            clear r0 r1 r2 r3 f0 f1 f2 f3 m0 m1 m2 m3 hix K5
            go_wp2_with fail
            rw [← hW5]
            clear hW5 p1
            refine hc4.mono ?_
            rintro e w6 ⟨rfl, rfl⟩
            have K6 := HK5.out
            have r0 := K6.cell 0
            have r1 := K6.cell 1
            have r2 := K6.cell 2
            have r3 := K6.cell 3
            have f0 := K6.frozen 0
            have f1 := K6.frozen 1
            have f2 := K6.frozen 2
            have f3 := K6.frozen 3
            simp at r0 r1 r2 r3
            clear hc4 K6 HK5
            cases hq : subL cs[j].s m.s
            · have hres := Bd.res_no hpos hlt (by rw [← HM2.out]; exact hq)
              have HRES := Lib.hid hres
              clear hres
              go_wp2_with fail
              refine bodyPost_ret (v := .tuple #[.agg #[.string ⟨#[]⟩, .slice none 0 0, .int .i64 0, .int .i64 0], .int .i64 2]) (by simp [results, Try.results91, go_sem, r0, r1, r2, r3]) rfl ⟨Bd.zeroB, by rw [HRES.out.1]; rfl, by rw [HRES.out.2], Bd.zero_own, ?_⟩
              exact (((b5w.setCell (by simp <;> omega) _).setCell (by simp <;> omega) _).setCell (by simp <;> omega) _).setCell (by simp <;> omega) _
            · have hs2 := Bd.all_step hlt HS.out hq
              have HS2 := Lib.hid hs2
              clear hs2 r0 r1 r2 r3 f0 f1 f2 f3
              go_wp2_with fail
              exact ⟨⟨j + 1, by omega, by go_num, HS2, b5⟩, by simp [intOf]; omega⟩
          · have hj' : j = cs.length := by omega
            subst hj'
            have hres := Bd.res_yes hpos (by rw [← HM2.out]; have := HS.out; rwa [List.take_length] at this)
            have HRES := Lib.hid hres
            clear hres r0 r1 r2 r3 f0 f1 f2 f3
            obtain ⟨W5, hW5⟩ : ∃ W5, W5 = wr.alloc (.cells #[.string m.t, .slice m.sa m.s.length m.sc, .int .i64 m.k, .int .i64 m.n] 43) := ⟨_, rfl⟩
            have bA5 : Below wr.heap.size wr W5 := by rw [hW5]; exact (Below.refl _ _).alloc (Nat.le_refl _) _
            have z5 : wr.heap.size + 1 ≤ W5.heap.size := by rw [hW5]; simp
            have b5w := b4.trans (bA5.mono (by omega))
            have hL1 := lin_one (hmiR.below (hb9.mono (by omega))) (show B ≤ wr.heap.size by omega)
            rw [← hW5] at hL1
            have hc4 := l3Copy_one wr.heap.size 1 m W5.heap.size W5 hmm.2 hL1 (Nat.le_refl _)
            have HK5 := Lib.hid (HKR.out.below bA5 (by omega))
            clear hL1
            go_wp2_with fail
            rw [← hW5]
            clear hW5
            refine hc4.mono ?_
            rintro e w7 ⟨g, cc, dd, rfl, hde, ho, hg, hcl, hb7⟩
            have zz7 := hb7.size
            have b7 := b5w.trans (hb7.mono (by omega))
            have K7 := HK5.out.below hb7 (by omega)
            have r0 := K7.cell 0
            have r1 := K7.cell 1
            have r2 := K7.cell 2
            have r3 := K7.cell 3
            have f0 := K7.frozen 0
            have f1 := K7.frozen 1
            have f2 := K7.frozen 2
            have f3 := K7.frozen 3
            have ha : ∀ j, (⟨g, 0, none⟩ : Addr).add j = ⟨g, j, none⟩ := fun j => by unfold Addr.add; split <;> simp_all
            have q0 : w7.cell? ⟨g, 0, none⟩ = some (.string dd.t) := by have := hcl 0 _ rfl; rwa [ha] at this
            have q1 : w7.cell? ⟨g, 1, none⟩ = some (.slice dd.sa dd.s.length dd.sc) := by have := hcl 1 _ rfl; rwa [ha] at this
            have q2 : w7.cell? ⟨g, 2, none⟩ = some (.int .i64 dd.k) := by have := hcl 2 _ rfl; rwa [ha] at this
            have q3 : w7.cell? ⟨g, 3, none⟩ = some (.int .i64 dd.n) := by have := hcl 3 _ rfl; rwa [ha] at this
            simp at r0 r1 r2 r3
            have HDE := Lib.hid hde
            clear hc4 K7 HK5 ha hcl hde
            go_wp2_with fail
            refine bodyPost_ret (v := .tuple #[.agg #[.string dd.t, .slice dd.sa dd.s.length dd.sc, .int .i64 dd.k, .int .i64 dd.n], .int .i64 1]) (by simp [results, Try.results91, go_sem, r0, r1, r2, r3]) rfl ⟨dd, by rw [HRES.out.1]; rfl, by rw [HRES.out.2, ← HM2.out]; exact HDE.out, ?_, ?_⟩
            · simp only [World.size_setCell]
              exact ((((ho.far (by simp <;> omega) _).far (by simp <;> omega) _).far (by simp <;> omega) _).far (by simp <;> omega) _).wide (by omega) (Nat.le_refl _)
            · exact (((b7.setCell (by simp <;> omega) _).setCell (by simp <;> omega) _).setCell (by simp <;> omega) _).setCell (by simp <;> omega) _
end Go.Proofs.Ytikjipkhebedfaa
