/-
  Resolve: the program's and the model's.
-/
import Derived.Test.YtikjipkhebedfaaRes
namespace Go.Proofs.Ytikjipkhebedfaa
open Go.RowKit
namespace Bd
/-- What an identifier resolves to, and the code. -/
def resB (l : List Bd) (d : S) : Bd := if areB l && d.isI then (pickB (l.filter (fitM d))).er else zeroB
def resC (l : List Bd) (d : S) : Int := if areB l && d.isI then codeB (l.filter (fitM d)) else 0
theorem resB_no {l : List Bd} {d : S} (h : (areB l && d.isI) = false) : resB l d = zeroB ∧ resC l d = 0 := by
  unfold resB resC; rw [h]; exact ⟨rfl, rfl⟩
theorem resB_yes {l : List Bd} {d : S} (h : (areB l && d.isI) = true) : resB l d = (pickB (l.filter (fitM d))).er ∧ resC l d = codeB (l.filter (fitM d)) := by
  unfold resB resC; rw [h]; exact ⟨rfl, rfl⟩
theorem all_er {a b : List Bd} (h : erL a = erL b) (m : List Int) : (a.all fun x => subL x.s m) = (b.all fun x => subL x.s m) := by
  have key : ∀ l : List Bd, (l.all fun x => subL x.s m) = ((erL l).all fun x => subL x.s m) := by
    intro l
    induction l with
    | nil => rfl
    | cons x r ih => simp only [List.all_cons, erL, List.map_cons] at ih ⊢; rw [ih]; rfl
  rw [key a, key b, h]
theorem bestL_er : ∀ (a b : List Bd) (m n : Bd), er m = er n → erL a = erL b → er (bestL m a) = er (bestL n b)
  | [], [], _, _, h, _ => h
  | [], _ :: _, _, _, _, h => by simp [erL] at h
  | _ :: _, [], _, _, _, h => by simp [erL] at h
  | x :: r, y :: q, m, n, h, hl => by
    simp only [erL, List.map_cons, List.cons.injEq] at hl
    have h1 := (fields_of_er h).2.1
    have h2 := (fields_of_er hl.1).2.1
    unfold bestL
    rw [h1, h2]
    split
    · exact bestL_er r q _ _ hl.1 hl.2
    · exact bestL_er r q _ _ h hl.2
theorem topB_er {a b : List Bd} (h : erL a = erL b) : er (topB a) = er (topB b) := by
  cases a with
  | nil => cases b with
    | nil => rfl
    | cons y q => simp [erL] at h
  | cons x r => cases b with
    | nil => simp [erL] at h
    | cons y q =>
      simp only [erL, List.map_cons, List.cons.injEq] at h
      exact bestL_er r q x y h.1 h.2
theorem codeB_er {a b : List Bd} (h : erL a = erL b) : codeB a = codeB b := by
  have hl : a.length = b.length := by rw [← erL_length a, h, erL_length]
  have ht := (fields_of_er (topB_er h)).2.1
  unfold codeB okB
  rw [hl, ht, all_er h]
theorem pickB_er {a b : List Bd} (h : erL a = erL b) : er (pickB a) = er (pickB b) := by
  unfold pickB
  rw [codeB_er h]
  split
  · exact topB_er h
  · rfl
theorem resB_er {l m : List Bd} {d e : S} (hl : erL l = erL m) (hd : S.er d = S.er e) : resB l d = resB m e ∧ resC l d = resC m e := by
  unfold resB resC
  rw [areB_er hl, S.isI_of_er hd, pickB_er (filter_er hd l m hl), codeB_er (filter_er hd l m hl)]
  exact ⟨rfl, rfl⟩
theorem pick_s {cs : List Bd} {n : Nat} (h : ∀ x ∈ cs, x.s.length ≤ n) : (pickB cs).s.length ≤ n := by
  unfold pickB
  split
  · cases cs with
    | nil => exact Nat.zero_le _
    | cons b r => exact h _ (bestL_mem b r)
  · exact Nat.zero_le _
theorem er_zeroB : er zeroB = zeroB := rfl
theorem res_s {x : Bd} {l : List Bd} {d : S} {n : Nat} (h : er x = resB l d) (hn : bulkL l ≤ n) : x.s.length ≤ n := by
  have hx := (fields_of_er (h ▸ (er_er x).symm : er x = er (resB l d))).2.1
  rw [hx]
  unfold resB
  split
  · show (er (pickB _)).s.length ≤ n
    have : (er (pickB (l.filter (fitM d)))).s = (pickB (l.filter (fitM d))).s := rfl
    rw [this]
    refine pick_s fun y hy => ?_
    have := bulkL_mem (List.mem_filter.1 hy).1
    unfold bulk at this
    omega
  · exact Nat.zero_le _
end Bd

set_option maxRecDepth 100000 in
set_option maxHeartbeats 4000000 in
theorem implResT_any (A : Option Addr) (c : Nat) (l : List Bd) (d : S) (B : Nat) (w : World) (hbk : Bd.bulkL l ≤ 2000000) (hs : d.s.length ≤ 2000000) (hsz : d.size ≤ 2000000) (hin : Bd.E.LIn w B A c l) (hd : d.In w B) (hB : B ≤ w.heap.size) :
    Calls Try.prog 38 #[.slice A l.length c, d.val] w fun e w' => ∃ b : Bd, e = .returned (.tuple #[b.val, .int .i64 (Bd.resC l d)]) ∧ b.er = Bd.resB l d ∧ Bd.E.Own w.heap.size w'.heap.size w' b ∧ Below w.heap.size w w' := by
  have hcap := hin.cap
  have hll := Bd.bulkL_len l
  obtain ⟨W1, hW1⟩ : ∃ W1, W1 = (w.alloc (.cells #[.int .i64 d.k, .int .i64 d.n, .string d.t, .slice d.sa d.s.length d.sc, .slice d.A d.l.length d.c] 57)).alloc (.cells #[.string ⟨#[]⟩, .slice none 0 0, .int .i64 0, .int .i64 0] 43) := ⟨_, rfl⟩
  have z1 : w.heap.size + 2 ≤ W1.heap.size := by rw [hW1]; simp
  have B1 : Below w.heap.size w W1 := by rw [hW1]; exact ((Below.refl _ _).alloc (Nat.le_refl _) _).alloc (by simp) _
  have x0 : S.Box W1 w.heap.size d := by rw [hW1]; exact (S.Box.new w d _).below ((Below.refl (w.heap.size + 1) _).alloc (by simp) _) (by omega)
  have K0 : Hid (D.Blk W1 (w.heap.size + 1) 43 #[.string ⟨#[]⟩, .slice none 0 0, .int .i64 0, .int .i64 0]) := by rw [hW1]; have := D.Blk.new (w.alloc (.cells #[.int .i64 d.k, .int .i64 d.n, .string d.t, .slice d.sa d.s.length d.sc, .slice d.A d.l.length d.c] 57)) 43 #[.string ⟨#[]⟩, .slice none 0 0, .int .i64 0, .int .i64 0]; simpa [Hid] using this
  have hc1 := implAreB_any A c l B W1 (hin.below (B1.mono hB)) (by omega)
  have hc2 := fun w' (h : d.In w' B) (hz : B ≤ w'.heap.size) => implIdent_any d B w' h hz
  have hc3 := fun w' (hA : Bd.areB l = true) (hI : d.isI = true) (h1 : Bd.E.LIn w' B A c l) (h2 : d.In w' B) (hz : B ≤ w'.heap.size) => implRes_any A c l d B w' hA hI hbk hs h1 h2 hz
  unfold S.val at hc2 hc3 ⊢
  go_enter Try.func38, Try.ntmps38
  go_wp2_with fail
  rw [← hW1]
  clear hW1
  refine hc1.mono ?_
  rintro e w1 ⟨rfl, hb1⟩
  have zz1 := hb1.size
  have x1 := S.Box.below x0 hb1 (by omega)
  have b1 := B1.trans (hb1.mono (by omega))
  have hd1 := hd.below (b1.mono hB)
  have hin1 := hin.below (b1.mono hB)
  clear hc1 x0
  cases hq : Bd.areB l
  · have HQ := Lib.hid hq
    clear hq
    have hres := Bd.resB_no (l := l) (d := d) (by rw [HQ.out]; rfl)
    have HRES := Lib.hid hres
    have KR := K0.out.below (hb1) (by omega)
    have r0 := KR.cell 0
    have r1 := KR.cell 1
    have r2 := KR.cell 2
    have r3 := KR.cell 3
    have f0 := KR.frozen 0
    have f1 := KR.frozen 1
    have f2 := KR.frozen 2
    have f3 := KR.frozen 3
    simp at r0 r1 r2 r3
    clear hres KR
    go_wp2_with fail
    refine bodyPost_ret (v := .tuple #[.agg #[.string ⟨#[]⟩, .slice none 0 0, .int .i64 0, .int .i64 0], .int .i64 0]) (by simp [results, Try.results38, go_sem, r0, r1, r2, r3]) rfl ⟨Bd.zeroB, by rw [HRES.out.2]; rfl, by rw [HRES.out.1]; rfl, Bd.zero_own, ?_⟩
    exact (((b1.setCell (by simp <;> omega) _).setCell (by simp <;> omega) _).setCell (by simp <;> omega) _).setCell (by simp <;> omega) _
  · have HQ := Lib.hid hq
    clear hq
    obtain ⟨f0, f1, f2, f3, f4⟩ := x1
    go_wp2_with fail
    refine (hc2 w1 hd1 (by omega)).mono ?_
    rintro e w2 ⟨rfl, hb2⟩
    have zz2 := hb2.size
    have x2 := S.Box.below (⟨f0, f1, f2, f3, f4⟩ : S.Box w1 w.heap.size d) hb2 (by omega)
    have b2 := b1.trans (hb2.mono (by omega))
    have hd2 := hd.below (b2.mono hB)
    have hin2 := hin.below (b2.mono hB)
    clear hc2 f0 f1 f2 f3 f4
    cases hp : d.isI
    · have HP := Lib.hid hp
      clear hp
      have hres := Bd.resB_no (l := l) (d := d) (by rw [HQ.out, HP.out]; rfl)
      have HRES := Lib.hid hres
      have KR := K0.out.below (hb1.trans (hb2.mono zz1)) (by omega)
      have r0 := KR.cell 0
      have r1 := KR.cell 1
      have r2 := KR.cell 2
      have r3 := KR.cell 3
      have f0 := KR.frozen 0
      have f1 := KR.frozen 1
      have f2 := KR.frozen 2
      have f3 := KR.frozen 3
      simp at r0 r1 r2 r3
      clear hres KR
      go_wp2_with fail
      refine bodyPost_ret (v := .tuple #[.agg #[.string ⟨#[]⟩, .slice none 0 0, .int .i64 0, .int .i64 0], .int .i64 0]) (by simp [results, Try.results38, go_sem, r0, r1, r2, r3]) rfl ⟨Bd.zeroB, by rw [HRES.out.2]; rfl, by rw [HRES.out.1]; rfl, Bd.zero_own, ?_⟩
      exact (((b2.setCell (by simp <;> omega) _).setCell (by simp <;> omega) _).setCell (by simp <;> omega) _).setCell (by simp <;> omega) _
    · have HP := Lib.hid hp
      clear hp
      obtain ⟨f0, f1, f2, f3, f4⟩ := x2
      go_wp2_with fail
      refine (hc3 w2 HQ.out HP.out hin2 hd2 (by omega)).mono ?_
      rintro e w3 ⟨rfl, hb3⟩
      clear hc3 f0 f1 f2 f3 f4
      have zz3 := hb3.size
      have b3 := b2.trans (hb3.mono (by omega))
      obtain ⟨m, hm⟩ : ∃ m, m = Bd.pickB (l.filter (Bd.fitM d)) := ⟨_, rfl⟩
      obtain ⟨C, hC⟩ : ∃ C, C = Bd.codeB (l.filter (Bd.fitM d)) := ⟨_, rfl⟩
      have hin3 := hin.below (b3.mono hB)
      have hmi : m.In w3 B := by rw [hm]; exact Bd.pickB_in fun x hx => hin3.all x (List.mem_filter.1 hx).1
      have hms : m.s.length ≤ 2000000 := by rw [hm]; exact Bd.pick_s fun x hx => by have := Bd.bulkL_mem (List.mem_filter.1 hx).1; unfold Bd.bulk at this; omega
      rw [← hm, ← hC]
      have HMC := Lib.hid (And.intro hm hC)
      clear hm hC
      have K3 := Lib.hid (K0.out.below (hb1.trans ((hb2.mono zz1).trans (hb3.mono (by omega)))) (by omega))
      obtain ⟨W4, hW4⟩ : ∃ W4, W4 = w3.alloc (.cells #[.string m.t, .slice m.sa m.s.length m.sc, .int .i64 m.k, .int .i64 m.n] 43) := ⟨_, rfl⟩
      have bA : Below w3.heap.size w3 W4 := by rw [hW4]; exact (Below.refl _ _).alloc (Nat.le_refl _) _
      have z4 : w3.heap.size + 1 ≤ W4.heap.size := by rw [hW4]; simp
      have y4 : Bd.Box W4 w3.heap.size m := by rw [hW4]; exact Bd.Box.new w3 m _
      have b4 := b3.trans (bA.mono (by omega))
      have K4 := Lib.hid (K3.out.below bA (by omega))
      have hc5 := copyBd_any m B W4 hms (hmi.below (bA.mono (by omega))) (by omega)
      obtain ⟨m0, m1, m2, m3⟩ := y4
      unfold Bd.val at hc5 ⊢
      clear K3 hmi
      go_wp2_with fail
      rw [← hW4]
      clear hW4 bA
      go_wp2_with fail
      refine hc5.mono ?_
      rintro e w5 ⟨dd, rfl, hde, ho, hb5⟩
      have zz5 := hb5.size
      have b5 := b4.trans (hb5.mono (by omega))
      have K5 := K4.out.below hb5 (by omega)
      have r0 := K5.cell 0
      have r1 := K5.cell 1
      have r2 := K5.cell 2
      have r3 := K5.cell 3
      have f0 := K5.frozen 0
      have f1 := K5.frozen 1
      have f2 := K5.frozen 2
      have f3 := K5.frozen 3
      simp at r0 r1 r2 r3
      have hfin : dd.er = Bd.resB l d ∧ C = Bd.resC l d := by
        have := Bd.resB_yes (l := l) (d := d) (by rw [HQ.out, HP.out]; rfl)
        rw [this.1, this.2, ← HMC.out.1, ← HMC.out.2]
        exact ⟨hde, rfl⟩
      have HF := Lib.hid hfin
      clear hc5 K5 K4 hde hfin m0 m1 m2 m3
      simp only [Bd.val]
      go_wp2_with fail
      refine bodyPost_ret (v := .tuple #[.agg #[.string dd.t, .slice dd.sa dd.s.length dd.sc, .int .i64 dd.k, .int .i64 dd.n], .int .i64 C]) (by simp [results, Try.results38, go_sem, r0, r1, r2, r3]) rfl ⟨dd, by rw [HF.out.2]; rfl, HF.out.1, ?_, ?_⟩
      · simp only [World.size_setCell]
        exact ((((ho.far (by simp <;> omega) _).far (by simp <;> omega) _).far (by simp <;> omega) _).far (by simp <;> omega) _).wide (by omega) (Nat.le_refl _)
      · exact (((b5.setCell (by simp <;> omega) _).setCell (by simp <;> omega) _).setCell (by simp <;> omega) _).setCell (by simp <;> omega) _

set_option maxRecDepth 100000 in
set_option maxHeartbeats 4000000 in
theorem specResT_any (A : Option Addr) (c : Nat) (l : List Bd) (d : S) (B : Nat) (w : World) (hbk : Bd.bulkL l ≤ 2000000) (hs : d.s.length ≤ 2000000) (hsz : d.size ≤ 2000000) (hin : Bd.E.LIn w B A c l) (hd : d.In w B) (hB : B ≤ w.heap.size) :
    Calls Try.prog 37 #[.slice A l.length c, d.val] w fun e w' => ∃ b : Bd, e = .returned (.tuple #[b.val, .int .i64 (Bd.resC l d)]) ∧ b.er = Bd.resB l d ∧ Bd.E.Own w.heap.size w'.heap.size w' b ∧ Below w.heap.size w w' := by
  have hcap := hin.cap
  have hll := Bd.bulkL_len l
  obtain ⟨W1, hW1⟩ : ∃ W1, W1 = (w.alloc (.cells #[.int .i64 d.k, .int .i64 d.n, .string d.t, .slice d.sa d.s.length d.sc, .slice d.A d.l.length d.c] 57)).alloc (.cells #[.string ⟨#[]⟩, .slice none 0 0, .int .i64 0, .int .i64 0] 43) := ⟨_, rfl⟩
  have z1 : w.heap.size + 2 ≤ W1.heap.size := by rw [hW1]; simp
  have B1 : Below w.heap.size w W1 := by rw [hW1]; exact ((Below.refl _ _).alloc (Nat.le_refl _) _).alloc (by simp) _
  have x0 : S.Box W1 w.heap.size d := by rw [hW1]; exact (S.Box.new w d _).below ((Below.refl (w.heap.size + 1) _).alloc (by simp) _) (by omega)
  have K0 : Hid (D.Blk W1 (w.heap.size + 1) 43 #[.string ⟨#[]⟩, .slice none 0 0, .int .i64 0, .int .i64 0]) := by rw [hW1]; have := D.Blk.new (w.alloc (.cells #[.int .i64 d.k, .int .i64 d.n, .string d.t, .slice d.sa d.s.length d.sc, .slice d.A d.l.length d.c] 57)) 43 #[.string ⟨#[]⟩, .slice none 0 0, .int .i64 0, .int .i64 0]; simpa [Hid] using this
  have hc1 := specAreB_any A c l B W1 (hin.below (B1.mono hB)) (by omega)
  have hc2 := fun w' (h : d.In w' B) (hz : B ≤ w'.heap.size) => specIdent_any d B w' h hz hsz
  have hc3 := fun w' (h1 : Bd.E.LIn w' B A c l) (h2 : d.In w' B) (hz : B ≤ w'.heap.size) => specRes_any A c l d B w' hbk hs h1 h2 hz
  unfold S.val at hc2 hc3 ⊢
  go_enter Try.func37, Try.ntmps37
  go_wp2_with fail
  rw [← hW1]
  clear hW1
  refine hc1.mono ?_
  rintro e w1 ⟨rfl, hb1⟩
  have zz1 := hb1.size
  have x1 := S.Box.below x0 hb1 (by omega)
  have b1 := B1.trans (hb1.mono (by omega))
  have hd1 := hd.below (b1.mono hB)
  have hin1 := hin.below (b1.mono hB)
  clear hc1 x0
  cases hq : Bd.areB l
  · have HQ := Lib.hid hq
    clear hq
    have hres := Bd.resB_no (l := l) (d := d) (by rw [HQ.out]; rfl)
    have HRES := Lib.hid hres
    have KR := K0.out.below (hb1) (by omega)
    have r0 := KR.cell 0
    have r1 := KR.cell 1
    have r2 := KR.cell 2
    have r3 := KR.cell 3
    have f0 := KR.frozen 0
    have f1 := KR.frozen 1
    have f2 := KR.frozen 2
    have f3 := KR.frozen 3
    simp at r0 r1 r2 r3
    clear hres KR
    go_wp2_with fail
    refine bodyPost_ret (v := .tuple #[.agg #[.string ⟨#[]⟩, .slice none 0 0, .int .i64 0, .int .i64 0], .int .i64 0]) (by simp [results, Try.results37, go_sem, r0, r1, r2, r3]) rfl ⟨Bd.zeroB, by rw [HRES.out.2]; rfl, by rw [HRES.out.1]; rfl, Bd.zero_own, ?_⟩
    exact (((b1.setCell (by simp <;> omega) _).setCell (by simp <;> omega) _).setCell (by simp <;> omega) _).setCell (by simp <;> omega) _
  · have HQ := Lib.hid hq
    clear hq
    obtain ⟨f0, f1, f2, f3, f4⟩ := x1
    go_wp2_with fail
    refine (hc2 w1 hd1 (by omega)).mono ?_
    rintro e w2 ⟨rfl, hb2⟩
    have zz2 := hb2.size
    have x2 := S.Box.below (⟨f0, f1, f2, f3, f4⟩ : S.Box w1 w.heap.size d) hb2 (by omega)
    have b2 := b1.trans (hb2.mono (by omega))
    have hd2 := hd.below (b2.mono hB)
    have hin2 := hin.below (b2.mono hB)
    clear hc2 f0 f1 f2 f3 f4
    cases hp : d.isI
    · have HP := Lib.hid hp
      clear hp
      have hres := Bd.resB_no (l := l) (d := d) (by rw [HQ.out, HP.out]; rfl)
      have HRES := Lib.hid hres
      have KR := K0.out.below (hb1.trans (hb2.mono zz1)) (by omega)
      have r0 := KR.cell 0
      have r1 := KR.cell 1
      have r2 := KR.cell 2
      have r3 := KR.cell 3
      have f0 := KR.frozen 0
      have f1 := KR.frozen 1
      have f2 := KR.frozen 2
      have f3 := KR.frozen 3
      simp at r0 r1 r2 r3
      clear hres KR
      go_wp2_with fail
      refine bodyPost_ret (v := .tuple #[.agg #[.string ⟨#[]⟩, .slice none 0 0, .int .i64 0, .int .i64 0], .int .i64 0]) (by simp [results, Try.results37, go_sem, r0, r1, r2, r3]) rfl ⟨Bd.zeroB, by rw [HRES.out.2]; rfl, by rw [HRES.out.1]; rfl, Bd.zero_own, ?_⟩
      exact (((b2.setCell (by simp <;> omega) _).setCell (by simp <;> omega) _).setCell (by simp <;> omega) _).setCell (by simp <;> omega) _
    · have HP := Lib.hid hp
      clear hp
      obtain ⟨f0, f1, f2, f3, f4⟩ := x2
      go_wp2_with fail
      refine (hc3 w2 hin2 hd2 (by omega)).mono ?_
      rintro e w3 ⟨dd, rfl, hde, ho, hb3⟩
      clear hc3 f0 f1 f2 f3 f4
      have zz3 := hb3.size
      have b3 := b2.trans (hb3.mono (by omega))
      have K3 := K0.out.below (hb1.trans ((hb2.mono zz1).trans (hb3.mono (by omega)))) (by omega)
      have r0 := K3.cell 0
      have r1 := K3.cell 1
      have r2 := K3.cell 2
      have r3 := K3.cell 3
      have f0 := K3.frozen 0
      have f1 := K3.frozen 1
      have f2 := K3.frozen 2
      have f3 := K3.frozen 3
      simp at r0 r1 r2 r3
      obtain ⟨C, hC⟩ : ∃ C, C = Bd.codeB (l.filter (Bd.fitM d)) := ⟨_, rfl⟩
      rw [← hC]
      have hfin : dd.er = Bd.resB l d ∧ C = Bd.resC l d := by
        have := Bd.resB_yes (l := l) (d := d) (by rw [HQ.out, HP.out]; rfl)
        rw [this.1, this.2, ← hC]
        exact ⟨hde, rfl⟩
      have HF := Lib.hid hfin
      clear K3 hde hfin hC
      simp only [Bd.val]
      go_wp2_with fail
      refine bodyPost_ret (v := .tuple #[.agg #[.string dd.t, .slice dd.sa dd.s.length dd.sc, .int .i64 dd.k, .int .i64 dd.n], .int .i64 C]) (by simp [results, Try.results37, go_sem, r0, r1, r2, r3]) rfl ⟨dd, by rw [HF.out.2]; rfl, HF.out.1, ?_, ?_⟩
      · simp only [World.size_setCell]
        exact ((((ho.far (by simp <;> omega) _).far (by simp <;> omega) _).far (by simp <;> omega) _).far (by simp <;> omega) _).wide (by omega) (Nat.le_refl _)
      · exact (((b3.setCell (by simp <;> omega) _).setCell (by simp <;> omega) _).setCell (by simp <;> omega) _).setCell (by simp <;> omega) _
theorem specResT_c (A : Option Addr) (c : Nat) (l : List Bd) (d : S) {l0 : List Bd} {d0 : S} (B : Nat) (w : World) (hl : Bd.erL l = Bd.erL l0) (hde : S.er d = S.er d0) {X : Int} {Y : Bd} (hX : X = Bd.resC l0 d0) (hY : Y = Bd.resB l0 d0) (hbk : Bd.bulkL l0 ≤ 2000000) (hs : d.bulk ≤ 2000000) (hsz : d.size ≤ 2000000) (hin : Bd.E.LIn w B A c l) (hd : d.In w B) (hB : B ≤ w.heap.size) :
    Calls Try.prog 37 #[.slice A l.length c, d.val] w fun e w' => ∃ b : Bd, e = .returned (.tuple #[b.val, .int .i64 X]) ∧ b.er = Y ∧ Bd.E.Own w.heap.size w'.heap.size w' b ∧ Below w.heap.size w w' := by
  rw [hX, hY, ← (Bd.resB_er hl hde).1, ← (Bd.resB_er hl hde).2]
  exact specResT_any A c l d B w (by rw [← Bd.bulkL_er, hl, Bd.bulkL_er]; exact hbk) (Nat.le_trans (S.bulk_sc d) hs) hsz hin hd hB
theorem implResT_c (A : Option Addr) (c : Nat) (l : List Bd) (d : S) {l0 : List Bd} {d0 : S} (B : Nat) (w : World) (hl : Bd.erL l = Bd.erL l0) (hde : S.er d = S.er d0) {X : Int} {Y : Bd} (hX : X = Bd.resC l0 d0) (hY : Y = Bd.resB l0 d0) (hbk : Bd.bulkL l0 ≤ 2000000) (hs : d.bulk ≤ 2000000) (hsz : d.size ≤ 2000000) (hin : Bd.E.LIn w B A c l) (hd : d.In w B) (hB : B ≤ w.heap.size) :
    Calls Try.prog 38 #[.slice A l.length c, d.val] w fun e w' => ∃ b : Bd, e = .returned (.tuple #[b.val, .int .i64 X]) ∧ b.er = Y ∧ Bd.E.Own w.heap.size w'.heap.size w' b ∧ Below w.heap.size w w' := by
  rw [hX, hY, ← (Bd.resB_er hl hde).1, ← (Bd.resB_er hl hde).2]
  exact implResT_any A c l d B w (by rw [← Bd.bulkL_er, hl, Bd.bulkL_er]; exact hbk) (Nat.le_trans (S.bulk_sc d) hs) hsz hin hd hB
end Go.Proofs.Ytikjipkhebedfaa
