/-
  The model's ApplyPrimitive (written by gen/app10.py).
-/
import Derived.Test.YtnldlbglgalbaabApModA
import Derived.Test.YtnldlbglgalbaabApModB
namespace Go.Proofs.Ytnldlbglgalbaab
open Go.RowKit
set_option maxRecDepth 100000 in
set_option maxHeartbeats 4000000 in
theorem sPure_any (p : Int) (l : List Vu) (m : List Pq) (A A2 : Option Addr) (c c2 B : Nat) (w : World) (hin : Vu.E.LIn w B A c l) (hl : Pq.E.LIn w B A2 c2 m) (hB : B ≤ w.heap.size) (om : Pq.okL m = true) (hp : pureB p = true) (hn : (l.length : Int) = ar p) (ho : l.any (Vu.none m.length) = false) :
    Calls Try.prog 18 #[.int .i64 p, .slice A l.length c, .slice A2 m.length c2] w fun e w' => e = .returned (ansV (outP p (rawP p l m))) ∧ Below w.heap.size w w' := by
  have hok : ∀ x ∈ l, x.ok m.length = true := by
    rw [List.any_eq_false] at ho
    intro x hx
    have := ho x hx
    unfold Vu.none at this
    simpa using this
  have hc : p = 0 ∨ p = 1 ∨ p = 2 ∨ p = 3 ∨ p = 4 ∨ p = 6 ∨ p = 7 ∨ p = 8 ∨ p = 9 ∨ p = 10 ∨ p = 11 ∨ p = 12 := by
    unfold pureB at hp
    simp only [Bool.and_eq_true, decide_eq_true_eq] at hp
    omega
  rcases hc with rfl | rfl | rfl | rfl | rfl | rfl | rfl | rfl | rfl | rfl | rfl | rfl
  · obtain ⟨a, b, rfl⟩ : ∃ a b, l = [a, b] := two_of (by have e : ar 0 = 2 := rfl; omega)
    have oa := hok a (by simp)
    have ob := hok b (by simp)
    by_cases hk : a.k = 3
    · by_cases hk2 : b.k = 3
      · exact sPure0_yy a b m A A2 c c2 B w hin hl hB oa ob hk hk2
      · exact sPure0_yn a b m A A2 c c2 B w hin hl hB oa ob hk hk2
    · exact sPure0_nx a b m A A2 c c2 B w hin hl hB oa ob hk
  · obtain ⟨a, b, rfl⟩ : ∃ a b, l = [a, b] := two_of (by have e : ar 1 = 2 := rfl; omega)
    have oa := hok a (by simp)
    have ob := hok b (by simp)
    by_cases hk : a.k = 3
    · by_cases hk2 : b.k = 3
      · exact sPure1_yy a b m A A2 c c2 B w hin hl hB oa ob hk hk2
      · exact sPure1_yn a b m A A2 c c2 B w hin hl hB oa ob hk hk2
    · exact sPure1_nx a b m A A2 c c2 B w hin hl hB oa ob hk
  · obtain ⟨a, b, rfl⟩ : ∃ a b, l = [a, b] := two_of (by have e : ar 2 = 2 := rfl; omega)
    have oa := hok a (by simp)
    have ob := hok b (by simp)
    by_cases hk : a.k = 3
    · by_cases hk2 : b.k = 3
      · exact sPure2_yy a b m A A2 c c2 B w hin hl hB oa ob hk hk2
      · exact sPure2_yn a b m A A2 c c2 B w hin hl hB oa ob hk hk2
    · exact sPure2_nx a b m A A2 c c2 B w hin hl hB oa ob hk
  · obtain ⟨a, b, rfl⟩ : ∃ a b, l = [a, b] := two_of (by have e : ar 3 = 2 := rfl; omega)
    have oa := hok a (by simp)
    have ob := hok b (by simp)
    by_cases hk : a.k = 3
    · by_cases hk2 : b.k = 3
      · exact sPure3_yy a b m A A2 c c2 B w hin hl hB oa ob hk hk2
      · exact sPure3_yn a b m A A2 c c2 B w hin hl hB oa ob hk hk2
    · exact sPure3_nx a b m A A2 c c2 B w hin hl hB oa ob hk
  · obtain ⟨a, b, rfl⟩ : ∃ a b, l = [a, b] := two_of (by have e : ar 4 = 2 := rfl; omega)
    have oa := hok a (by simp)
    have ob := hok b (by simp)
    by_cases hk : a.k = 3
    · by_cases hk2 : b.k = 3
      · exact sPure4_yy a b m A A2 c c2 B w hin hl hB oa ob hk hk2
      · exact sPure4_yn a b m A A2 c c2 B w hin hl hB oa ob hk hk2
    · exact sPure4_nx a b m A A2 c c2 B w hin hl hB oa ob hk
  · obtain ⟨a, rfl⟩ : ∃ a, l = [a] := List.length_eq_one_iff.1 (by have e : ar 6 = 1 := rfl; omega)
    have oa := hok a (by simp)
    by_cases hk : a.k = 7
    · exact sPure6_y a m A A2 c c2 B w hin hl hB oa om hk
    · exact sPure6_n a m A A2 c c2 B w hin hl hB oa om hk
  · obtain ⟨a, rfl⟩ : ∃ a, l = [a] := List.length_eq_one_iff.1 (by have e : ar 7 = 1 := rfl; omega)
    have oa := hok a (by simp)
    by_cases hk : a.k = 7
    · exact sPure7_y a m A A2 c c2 B w hin hl hB oa om hk
    · exact sPure7_n a m A A2 c c2 B w hin hl hB oa om hk
  · obtain ⟨a, rfl⟩ : ∃ a, l = [a] := List.length_eq_one_iff.1 (by have e : ar 8 = 1 := rfl; omega)
    have oa := hok a (by simp)
    exact sPure8 a m A A2 c c2 B w hin hl hB oa
  · obtain ⟨a, rfl⟩ : ∃ a, l = [a] := List.length_eq_one_iff.1 (by have e : ar 9 = 1 := rfl; omega)
    have oa := hok a (by simp)
    exact sPure9 a m A A2 c c2 B w hin hl hB oa
  · obtain ⟨a, rfl⟩ : ∃ a, l = [a] := List.length_eq_one_iff.1 (by have e : ar 10 = 1 := rfl; omega)
    have oa := hok a (by simp)
    exact sPure10 a m A A2 c c2 B w hin hl hB oa
  · obtain ⟨a, b, rfl⟩ : ∃ a b, l = [a, b] := two_of (by have e : ar 11 = 2 := rfl; omega)
    have oa := hok a (by simp)
    have ob := hok b (by simp)
    exact sPure11 a b m A A2 c c2 B w hin hl hB oa ob
  · obtain ⟨a, rfl⟩ : ∃ a, l = [a] := List.length_eq_one_iff.1 (by have e : ar 12 = 1 := rfl; omega)
    have oa := hok a (by simp)
    exact sPure12 a m A A2 c c2 B w hin hl hB oa
set_option maxRecDepth 100000 in
set_option maxHeartbeats 4000000 in
theorem specApply_any (p : Int) (l : List Vu) (m : List Pq) (A A2 : Option Addr) (c c2 B : Nat) (w : World) (hin : Vu.E.LIn w B A c l) (hl : Pq.E.LIn w B A2 c2 m) (hB : B ≤ w.heap.size) :
    Calls Try.prog 6 #[.int .i64 p, .slice A l.length c, .slice A2 m.length c2] w fun e w' => e = .returned (ansV (ApR p l m)) ∧ Below w.heap.size w w' := by
  have hcap := hin.cap
  have hcap2 := hl.cap
  obtain ⟨V, hV⟩ : ∃ V, V = ApR p l m := ⟨_, rfl⟩
  rw [← hV]
  have HV : Hid (V = if pureB p = true ∧ Pq.okL m = true then (if (l.length : Int) = ar p then (if l.any (Vu.none m.length) = true then (.zero, notVal) else outP p (rawP p l m)) else (.zero, wrongAr)) else (.zero, notPure)) := hV
  clear hV
  obtain ⟨W1, hW1⟩ : ∃ W1, W1 = w.alloc (.cells #[.int .i64 0, .int .i64 0, .string ⟨#[]⟩] 27) := ⟨_, rfl⟩
  have B1 : Below w.heap.size w W1 := by rw [hW1]; exact (Below.refl _ _).alloc (Nat.le_refl _) _
  have z1 : w.heap.size < W1.heap.size := by rw [hW1]; simp
  have R0 : D.Blk W1 w.heap.size 27 #[.int .i64 0, .int .i64 0, .string ⟨#[]⟩] := by rw [hW1]; exact D.Blk.new _ _ _
  have HR : Hid (∀ u, Calls Try.prog 15 #[.int .i64 p] u fun e w' => e = .returned (.int .i64 (ar p)) ∧ Below u.heap.size u w') := fun u => specAr_any p u
  have HA : Hid (∀ u, Below w.heap.size w u → Calls Try.prog 16 #[.slice A2 m.length c2] u fun e w' => e = .returned (.bool (Pq.okL m)) ∧ Below u.heap.size u w') := fun u hu => specAp_any A2 c2 m B u (hl.below (hu.mono hB)) (Nat.le_trans hB hu.size)
  by_cases h0 : 0 ≤ p ∧ p ≤ 13
  case neg =>
    have HQ : Hid (V = (.zero, notPure)) := HV.out.trans (if_neg (by unfold pureB; rw [decide_eq_false h0]; exact fun h => Bool.noConfusion h.1))
    rw [ar_out h0] at HR
    clear h0 HV HA
    go_enter Try.func6, Try.ntmps6
    go_upto_region 1 with fail
    rw [← hW1]
    clear hW1
    go_wp2_with fail
    (with_reducible refine (HR.out W1).mono ?_)
    rintro e w1 ⟨rfl, hb1⟩
    have y1 := hb1.size
    have b1 : Below w.heap.size w w1 := B1.trans (hb1.mono (by omega))
    have T1 := R0.below hb1 z1
    have r0 : World.cell? w1 ⟨w.heap.size, 0, none⟩ = some (.int .i64 0) := T1.cell 0
    have r1 : World.cell? w1 ⟨w.heap.size, 1, none⟩ = some (.int .i64 0) := T1.cell 1
    have r2 : World.cell? w1 ⟨w.heap.size, 2, none⟩ = some (.string ⟨#[]⟩) := T1.cell 2
    have g0 := T1.frozen 0
    have g1 := T1.frozen 1
    have g2 := T1.frozen 2
    go_wp2_with fail
    refine bodyPost_ret (v := .tuple #[.agg #[.int .i64 0, .int .i64 0, .string ⟨#[]⟩], .string ⟨#[110, 111, 116, 32, 97, 32, 112, 117, 114, 101, 32, 112, 114, 105, 109, 105, 116, 105, 118, 101]⟩]) (by simp [results, Try.results6, go_sem, r0, r1, r2]) rfl ⟨by rw [HQ.out]; rfl, ?_⟩
    exact ((b1.setCell (by simp) _).setCell (by simp) _).setCell (by simp) _
  by_cases h5 : p = 5
  · subst h5
    have HQ : Hid (V = (.zero, notPure)) := HV.out.trans (if_neg (fun h => Bool.noConfusion h.1))
    have HR : Hid (∀ u, Calls Try.prog 15 #[.int .i64 5] u fun e w' => e = .returned (.int .i64 2) ∧ Below u.heap.size u w') := HR
    clear h0 HV HA
    go_enter Try.func6, Try.ntmps6
    go_upto_region 1 with fail
    rw [← hW1]
    clear hW1
    go_wp2_with fail
    (with_reducible refine (HR.out W1).mono ?_)
    rintro e w1 ⟨rfl, hb1⟩
    have y1 := hb1.size
    have b1 : Below w.heap.size w w1 := B1.trans (hb1.mono (by omega))
    have T1 := R0.below hb1 z1
    have r0 : World.cell? w1 ⟨w.heap.size, 0, none⟩ = some (.int .i64 0) := T1.cell 0
    have r1 : World.cell? w1 ⟨w.heap.size, 1, none⟩ = some (.int .i64 0) := T1.cell 1
    have r2 : World.cell? w1 ⟨w.heap.size, 2, none⟩ = some (.string ⟨#[]⟩) := T1.cell 2
    have g0 := T1.frozen 0
    have g1 := T1.frozen 1
    have g2 := T1.frozen 2
    go_wp2_with fail
    refine bodyPost_ret (v := .tuple #[.agg #[.int .i64 0, .int .i64 0, .string ⟨#[]⟩], .string ⟨#[110, 111, 116, 32, 97, 32, 112, 117, 114, 101, 32, 112, 114, 105, 109, 105, 116, 105, 118, 101]⟩]) (by simp [results, Try.results6, go_sem, r0, r1, r2]) rfl ⟨by rw [HQ.out]; rfl, ?_⟩
    exact ((b1.setCell (by simp) _).setCell (by simp) _).setCell (by simp) _
  by_cases h13 : p = 13
  · subst h13
    have HQ : Hid (V = (.zero, notPure)) := HV.out.trans (if_neg (fun h => Bool.noConfusion h.1))
    have HR : Hid (∀ u, Calls Try.prog 15 #[.int .i64 13] u fun e w' => e = .returned (.int .i64 1) ∧ Below u.heap.size u w') := HR
    clear h0 h5 HV HA
    go_enter Try.func6, Try.ntmps6
    go_upto_region 1 with fail
    rw [← hW1]
    clear hW1
    go_wp2_with fail
    (with_reducible refine (HR.out W1).mono ?_)
    rintro e w1 ⟨rfl, hb1⟩
    have y1 := hb1.size
    have b1 : Below w.heap.size w w1 := B1.trans (hb1.mono (by omega))
    have T1 := R0.below hb1 z1
    have r0 : World.cell? w1 ⟨w.heap.size, 0, none⟩ = some (.int .i64 0) := T1.cell 0
    have r1 : World.cell? w1 ⟨w.heap.size, 1, none⟩ = some (.int .i64 0) := T1.cell 1
    have r2 : World.cell? w1 ⟨w.heap.size, 2, none⟩ = some (.string ⟨#[]⟩) := T1.cell 2
    have g0 := T1.frozen 0
    have g1 := T1.frozen 1
    have g2 := T1.frozen 2
    go_wp2_with fail
    refine bodyPost_ret (v := .tuple #[.agg #[.int .i64 0, .int .i64 0, .string ⟨#[]⟩], .string ⟨#[110, 111, 116, 32, 97, 32, 112, 117, 114, 101, 32, 112, 114, 105, 109, 105, 116, 105, 118, 101]⟩]) (by simp [results, Try.results6, go_sem, r0, r1, r2]) rfl ⟨by rw [HQ.out]; rfl, ?_⟩
    exact ((b1.setCell (by simp) _).setCell (by simp) _).setCell (by simp) _
  have hp : pureB p = true := by unfold pureB; rw [decide_eq_true h0, decide_eq_true h5, decide_eq_true h13]; rfl
  have har : 1 ≤ ar p := by
    have hc : p = 0 ∨ p = 1 ∨ p = 2 ∨ p = 3 ∨ p = 4 ∨ p = 5 ∨ p = 6 ∨ p = 7 ∨ p = 8 ∨ p = 9 ∨ p = 10 ∨ p = 11 ∨ p = 12 ∨ p = 13 := by omega
    rcases hc with rfl | rfl | rfl | rfl | rfl | rfl | rfl | rfl | rfl | rfl | rfl | rfl | rfl | rfl <;> decide
  have ha0 : ¬ ar p < 0 := by omega
  have e5 : (p == 5) = false := by simpa using h5
  have e13 : (p == 13) = false := by simpa using h13
  have Hp := Lib.hid hp
  clear hp h0 h5 h13
  go_enter Try.func6, Try.ntmps6
  go_upto_region 1 with fail
  rw [← hW1]
  clear hW1
  go_wp2_with fail
  (with_reducible refine (HR.out W1).mono ?_)
  rintro e w1 ⟨rfl, hb1⟩
  have y1 := hb1.size
  have b1 : Below w.heap.size w w1 := B1.trans (hb1.mono (by omega))
  have T1 := R0.below hb1 z1
  go_wp2_with fail
  (with_reducible refine (HA.out w1 b1).mono ?_)
  rintro e w2 ⟨rfl, hb2⟩
  have y2 := hb2.size
  have b2 : Below w.heap.size w w2 := b1.trans (hb2.mono (by omega))
  have T2 := T1.below hb2 (by omega)
  clear HA T1
  cases ha : Pq.okL m
  · have HQ : Hid (V = (.zero, notPure)) := HV.out.trans (if_neg (by rw [ha]; exact fun h => Bool.noConfusion h.2))
    have r0 : World.cell? w2 ⟨w.heap.size, 0, none⟩ = some (.int .i64 0) := T2.cell 0; have r1 : World.cell? w2 ⟨w.heap.size, 1, none⟩ = some (.int .i64 0) := T2.cell 1; have r2 : World.cell? w2 ⟨w.heap.size, 2, none⟩ = some (.string ⟨#[]⟩) := T2.cell 2; have g0 := T2.frozen 0; have g1 := T2.frozen 1; have g2 := T2.frozen 2
    clear ha
    go_wp2_with fail
    refine bodyPost_ret (v := .tuple #[.agg #[.int .i64 0, .int .i64 0, .string ⟨#[]⟩], .string ⟨#[110, 111, 116, 32, 97, 32, 112, 117, 114, 101, 32, 112, 114, 105, 109, 105, 116, 105, 118, 101]⟩]) (by simp [results, Try.results6, go_sem, r0, r1, r2]) rfl ⟨by rw [HQ.out]; rfl, ?_⟩
    exact ((b2.setCell (by simp) _).setCell (by simp) _).setCell (by simp) _
  have HV2 : Hid (V = if (l.length : Int) = ar p then (if l.any (Vu.none m.length) = true then (.zero, notVal) else outP p (rawP p l m)) else (.zero, wrongAr)) := HV.out.trans (if_pos ⟨Hp.out, ha⟩)
  have Ha := Lib.hid ha
  clear HV ha
  go_wp2_with fail
  (with_reducible refine (HR.out w2).mono ?_)
  rintro e w3 ⟨rfl, hb3⟩
  have y3 := hb3.size
  have b3 : Below w.heap.size w w3 := b2.trans (hb3.mono (by omega))
  have T3 := T2.below hb3 (by omega)
  clear HR T2
  by_cases hn : (l.length : Int) = ar p
  case neg =>
    have HQ : Hid (V = (.zero, wrongAr)) := HV2.out.trans (if_neg hn)
    have r0 : World.cell? w3 ⟨w.heap.size, 0, none⟩ = some (.int .i64 0) := T3.cell 0; have r1 : World.cell? w3 ⟨w.heap.size, 1, none⟩ = some (.int .i64 0) := T3.cell 1; have r2 : World.cell? w3 ⟨w.heap.size, 2, none⟩ = some (.string ⟨#[]⟩) := T3.cell 2; have g0 := T3.frozen 0; have g1 := T3.frozen 1; have g2 := T3.frozen 2
    have en : ((l.length : Int) != ar p) = true := by simpa using hn
    clear hn
    go_wp2_with fail
    refine bodyPost_ret (v := .tuple #[.agg #[.int .i64 0, .int .i64 0, .string ⟨#[]⟩], .string ⟨#[119, 114, 111, 110, 103, 32, 110, 117, 109, 98, 101, 114, 32, 111, 102, 32, 97, 114, 103, 117, 109, 101, 110, 116, 115]⟩]) (by simp [results, Try.results6, go_sem, r0, r1, r2]) rfl ⟨by rw [HQ.out]; rfl, ?_⟩
    exact ((b3.setCell (by simp) _).setCell (by simp) _).setCell (by simp) _
  have HV3 : Hid (V = if l.any (Vu.none m.length) = true then (.zero, notVal) else outP p (rawP p l m)) := HV2.out.trans (if_pos hn)
  have Hn := Lib.hid hn
  have en : ((l.length : Int) != ar p) = false := by simp [hn]
  clear HV2 hn ha0 e5 e13 har
  go_wp2_with fail
  have lz : w.heap.size < w3.heap.size := by omega
  go_loopw [35] (fun i wr => ∃ j : Nat, j ≤ l.length ∧ i = .int .i64 j ∧ Hid (∀ x ∈ l.take j, Vu.none m.length x = false) ∧ Below w.heap.size w wr ∧ w3.heap.size ≤ wr.heap.size ∧ D.Blk wr w.heap.size 27 #[.int .i64 0, .int .i64 0, .string ⟨#[]⟩]) (fun i _ => l.length - (intOf i).toNat)
  case atStart => exact ⟨0, Nat.zero_le _, rfl, by simp [Hid], b3, Nat.le_refl _, T3⟩
  case round =>
    clear T3
    obtain ⟨j, hj, rfl, HN, hb, hsz, TR⟩ := hrel
    by_cases hlt : j < l.length
    · obtain ⟨bb, oo, rfl, hblk, c0, c1, c3, hix⟩ := Vu.at_ (hin.below (hb.mono hB)) (i := j) (x := l[j]) (List.getElem?_eq_getElem hlt)
      have hi1 : l[j].t.size ≤ 9223372036854775807 := (Vu.E_in hix).t
      have g1 : (0 : Int) ≤ (j : Int) := by omega
      have g2 : (j : Int) < (l.length : Int) := by omega
      obtain ⟨W2, hW2⟩ : ∃ W2, W2 = wr.alloc (.cells #[.int .i64 l[j].k, .int .i64 l[j].n, .string l[j].t] 27) := ⟨_, rfl⟩
      have bA : Below wr.heap.size wr W2 := by rw [hW2]; exact (Below.refl _ _).alloc (Nat.le_refl _) _
      have lw : wr.heap.size < W2.heap.size := by rw [hW2]; simp
      have X2 : Vu.Box W2 wr.heap.size l[j] := by rw [hW2]; exact Vu.Box.new _ _ _
      have hc1 : ∀ w, Calls Try.prog 17 #[.agg #[.int .i64 l[j].k, .int .i64 l[j].n, .string l[j].t], .int .i64 (m.length : Int)] w fun e w' => e = .returned (.bool (l[j].ok m.length)) ∧ Below w.heap.size w w' := fun w => l8Value_any l[j] m.length w hi1 ⟨by omega, by omega⟩
      have HC1 := Lib.hid hc1
      clear hc1 hix hi1
      go_upto_region 8 with fail
      rw [← hW2]
      clear hW2 c0 c1 c3
      obtain ⟨a0, a1, a2⟩ := X2
      go_wp2_with fail
      clear a0 a1 a2
      (with_reducible refine (HC1.out W2).mono ?_)
      rintro e w4 ⟨rfl, hb4⟩
      have hbx : Below wr.heap.size wr w4 := bA.trans (hb4.mono (by omega))
      have b4 : Below w.heap.size w w4 := hb.trans (hbx.mono (by omega))
      have T4 := TR.below hbx (by omega)
      have z4 := hbx.size
      cases hq : l[j].ok m.length
      · have HY : Hid (l.any (Vu.none m.length) = true) := vany_yes (p := Vu.none m.length) hlt (by unfold Vu.none; rw [hq]; rfl)
        have HQ : Hid (V = (.zero, notVal)) := HV3.out.trans (if_pos HY.out)
        have r0 : World.cell? w4 ⟨w.heap.size, 0, none⟩ = some (.int .i64 0) := T4.cell 0; have r1 : World.cell? w4 ⟨w.heap.size, 1, none⟩ = some (.int .i64 0) := T4.cell 1; have r2 : World.cell? w4 ⟨w.heap.size, 2, none⟩ = some (.string ⟨#[]⟩) := T4.cell 2; have g0 := T4.frozen 0; have g1 := T4.frozen 1; have g2 := T4.frozen 2
        clear hq
        go_wp2_with fail
        refine bodyPost_ret (v := .tuple #[.agg #[.int .i64 0, .int .i64 0, .string ⟨#[]⟩], .string ⟨#[110, 111, 116, 32, 97, 32, 118, 97, 108, 117, 101]⟩]) (by simp [results, Try.results6, go_sem, r0, r1, r2]) rfl ⟨by rw [HQ.out]; rfl, ?_⟩
        exact ((b4.setCell (by simp) _).setCell (by simp) _).setCell (by simp) _
      · have HN2 : Hid (∀ x ∈ l.take (j + 1), Vu.none m.length x = false) := none_succ hlt HN.out (by unfold Vu.none; rw [hq]; rfl)
        clear hq
        go_wp2_with fail
        exact ⟨⟨j + 1, by omega, by go_num, HN2, b4, by omega, T4⟩, by simp [intOf]; omega⟩
    · have hj' : j = l.length := by omega
      subst hj'
      have ho : l.any (Vu.none m.length) = false := vany_none (p := Vu.none m.length) (by have := HN.out; rwa [List.take_length] at this)
      have HQ : Hid (V = outP p (rawP p l m)) := HV3.out.trans (if_neg (by rw [ho]; exact Bool.noConfusion))
      have HJ : Hid (Calls Try.prog 18 #[.int .i64 p, .slice A l.length c, .slice A2 m.length c2] wr fun e w' => e = .returned (ansV (outP p (rawP p l m))) ∧ Below wr.heap.size wr w') := sPure_any p l m A A2 c c2 B wr (hin.below (hb.mono hB)) (hl.below (hb.mono hB)) (Nat.le_trans hB hb.size) Ha.out Hp.out Hn.out ho
      clear ho
      go_wp2_with fail
      (with_reducible refine HJ.out.mono ?_)
      rintro e w5 ⟨rfl, hb5⟩
      have b5 : Below w.heap.size w w5 := hb.trans (hb5.mono (by have := hb.size; omega))
      have T5 := TR.below hb5 (by omega)
      rw [← HQ.out]
      clear HJ HQ HV3
      unfold ansV
      have r0 : World.cell? w5 ⟨w.heap.size, 0, none⟩ = some (.int .i64 0) := T5.cell 0; have r1 : World.cell? w5 ⟨w.heap.size, 1, none⟩ = some (.int .i64 0) := T5.cell 1; have r2 : World.cell? w5 ⟨w.heap.size, 2, none⟩ = some (.string ⟨#[]⟩) := T5.cell 2; have g0 := T5.frozen 0; have g1 := T5.frozen 1; have g2 := T5.frozen 2
      go_wp2_with fail
      refine bodyPost_ret (v := .tuple #[.agg #[.int .i64 V.1.k, .int .i64 V.1.n, .string V.1.t], .string V.2]) (by simp [results, Try.results6, go_sem, r0, r1, r2]) rfl ⟨rfl, ?_⟩
      exact ((b5.setCell (by simp) _).setCell (by simp) _).setCell (by simp) _
end Go.Proofs.Ytnldlbglgalbaab
