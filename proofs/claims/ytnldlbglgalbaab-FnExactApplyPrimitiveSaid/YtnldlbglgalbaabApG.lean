/-
  The program's ApplyPrimitive (written by gen/app7.py).
-/
import Derived.Test.YtnldlbglgalbaabApF
namespace Go.Proofs.Ytnldlbglgalbaab
open Go.RowKit
def notPure : ByteArray := ⟨#[110, 111, 116, 32, 97, 32, 112, 117, 114, 101, 32, 112, 114, 105, 109, 105, 116, 105, 118, 101]⟩
def wrongAr : ByteArray := ⟨#[119, 114, 111, 110, 103, 32, 110, 117, 109, 98, 101, 114, 32, 111, 102, 32, 97, 114, 103, 117, 109, 101, 110, 116, 115]⟩
def notVal : ByteArray := ⟨#[110, 111, 116, 32, 97, 32, 118, 97, 108, 117, 101]⟩
theorem two_of {α : Type} {l : List α} (h : l.length = 2) : ∃ a b, l = [a, b] := by
  match l, h with
  | [a, b], _ => exact ⟨a, b, rfl⟩
def ApR (p : Int) (l : List Vu) (m : List Pq) : Vu × ByteArray :=
  if pureB p = true ∧ Pq.okL m = true then (if (l.length : Int) = ar p then (if l.any (Vu.none m.length) = true then (.zero, notVal) else outP p (rawP p l m)) else (.zero, wrongAr)) else (.zero, notPure)
set_option maxRecDepth 100000 in
set_option maxHeartbeats 4000000 in
theorem iPure_any (p : Int) (l : List Vu) (m : List Pq) (A A2 : Option Addr) (c c2 B : Nat) (w : World) (hin : Vu.E.LIn w B A c l) (hl : Pq.E.LIn w B A2 c2 m) (hB : B ≤ w.heap.size) (hp : pureB p = true) (hn : (l.length : Int) = ar p) (ho : l.any (Vu.none m.length) = false) :
    Calls Try.prog 27 #[.int .i64 p, .slice A l.length c, .slice A2 m.length c2] w fun e w' => e = .returned (ansV (outP p (rawP p l m))) ∧ Below w.heap.size w w' := by
  have hok : ∀ x ∈ l, x.ok m.length = true := by
    rw [List.any_eq_false] at ho
    intro x hx
    have := ho x hx
    unfold Vu.none at this
    simpa using this
  have hc : p = 0 ∨ p = 1 ∨ p = 2 ∨ p = 3 ∨ p = 4 ∨ p = 6 ∨ p = 7 ∨ p = 8 ∨ p = 9 ∨ p = 10 ∨ p = 11 ∨ p = 12 := by
    unfold pureB at hp
    simp only [Bool.and_eq_true, decide_eq_true_eq] at hp
    omega
  rcases hc with rfl | rfl | rfl | rfl | rfl | rfl | rfl | rfl | rfl | rfl | rfl | rfl
  · obtain ⟨a, b, rfl⟩ : ∃ a b, l = [a, b] := two_of (by have e : ar 0 = 2 := rfl; omega)
    exact iPure0 a b m A A2 c c2 B w hin hl hB (hok a (by simp)) (hok b (by simp))
  · obtain ⟨a, b, rfl⟩ : ∃ a b, l = [a, b] := two_of (by have e : ar 1 = 2 := rfl; omega)
    exact iPure1 a b m A A2 c c2 B w hin hl hB (hok a (by simp)) (hok b (by simp))
  · obtain ⟨a, b, rfl⟩ : ∃ a b, l = [a, b] := two_of (by have e : ar 2 = 2 := rfl; omega)
    exact iPure2 a b m A A2 c c2 B w hin hl hB (hok a (by simp)) (hok b (by simp))
  · obtain ⟨a, b, rfl⟩ : ∃ a b, l = [a, b] := two_of (by have e : ar 3 = 2 := rfl; omega)
    exact iPure3 a b m A A2 c c2 B w hin hl hB (hok a (by simp)) (hok b (by simp))
  · obtain ⟨a, b, rfl⟩ : ∃ a b, l = [a, b] := two_of (by have e : ar 4 = 2 := rfl; omega)
    exact iPure4 a b m A A2 c c2 B w hin hl hB (hok a (by simp)) (hok b (by simp))
  · obtain ⟨a, rfl⟩ : ∃ a, l = [a] := List.length_eq_one_iff.1 (by have e : ar 6 = 1 := rfl; omega)
    exact iPure6 a m A A2 c c2 B w hin hl hB (hok a (by simp))
  · obtain ⟨a, rfl⟩ : ∃ a, l = [a] := List.length_eq_one_iff.1 (by have e : ar 7 = 1 := rfl; omega)
    exact iPure7 a m A A2 c c2 B w hin hl hB (hok a (by simp))
  · obtain ⟨a, rfl⟩ : ∃ a, l = [a] := List.length_eq_one_iff.1 (by have e : ar 8 = 1 := rfl; omega)
    exact iPure8 a m A A2 c c2 B w hin hl hB (hok a (by simp))
  · obtain ⟨a, rfl⟩ : ∃ a, l = [a] := List.length_eq_one_iff.1 (by have e : ar 9 = 1 := rfl; omega)
    exact iPure9 a m A A2 c c2 B w hin hl hB (hok a (by simp))
  · obtain ⟨a, rfl⟩ : ∃ a, l = [a] := List.length_eq_one_iff.1 (by have e : ar 10 = 1 := rfl; omega)
    exact iPure10 a m A A2 c c2 B w hin hl hB (hok a (by simp))
  · obtain ⟨a, b, rfl⟩ : ∃ a b, l = [a, b] := two_of (by have e : ar 11 = 2 := rfl; omega)
    exact iPure11 a b m A A2 c c2 B w hin hl hB (hok a (by simp)) (hok b (by simp))
  · obtain ⟨a, rfl⟩ : ∃ a, l = [a] := List.length_eq_one_iff.1 (by have e : ar 12 = 1 := rfl; omega)
    exact iPure12 a m A A2 c c2 B w hin hl hB (hok a (by simp))
set_option maxRecDepth 100000 in
set_option maxHeartbeats 4000000 in
theorem implApply_any (p : Int) (l : List Vu) (m : List Pq) (A A2 : Option Addr) (c c2 B : Nat) (w : World) (hin : Vu.E.LIn w B A c l) (hl : Pq.E.LIn w B A2 c2 m) (hB : B ≤ w.heap.size) (hbk : ∀ x ∈ l, x.t.size ≤ 9223372036854775807) :
    Calls Try.prog 9 #[.int .i64 p, .slice A l.length c, .slice A2 m.length c2] w fun e w' => e = .returned (ansV (ApR p l m)) ∧ Below w.heap.size w w' := by
  have hcap := hin.cap
  have hcap2 := hl.cap
  obtain ⟨V, hV⟩ : ∃ V, V = ApR p l m := ⟨_, rfl⟩
  rw [← hV]
  have HV : Hid (V = if pureB p = true ∧ Pq.okL m = true then (if (l.length : Int) = ar p then (if l.any (Vu.none m.length) = true then (.zero, notVal) else outP p (rawP p l m)) else (.zero, wrongAr)) else (.zero, notPure)) := hV
  clear hV
  obtain ⟨W0, hW0⟩ : ∃ W0, W0 = w.alloc (.cells #[.slice A2 m.length c2] 32) := ⟨_, rfl⟩
  obtain ⟨W1, hW1⟩ : ∃ W1, W1 = W0.alloc (.cells #[.int .i64 0, .int .i64 0, .string ⟨#[]⟩] 27) := ⟨_, rfl⟩
  have z0 : W0.heap.size = w.heap.size + 1 := by rw [hW0]; simp
  have z1 : W1.heap.size = w.heap.size + 2 := by rw [hW1]; simp [z0]
  have B0 : Below w.heap.size w W0 := by rw [hW0]; exact (Below.refl _ _).alloc (Nat.le_refl _) _
  have B1 : Below w.heap.size w W1 := by rw [hW1]; exact B0.alloc (by omega) _
  have C0 : D.Blk W0 w.heap.size 32 #[.slice A2 m.length c2] := by rw [hW0]; exact D.Blk.new _ _ _
  have C1 : D.Blk W1 w.heap.size 32 #[.slice A2 m.length c2] := by rw [hW1]; exact C0.below ((Below.refl _ _).alloc (Nat.le_refl _) _) (by omega)
  have R1 : D.Blk W1 (w.heap.size + 1) 27 #[.int .i64 0, .int .i64 0, .string ⟨#[]⟩] := by rw [hW1, ← z0]; exact D.Blk.new _ _ _
  have HP : Hid (∀ u, Calls Try.prog 23 #[.int .i64 p] u fun e w' => e = .returned (.bool (pureB p)) ∧ Below u.heap.size u w') := fun u => isPure_any p u
  have HA : Hid (∀ u, Below w.heap.size w u → Calls Try.prog 24 #[.slice A2 m.length c2] u fun e w' => e = .returned (.bool (Pq.okL m)) ∧ Below u.heap.size u w') := fun u hu => implAp_any A2 c2 m B u (hl.below (hu.mono hB)) (Nat.le_trans hB hu.size)
  have HR : Hid (∀ u, Calls Try.prog 25 #[.int .i64 p] u fun e w' => e = .returned (.int .i64 (ar p)) ∧ Below u.heap.size u w') := fun u => implAr_any p u
  have HC : Hid (∀ u, Below w.heap.size w u → w.heap.size < u.heap.size → u.cell? ⟨w.heap.size, 0, none⟩ = some (.slice A2 m.length c2) → Calls Try.prog 26 #[.slice A l.length c, .func (.func 21) #[] #[.pointer (some ⟨w.heap.size, 0, none⟩)]] u fun e w' => e = .returned (.bool (l.any (Vu.none m.length))) ∧ Below u.heap.size u w') := fun u hu hz hc => conNone_any A c l A2 m.length c2 w.heap.size B u (hin.below (hu.mono hB)) (Nat.le_trans hB hu.size) hz hbk hc
  have HI : Hid (∀ u, Below w.heap.size w u → pureB p = true → (l.length : Int) = ar p → l.any (Vu.none m.length) = false → Calls Try.prog 27 #[.int .i64 p, .slice A l.length c, .slice A2 m.length c2] u fun e w' => e = .returned (ansV (outP p (rawP p l m))) ∧ Below u.heap.size u w') := fun u hu h1 h2 h3 => iPure_any p l m A A2 c c2 B u (hin.below (hu.mono hB)) (hl.below (hu.mono hB)) (Nat.le_trans hB hu.size) h1 h2 h3
  clear hin hl hbk
  go_enter Try.func9, Try.ntmps9
  go_upto_region 1 with fail
  rw [← hW0, ← hW1]
  clear hW0 hW1 C0
  go_wp2_with fail
  (with_reducible refine (HP.out W1).mono ?_)
  rintro e w1 ⟨rfl, hb1⟩
  have y1 := hb1.size
  have b1 : Below w.heap.size w w1 := B1.trans (hb1.mono (by omega))
  have S1 := C1.below hb1 (by omega)
  have T1 := R1.below hb1 (by omega)
  clear HP C1 R1
  cases hp : pureB p
  · have HQ : Hid (V = (.zero, notPure)) := HV.out.trans (if_neg (by rw [hp]; exact fun h => Bool.noConfusion h.1))
    have r0 : World.cell? w1 ⟨w.heap.size + 1, 0, none⟩ = some (.int .i64 0) := T1.cell 0; have r1 : World.cell? w1 ⟨w.heap.size + 1, 1, none⟩ = some (.int .i64 0) := T1.cell 1; have r2 : World.cell? w1 ⟨w.heap.size + 1, 2, none⟩ = some (.string ⟨#[]⟩) := T1.cell 2; have g0 := T1.frozen 0; have g1 := T1.frozen 1; have g2 := T1.frozen 2
    clear hp
    go_wp2_with fail
    refine bodyPost_ret (v := .tuple #[.agg #[.int .i64 0, .int .i64 0, .string ⟨#[]⟩], .string ⟨#[110, 111, 116, 32, 97, 32, 112, 117, 114, 101, 32, 112, 114, 105, 109, 105, 116, 105, 118, 101]⟩]) (by simp [results, Try.results9, go_sem, r0, r1, r2]) rfl ⟨by rw [HQ.out]; rfl, ?_⟩
    exact ((b1.setCell (by simp) _).setCell (by simp) _).setCell (by simp) _
  have s1 : w1.cell? ⟨w.heap.size, 0, none⟩ = some (.slice A2 m.length c2) := S1.cell 0
  go_wp2_with fail
  (with_reducible refine (HA.out w1 b1).mono ?_)
  rintro e w2 ⟨rfl, hb2⟩
  have y2 := hb2.size
  have b2 : Below w.heap.size w w2 := b1.trans (hb2.mono (by omega))
  have S2 := S1.below hb2 (by omega)
  have T2 := T1.below hb2 (by omega)
  clear HA S1 T1 s1
  cases ha : Pq.okL m
  · have HQ : Hid (V = (.zero, notPure)) := HV.out.trans (if_neg (by rw [ha]; exact fun h => Bool.noConfusion h.2))
    have r0 : World.cell? w2 ⟨w.heap.size + 1, 0, none⟩ = some (.int .i64 0) := T2.cell 0; have r1 : World.cell? w2 ⟨w.heap.size + 1, 1, none⟩ = some (.int .i64 0) := T2.cell 1; have r2 : World.cell? w2 ⟨w.heap.size + 1, 2, none⟩ = some (.string ⟨#[]⟩) := T2.cell 2; have g0 := T2.frozen 0; have g1 := T2.frozen 1; have g2 := T2.frozen 2
    clear hp ha
    go_wp2_with fail
    refine bodyPost_ret (v := .tuple #[.agg #[.int .i64 0, .int .i64 0, .string ⟨#[]⟩], .string ⟨#[110, 111, 116, 32, 97, 32, 112, 117, 114, 101, 32, 112, 114, 105, 109, 105, 116, 105, 118, 101]⟩]) (by simp [results, Try.results9, go_sem, r0, r1, r2]) rfl ⟨by rw [HQ.out]; rfl, ?_⟩
    exact ((b2.setCell (by simp) _).setCell (by simp) _).setCell (by simp) _
  have HV2 : Hid (V = if (l.length : Int) = ar p then (if l.any (Vu.none m.length) = true then (.zero, notVal) else outP p (rawP p l m)) else (.zero, wrongAr)) := HV.out.trans (if_pos ⟨hp, ha⟩)
  have Hp := Lib.hid hp
  clear HV hp ha
  go_wp2_with fail
  (with_reducible refine (HR.out w2).mono ?_)
  rintro e w3 ⟨rfl, hb3⟩
  have y3 := hb3.size
  have b3 : Below w.heap.size w w3 := b2.trans (hb3.mono (by omega))
  have S3 := S2.below hb3 (by omega)
  have T3 := T2.below hb3 (by omega)
  clear HR S2 T2
  by_cases hn : (l.length : Int) = ar p
  · have HV3 : Hid (V = if l.any (Vu.none m.length) = true then (.zero, notVal) else outP p (rawP p l m)) := HV2.out.trans (if_pos hn)
    have Hn := Lib.hid hn
    have en : ((l.length : Int) != ar p) = false := by simp [hn]
    clear HV2 hn
    have s3 : w3.cell? ⟨w.heap.size, 0, none⟩ = some (.slice A2 m.length c2) := S3.cell 0
    go_wp2_with fail
    (with_reducible refine (HC.out w3 b3 (by omega) s3).mono ?_)
    rintro e w4 ⟨rfl, hb4⟩
    have y4 := hb4.size
    have b4 : Below w.heap.size w w4 := b3.trans (hb4.mono (by omega))
    have S4 := S3.below hb4 (by omega)
    have T4 := T3.below hb4 (by omega)
    clear HC S3 T3 s3
    cases ho : l.any (Vu.none m.length)
    · have HQ : Hid (V = outP p (rawP p l m)) := HV3.out.trans (if_neg (by rw [ho]; exact Bool.noConfusion))
      have s4 : w4.cell? ⟨w.heap.size, 0, none⟩ = some (.slice A2 m.length c2) := S4.cell 0
      have HJ : Hid (Calls Try.prog 27 #[.int .i64 p, .slice A l.length c, .slice A2 m.length c2] w4 fun e w' => e = .returned (ansV (outP p (rawP p l m))) ∧ Below w4.heap.size w4 w') := HI.out w4 b4 Hp.out Hn.out ho
      clear HI ho en
      go_wp2_with fail
      (with_reducible refine HJ.out.mono ?_)
      rintro e w5 ⟨rfl, hb5⟩
      have y5 := hb5.size
      have b5 : Below w.heap.size w w5 := b4.trans (hb5.mono (by omega))
      have T5 := T4.below hb5 (by omega)
      rw [← HQ.out]
      clear HJ HQ HV3 S4 T4 s4
      unfold ansV
      have r0 : World.cell? w5 ⟨w.heap.size + 1, 0, none⟩ = some (.int .i64 0) := T5.cell 0; have r1 : World.cell? w5 ⟨w.heap.size + 1, 1, none⟩ = some (.int .i64 0) := T5.cell 1; have r2 : World.cell? w5 ⟨w.heap.size + 1, 2, none⟩ = some (.string ⟨#[]⟩) := T5.cell 2; have g0 := T5.frozen 0; have g1 := T5.frozen 1; have g2 := T5.frozen 2
      go_wp2_with fail
      refine bodyPost_ret (v := .tuple #[.agg #[.int .i64 V.1.k, .int .i64 V.1.n, .string V.1.t], .string V.2]) (by simp [results, Try.results9, go_sem, r0, r1, r2]) rfl ⟨rfl, ?_⟩
      exact ((b5.setCell (by simp) _).setCell (by simp) _).setCell (by simp) _
    · have HQ : Hid (V = (.zero, notVal)) := HV3.out.trans (if_pos ho)
      have r0 : World.cell? w4 ⟨w.heap.size + 1, 0, none⟩ = some (.int .i64 0) := T4.cell 0; have r1 : World.cell? w4 ⟨w.heap.size + 1, 1, none⟩ = some (.int .i64 0) := T4.cell 1; have r2 : World.cell? w4 ⟨w.heap.size + 1, 2, none⟩ = some (.string ⟨#[]⟩) := T4.cell 2; have g0 := T4.frozen 0; have g1 := T4.frozen 1; have g2 := T4.frozen 2
      clear ho en
      go_wp2_with fail
      refine bodyPost_ret (v := .tuple #[.agg #[.int .i64 0, .int .i64 0, .string ⟨#[]⟩], .string ⟨#[110, 111, 116, 32, 97, 32, 118, 97, 108, 117, 101]⟩]) (by simp [results, Try.results9, go_sem, r0, r1, r2]) rfl ⟨by rw [HQ.out]; rfl, ?_⟩
      exact ((b4.setCell (by simp) _).setCell (by simp) _).setCell (by simp) _
  · have HQ : Hid (V = (.zero, wrongAr)) := HV2.out.trans (if_neg hn)
    have r0 : World.cell? w3 ⟨w.heap.size + 1, 0, none⟩ = some (.int .i64 0) := T3.cell 0; have r1 : World.cell? w3 ⟨w.heap.size + 1, 1, none⟩ = some (.int .i64 0) := T3.cell 1; have r2 : World.cell? w3 ⟨w.heap.size + 1, 2, none⟩ = some (.string ⟨#[]⟩) := T3.cell 2; have g0 := T3.frozen 0; have g1 := T3.frozen 1; have g2 := T3.frozen 2
    have en : ((l.length : Int) != ar p) = true := by simpa using hn
    clear hn
    go_wp2_with fail
    refine bodyPost_ret (v := .tuple #[.agg #[.int .i64 0, .int .i64 0, .string ⟨#[]⟩], .string ⟨#[119, 114, 111, 110, 103, 32, 110, 117, 109, 98, 101, 114, 32, 111, 102, 32, 97, 114, 103, 117, 109, 101, 110, 116, 115]⟩]) (by simp [results, Try.results9, go_sem, r0, r1, r2]) rfl ⟨by rw [HQ.out]; rfl, ?_⟩
    exact ((b3.setCell (by simp) _).setCell (by simp) _).setCell (by simp) _
end Go.Proofs.Ytnldlbglgalbaab
