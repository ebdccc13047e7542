/-
  Valid lists of data: the program's AreData and the model's.
-/
import Derived.Test.YtjgpekfnfmabbaaDoorIsD
namespace Go.Proofs.YtjgpekfnfmabbaaDoor
open Go.RowKit
namespace D
def goodL (l : List D) : Bool := l.all fun d => decide (d.depth ≤ 20) && d.valid
def areD (l : List D) : Bool := decide (sizeL l ≤ 600) && goodL l
theorem goodL_append (a b : List D) : goodL (a ++ b) = (goodL a && goodL b) := by simp [goodL]
theorem areD_of_er {a b : List D} (h : erL a = erL b) : areD a = areD b := by
  have key : ∀ l : List D, areD l = areD (erL l) := by
    intro l
    have h1 : goodL l = goodL (erL l) := by
      induction l with
      | nil => rfl
      | cons d r ih => simp only [goodL, erL, List.all_cons] at ih ⊢; rw [ih, depth_er, valid_er]
    unfold areD
    rw [sizeL_er, h1]
  rw [key a, h, ← key b]
theorem sizeL_of_er {a b : List D} (h : erL a = erL b) : sizeL a = sizeL b := by rw [← sizeL_er, h, sizeL_er]
end D

set_option maxRecDepth 100000 in
set_option maxHeartbeats 2000000 in
theorem implAre_any (k n : Int) (t : ByteArray) (A : Option Addr) (c : Nat) (l : List D) (B : Nat) (w : World) (hin : (D.mk k n t A c l).In w B) (hB : B ≤ w.heap.size) :
    Calls Tryd.prog 32 #[.slice A l.length c] w fun e w' => e = .returned (.bool (D.areD l)) ∧ Below w.heap.size w w' := by
  have hcap := hin.cap
  simp only [D.l, D.c, D.t] at hcap
  have K : Hid (D.areD l = (decide (D.sizeL l ≤ 600) && D.goodL l)) := rfl
  go_enter Tryd.func32, Tryd.ntmps32
  go_wp2_with fail
  go_loopw [3, 9] (fun lf i wr => ∃ j : Nat, j ≤ l.length ∧ i = .int .i64 j ∧ (D.sizeL (l.take j) : Int) ≤ 600 ∧ Hid (D.goodL (l.take j) = true) ∧ lf = .int .i64 (600 - D.sizeL (l.take j)) ∧ Below w.heap.size w wr) (fun _ i _ => l.length - (intOf i).toNat)
  case atStart => exact ⟨0, Nat.zero_le _, rfl, by simp [D.sizeL], by simp [Hid, D.goodL], by simp [D.sizeL], Below.refl _ _⟩
  case round =>
    obtain ⟨j, hj, rfl, hsl, HV, rfl, hbr⟩ := hrel
    have hs2 := hbr.size
    by_cases hlt : j < l.length
    · obtain ⟨b, o, rfl, hblk, c0, c1, c2, c3, hix⟩ := (hin.below (hbr.mono hB)).at_ (i := j) (x := l[j]) (List.getElem?_eq_getElem hlt)
      have hsz1 := D.sizeL_append (l.take j) (l.drop j)
      rw [List.take_append_drop, List.drop_eq_getElem_cons hlt] at hsz1
      simp only [D.sizeL] at hsz1
      have hsz2 : D.sizeL (l.take j) + l[j].size ≤ D.sizeL l := by omega
      have hv1 := D.goodL_append (l.take j) (l.drop j)
      rw [List.take_append_drop, List.drop_eq_getElem_cons hlt] at hv1
      have Hv1 : Hid (D.goodL l = (D.goodL (l.take j) && ((decide (l[j].depth ≤ 20) && l[j].valid) && D.goodL (l.drop (j + 1))))) := hv1
      have HS : Hid (D.sizeL (l.take (j + 1)) = D.sizeL (l.take j) + l[j].size) := by
        rw [List.take_succ_eq_append_getElem hlt, D.sizeL_append]; simp [D.sizeL, Hid]
      have HW : Hid (D.goodL (l.take (j + 1)) = (D.goodL (l.take j) && (decide (l[j].depth ≤ 20) && l[j].valid))) := by
        rw [List.take_succ_eq_append_getElem hlt, D.goodL_append]; simp [D.goodL, Hid]
      clear hsz1 hv1
      go_wp2_with fail
      refine (nodesLeft_any l[j].size l[j] B _ _ 20 (Nat.le_refl _) (by omega) (by omega) (by omega) (by omega) (hix.alloc (by omega) _) (by simp; omega)).mono ?_
      rintro e w2 ⟨rfl, hb2⟩
      have hb3 : Below w.heap.size w w2 := (hbr.alloc (by omega) _).trans (hb2.mono (by simp; omega))
      clear hb2
      by_cases hok : NlOk l[j] (600 - D.sizeL (l.take j)) 20
      · obtain ⟨y1, y2⟩ := nl_yes hok
        rw [y1, y2]
        obtain ⟨z1, z2, z3⟩ := hok
        have Z : Hid ((decide (l[j].depth ≤ 20) && l[j].valid) = true) := by
          show _ = _
          rw [z3, decide_eq_true (by omega)]; rfl
        clear y1 y2 z3
        go_wp2_with fail
        go_roundw
        case rel => exact ⟨j + 1, by omega, by go_num, by rw [HS.out]; omega, by (show _ = _); rw [HW.out, HV.out, Z.out]; rfl, by rw [HS.out]; congr 1; omega, hb3⟩
        case measure => simp [intOf]; omega
      · obtain ⟨y1, y2⟩ := nl_no hok
        rw [y1, y2]
        have HN : Hid (D.areD l = false) := by
          show _ = _
          cases ha : D.areD l with
          | false => rfl
          | true =>
            exfalso
            rw [K.out, Hv1.out] at ha
            simp only [Bool.and_eq_true, decide_eq_true_eq] at ha
            exact hok ⟨by omega, by omega, ha.2.2.1.2⟩
        clear y1 y2 hok
        go_wp2_with fail
        go_ret
        exact ⟨ret_bool HN.out.symm, hb3⟩
    · go_wp2_with fail
      go_ret
      have e1 : l.take j = l := List.take_of_length_le (by omega)
      have hv := HV.out
      rw [e1] at hsl hv
      exact ⟨ret_bool (by rw [K.out, hv, decide_eq_true (by omega)]; rfl), hbr⟩

set_option maxRecDepth 100000 in
set_option maxHeartbeats 2000000 in
theorem specAre_any (k n : Int) (t : ByteArray) (A : Option Addr) (c : Nat) (l : List D) (B : Nat) (w : World) (hin : (D.mk k n t A c l).In w B) (hB : B ≤ w.heap.size) (hs : D.sizeL l ≤ 2000000) :
    Calls Tryd.prog 31 #[.slice A l.length c] w fun e w' => e = .returned (.bool (D.areD l)) ∧ Below w.heap.size w w' := by
  have hcap := hin.cap
  simp only [D.l, D.c, D.t] at hcap
  have K : Hid (D.areD l = (decide (D.sizeL l ≤ 600) && D.goodL l)) := rfl
  go_enter Tryd.func31, Tryd.ntmps31
  go_wp2_with fail
  go_loopw [3, 8] (fun lf i wr => ∃ j : Nat, j ≤ l.length ∧ i = .int .i64 j ∧ Hid (D.goodL (l.take j) = true) ∧ lf = .int .i64 (D.sizeL (l.take j) : Int) ∧ Below w.heap.size w wr) (fun _ i _ => l.length - (intOf i).toNat)
  case atStart => exact ⟨0, Nat.zero_le _, rfl, by simp [Hid, D.goodL], by simp [D.sizeL], Below.refl _ _⟩
  case round =>
    obtain ⟨j, hj, rfl, HV, rfl, hbr⟩ := hrel
    have hs2 := hbr.size
    by_cases hlt : j < l.length
    · obtain ⟨b, o, rfl, hblk, c0, c1, c2, c3, hix⟩ := (hin.below (hbr.mono hB)).at_ (i := j) (x := l[j]) (List.getElem?_eq_getElem hlt)
      have hsz1 := D.sizeL_append (l.take j) (l.drop j)
      rw [List.take_append_drop, List.drop_eq_getElem_cons hlt] at hsz1
      simp only [D.sizeL] at hsz1
      have hsz2 : D.sizeL (l.take j) + l[j].size ≤ D.sizeL l := by omega
      have hv1 := D.goodL_append (l.take j) (l.drop j)
      rw [List.take_append_drop, List.drop_eq_getElem_cons hlt] at hv1
      have Hv1 : Hid (D.goodL l = (D.goodL (l.take j) && ((decide (l[j].depth ≤ 20) && l[j].valid) && D.goodL (l.drop (j + 1))))) := hv1
      have HS : Hid (D.sizeL (l.take (j + 1)) = D.sizeL (l.take j) + l[j].size) := by
        rw [List.take_succ_eq_append_getElem hlt, D.sizeL_append]; simp [D.sizeL, Hid]
      have HW : Hid (D.goodL (l.take (j + 1)) = (D.goodL (l.take j) && (decide (l[j].depth ≤ 20) && l[j].valid))) := by
        rw [List.take_succ_eq_append_getElem hlt, D.goodL_append]; simp [D.goodL, Hid]
      have HI : Hid (l[j].isD = (decide (l[j].size ≤ 600) && (decide (l[j].depth ≤ 20) && l[j].valid))) := rfl
      have x0 := D.Box.new wr l[j] 29
      clear hsz1 hv1
      go_wp2_with fail
      refine (specIsD_any l[j] B _ (hix.alloc (by omega) _) (by simp; omega) (by omega)).mono ?_
      rintro e w2 ⟨rfl, hb2⟩
      simp only [World.size_alloc] at hb2
      have hz2 := hb2.size
      simp only [World.size_alloc] at hz2
      obtain ⟨g0, g1, g2, g3⟩ := D.Box.below (B := wr.heap.size + 1) x0 hb2 (by omega)
      have hb3 : Below w.heap.size w w2 := (hbr.alloc (by omega) _).trans (hb2.mono (by omega))
      have hb4 : Below wr.heap.size wr w2 := ((Below.refl _ _).alloc (Nat.le_refl _) _).trans (hb2.mono (by omega))
      have hix2 := hix.below (hb4.mono (by omega))
      clear hb2 hb4 x0
      cases hq : l[j].isD
      · have Hq := Lib.hid hq
        have HN : Hid (D.areD l = false) := by
          show _ = _
          cases ha : D.areD l with
          | false => rfl
          | true =>
            exfalso
            rw [K.out, Hv1.out] at ha
            simp only [Bool.and_eq_true, decide_eq_true_eq] at ha
            have h1 := Hq.out
            rw [HI.out] at h1
            simp [ha.2.2.1.2, ha.2.2.1.1] at h1
            omega
        go_wp2_with fail
        go_ret
        exact ⟨ret_bool HN.out.symm, hb3⟩
      · have Z : Hid ((decide (l[j].depth ≤ 20) && l[j].valid) = true) := by
          show _ = _
          rw [HI.out] at hq
          simp only [Bool.and_eq_true] at hq ⊢
          exact hq.2
        have Hq := Lib.hid hq
        go_wp2_with fail
        refine (specCount_any l[j].size l[j] B _ (Nat.le_refl _) (by omega) hix2 (by omega)).mono ?_
        rintro e w3 ⟨rfl, hb5⟩
        have hb6 := hb3.trans (hb5.mono (by omega))
        clear hb5
        go_wp2_with fail
        go_roundw
        case rel => exact ⟨j + 1, by omega, by go_num, by (show _ = _); rw [HW.out, HV.out, Z.out]; rfl, by rw [HS.out]; first | rfl | (congr 1; omega), hb6⟩
        case measure => simp [intOf]; omega
    · have e1 : l.take j = l := List.take_of_length_le (by omega)
      have hv := HV.out
      rw [e1] at hv ⊢
      have Hv := Lib.hid hv
      clear e1 hv
      go_wp2_with fail
      go_ret
      exact ⟨ret_bool (by rw [K.out, Hv.out]; simp; omega), hbr⟩
end Go.Proofs.YtjgpekfnfmabbaaDoor
