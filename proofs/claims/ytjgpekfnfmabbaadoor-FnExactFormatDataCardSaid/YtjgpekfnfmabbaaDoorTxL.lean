/-
  FormatData, the model's and the program's, and its law, walked (written by gen/txl.py).
-/
import Derived.Test.YtjgpekfnfmabbaaDoorTxI
import Derived.Test.YtjgpekfnfmabbaaDoorAre
namespace Go.Proofs.YtjgpekfnfmabbaaDoor
open Go.RowKit

namespace D
/-- The lines of a list of data. -/
def lines (l : List D) : List UInt8 := (l.map fun d => txt d ++ [10]).flatten
theorem lines_step {l : List D} {j : Nat} (h : j < l.length) : lines (l.take (j + 1)) = lines (l.take j) ++ (txt l[j] ++ [10]) := by
  rw [List.take_succ_eq_append_getElem h]
  unfold lines
  rw [List.map_append, List.flatten_append]
  simp
theorem lines_len : ∀ l : List D, validL l = true → (lines l).length ≤ 40 * sizeL l
  | [], _ => by simp [lines]
  | d :: r, h => by
    simp only [validL, Bool.and_eq_true] at h
    have h1 := txt_len d h.1
    have h2 := lines_len r h.2
    have e : lines (d :: r) = (txt d ++ [10]) ++ lines r := by simp [lines]
    rw [e, List.length_append, List.length_append]
    simp only [sizeL, List.length_cons, List.length_nil]
    omega
theorem goodL_valid : ∀ l : List D, goodL l = true → validL l = true
  | [], _ => rfl
  | d :: r, h => by
    simp only [goodL, List.all_cons, Bool.and_eq_true] at h
    simp only [validL, h.1.2, goodL_valid r (by simpa [goodL] using h.2), Bool.and_self]
theorem validL_get {l : List D} (hv : validL l = true) {j : Nat} (h : j < l.length) : l[j].valid = true := by
  have e := validL_append (l.take j) (l.drop j)
  rw [List.take_append_drop, List.drop_eq_getElem_cons h] at e
  simp only [validL] at e
  rw [hv] at e
  have := e.symm
  simp only [Bool.and_eq_true] at this
  exact this.2.1
theorem lines_er {a b : List D} (h : erL a = erL b) : lines a = lines b := by
  have key : ∀ l : List D, lines l = lines (erL l) := by
    intro l
    induction l with
    | nil => rfl
    | cons d r ih =>
      have e : lines (d :: r) = (txt d ++ [10]) ++ lines r := by simp [lines]
      have e2 : lines (erL (d :: r)) = (txt (er d) ++ [10]) ++ lines (erL r) := by simp [lines, erL]
      rw [e, e2, ih, txt_er]
  rw [key a, h, ← key b]
/-- FormatData's answer. -/
def fmtD (l : List D) : ByteArray := if areD l then baL (lines l) else ⟨#[]⟩
theorem fmtD_er {a b : List D} (h : erL a = erL b) : fmtD a = fmtD b := by unfold fmtD; rw [areD_of_er h, lines_er h]
end D

set_option maxRecDepth 100000 in
set_option maxHeartbeats 2000000 in
theorem specFL_any (k n : Int) (t : ByteArray) (A : Option Addr) (c : Nat) (l : List D) (B : Nat) (w : World) (hin : (D.mk k n t A c l).In w B) (hB : B ≤ w.heap.size) (hs : D.sizeL l ≤ 2000000) :
    Calls Tryd.prog 13 #[.slice A l.length c] w fun e w' => e = .returned (.string (D.fmtD l)) ∧ Below w.heap.size w w' := by
  have hcap := hin.cap
  simp only [D.l, D.c, D.t] at hcap
  have hq := specAre_any k n t A c l B w hin hB hs
  cases hv : D.areD l
  · have HE : Hid (D.fmtD l = ⟨#[]⟩) := by show _ = _; unfold D.fmtD; rw [hv]; rfl
    rw [hv] at hq
    clear hv
    go_enter Tryd.func13, Tryd.ntmps13
    go_wp2_with fail
    refine hq.mono ?_
    rintro e w1 ⟨rfl, hb1⟩
    clear hq
    go_wp2_with fail
    go_ret
    exact ⟨by rw [HE.out]; rfl, hb1⟩
  · have HE : Hid (D.fmtD l = baL (D.lines l)) := by show _ = _; unfold D.fmtD; rw [hv]; rfl
    rw [hv] at hq
    have hv2 := hv
    unfold D.areD at hv2
    simp only [Bool.and_eq_true, decide_eq_true_eq] at hv2
    have hvl := D.goodL_valid l hv2.2
    have hsl := hv2.1
    have hlen := D.lines_len l hvl
    have HV : Hid (∀ j (h : j < l.length), l[j].valid = true) := fun j h => D.validL_get hvl h
    have HM : Hid (∀ j, j ≤ l.length → (D.lines (l.take j)).length ≤ 24000) := fun j hj => by
      have e : D.lines l = D.lines (l.take j) ++ D.lines (l.drop j) := by
        have h : D.lines (l.take j ++ l.drop j) = D.lines (l.take j) ++ D.lines (l.drop j) := by unfold D.lines; rw [List.map_append, List.flatten_append]
        rwa [List.take_append_drop] at h
      rw [e, List.length_append] at hlen
      omega
    clear hv hv2 hvl hlen
    go_enter Tryd.func13, Tryd.ntmps13
    go_wp2_with fail
    refine hq.mono ?_
    rintro e w1 ⟨rfl, hb1⟩
    have z1 := hb1.size
    clear hq
    go_wp2_with fail
    go_loopw [3, 5, 11] (fun q _ i wr => ∃ (j : Nat) (out : ByteArray), j ≤ l.length ∧ i = .int .i64 j ∧ q = .string out ∧ Hid (out.data.toList = D.lines (l.take j)) ∧ Below w.heap.size w wr) (fun _ _ i _ => l.length - (intOf i).toNat)
    case atStart => exact ⟨0, ⟨#[]⟩, Nat.zero_le _, rfl, rfl, by simp [Hid, D.lines], hb1⟩
    case round =>
      obtain ⟨j, out, hj, rfl, rfl, HO, hb⟩ := hrel
      have hs2 := hb.size
      have hos : out.size ≤ 24000 := by rw [ba_size, HO.out]; exact HM.out j hj
      by_cases hlt : j < l.length
      · obtain ⟨b, o, rfl, hblk, c0, c1, c2, c3, hix⟩ := (hin.below (hb.mono hB)).at_ (i := j) (x := l[j]) (List.getElem?_eq_getElem hlt)
        have hsz := D.sizeL_mem (l := l) (List.getElem_mem hlt)
        have HE2 : Hid (((out ++ baL (D.txt l[j])) ++ (⟨#[10]⟩ : ByteArray)).data.toList = D.lines (l.take (j + 1))) := by
          show _ = _
          rw [D.lines_step hlt, ← HO.out]
          simp only [ba_app, baL_list, List.append_assoc]
        have hxs : (baL (D.txt l[j])).size ≤ 24000 := by
          have h := HM.out (j + 1) (by omega)
          rw [D.lines_step hlt, List.length_append, List.length_append] at h
          rw [baL_size]; omega
        go_wp2_with fail
        refine (txS_any _ l[j] B _ (Nat.le_refl _) (HV.out j hlt) (by omega) (hix.alloc (by omega) _) (by simp; omega)).mono ?_
        rintro e w2 ⟨rfl, hb2⟩
        have hb2 : Below wr.heap.size wr w2 := ((Below.refl _ _).alloc (Nat.le_refl _) _).trans (hb2.mono (by simp))
        have hb3 := hb.trans (hb2.mono hs2)
        clear hb hb2
        go_wp2_with fail
        go_roundw
        case rel => exact ⟨j + 1, _, by omega, by go_num, rfl, HE2.out, hb3⟩
        case measure => simp [intOf]; omega
      · have hj' : j = l.length := by omega
        subst hj'
        have HF : Hid (out = baL (D.lines l)) := by
          have := HO.out
          rw [List.take_length] at this
          exact baL_of this
        go_wp2_with fail
        go_ret
        exact ⟨by rw [HE.out, ← HF.out]; rfl, hb⟩

set_option maxRecDepth 100000 in
set_option maxHeartbeats 2000000 in
theorem implFL_any (k n : Int) (t : ByteArray) (A : Option Addr) (c : Nat) (l : List D) (B : Nat) (w : World) (hin : (D.mk k n t A c l).In w B) (hB : B ≤ w.heap.size) (ht : Tab w) :
    Calls Tryd.prog 15 #[.slice A l.length c] w fun e w' => e = .returned (.string (D.fmtD l)) ∧ Below w.heap.size w w' := by
  have hcap := hin.cap
  simp only [D.l, D.c, D.t] at hcap
  have hq := implAre_any k n t A c l B w hin hB
  have HT := Lib.hid ht
  clear ht
  cases hv : D.areD l
  · have HE : Hid (D.fmtD l = ⟨#[]⟩) := by show _ = _; unfold D.fmtD; rw [hv]; rfl
    rw [hv] at hq
    clear hv
    go_enter Tryd.func15, Tryd.ntmps15
    go_wp2_with fail
    refine hq.mono ?_
    rintro e w1 ⟨rfl, hb1⟩
    clear hq
    go_wp2_with fail
    go_ret
    exact ⟨by rw [HE.out]; rfl, hb1⟩
  · have HE : Hid (D.fmtD l = baL (D.lines l)) := by show _ = _; unfold D.fmtD; rw [hv]; rfl
    rw [hv] at hq
    have hv2 := hv
    unfold D.areD at hv2
    simp only [Bool.and_eq_true, decide_eq_true_eq] at hv2
    have hvl := D.goodL_valid l hv2.2
    have hsl := hv2.1
    have hlen := D.lines_len l hvl
    have HV : Hid (∀ j (h : j < l.length), l[j].valid = true) := fun j h => D.validL_get hvl h
    have HM : Hid (∀ j, j ≤ l.length → (D.lines (l.take j)).length ≤ 24000) := fun j hj => by
      have e : D.lines l = D.lines (l.take j) ++ D.lines (l.drop j) := by
        have h : D.lines (l.take j ++ l.drop j) = D.lines (l.take j) ++ D.lines (l.drop j) := by unfold D.lines; rw [List.map_append, List.flatten_append]
        rwa [List.take_append_drop] at h
      rw [e, List.length_append] at hlen
      omega
    clear hv hv2 hvl hlen
    go_enter Tryd.func15, Tryd.ntmps15
    go_wp2_with fail
    refine hq.mono ?_
    rintro e w1 ⟨rfl, hb1⟩
    have z1 := hb1.size
    clear hq
    go_wp2_with fail
    go_loopw [3, 5, 11] (fun q _ i wr => ∃ (j : Nat) (out : ByteArray), j ≤ l.length ∧ i = .int .i64 j ∧ q = .string out ∧ Hid (out.data.toList = D.lines (l.take j)) ∧ Below w.heap.size w wr) (fun _ _ i _ => l.length - (intOf i).toNat)
    case atStart => exact ⟨0, ⟨#[]⟩, Nat.zero_le _, rfl, rfl, by simp [Hid, D.lines], hb1⟩
    case round =>
      obtain ⟨j, out, hj, rfl, rfl, HO, hb⟩ := hrel
      have hs2 := hb.size
      have hos : out.size ≤ 24000 := by rw [ba_size, HO.out]; exact HM.out j hj
      by_cases hlt : j < l.length
      · obtain ⟨b, o, rfl, hblk, c0, c1, c2, c3, hix⟩ := (hin.below (hb.mono hB)).at_ (i := j) (x := l[j]) (List.getElem?_eq_getElem hlt)
        have hsz := D.sizeL_mem (l := l) (List.getElem_mem hlt)
        have HE2 : Hid ((out ++ (baL (D.txt l[j]) ++ (⟨#[10]⟩ : ByteArray))).data.toList = D.lines (l.take (j + 1))) := by
          show _ = _
          rw [D.lines_step hlt, ← HO.out]
          simp only [ba_app, baL_list, List.append_assoc]
        have hxs : (baL (D.txt l[j])).size ≤ 24000 := by
          have h := HM.out (j + 1) (by omega)
          rw [D.lines_step hlt, List.length_append, List.length_append] at h
          rw [baL_size]; omega
        go_wp2_with fail
        refine (txI_any _ l[j] B _ (Nat.le_refl _) (HV.out j hlt) (by omega) (hix.alloc (by omega) _) (by simp; omega) (HT.out.below (hb.alloc (by omega) _) (by omega))).mono ?_
        rintro e w2 ⟨rfl, hb2⟩
        have hb2 : Below wr.heap.size wr w2 := ((Below.refl _ _).alloc (Nat.le_refl _) _).trans (hb2.mono (by simp))
        have hb3 := hb.trans (hb2.mono hs2)
        clear hb hb2
        go_wp2_with fail
        go_roundw
        case rel => exact ⟨j + 1, _, by omega, by go_num, rfl, HE2.out, hb3⟩
        case measure => simp [intOf]; omega
      · have hj' : j = l.length := by omega
        subst hj'
        have HF : Hid (out = baL (D.lines l)) := by
          have := HO.out
          rw [List.take_length] at this
          exact baL_of this
        go_wp2_with fail
        go_ret
        exact ⟨by rw [HE.out, ← HF.out]; rfl, hb⟩

set_option maxRecDepth 100000 in
set_option maxHeartbeats 1000000 in
theorem law_txl (A : Option Addr) (c : Nat) (l : List D) (w : World) (ha : (D.mk 0 0 ⟨#[]⟩ A c l).In w w.heap.size) (ht : Tab w) : Calls Tryd.prog 4 #[.slice A l.length c] w fun e w' => e = .returned (.bool true) ∧ Below w.heap.size w w' := by
  by_cases hsz : (D.bulkL l : Int) ≤ 1048576
  · have hs : D.sizeL l ≤ 2000000 := by have := D.bulkL_size l; omega
    go_enter Tryd.func4, Tryd.ntmps4
    go_wp2_with fail
    refine (szL_any 2000000 0 0 ⟨#[]⟩ A c l w.heap.size _ 1048576 hs (by omega) (by omega) ha (Nat.le_refl _)).mono ?_
    rintro e w1 ⟨rfl, b1⟩
    rw [szR_yes (by omega)]
    have n1 : ¬ (1048576 - (D.bulkL l : Int) < 0) := by omega
    have z1 := b1.size
    have i1 := ha.below b1
    go_wp2_with fail
    refine (toL_any 2000000 0 0 ⟨#[]⟩ A c l w.heap.size _ hs (by omega) i1 (by omega)).mono ?_
    rintro e w2 ⟨k1, n1, t1, A1, c1, l1, rfl, he1, ho1, hb2⟩
    have Q1 := Lib.hid he1
    have s1 : D.sizeL l1 ≤ 2000000 := by rw [D.sizeL_of_er he1]; exact hs
    have z2 := hb2.size
    have b2 := b1.trans (hb2.mono (by omega))
    have i2 := ha.below b2
    clear hb2 he1 b1 i1
    go_wp2_with fail
    refine (specFL_any k1 n1 t1 A1 c1 l1 w2.heap.size _ ho1.inn (Nat.le_refl _) s1).mono ?_
    rintro e w3 ⟨rfl, hb3⟩
    have z3 := hb3.size
    have b3 := b2.trans (hb3.mono (by omega))
    have i3 := ha.below b3
    clear hb3 b2 i2
    rw [D.fmtD_er Q1.out]
    go_wp2_with fail
    refine (toL_any 2000000 0 0 ⟨#[]⟩ A c l w.heap.size _ hs (by omega) i3 (by omega)).mono ?_
    rintro e w4 ⟨k2, n2, t2, A2, c2, l2, rfl, he2, ho2, hb4⟩
    have Q2 := Lib.hid he2
    have s2 : D.sizeL l2 ≤ 2000000 := by rw [D.sizeL_of_er he2]; exact hs
    have z4 := hb4.size
    have b4 := b3.trans (hb4.mono (by omega))
    clear hb4 he2 b3 i3
    go_wp2_with fail
    refine (implFL_any k2 n2 t2 A2 c2 l2 w4.heap.size _ ho2.inn (Nat.le_refl _) (Tab.below (B := w.heap.size) ht b4 (Nat.le_refl _))).mono ?_
    rintro e w5 ⟨rfl, hb5⟩
    rw [D.fmtD_er Q2.out]
    have hxx : ((D.fmtD l).toList != (D.fmtD l).toList) = false := by simp
    have z5 := hb5.size
    have b5 := b4.trans (hb5.mono (by omega))
    have i5 := ha.below b5
    have j5 := ho2.inn.below hb5
    clear hb5 b4
    go_wp2_with fail
    refine (toL_any 2000000 0 0 ⟨#[]⟩ A c l w.heap.size _ hs (by omega) i5 (by omega)).mono ?_
    rintro e w6 ⟨k3, n3, t3, A3, c3, l3, rfl, he3, ho3, hb6⟩
    have Q3 := Lib.hid he3
    have z6 := hb6.size
    have b6 := b5.trans (hb6.mono (by omega))
    have j6 := j5.below (hb6.mono (by omega))
    have E : D.eqL l2 l3 = true := by
      have h := D.eqB_of_er (d := .mk 0 0 ⟨#[]⟩ none 0 l2) (e := .mk 0 0 ⟨#[]⟩ none 0 l3) (by simp only [D.er]; rw [Q2.out, he3])
      simpa [D.eqB] using h
    clear hb6 he3 b5 i5 j5
    go_wp2_with fail
    refine (eqL_all 2000000 k2 n2 t2 A2 c2 l2 k3 n3 t3 A3 c3 l3 w6.heap.size _ s2 (j6.more (by omega)) ho3.inn (Nat.le_refl _)).mono ?_
    rintro e w7 ⟨rfl, hb7⟩
    rw [E]
    have b7 := b6.trans (hb7.mono (by omega))
    clear hb7 E b6
    go_wp2_with fail
    go_ret
    exact ⟨rfl, b7⟩
  · go_enter Tryd.func4, Tryd.ntmps4
    go_wp2_with fail
    refine (szL_any (D.sizeL l) 0 0 ⟨#[]⟩ A c l w.heap.size _ 1048576 (Nat.le_refl _) (by omega) (by omega) ha (Nat.le_refl _)).mono ?_
    rintro e w1 ⟨rfl, b1⟩
    rw [szR_no (by omega)]
    go_wp2_with fail
    go_ret
    exact ⟨rfl, b1⟩
end Go.Proofs.YtjgpekfnfmabbaaDoor
