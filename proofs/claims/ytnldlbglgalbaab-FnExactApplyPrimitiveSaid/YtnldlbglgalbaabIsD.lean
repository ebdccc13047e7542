/-
  Valid data: the program's nodesLeft and IsDatum, the model's l1Few, l1Nodes and IsDatum.
-/
import Derived.Test.YtnldlbglgalbaabNode
import Derived.Test.YtnldlbglgalbaabCount
import Derived.Test.YtnldlbglgalbaabBase
namespace Go.Proofs.Ytnldlbglgalbaab
open Go.RowKit
namespace D
mutual
/-- All nodes are valid. -/
def valid : D → Bool | .mk k n t _ _ l => nodeOk k n t l.length && validL l
def validL : List D → Bool | [] => true | d :: r => valid d && validL r
end
theorem validL_append (a b : List D) : validL (a ++ b) = (validL a && validL b) := by
  induction a with
  | nil => simp [validL]
  | cons d r ih => simp [validL, ih, Bool.and_assoc]
theorem valid_er (d : D) : valid (er d) = valid d := by
  induction d using ind with
  | h d ih =>
    cases d with
    | mk k n t A c l =>
      have key : ∀ (a : List D), (∀ x ∈ a, x ∈ l) → validL (erL a) = validL a := by
        intro a
        induction a with
        | nil => intro _; rfl
        | cons x r ih2 =>
          intro hs
          simp only [validL, erL, ih x (hs x (by simp)), ih2 fun y hy => hs y (by simp [hy])]
      simp only [er, valid, key l (fun _ h => h), erL_length]
/-- A valid datum. -/
def isD (d : D) : Bool := decide (d.size ≤ 600) && (decide (d.depth ≤ 20) && valid d)
theorem isD_of_er {d e : D} (h : er d = er e) : isD d = isD e := by
  unfold isD
  rw [size_of_er h, depth_of_er h, ← valid_er d, h, valid_er]
theorem depthL_le_size (l : List D) : depthL l ≤ sizeL l := by
  induction l with
  | nil => simp [depthL]
  | cons x r ih => have := depth_le_size x; simp only [depthL, sizeL]; omega
end D

def NlOk (d : D) (L P : Int) : Prop := (d.size : Int) ≤ L ∧ (d.depth : Int) ≤ P ∧ d.valid = true
instance (d : D) (L P : Int) : Decidable (NlOk d L P) := by unfold NlOk; infer_instance
def nlInt (d : D) (L P : Int) : Int := if NlOk d L P then L - d.size else 0
def nlB (d : D) (L P : Int) : Bool := decide (NlOk d L P)
theorem nl_yes {d : D} {L P : Int} (h : NlOk d L P) : nlInt d L P = L - d.size ∧ nlB d L P = true := ⟨if_pos h, decide_eq_true h⟩
theorem nl_no {d : D} {L P : Int} (h : ¬ NlOk d L P) : nlInt d L P = 0 ∧ nlB d L P = false := ⟨if_neg h, decide_eq_false h⟩
theorem ret_nl {a b : Int} {x y : Bool} (h : a = b) (h2 : x = y) : Ending.returned (.tuple #[.int .i64 a, .bool x]) = .returned (.tuple #[.int .i64 b, .bool y]) := by rw [h, h2]

set_option maxRecDepth 100000 in
set_option maxHeartbeats 2000000 in
theorem nodesLeft_any : ∀ (m : Nat) (d : D) (B : Nat) (w : World) (L P : Int), d.size ≤ m → 0 ≤ L → L ≤ 1000000 → 0 ≤ P → P ≤ 1000000 → d.In w B → B ≤ w.heap.size →
    Calls Try.prog 47 #[d.val, .int .i64 L, .int .i64 P] w fun e w' => e = .returned (.tuple #[.int .i64 (nlInt d L P), .bool (nlB d L P)]) ∧ Below w.heap.size w w' := by
  intro m
  induction m with
  | zero => intro d B w L P h; have := d.size_pos; omega
  | succ m ih =>
  intro d B w L P hm hL0 hL1 hP0 hP1 hin hB
  obtain ⟨k, n, t, A, c, l⟩ := d
  have hcap := hin.cap
  simp only [D.l, D.c, D.t] at hcap
  simp only [D.val, D.k, D.n, D.t, D.A, D.l, D.c]
  have hmm : D.sizeL l ≤ m := by simp only [D.size] at hm; omega
  have hsz : (D.mk k n t A c l).size = 1 + D.sizeL l := rfl
  have hdp : (D.mk k n t A c l).depth = D.depthL l + 1 := rfl
  have Hsz := Lib.hid hsz
  have Hdp := Lib.hid hdp
  clear hsz hdp hm
  by_cases hL : L = 0
  · have hL' : (L == 0) = true := by simp [hL]
    have HN := Lib.hid (nl_no (d := .mk k n t A c l) (L := L) (P := P) (fun h => by have := h.1; rw [Hsz.out] at this; omega))
    clear hL
    go_enter Try.func47, Try.ntmps47
    go_wp2_with fail
    go_ret2
    exact ⟨ret_nl HN.out.1.symm HN.out.2.symm, (Below.refl _ _).alloc (Nat.le_refl _) _⟩
  have hL' : (L == 0) = false := by simpa using hL
  by_cases hP : P = 0
  · have hP' : (P == 0) = true := by simp [hP]
    have HN := Lib.hid (nl_no (d := .mk k n t A c l) (L := L) (P := P) (fun h => by have := h.2.1; rw [Hdp.out] at this; omega))
    clear hP hL
    go_enter Try.func47, Try.ntmps47
    go_wp2_with fail
    go_ret2
    exact ⟨ret_nl HN.out.1.symm HN.out.2.symm, (Below.refl _ _).alloc (Nat.le_refl _) _⟩
  have hP' : (P == 0) = false := by simpa using hP
  cases hk : nodeOk k n t l.length
  · have HN := Lib.hid (nl_no (d := .mk k n t A c l) (L := L) (P := P) (fun h => by have := h.2.2; simp [D.valid, hk] at this))
    have Hk := Lib.hid hk
    clear hk
    go_enter Try.func47, Try.ntmps47
    go_wp2_with fail
    refine (implNode_any k n t A l c _ hcap.2.2).mono ?_
    rintro e w1 ⟨rfl, hb1⟩
    rw [Hk.out]
    have hb : Below w.heap.size w w1 := ((Below.refl _ _).alloc (Nat.le_refl _) _).trans (hb1.mono (by simp))
    clear hb1
    go_wp2_with fail
    go_ret2
    exact ⟨ret_nl HN.out.1.symm HN.out.2.symm, hb⟩
  · have Hk := Lib.hid hk
    clear hk hL hP
    have hL2 : 1 ≤ L := by simp at hL'; omega
    have hP2 : 1 ≤ P := by simp at hP'; omega
    go_enter Try.func47, Try.ntmps47
    go_wp2_with fail
    refine (implNode_any k n t A l c _ hcap.2.2).mono ?_
    rintro e w1 ⟨rfl, hb1⟩
    rw [Hk.out]
    obtain ⟨g0, g1, g2, g3⟩ := D.Box.below (D.Box.new w (.mk k n t A c l) 63) hb1 (by simp)
    simp only [D.k, D.n, D.t, D.A, D.l, D.c] at g0 g1 g2 g3
    have hb : Below w.heap.size w w1 := ((Below.refl _ _).alloc (Nat.le_refl _) _).trans (hb1.mono (by simp))
    clear hb1
    go_wp2_with fail
    go_loopw [1, 27] (fun lf i wr => ∃ j : Nat, j ≤ l.length ∧ i = .int .i64 j ∧ (1 : Int) + D.sizeL (l.take j) ≤ L ∧ (D.depthL (l.take j) : Int) ≤ P - 1 ∧ Hid (D.validL (l.take j) = true) ∧ lf = .int .i64 (L - 1 - D.sizeL (l.take j)) ∧ Below w.heap.size w wr) (fun _ i _ => l.length - (intOf i).toNat)
    case atStart => exact ⟨0, Nat.zero_le _, rfl, by simp [D.sizeL]; omega, by simp [D.depthL]; omega, by simp [Hid, D.validL], by simp [D.sizeL], hb⟩
    case round =>
      obtain ⟨j, hj, rfl, hsl, hdl, HV, rfl, hbr⟩ := hrel
      have hs2 := hbr.size
      by_cases hlt : j < l.length
      · obtain ⟨b, o, rfl, hblk, c0, c1, c2, c3, hix⟩ := (hin.below (hbr.mono hB)).at_ (i := j) (x := l[j]) (List.getElem?_eq_getElem hlt)
        have hsz1 := D.sizeL_append (l.take j) (l.drop j)
        rw [List.take_append_drop, List.drop_eq_getElem_cons hlt] at hsz1
        simp only [D.sizeL] at hsz1
        have hsz2 : D.sizeL (l.take j) + l[j].size ≤ D.sizeL l := by omega
        have hdp1 := D.depthL_append (l.take j) (l.drop j)
        rw [List.take_append_drop, List.drop_eq_getElem_cons hlt] at hdp1
        simp only [D.depthL] at hdp1
        have hdp2 : l[j].depth ≤ D.depthL l := by omega
        have hv1 := D.validL_append (l.take j) (l.drop j)
        rw [List.take_append_drop, List.drop_eq_getElem_cons hlt] at hv1
        simp only [D.validL] at hv1
        have Hv1 := Lib.hid hv1
        have HS : Hid (D.sizeL (l.take (j + 1)) = D.sizeL (l.take j) + l[j].size) := by
          rw [List.take_succ_eq_append_getElem hlt, D.sizeL_append]; simp [D.sizeL, Hid]
        have HD : Hid (D.depthL (l.take (j + 1)) = max (D.depthL (l.take j)) l[j].depth) := by
          rw [List.take_succ_eq_append_getElem hlt, D.depthL_append]; simp [D.depthL, Hid]
        have HW : Hid (D.validL (l.take (j + 1)) = (D.validL (l.take j) && l[j].valid)) := by
          rw [List.take_succ_eq_append_getElem hlt, D.validL_append]; simp [D.validL, Hid]
        clear hsz1 hdp1 hv1
        go_wp2_with fail
        refine (ih l[j] B _ _ _ (by omega) (by omega) (by omega) (by omega) (by omega) (hix.alloc (by omega) _) (by simp; omega)).mono ?_
        rintro e w2 ⟨rfl, hb2⟩
        have hb3 : Below w.heap.size w w2 := (hbr.alloc (by omega) _).trans (hb2.mono (by simp; omega))
        clear hb2
        by_cases hok : NlOk l[j] (L - 1 - D.sizeL (l.take j)) (P - 1)
        · obtain ⟨y1, y2⟩ := nl_yes hok
          rw [y1, y2]
          obtain ⟨z1, z2, z3⟩ := hok
          have Z3 := Lib.hid z3
          clear y1 y2 z3
          go_wp2_with fail
          go_roundw
          case rel => exact ⟨j + 1, by omega, by go_num, by rw [HS.out]; omega, by rw [HD.out]; omega, by (show _ = _); rw [HW.out, HV.out, Z3.out]; rfl, by rw [HS.out]; congr 1; omega, hb3⟩
          case measure => simp [intOf]; omega
        · obtain ⟨y1, y2⟩ := nl_no hok
          rw [y1, y2]
          have HN : Hid (nlInt (.mk k n t (some ⟨b, o, none⟩) c l) L P = 0 ∧ nlB (.mk k n t (some ⟨b, o, none⟩) c l) L P = false) := nl_no (fun h => by
            obtain ⟨q1, q2, q3⟩ := h
            rw [Hsz.out] at q1
            rw [Hdp.out] at q2
            refine hok ⟨by omega, by omega, ?_⟩
            simp only [D.valid, Hv1.out, Bool.and_eq_true] at q3
            exact q3.2.2.1)
          clear y1 y2 hok
          go_wp2_with fail
          go_ret2
          exact ⟨ret_nl HN.out.1.symm HN.out.2.symm, hb3⟩
      · go_wp2_with fail
        go_ret2
        have hj' : j = l.length := by omega
        have e1 : l.take j = l := List.take_of_length_le (by omega)
        have hv := HV.out
        rw [e1] at hsl hdl hv
        have hok : NlOk (.mk k n t A c l) L P := ⟨by rw [Hsz.out]; omega, by rw [Hdp.out]; omega, by simp [D.valid, Hk.out, hv]⟩
        exact ⟨ret_nl (by rw [(nl_yes hok).1, Hsz.out, e1]; omega) (nl_yes hok).2.symm, hbr⟩

theorem nlB_isD (d : D) : nlB d 600 20 = d.isD := by
  have h1 : ((d.size : Int) ≤ 600) ↔ d.size ≤ 600 := by omega
  have h2 : ((d.depth : Int) ≤ 20) ↔ d.depth ≤ 20 := by omega
  rw [Bool.eq_iff_iff]
  simp [nlB, NlOk, D.isD, h1, h2]

theorem implIsD_any (d : D) (B : Nat) (w : World) (hin : d.In w B) (hB : B ≤ w.heap.size) : Calls Try.prog 37 #[d.val] w fun e w' => e = .returned (.bool d.isD) ∧ Below w.heap.size w w' := by
  unfold D.val
  go_enter Try.func37, Try.ntmps37
  go_wp2_with fail
  refine (nodesLeft_any d.size d B _ 600 20 (Nat.le_refl _) (by omega) (by omega) (by omega) (by omega) (hin.alloc hB _) (by simp; omega)).mono ?_
  rintro e w1 ⟨rfl, hb1⟩
  rw [nlB_isD]
  go_wp2_with fail
  go_ret
  exact ⟨rfl, ((Below.refl _ _).alloc (Nat.le_refl _) _).trans (hb1.mono (by simp))⟩

/-- What is left behind the model's count. -/
def fewR (d : Nat) (L : Int) : Int := if (d : Int) ≤ L then L - d else -1
theorem few_yes {d : Nat} {L : Int} (h : (d : Int) ≤ L) : fewR d L = L - d := if_pos h
theorem few_no {d : Nat} {L : Int} (h : ¬ (d : Int) ≤ L) : fewR d L = -1 := if_neg h
/-- The counter at block g: its one cell holds this number; nothing else below has turned. -/
structure Cnt (B g : Nat) (w w' : World) (v : Int) : Prop where
  cell : w'.cell? ⟨g, 0, none⟩ = some (.int .i64 v)
  fr : w'.frozen? ⟨g, 0, none⟩ = false
  chg : Chg [g] w w'

end Go.Proofs.Ytnldlbglgalbaab
