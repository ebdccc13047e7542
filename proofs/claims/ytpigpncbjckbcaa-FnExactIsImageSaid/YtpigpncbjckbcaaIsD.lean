/-
  Valid data: the program's nodesLeft and IsDatum, the model's l1Few, l1Nodes and IsDatum.
-/
import Derived.Test.YtpigpncbjckbcaaNode
import Derived.Test.YtpigpncbjckbcaaCount
import Derived.Test.YtpigpncbjckbcaaBase
namespace Go.Proofs.Ytpigpncbjckbcaa
open Go.RowKit
namespace D
mutual
/-- All nodes are valid. -/
def valid : D → Bool | .mk k n t _ _ l => nodeOk k n t l.length && validL l
def validL : List D → Bool | [] => true | d :: r => valid d && validL r
end
theorem validL_append (a b : List D) : validL (a ++ b) = (validL a && validL b) := by
  induction a with
  | nil => simp [validL]
  | cons d r ih => simp [validL, ih, Bool.and_assoc]
theorem valid_er (d : D) : valid (er d) = valid d := by
  induction d using ind with
  | h d ih =>
    cases d with
    | mk k n t A c l =>
      have key : ∀ (a : List D), (∀ x ∈ a, x ∈ l) → validL (erL a) = validL a := by
        intro a
        induction a with
        | nil => intro _; rfl
        | cons x r ih2 =>
          intro hs
          simp only [validL, erL, ih x (hs x (by simp)), ih2 fun y hy => hs y (by simp [hy])]
      simp only [er, valid, key l (fun _ h => h), erL_length]
/-- A valid datum. -/
def isD (d : D) : Bool := decide (d.size ≤ 600) && (decide (d.depth ≤ 20) && valid d)
theorem isD_of_er {d e : D} (h : er d = er e) : isD d = isD e := by
  unfold isD
  rw [size_of_er h, depth_of_er h, ← valid_er d, h, valid_er]
theorem depthL_le_size (l : List D) : depthL l ≤ sizeL l := by
  induction l with
  | nil => simp [depthL]
  | cons x r ih => have := depth_le_size x; simp only [depthL, sizeL]; omega
end D

def NlOk (d : D) (L P : Int) : Prop := (d.size : Int) ≤ L ∧ (d.depth : Int) ≤ P ∧ d.valid = true
instance (d : D) (L P : Int) : Decidable (NlOk d L P) := by unfold NlOk; infer_instance
def nlInt (d : D) (L P : Int) : Int := if NlOk d L P then L - d.size else 0
def nlB (d : D) (L P : Int) : Bool := decide (NlOk d L P)
theorem nl_yes {d : D} {L P : Int} (h : NlOk d L P) : nlInt d L P = L - d.size ∧ nlB d L P = true := ⟨if_pos h, decide_eq_true h⟩
theorem nl_no {d : D} {L P : Int} (h : ¬ NlOk d L P) : nlInt d L P = 0 ∧ nlB d L P = false := ⟨if_neg h, decide_eq_false h⟩
theorem ret_nl {a b : Int} {x y : Bool} (h : a = b) (h2 : x = y) : Ending.returned (.tuple #[.int .i64 a, .bool x]) = .returned (.tuple #[.int .i64 b, .bool y]) := by rw [h, h2]

set_option maxRecDepth 100000 in
set_option maxHeartbeats 2000000 in
theorem nodesLeft_any : ∀ (m : Nat) (d : D) (B : Nat) (w : World) (L P : Int), d.size ≤ m → 0 ≤ L → L ≤ 1000000 → 0 ≤ P → P ≤ 1000000 → d.In w B → B ≤ w.heap.size →
    Calls Try.prog 90 #[d.val, .int .i64 L, .int .i64 P] w fun e w' => e = .returned (.tuple #[.int .i64 (nlInt d L P), .bool (nlB d L P)]) ∧ Below w.heap.size w w' := by
  intro m
  induction m with
  | zero => intro d B w L P h; have := d.size_pos; omega
  | succ m ih =>
  intro d B w L P hm hL0 hL1 hP0 hP1 hin hB
  obtain ⟨k, n, t, A, c, l⟩ := d
  have hcap := hin.cap
  simp only [D.l, D.c, D.t] at hcap
  simp only [D.val, D.k, D.n, D.t, D.A, D.l, D.c]
  have hmm : D.sizeL l ≤ m := by simp only [D.size] at hm; omega
  have hsz : (D.mk k n t A c l).size = 1 + D.sizeL l := rfl
  have hdp : (D.mk k n t A c l).depth = D.depthL l + 1 := rfl
  have Hsz := Lib.hid hsz
  have Hdp := Lib.hid hdp
  clear hsz hdp hm
  by_cases hL : L = 0
  · have hL' : (L == 0) = true := by simp [hL]
    have HN := Lib.hid (nl_no (d := .mk k n t A c l) (L := L) (P := P) (fun h => by have := h.1; rw [Hsz.out] at this; omega))
    clear hL
    go_enter Try.func90, Try.ntmps90
    go_wp2_with fail
    go_ret2
    exact ⟨ret_nl HN.out.1.symm HN.out.2.symm, (Below.refl _ _).alloc (Nat.le_refl _) _⟩
  have hL' : (L == 0) = false := by simpa using hL
  by_cases hP : P = 0
  · have hP' : (P == 0) = true := by simp [hP]
    have HN := Lib.hid (nl_no (d := .mk k n t A c l) (L := L) (P := P) (fun h => by have := h.2.1; rw [Hdp.out] at this; omega))
    clear hP hL
    go_enter Try.func90, Try.ntmps90
    go_wp2_with fail
    go_ret2
    exact ⟨ret_nl HN.out.1.symm HN.out.2.symm, (Below.refl _ _).alloc (Nat.le_refl _) _⟩
  have hP' : (P == 0) = false := by simpa using hP
  cases hk : nodeOk k n t l.length
  · have HN := Lib.hid (nl_no (d := .mk k n t A c l) (L := L) (P := P) (fun h => by have := h.2.2; simp [D.valid, hk] at this))
    have Hk := Lib.hid hk
    clear hk
    go_enter Try.func90, Try.ntmps90
    go_wp2_with fail
    refine (implNode_any k n t A l c _ hcap.2.2).mono ?_
    rintro e w1 ⟨rfl, hb1⟩
    rw [Hk.out]
    have hb : Below w.heap.size w w1 := ((Below.refl _ _).alloc (Nat.le_refl _) _).trans (hb1.mono (by simp))
    clear hb1
    go_wp2_with fail
    go_ret2
    exact ⟨ret_nl HN.out.1.symm HN.out.2.symm, hb⟩
  · have Hk := Lib.hid hk
    clear hk hL hP
    have hL2 : 1 ≤ L := by simp at hL'; omega
    have hP2 : 1 ≤ P := by simp at hP'; omega
    go_enter Try.func90, Try.ntmps90
    go_wp2_with fail
    refine (implNode_any k n t A l c _ hcap.2.2).mono ?_
    rintro e w1 ⟨rfl, hb1⟩
    rw [Hk.out]
    obtain ⟨g0, g1, g2, g3⟩ := D.Box.below (D.Box.new w (.mk k n t A c l) 51) hb1 (by simp)
    simp only [D.k, D.n, D.t, D.A, D.l, D.c] at g0 g1 g2 g3
    have hb : Below w.heap.size w w1 := ((Below.refl _ _).alloc (Nat.le_refl _) _).trans (hb1.mono (by simp))
    clear hb1
    go_wp2_with fail
    go_loopw [1, 27] (fun lf i wr => ∃ j : Nat, j ≤ l.length ∧ i = .int .i64 j ∧ (1 : Int) + D.sizeL (l.take j) ≤ L ∧ (D.depthL (l.take j) : Int) ≤ P - 1 ∧ Hid (D.validL (l.take j) = true) ∧ lf = .int .i64 (L - 1 - D.sizeL (l.take j)) ∧ Below w.heap.size w wr) (fun _ i _ => l.length - (intOf i).toNat)
    case atStart => exact ⟨0, Nat.zero_le _, rfl, by simp [D.sizeL]; omega, by simp [D.depthL]; omega, by simp [Hid, D.validL], by simp [D.sizeL], hb⟩
    case round =>
      obtain ⟨j, hj, rfl, hsl, hdl, HV, rfl, hbr⟩ := hrel
      have hs2 := hbr.size
      by_cases hlt : j < l.length
      · obtain ⟨b, o, rfl, hblk, c0, c1, c2, c3, hix⟩ := (hin.below (hbr.mono hB)).at_ (i := j) (x := l[j]) (List.getElem?_eq_getElem hlt)
        have hsz1 := D.sizeL_append (l.take j) (l.drop j)
        rw [List.take_append_drop, List.drop_eq_getElem_cons hlt] at hsz1
        simp only [D.sizeL] at hsz1
        have hsz2 : D.sizeL (l.take j) + l[j].size ≤ D.sizeL l := by omega
        have hdp1 := D.depthL_append (l.take j) (l.drop j)
        rw [List.take_append_drop, List.drop_eq_getElem_cons hlt] at hdp1
        simp only [D.depthL] at hdp1
        have hdp2 : l[j].depth ≤ D.depthL l := by omega
        have hv1 := D.validL_append (l.take j) (l.drop j)
        rw [List.take_append_drop, List.drop_eq_getElem_cons hlt] at hv1
        simp only [D.validL] at hv1
        have Hv1 := Lib.hid hv1
        have HS : Hid (D.sizeL (l.take (j + 1)) = D.sizeL (l.take j) + l[j].size) := by
          rw [List.take_succ_eq_append_getElem hlt, D.sizeL_append]; simp [D.sizeL, Hid]
        have HD : Hid (D.depthL (l.take (j + 1)) = max (D.depthL (l.take j)) l[j].depth) := by
          rw [List.take_succ_eq_append_getElem hlt, D.depthL_append]; simp [D.depthL, Hid]
        have HW : Hid (D.validL (l.take (j + 1)) = (D.validL (l.take j) && l[j].valid)) := by
          rw [List.take_succ_eq_append_getElem hlt, D.validL_append]; simp [D.validL, Hid]
        clear hsz1 hdp1 hv1
        go_wp2_with fail
        refine (ih l[j] B _ _ _ (by omega) (by omega) (by omega) (by omega) (by omega) (hix.alloc (by omega) _) (by simp; omega)).mono ?_
        rintro e w2 ⟨rfl, hb2⟩
        have hb3 : Below w.heap.size w w2 := (hbr.alloc (by omega) _).trans (hb2.mono (by simp; omega))
        clear hb2
        by_cases hok : NlOk l[j] (L - 1 - D.sizeL (l.take j)) (P - 1)
        · obtain ⟨y1, y2⟩ := nl_yes hok
          rw [y1, y2]
          obtain ⟨z1, z2, z3⟩ := hok
          have Z3 := Lib.hid z3
          clear y1 y2 z3
          go_wp2_with fail
          go_roundw
          case rel => exact ⟨j + 1, by omega, by go_num, by rw [HS.out]; omega, by rw [HD.out]; omega, by (show _ = _); rw [HW.out, HV.out, Z3.out]; rfl, by rw [HS.out]; congr 1; omega, hb3⟩
          case measure => simp [intOf]; omega
        · obtain ⟨y1, y2⟩ := nl_no hok
          rw [y1, y2]
          have HN : Hid (nlInt (.mk k n t (some ⟨b, o, none⟩) c l) L P = 0 ∧ nlB (.mk k n t (some ⟨b, o, none⟩) c l) L P = false) := nl_no (fun h => by
            obtain ⟨q1, q2, q3⟩ := h
            rw [Hsz.out] at q1
            rw [Hdp.out] at q2
            refine hok ⟨by omega, by omega, ?_⟩
            simp only [D.valid, Hv1.out, Bool.and_eq_true] at q3
            exact q3.2.2.1)
          clear y1 y2 hok
          go_wp2_with fail
          go_ret2
          exact ⟨ret_nl HN.out.1.symm HN.out.2.symm, hb3⟩
      · go_wp2_with fail
        go_ret2
        have hj' : j = l.length := by omega
        have e1 : l.take j = l := List.take_of_length_le (by omega)
        have hv := HV.out
        rw [e1] at hsl hdl hv
        have hok : NlOk (.mk k n t A c l) L P := ⟨by rw [Hsz.out]; omega, by rw [Hdp.out]; omega, by simp [D.valid, Hk.out, hv]⟩
        exact ⟨ret_nl (by rw [(nl_yes hok).1, Hsz.out, e1]; omega) (nl_yes hok).2.symm, hbr⟩

theorem nlB_isD (d : D) : nlB d 600 20 = d.isD := by
  have h1 : ((d.size : Int) ≤ 600) ↔ d.size ≤ 600 := by omega
  have h2 : ((d.depth : Int) ≤ 20) ↔ d.depth ≤ 20 := by omega
  rw [Bool.eq_iff_iff]
  simp [nlB, NlOk, D.isD, h1, h2]

theorem implIsD_any (d : D) (B : Nat) (w : World) (hin : d.In w B) (hB : B ≤ w.heap.size) : Calls Try.prog 82 #[d.val] w fun e w' => e = .returned (.bool d.isD) ∧ Below w.heap.size w w' := by
  unfold D.val
  go_enter Try.func82, Try.ntmps82
  go_wp2_with fail
  refine (nodesLeft_any d.size d B _ 600 20 (Nat.le_refl _) (by omega) (by omega) (by omega) (by omega) (hin.alloc hB _) (by simp; omega)).mono ?_
  rintro e w1 ⟨rfl, hb1⟩
  rw [nlB_isD]
  go_wp2_with fail
  go_ret
  exact ⟨rfl, ((Below.refl _ _).alloc (Nat.le_refl _) _).trans (hb1.mono (by simp))⟩

/-- What is left behind the model's count. -/
def fewR (d : Nat) (L : Int) : Int := if (d : Int) ≤ L then L - d else -1
theorem few_yes {d : Nat} {L : Int} (h : (d : Int) ≤ L) : fewR d L = L - d := if_pos h
theorem few_no {d : Nat} {L : Int} (h : ¬ (d : Int) ≤ L) : fewR d L = -1 := if_neg h
/-- The counter at block g: its one cell holds this number; nothing else below has turned. -/
structure Cnt (B g : Nat) (w w' : World) (v : Int) : Prop where
  cell : w'.cell? ⟨g, 0, none⟩ = some (.int .i64 v)
  fr : w'.frozen? ⟨g, 0, none⟩ = false
  chg : Chg [g] w w'

set_option maxRecDepth 100000 in
set_option maxHeartbeats 2000000 in
theorem few_any : ∀ (m : Nat) (d : D) (B g : Nat) (w : World) (L : Int), d.size ≤ m → 0 ≤ L → L ≤ 1000000 → d.In w B → B ≤ g → g < w.heap.size → w.cell? ⟨g, 0, none⟩ = some (.int .i64 L) → w.frozen? ⟨g, 0, none⟩ = false →
    Calls Try.prog 77 #[d.val, .pointer (some ⟨g, 0, none⟩)] w fun e w' => e = .returned (.bool (decide (0 ≤ fewR d.size L))) ∧ Cnt B g w w' (fewR d.size L) := by
  intro m
  induction m with
  | zero => intro d B g w L h; have := d.size_pos; omega
  | succ m ih =>
  intro d B g w L hm hL0 hL1 hin hB hg hc hf
  obtain ⟨k, n, t, A, c, l⟩ := d
  have hcap := hin.cap
  simp only [D.l, D.c, D.t] at hcap
  simp only [D.val, D.k, D.n, D.t, D.A, D.l, D.c]
  have hmm : D.sizeL l ≤ m := by simp only [D.size] at hm; omega
  have hsz : (D.mk k n t A c l).size = 1 + D.sizeL l := rfl
  have Hsz := Lib.hid hsz
  clear hsz hm
  go_enter Try.func77, Try.ntmps77
  go_wp2_with fail
  go_loopw [5] (fun i wr => ∃ j : Nat, j ≤ l.length ∧ i = .int .i64 j ∧ wr.cell? ⟨w.heap.size, 3, none⟩ = some (.slice A l.length c) ∧ w.heap.size < wr.heap.size ∧ Cnt B g w wr (fewR (1 + D.sizeL (l.take j)) L)) (fun i _ => l.length - (intOf i).toNat)
  case atStart =>
    have hx := (D.Box.new (w.setCell ⟨g, 0, none⟩ (.int .i64 (L - 1))) (.mk k n t A c l) 51).c3
    rw [World.size_setCell] at hx
    refine ⟨0, Nat.zero_le _, rfl, hx, by simp, ?_, ?_, ?_⟩
    · rw [World.cell?_alloc_lt _ _ _ (by simpa using hg), D.cell_set_eq hc]
      congr 2
      by_cases h : (1 : Int) ≤ L
      · rw [few_yes (by simp [D.sizeL]; omega)]; simp [D.sizeL]
      · rw [few_no (by simp [D.sizeL]; omega)]; omega
    · rw [World.frozen?_alloc_old _ _ _ (by simp; omega), World.frozen?_setCell]; exact hf
    · exact ((Chg.refl _ _).setCell (.inl (by simp)) _).alloc _
  case round =>
    obtain ⟨j, hj, rfl, hbx, hbs, hcnt⟩ := hrel
    obtain ⟨hc1, hf1, hch⟩ := hcnt
    have hs2 := hch.size
    by_cases hlt : j < l.length
    · by_cases hv : ((1 + D.sizeL (l.take j) : Nat) : Int) ≤ L
      · rw [few_yes hv] at hc1
        have hv2 : (0 : Int) ≤ L - (1 + D.sizeL (l.take j) : Nat) := by omega
        have hin' := hin.below (hch.below (B := B) (by simp; omega) (by omega))
        obtain ⟨b, o, rfl, hblk, c0, c1, c2, c3, hix⟩ := hin'.at_ (i := j) (x := l[j]) (List.getElem?_eq_getElem hlt)
        have hsz := D.sizeL_mem (l := l) (List.getElem_mem hlt)
        have HS : Hid (D.sizeL (l.take (j + 1)) = D.sizeL (l.take j) + l[j].size) := by
          rw [List.take_succ_eq_append_getElem hlt, D.sizeL_append]; simp [D.sizeL, Hid]
        go_wp2_with fail
        refine (ih l[j] B g _ _ (by omega) hv2 (by omega) hix hB (by omega) hc1 hf1).mono ?_
        rintro e w2 ⟨rfl, hcnt2⟩
        obtain ⟨hc2, hf2, hch2⟩ := hcnt2
        have hbx2 : w2.cell? ⟨w.heap.size, 3, none⟩ = some (.slice (some ⟨b, o, none⟩) l.length c) := (World.cell?_of_block (hch2.block w.heap.size hbs (by simp; omega))).trans hbx
        have hz2 := hch2.size
        have HC : Hid (fewR (1 + D.sizeL (l.take (j + 1))) L = fewR l[j].size (L - (1 + D.sizeL (l.take j) : Nat))) := by
          show _ = _
          rw [HS.out]
          by_cases h : ((l[j].size : Nat) : Int) ≤ L - (1 + D.sizeL (l.take j) : Nat)
          · rw [few_yes h, few_yes (by omega)]; omega
          · rw [few_no h, few_no (by omega)]
        have hch3 := hch.trans hch2
        clear hch hch2 hc1 hbx hv
        go_wp2_with fail
        go_roundw
        case rel => exact ⟨j + 1, by omega, by go_num, hbx2, by omega, by rw [HC.out]; exact hc2, hf2, hch3⟩
        case measure => simp [intOf]; omega
      · rw [few_no hv] at hc1
        go_wp2_with fail
        go_ret
        have h1 := D.sizeL_append (l.take j) (l.drop j)
        rw [List.take_append_drop] at h1
        have h2 : fewR (D.mk k n t A c l).size L = -1 := few_no (by rw [Hsz.out]; omega)
        exact ⟨ret_bool (by rw [h2]; decide), by rw [h2]; exact ⟨hc1, hf1, hch⟩⟩
    · have e1 : l.take j = l := List.take_of_length_le (by omega)
      rw [e1, ← Hsz.out] at hc1
      clear e1
      by_cases hv : ((D.mk k n t A c l).size : Int) ≤ L
      · have H2 := Lib.hid (few_yes hv)
        rw [H2.out] at hc1
        have hn : (0 : Int) ≤ L - (D.mk k n t A c l).size := by omega
        go_wp2_with fail
        go_ret
        exact ⟨ret_bool (by rw [H2.out]; simp; omega), by rw [H2.out]; exact ⟨hc1, hf1, hch⟩⟩
      · have H2 := Lib.hid (few_no hv)
        rw [H2.out] at hc1
        go_wp2_with fail
        go_ret
        exact ⟨ret_bool (by rw [H2.out]; decide), by rw [H2.out]; exact ⟨hc1, hf1, hch⟩⟩

set_option maxRecDepth 100000 in
set_option maxHeartbeats 2000000 in
theorem nodes_any : ∀ (m : Nat) (d : D) (B : Nat) (w : World), d.size ≤ m → d.In w B → B ≤ w.heap.size →
    Calls Try.prog 79 #[d.val] w fun e w' => e = .returned (.bool d.valid) ∧ Below w.heap.size w w' := by
  intro m
  induction m with
  | zero => intro d B w h; have := d.size_pos; omega
  | succ m ih =>
  intro d B w hm hin hB
  obtain ⟨k, n, t, A, c, l⟩ := d
  have hcap := hin.cap
  simp only [D.l, D.c, D.t] at hcap
  simp only [D.val, D.k, D.n, D.t, D.A, D.l, D.c]
  have hmm : D.sizeL l ≤ m := by simp only [D.size] at hm; omega
  have hv : (D.mk k n t A c l).valid = (nodeOk k n t l.length && D.validL l) := rfl
  have Hv := Lib.hid hv
  clear hv hm
  go_enter Try.func79, Try.ntmps79
  go_wp2_with fail
  go_loopw [8] (fun i wr => ∃ j : Nat, j ≤ l.length ∧ i = .int .i64 j ∧ Hid (D.validL (l.take j) = true) ∧ Below (w.heap.size + 1) (w.alloc (.cells #[.int .i64 k, .int .i64 n, .string t, .slice A l.length c] 51)) wr) (fun i _ => l.length - (intOf i).toNat)
  case atStart => exact ⟨0, Nat.zero_le _, rfl, by simp [Hid, D.validL], Below.refl _ _⟩
  case round =>
    obtain ⟨j, hj, rfl, HV, hbr⟩ := hrel
    have hs2 := hbr.size
    simp only [World.size_alloc] at hs2
    have hb0 : Below w.heap.size w wr := ((Below.refl _ _).alloc (Nat.le_refl _) _).trans (hbr.mono (by omega))
    by_cases hlt : j < l.length
    · obtain ⟨b, o, rfl, hblk, c0, c1, c2, c3, hix⟩ := (hin.below (hb0.mono hB)).at_ (i := j) (x := l[j]) (List.getElem?_eq_getElem hlt)
      have hsz := D.sizeL_mem (l := l) (List.getElem_mem hlt)
      have hv1 := D.validL_append (l.take j) (l.drop j)
      rw [List.take_append_drop, List.drop_eq_getElem_cons hlt] at hv1
      simp only [D.validL] at hv1
      have Hv1 := Lib.hid hv1
      have HW : Hid (D.validL (l.take (j + 1)) = (D.validL (l.take j) && l[j].valid)) := by
        rw [List.take_succ_eq_append_getElem hlt, D.validL_append]; simp [D.validL, Hid]
      clear hv1
      go_wp2_with fail
      refine (ih l[j] B _ (by omega) (hix.alloc (by omega) _) (by simp; omega)).mono ?_
      rintro e w2 ⟨rfl, hb2⟩
      have hb3 := (hbr.alloc (by omega) (.cells #[.int .i64 l[j].k, .int .i64 l[j].n, .string l[j].t, .slice l[j].A l[j].l.length l[j].c] 51)).trans (hb2.mono (by simp; omega))
      clear hb2
      cases hq : l[j].valid
      · have Hq := Lib.hid hq
        go_wp2_with fail
        go_ret
        exact ⟨ret_bool (by rw [Hv.out, Hv1.out, Hq.out]; simp), ((Below.refl _ _).alloc (Nat.le_refl _) _).trans (hb3.mono (by omega))⟩
      · have Hq := Lib.hid hq
        go_wp2_with fail
        go_roundw
        case rel => exact ⟨j + 1, by omega, by go_num, by (show _ = _); rw [HW.out, HV.out, Hq.out]; rfl, hb3⟩
        case measure => simp [intOf]; omega
    · have e1 : l.take j = l := List.take_of_length_le (by omega)
      have hv2 := HV.out
      rw [e1] at hv2
      have Hv2 := Lib.hid hv2
      obtain ⟨g0, g1, g2, g3⟩ := D.Box.below (D.Box.new w (.mk k n t A c l) 51) hbr (by omega)
      simp only [D.k, D.n, D.t, D.A, D.l, D.c] at g0 g1 g2 g3
      clear e1 hv2
      go_wp2_with fail
      refine (specNode_any k n t l.length _ hcap.2.2).mono ?_
      rintro e w2 ⟨rfl, rfl⟩
      go_wp2_with fail
      go_ret
      exact ⟨ret_bool (by rw [Hv.out, Hv2.out]; simp), hb0⟩

set_option maxRecDepth 100000 in
set_option maxHeartbeats 2000000 in
theorem specIsD_any (d : D) (B : Nat) (w : World) (hin : d.In w B) (hB : B ≤ w.heap.size) (hs : d.size ≤ 2000000) : Calls Try.prog 62 #[d.val] w fun e w' => e = .returned (.bool d.isD) ∧ Below w.heap.size w w' := by
  have K : Hid (d.isD = (decide (d.size ≤ 600) && (decide (d.depth ≤ 20) && d.valid))) := rfl
  have x0 := D.Box.new w d 51
  have b2 : Below (w.heap.size + 1) (w.alloc (.cells #[.int .i64 d.k, .int .i64 d.n, .string d.t, .slice d.A d.l.length d.c] 51)) ((w.alloc (.cells #[.int .i64 d.k, .int .i64 d.n, .string d.t, .slice d.A d.l.length d.c] 51)).alloc (.cells #[.int .i64 600] 3)) := (Below.refl _ _).alloc (by simp) _
  have x0 := x0.below b2 (by omega)
  have b0 : Below w.heap.size w ((w.alloc (.cells #[.int .i64 d.k, .int .i64 d.n, .string d.t, .slice d.A d.l.length d.c] 51)).alloc (.cells #[.int .i64 600] 3)) := ((Below.refl _ _).alloc (Nat.le_refl _) _).trans (b2.mono (by omega))
  unfold D.val
  go_enter Try.func62, Try.ntmps62
  go_wp2_with fail
  refine (few_any d.size d B (w.heap.size + 1) _ 600 (Nat.le_refl _) (by omega) (by omega) (hin.below (b0.mono hB)) (by omega) (by simp) ?_ ?_).mono ?_
  · have := cell_of_row _ _ 0 _ _ _ (heap_alloc_new (w.alloc (.cells #[.int .i64 d.k, .int .i64 d.n, .string d.t, .slice d.A d.l.length d.c] 51)) (.cells #[.int .i64 600] 3))
    rw [World.size_alloc] at this
    exact this
  · have := (D.Blk.new (w.alloc (.cells #[.int .i64 d.k, .int .i64 d.n, .string d.t, .slice d.A d.l.length d.c] 51)) 3 #[.int .i64 600]).frozen 0
    rw [World.size_alloc] at this
    exact this
  rintro e w1 ⟨rfl, hcnt⟩
  obtain ⟨_, _, hch⟩ := hcnt
  have hz := hch.size
  simp only [World.size_alloc] at hz
  obtain ⟨g0, g1, g2, g3⟩ := D.Box.chg x0 hch (by simp; omega) (by simp)
  have b1 : Below w.heap.size w w1 := b0.trans (hch.below (by simp) (by simp; omega))
  have i1 := hin.below (b1.mono hB)
  clear hch x0 b2 b0
  by_cases hd : d.size ≤ 600
  · rw [few_yes (by omega)]
    have hpos : (0 : Int) ≤ 600 - d.size := by omega
    have HD := Lib.hid hd
    clear hd
    go_wp2_with fail
    refine (specDepth_any d.size d B _ (Nat.le_refl _) hs i1 (by omega)).mono ?_
    rintro e w2 ⟨rfl, hb2⟩
    obtain ⟨g0, g1, g2, g3⟩ := D.Box.below (⟨g0, g1, g2, g3⟩ : D.Box w1 w.heap.size d) hb2 (by omega)
    have hz2 := hb2.size
    have b3 := b1.trans (hb2.mono (by omega))
    have i2 := hin.below (b3.mono hB)
    clear hb2 b1
    by_cases h20 : (d.depth : Int) ≤ 20
    · have H20 : Hid (d.depth ≤ 20) := by show _ ≤ _; omega
      go_wp2_with fail
      refine (nodes_any d.size d B _ (Nat.le_refl _) i2 (by omega)).mono ?_
      rintro e w3 ⟨rfl, hb3⟩
      go_wp2_with fail
      go_ret
      exact ⟨ret_bool (by rw [K.out, decide_eq_true HD.out, decide_eq_true H20.out]; rfl), b3.trans (hb3.mono (by omega))⟩
    · have H20 : Hid (¬ d.depth ≤ 20) := by show ¬ _ ≤ _; omega
      go_wp2_with fail
      go_ret
      exact ⟨ret_bool (by rw [K.out, decide_eq_false H20.out]; simp), b3⟩
  · rw [few_no (by omega)]
    have HD := Lib.hid hd
    clear hd
    go_wp2_with fail
    go_ret
    exact ⟨ret_bool (by rw [K.out, decide_eq_false HD.out]; simp), b1⟩
end Go.Proofs.Ytpigpncbjckbcaa
