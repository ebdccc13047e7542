/-
  The text of a datum; the model's join.
-/
import Derived.Test.YtpigpncbjckbcaaDoorIsD
import Derived.Test.YtpigpncbjckbcaaDoorStrs
import Derived.Test.YtpigpncbjckbcaaDoorFmtN
import Derived.Lib.Join
import Derived.Lib.ItoaLen
namespace Go.Proofs.YtpigpncbjckbcaaDoor
open Go.RowKit

/-- A string of these bytes. -/
def baL (l : List UInt8) : ByteArray := ⟨l.toArray⟩
theorem baL_list (l : List UInt8) : (baL l).data.toList = l := by simp [baL]
theorem baL_of {b : ByteArray} {l : List UInt8} (h : b.data.toList = l) : b = baL l := by
  cases b; subst h; simp [baL]
theorem baL_size (l : List UInt8) : (baL l).size = l.length := by simp [baL, ByteArray.size]
theorem ba_app (a b : ByteArray) : (a ++ b).data.toList = a.data.toList ++ b.data.toList := by simp [ByteArray.data_append]
theorem ba_size (b : ByteArray) : b.size = b.data.toList.length := rfl
theorem join_snoc (l : List (List UInt8)) (y sep : List UInt8) (h : l ≠ []) : Lib.join (l ++ [y]) sep = Lib.join l sep ++ sep ++ y := by
  cases l with
  | nil => exact absurd rfl h
  | cons x r =>
    rw [List.cons_append, Lib.join_cons, Lib.join_cons]
    simp [Lib.joinTail, List.append_assoc]
theorem symB_small {s : ByteArray} (h : symB s = true) : s.size ≤ 20 := by
  unfold symB symL at h
  simp only [Bool.and_eq_true, decide_eq_true_eq] at h
  rw [ba_size]
  omega
theorem txtB_small {s : ByteArray} (h : txtB s = true) : s.size ≤ 20 := by
  unfold txtB txtL at h
  simp only [Bool.and_eq_true, decide_eq_true_eq] at h
  rw [ba_size]
  omega
namespace D
mutual
/-- The text of a datum. -/
def txt : D → List UInt8
  | .mk k n t _ _ l => if k = 1 then t.data.toList else if k = 2 then Lib.itoa n else if k = 3 then (if n = 1 then [35, 116] else [35, 102]) else if k = 4 then 34 :: (t.data.toList ++ [34]) else 40 :: (Lib.join (txtL l) [32] ++ [41])
def txtL : List D → List (List UInt8) | [] => [] | d :: r => txt d :: txtL r
end
theorem txtL_map (l : List D) : txtL l = l.map txt := by
  induction l with
  | nil => rfl
  | cons d r ih => simp [txtL, ih]
theorem txt_er (d : D) : txt (er d) = txt d := by
  induction d using ind with
  | h d ih =>
    cases d with
    | mk k n t A c l =>
      have key : ∀ (a : List D), (∀ x ∈ a, x ∈ l) → txtL (erL a) = txtL a := by
        intro a
        induction a with
        | nil => intro _; rfl
        | cons x r ih2 => intro hs; simp only [erL, txtL, ih x (hs x (by simp)), ih2 fun y hy => hs y (by simp [hy])]
      simp only [er, txt, key l (fun _ h => h)]
theorem txt_of_er {d e : D} (h : er d = er e) : txt d = txt e := by rw [← txt_er d, h, txt_er]
theorem lens_sum (l : List (List UInt8)) : (Lib.join l [32]).length ≤ (l.map fun x => x.length + 1).sum := by
  cases l with
  | nil => simp [Lib.join_nil]
  | cons x r =>
    rw [Lib.join_length]
    have : Lib.lens (x :: r) + (r.length + 1) = ((x :: r).map fun x => x.length + 1).sum := by
      have h : ∀ m : List (List UInt8), Lib.lens m + m.length = (m.map fun x => x.length + 1).sum := by
        intro m
        induction m with
        | nil => rfl
        | cons y s ih =>
          have e : Lib.lens (y :: s) = y.length + Lib.lens s := by simp [Lib.lens]
          rw [e, List.map_cons, List.sum_cons, List.length_cons, ← ih]; omega
      simpa using h (x :: r)
    simp only [List.length_cons, List.length_nil] at this ⊢
    omega
theorem node_small {k n : Int} {t : ByteArray} {m : Nat} (h : nodeOk k n t m = true) : (k = 1 ∨ k = 4 → t.size ≤ 20) ∧ (k = 2 → -999999999 ≤ n ∧ n ≤ 999999999) ∧ (k = 3 → n = 0 ∨ n = 1) ∧ 0 ≤ k ∧ k ≤ 4 := by
  unfold nodeOk at h
  split at h
  · next e => exact ⟨by omega, by omega, by omega, by omega, by omega⟩
  · split at h
    · next e =>
      simp only [Bool.and_eq_true, decide_eq_true_eq] at h
      have hs : t.size ≤ 20 := symB_small h.2.1
      exact ⟨fun _ => hs, by omega, by omega, by omega, by omega⟩
    · split at h
      · next e =>
        simp only [Bool.and_eq_true, decide_eq_true_eq] at h
        exact ⟨by omega, fun _ => h.1, by omega, by omega, by omega⟩
      · split at h
        · next e =>
          simp only [Bool.and_eq_true, decide_eq_true_eq] at h
          exact ⟨by omega, by omega, fun _ => by omega, by omega, by omega⟩
        · split at h
          · next e =>
            simp only [Bool.and_eq_true, decide_eq_true_eq] at h
            have hs : t.size ≤ 20 := txtB_small h.2.1
            exact ⟨fun _ => hs, by omega, by omega, by omega, by omega⟩
          · cases h
theorem txt_len (d : D) : valid d = true → (txt d).length + 1 ≤ 40 * d.size := by
  induction d using ind with
  | h d ih =>
    cases d with
    | mk k n t A c l =>
      intro hv
      simp only [valid, Bool.and_eq_true] at hv
      have hn := node_small hv.1
      have key : ∀ (a : List D), (∀ x ∈ a, x ∈ l) → validL a = true → ((txtL a).map fun x => x.length + 1).sum ≤ 40 * sizeL a := by
        intro a
        induction a with
        | nil => intro _ _; simp [txtL, sizeL]
        | cons x r ih2 =>
          intro hs hva
          simp only [validL, Bool.and_eq_true] at hva
          have h1 := ih x (hs x (by simp)) hva.1
          have h2 := ih2 (fun y hy => hs y (by simp [hy])) hva.2
          simp only [txtL, List.map_cons, List.sum_cons, sizeL]
          omega
      have hL := key l (fun _ h => h) hv.2
      have hj := lens_sum (txtL l)
      simp only [txt, size]
      by_cases e1 : k = 1
      · have := hn.1 (.inl e1); rw [if_pos e1]; rw [← ba_size]; omega
      · rw [if_neg e1]
        by_cases e2 : k = 2
        · have h3 := hn.2.1 e2
          have := Lib.itoa_length_le n (by omega) (by omega)
          rw [if_pos e2]; omega
        · rw [if_neg e2]
          by_cases e3 : k = 3
          · rw [if_pos e3]; split <;> simp <;> omega
          · rw [if_neg e3]
            by_cases e4 : k = 4
            · have := hn.1 (.inr e4)
              rw [if_pos e4]
              simp only [List.length_cons, List.length_append, List.length_nil]
              rw [← ba_size]; omega
            · rw [if_neg e4]
              simp only [List.length_cons, List.length_append, List.length_nil]
              omega
end D

set_option maxRecDepth 100000 in
set_option maxHeartbeats 2000000 in
theorem join_any (A : Option Addr) (c : Nat) (l : List ByteArray) (sep : ByteArray) (B : Nat) (w : World) (hin : TIn w B A c l) (hB : B ≤ w.heap.size) (hsep : sep.size ≤ 100) (hlen : (Lib.join (l.map (·.data.toList)) sep.data.toList).length ≤ 1000000) (hl : l.length ≤ 2000000) :
    Calls Tryd.prog 23 #[.slice A l.length c, .string sep] w fun e w' => e = .returned (.string (baL (Lib.join (l.map (·.data.toList)) sep.data.toList))) ∧ Below w.heap.size w w' := by
  have hcap := hin.cap
  have mono : ∀ j, j ≤ l.length → (Lib.join ((l.take j).map (·.data.toList)) sep.data.toList).length ≤ (Lib.join (l.map (·.data.toList)) sep.data.toList).length := by
    intro j hj
    have e : l.map (·.data.toList) = (l.take j).map (·.data.toList) ++ (l.drop j).map (·.data.toList) := by rw [← List.map_append, List.take_append_drop]
    rw [e]
    have gen : ∀ (b a : List (List UInt8)), (Lib.join a sep.data.toList).length ≤ (Lib.join (a ++ b) sep.data.toList).length := by
      intro b
      induction b with
      | nil => intro a; simp
      | cons y r ih =>
        intro a
        have h1 := ih (a ++ [y])
        rw [List.append_assoc, List.singleton_append] at h1
        refine Nat.le_trans ?_ h1
        by_cases ha : a = []
        · subst ha; simp [Lib.join_nil]
        · rw [join_snoc a y _ ha, List.length_append, List.length_append]; omega
    exact gen _ _
  have HM := Lib.hid mono
  have HLL := Lib.hid hlen
  clear mono hlen
  go_enter Tryd.func23, Tryd.ntmps23
  go_wp2_with fail
  go_loopw [5, 6, 7, 10] (fun q _ _ i wr => ∃ (j : Nat) (out : ByteArray), j ≤ l.length ∧ i = .int .i64 j ∧ q = .string out ∧ Hid (out.data.toList = Lib.join ((l.take j).map (·.data.toList)) sep.data.toList) ∧ wr = w) (fun _ _ _ i _ => l.length - (intOf i).toNat)
  case atStart => exact ⟨0, ⟨#[]⟩, Nat.zero_le _, rfl, rfl, by simp [Hid, Lib.join_nil], rfl⟩
  case round =>
    obtain ⟨j, out, hj, rfl, rfl, HO, rfl⟩ := hrel
    have hos : out.size ≤ 1000000 := by rw [ba_size, HO.out]; exact Nat.le_trans (HM.out j hj) HLL.out
    by_cases hlt : j < l.length
    · obtain ⟨b, o, rfl, hblk, c0⟩ := hin.at_ hlt
      have hM := HM.out (j + 1) (by omega)
      have e1 : (l.take (j + 1)).map (·.data.toList) = (l.take j).map (·.data.toList) ++ [l[j].data.toList] := by rw [List.take_succ_eq_append_getElem hlt, List.map_append]; rfl
      by_cases h0 : j = 0
      · have hnn : ¬ ((0 : Int) < (j : Int)) := by omega
        have HE : Hid ((out ++ l[j]).data.toList = Lib.join ((l.take (j + 1)).map (·.data.toList)) sep.data.toList) := by
          show _ = _
          have e2 : l.take j = [] := by rw [h0]; rfl
          rw [ba_app, HO.out, e1, e2]
          simp [Lib.join_nil, Lib.join_one]
        have hsz : l[j].size ≤ 1000000 := by
          have h := HE.out
          rw [ba_app] at h
          have := congrArg List.length h
          rw [List.length_append] at this
          have h2 := HLL.out
          rw [ba_size]; omega
        clear hM e1 h0
        go_wp2_with fail
        go_roundw
        case rel => exact ⟨j + 1, _, by omega, by go_num, rfl, HE.out, by first | rfl | trivial⟩
        case measure => simp [intOf]; omega
      · have hpos : (0 : Int) < (j : Int) := by omega
        have hne : (l.take j).map (·.data.toList) ≠ [] := by
          intro h
          rw [List.map_eq_nil_iff] at h
          have := congrArg List.length h
          rw [List.length_take] at this
          simp only [List.length_nil] at this
          omega
        have HE : Hid ((out ++ sep ++ l[j]).data.toList = Lib.join ((l.take (j + 1)).map (·.data.toList)) sep.data.toList) := by
          show _ = _
          rw [ba_app, ba_app, HO.out, e1, join_snoc _ _ _ hne]
        have hsz : l[j].size ≤ 1000000 := by
          have h := HE.out
          rw [ba_app] at h
          have := congrArg List.length h
          rw [List.length_append] at this
          have h2 := HLL.out
          rw [ba_size]; omega
        clear hM e1 hne h0
        go_wp2_with fail
        go_roundw
        case rel => exact ⟨j + 1, _, by omega, by go_num, rfl, HE.out, by first | rfl | trivial⟩
        case measure => simp [intOf]; omega
    · have hj' : j = l.length := by omega
      subst hj'
      have HE : Hid (out = baL (Lib.join (l.map (·.data.toList)) sep.data.toList)) := by
        have := HO.out
        rw [List.take_length] at this
        exact baL_of this
      go_wp2_with fail
      go_ret
      exact ⟨by rw [HE.out]; rfl, Below.refl _ _⟩
end Go.Proofs.YtpigpncbjckbcaaDoor
