/-
  Joining texts: the model's l1Join, and strings.Join (written by gen/fout.py).
-/
import Derived.Test.YtnldlbglgalbaaaStrs
import Derived.Test.YtnldlbglgalbaaaSgB
import Derived.Lib.Join
import Derived.Test.YtnldlbglgalbaaaShelf
namespace Go.Proofs.Ytnldlbglgalbaaa
open Go.RowKit

/-- A string of these bytes. -/
def jaL (l : List UInt8) : ByteArray := ⟨l.toArray⟩
theorem jaL_list (l : List UInt8) : (jaL l).data.toList = l := by simp [jaL]
theorem jaL_of {b : ByteArray} {l : List UInt8} (h : b.data.toList = l) : b = jaL l := by
  cases b; subst h; simp [jaL]
theorem jaL_size (l : List UInt8) : (jaL l).size = l.length := by simp [jaL, ByteArray.size]
theorem ja_app (a b : ByteArray) : (a ++ b).data.toList = a.data.toList ++ b.data.toList := by simp [ByteArray.data_append]
theorem ja_size (b : ByteArray) : b.size = b.data.toList.length := rfl
theorem jn_snoc (l : List (List UInt8)) (y sep : List UInt8) (h : l ≠ []) : Lib.join (l ++ [y]) sep = Lib.join l sep ++ sep ++ y := by
  cases l with
  | nil => exact absurd rfl h
  | cons x r =>
    rw [List.cons_append, Lib.join_cons, Lib.join_cons]
    simp [Lib.joinTail, List.append_assoc]
set_option maxRecDepth 100000 in
set_option maxHeartbeats 2000000 in
theorem jnB_any (A : Option Addr) (c : Nat) (l : List ByteArray) (sep : ByteArray) (B : Nat) (w : World) (hin : TIn w B A c l) (hB : B ≤ w.heap.size) (hsep : sep.size ≤ 100) (hlen : (Lib.join (l.map (·.data.toList)) sep.data.toList).length ≤ 100000000) (hl : l.length ≤ 2000000) :
    Calls Try.prog 49 #[.slice A l.length c, .string sep] w fun e w' => e = .returned (.string (jaL (Lib.join (l.map (·.data.toList)) sep.data.toList))) ∧ Below w.heap.size w w' := by
  have hcap := hin.cap
  have mono : ∀ j, j ≤ l.length → (Lib.join ((l.take j).map (·.data.toList)) sep.data.toList).length ≤ (Lib.join (l.map (·.data.toList)) sep.data.toList).length := by
    intro j hj
    have e : l.map (·.data.toList) = (l.take j).map (·.data.toList) ++ (l.drop j).map (·.data.toList) := by rw [← List.map_append, List.take_append_drop]
    rw [e]
    have gen : ∀ (b a : List (List UInt8)), (Lib.join a sep.data.toList).length ≤ (Lib.join (a ++ b) sep.data.toList).length := by
      intro b
      induction b with
      | nil => intro a; simp
      | cons y r ih =>
        intro a
        have h1 := ih (a ++ [y])
        rw [List.append_assoc, List.singleton_append] at h1
        refine Nat.le_trans ?_ h1
        by_cases ha : a = []
        · subst ha; simp [Lib.join_nil]
        · rw [jn_snoc a y _ ha, List.length_append, List.length_append]; omega
    exact gen _ _
  have HM := Lib.hid mono
  have HLL := Lib.hid hlen
  clear mono hlen
  go_enter Try.func49, Try.ntmps49
  go_wp2_with fail
  go_loopw [5, 6, 7, 10] (fun q _ _ i wr => ∃ (j : Nat) (out : ByteArray), j ≤ l.length ∧ i = .int .i64 j ∧ q = .string out ∧ Hid (out.data.toList = Lib.join ((l.take j).map (·.data.toList)) sep.data.toList) ∧ wr = w) (fun _ _ _ i _ => l.length - (intOf i).toNat)
  case atStart => exact ⟨0, ⟨#[]⟩, Nat.zero_le _, rfl, rfl, by simp [Hid, Lib.join_nil], rfl⟩
  case round =>
    obtain ⟨j, out, hj, rfl, rfl, HO, rfl⟩ := hrel
    have hos : out.size ≤ 100000000 := by rw [ja_size, HO.out]; exact Nat.le_trans (HM.out j hj) HLL.out
    by_cases hlt : j < l.length
    · obtain ⟨b, o, rfl, hblk, c0⟩ := hin.at_ hlt
      have hM := HM.out (j + 1) (by omega)
      have e1 : (l.take (j + 1)).map (·.data.toList) = (l.take j).map (·.data.toList) ++ [l[j].data.toList] := by rw [List.take_succ_eq_append_getElem hlt, List.map_append]; rfl
      by_cases h0 : j = 0
      · have hnn : ¬ ((0 : Int) < (j : Int)) := by omega
        have HE : Hid ((out ++ l[j]).data.toList = Lib.join ((l.take (j + 1)).map (·.data.toList)) sep.data.toList) := by
          show _ = _
          have e2 : l.take j = [] := by rw [h0]; rfl
          rw [ja_app, HO.out, e1, e2]
          simp [Lib.join_nil, Lib.join_one]
        have hsz : l[j].size ≤ 100000000 := by
          have h := HE.out
          rw [ja_app] at h
          have := congrArg List.length h
          rw [List.length_append] at this
          have h2 := HLL.out
          rw [ja_size]; omega
        clear hM e1 h0
        go_wp2_with fail
        go_roundw
        case rel => exact ⟨j + 1, _, by omega, by go_num, rfl, HE.out, by first | rfl | trivial⟩
        case measure => simp [intOf]; omega
      · have hpos : (0 : Int) < (j : Int) := by omega
        have hne : (l.take j).map (·.data.toList) ≠ [] := by
          intro h
          rw [List.map_eq_nil_iff] at h
          have := congrArg List.length h
          rw [List.length_take] at this
          simp only [List.length_nil] at this
          omega
        have HE : Hid ((out ++ sep ++ l[j]).data.toList = Lib.join ((l.take (j + 1)).map (·.data.toList)) sep.data.toList) := by
          show _ = _
          rw [ja_app, ja_app, HO.out, e1, jn_snoc _ _ _ hne]
        have hsz : l[j].size ≤ 100000000 := by
          have h := HE.out
          rw [ja_app] at h
          have := congrArg List.length h
          rw [List.length_append] at this
          have h2 := HLL.out
          rw [ja_size]; omega
        clear hM e1 hne h0
        go_wp2_with fail
        go_roundw
        case rel => exact ⟨j + 1, _, by omega, by go_num, rfl, HE.out, by first | rfl | trivial⟩
        case measure => simp [intOf]; omega
    · have hj' : j = l.length := by omega
      subst hj'
      have HE : Hid (out = jaL (Lib.join (l.map (·.data.toList)) sep.data.toList)) := by
        have := HO.out
        rw [List.take_length] at this
        exact jaL_of this
      go_wp2_with fail
      go_ret
      exact ⟨by rw [HE.out]; rfl, Below.refl _ _⟩
theorem Sg.tin {w : World} {B : Nat} {A : Option Addr} {c : Nat} {l : List Sg} (h : Sg.E.LIn w B A c l) : TIn w B A c l := by
  refine ⟨h.cap, h.nil, fun hl => ?_⟩
  obtain ⟨b, o, e, hb, hc⟩ := h.mem hl
  refine ⟨b, o, e, hb, fun j u hu => hc j _ ?_⟩
  have hj : j < l.length := (List.getElem?_eq_some_iff.1 hu).1
  have g := Elem.cellsL_get (E := Sg.E) hu (j := 0) (by decide)
  have e4 : Sg.E.n = 1 := rfl
  rw [e4, show 1 * j + 0 = j by omega] at g
  rw [g]
  rfl
/-- The texts, a space between them. -/
def Sg.join (l : List Sg) : ByteArray := jaL (Lib.join (l.map (·.data.toList)) [32])
theorem Sg.join_len (l : List Sg) : (Lib.join (l.map (·.data.toList)) [32]).length ≤ Row.bulk Sg.bulk l := by
  cases l with
  | nil => simp [Lib.join_nil]
  | cons a r =>
    rw [List.map_cons, Lib.join_cons]
    have key : ∀ r : List Sg, (Lib.joinTail [32] (r.map (·.data.toList))).length ≤ Row.bulk Sg.bulk r := by
      intro r
      induction r with
      | nil => simp [Lib.joinTail]
      | cons y s ih =>
        have e : Lib.joinTail [32] ((y :: s).map (·.data.toList)) = [32] ++ y.data.toList ++ Lib.joinTail [32] (s.map (·.data.toList)) := by simp [Lib.joinTail]
        rw [e, List.length_append, List.length_append]
        have h2 : (y.data.toList).length = Sg.bulk y := rfl
        simp only [List.length_cons, List.length_nil, Row.bulk]
        omega
    have h1 := key r
    have h2 : (a.data.toList).length = Sg.bulk a := rfl
    simp only [List.length_append, Row.bulk]
    omega
theorem Sg.join_size (l : List Sg) : (Sg.join l).size ≤ Row.bulk Sg.bulk l := by
  unfold Sg.join; rw [jaL_size]; exact Sg.join_len l
theorem specJoin_any (A : Option Addr) (c : Nat) (l : List Sg) (B : Nat) (w : World) (hin : Sg.E.LIn w B A c l) (hB : B ≤ w.heap.size) (hbk : Row.bulk Sg.bulk l ≤ 1500000) :
    Calls Try.prog 49 #[.slice A l.length c, .string ⟨#[32]⟩] w fun e w' => e = .returned (.string (Sg.join l)) ∧ Below w.heap.size w w' :=
  jnB_any A c l ⟨#[32]⟩ B w (Sg.tin hin) hB (by decide) (Nat.le_trans (Sg.join_len l) (by omega)) (by have := Row.bulk_len Sg.bulk l; omega)
theorem implJoin_any (A : Option Addr) (c : Nat) (l : List Sg) (B : Nat) (w : World) (hin : Sg.E.LIn w B A c l) (hB : B ≤ w.heap.size) (hbk : Row.bulk Sg.bulk l ≤ 1500000) (hne : l ≠ []) :
    Calls Try.prog 51 #[.slice A l.length c, .string ⟨#[32]⟩] w fun e w' => e = .returned (.string (Sg.join l)) ∧ Below w.heap.size w w' := by
  obtain ⟨b, o, rfl, hb, hc⟩ := (Sg.tin hin).mem hne
  have hcap := hin.cap
  have hl := Row.bulk_len Sg.bulk l
  exact Try.strings_Join b o c l ⟨#[32]⟩ w (fun j x hx => hc j x hx) (by omega) (by omega) hcap.1 (Nat.le_trans (Sg.join_len l) (by omega))
end Go.Proofs.Ytnldlbglgalbaaa
