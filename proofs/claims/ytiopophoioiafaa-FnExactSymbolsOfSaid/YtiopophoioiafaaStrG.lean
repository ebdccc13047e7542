/-
  Rows of strings that grow; whether a row holds a string.
-/
import Derived.Test.YtiopophoioiafaaStrs
import Derived.Test.YtiopophoioiafaaScSets
import Derived.Test.YtiopophoioiafaaShelf
import Derived.Lib.SlicesS
import Derived.Lib.Bytealg
namespace Go.Proofs.Ytiopophoioiafaa
open Go.RowKit

theorem town_of_row {w : World} {base : Nat} {v : Value} {ds : List ByteArray} (h : w.ownsRow base 9 1 v ds.length (ds.map (Value.string))) : ∃ A c, v = .slice A ds.length c ∧ TOwn base w.heap.size w A c ds := by
  rcases h.2 with ⟨rfl, h0⟩ | ⟨g, cap, cur, rfl, hb, hg, hn, hc, hs, ht⟩
  · have : ds = [] := List.length_eq_zero_iff.1 h0
    subst this
    exact ⟨none, 0, rfl, TOwn.nil_ (by omega) (by simp)⟩
  · refine ⟨some ⟨g, 0, none⟩, cap, rfl, ⟨⟨hn, hc⟩, by simp, fun _ => ⟨g, 0, rfl, (Array.getElem?_eq_some_iff.1 hg).1, fun j u hu => ?_⟩⟩, fun _ b o e => ?_⟩
    · rw [Nat.zero_add, cell_of_row w g j cur _ (0, 0) hg]
      have h1 : (cur.toList.take (ds.length * 1))[j]? = some (.string u) := by rw [ht]; simp [hu]
      rw [List.getElem?_take] at h1
      split at h1
      · simpa using h1
      · cases h1
    · obtain ⟨rfl, rfl, _⟩ := Addr.mk.inj (Option.some.inj e)
      refine ⟨hb, fun q => ?_⟩
      simp [World.frozen?, hg]
theorem trow_len {w : World} {base : Nat} {v : Value} {ds : List ByteArray} (h : w.ownsRow base 9 1 v ds.length (ds.map (Value.string))) : ∃ A c, v = .slice A ds.length c := by
  obtain ⟨A, c, h, _⟩ := town_of_row h
  exact ⟨A, c, h⟩

/-- What an append of one int leaves. -/
theorem tgrow {base : Nat} {W wr w1 : World} {v v' : Value} {ds : List ByteArray} {x : ByteArray} {o : Obj} (hb : Below base W wr) (hbase : base ≤ wr.heap.size) (hown : wr.ownsRow base 9 1 v ds.length (ds.map (Value.string)))
    (hown' : w1.ownsRow base 9 1 v' (ds.length + 1) (ds.map (Value.string) ++ [.string x])) (hgr : (wr.alloc o).grownBy w1 v.ownBlock) :
    w1.ownsRow base 9 1 v' (ds ++ [x]).length ((ds ++ [x]).map (Value.string)) ∧ Below base W w1 ∧ base ≤ w1.heap.size := by
  have hz := hgr.size
  simp at hz
  refine ⟨by simpa using hown', (hb.alloc hbase o).grown hgr (by simp; omega) (fun k hk => (hown.lt k hk).1), by omega⟩
theorem tnews (w : World) (x : ByteArray) : ∀ j u, [Value.string x][j]? = some u → (w.alloc (.cells #[.string x] 9)).cell? ((⟨w.heap.size, 0, none⟩ : Addr).add j) = some u := by
  intro j u hj
  match j, hj with
  | 0, hj => simp at hj; subst hj; simp [Addr.add, cell_of_row _ _ _ _ _ _ (heap_alloc_new w _)]
theorem tone (x : ByteArray) : ∀ u ∈ [Value.string x], u.oneCell' = true := by intro u hu; simp at hu; subst hu; rfl


theorem bytes_inj {a b : ByteArray} (h : a.toList = b.toList) : a = b := by
  rw [ByteArray.toList_eq, ByteArray.toList_eq] at h
  exact ByteArray.ext (Array.ext' h)
/-- Whether t stands in l. -/
def hasB (l : List ByteArray) (t : ByteArray) : Bool := Lib.containsS l t
theorem hasB_iff {l : List ByteArray} {t : ByteArray} : hasB l t = true ↔ t ∈ l := Lib.containsS_iff l t
theorem hasB_no {l : List ByteArray} {t : ByteArray} (h : t ∉ l) : hasB l t = false := by
  cases e : hasB l t
  · rfl
  · exact absurd (hasB_iff.1 e) h

set_option maxHeartbeats 400000 in
theorem l1Has_any (A : Option Addr) (c : Nat) (l : List ByteArray) (t : ByteArray) (B : Nat) (w : World) (hin : TIn w B A c l) :
    Calls Try.prog 158 #[.slice A l.length c, .string t] w fun e w' => e = .returned (.bool (hasB l t)) ∧ w' = w := by
  have hcap := hin.cap
  go_enter Try.func158, Try.ntmps158
  go_wp2_with fail
  go_loopw [9] (fun i wr => ∃ j : Nat, j ≤ l.length ∧ i = .int .i64 j ∧ Hid (t ∉ l.take j) ∧ wr = w) (fun i _ => l.length - (intOf i).toNat)
  case atStart => exact ⟨0, Nat.zero_le _, rfl, by simp [Hid], rfl⟩
  case round =>
    obtain ⟨j, hj, rfl, HN, rfl⟩ := hrel
    by_cases hlt : j < l.length
    · obtain ⟨b, o, rfl, hblk, c0⟩ := hin.at_ hlt
      have g2 : (j : Int) < (l.length : Int) := by omega
      by_cases hq : l[j] = t
      · have hq1 : (l[j].toList == t.toList) = true := by simp [hq]
        have HF : Hid (hasB l t = true) := hasB_iff.2 (by rw [← hq]; exact List.getElem_mem hlt)
        clear hq
        go_wp2_with fail
        go_ret
        exact ⟨ret_bool HF.out.symm, by first | rfl | trivial⟩
      · have hq1 : (l[j].toList == t.toList) = false := by
          rw [beq_eq_false_iff_ne]
          exact fun h => hq (bytes_inj h)
        have HN' : Hid (t ∉ l.take (j + 1)) := by
          show ¬ _
          rw [List.take_succ_eq_append_getElem hlt]
          intro hm
          rcases List.mem_append.1 hm with hm | hm
          · exact HN.out hm
          · simp at hm; exact hq hm.symm
        clear hq
        go_wp2_with fail
        refine ⟨⟨j + 1, by omega, by go_num, HN', by first | rfl | trivial⟩, by simp [intOf]; omega⟩
    · have hj' : j = l.length := by omega
      subst hj'
      have HF : Hid (hasB l t = false) := hasB_no (by have := HN.out; rwa [List.take_length] at this)
      go_wp2_with fail
      go_ret
      exact ⟨ret_bool HF.out.symm, by first | rfl | trivial⟩

set_option maxHeartbeats 400000 in
theorem containsS_any (A : Option Addr) (c : Nat) (l : List ByteArray) (t : ByteArray) (B : Nat) (w : World) (hin : TIn w B A c l) :
    Calls Try.prog 159 #[.slice A l.length c, .string t] w fun e w' => e = .returned (.bool (hasB l t)) ∧ w' = w := by
  have hcap := hin.cap
  by_cases hl : l = []
  · subst hl
    refine (Try.slices_Contains_string_empty A c t w).mono ?_
    rintro e w' ⟨rfl, hw⟩
    exact ⟨ret_bool (hasB_no (by simp)).symm, hw⟩
  · obtain ⟨b, o, rfl, hb, hc⟩ := hin.mem hl
    refine (Try.slices_Contains_string b o l.length c l t w (Nat.le_refl _) (by omega) (fun j hj => ?_)).mono ?_
    · rw [hc j l[j] (List.getElem?_eq_getElem hj), List.getD_eq_getElem?_getD, List.getElem?_eq_getElem hj]; rfl
    · rintro e w' ⟨rfl, hw⟩
      exact ⟨ret_bool (by rw [List.take_length]; rfl), hw⟩
end Go.Proofs.Ytiopophoioiafaa
