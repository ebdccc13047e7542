/-
  Which nodes of syntax objects are valid.
-/
import Derived.Test.YtnldlbglgalbaabGreatNode
import Derived.Test.YtnldlbglgalbaabGreatScSets
import Derived.Test.YtnldlbglgalbaabGreatSBase
namespace Go.Proofs.YtnldlbglgalbaabGreat
open Go.RowKit

/-- A node of a syntax object is valid, apart from its items. -/
def sNodeOk (k n : Int) (t : ByteArray) (m : Nat) (s : List Int) : Bool := nodeOk k n t m && (isSetI s && (decide (s.length = 0) || decide (k = 1)))
theorem nodeOk_items {k n : Int} {t : ByteArray} {m : Nat} (hk : k ≠ 0) (hm : 0 < m) : nodeOk k n t m = false := by
  unfold nodeOk
  have : decide (m = 0) = false := by simp; omega
  rw [if_neg hk, this]
  simp
theorem nodeOk_none {k n : Int} {t : ByteArray} {m : Nat} (h : k = 0 ∨ m = 0) : nodeOk k n t m = nodeOk k n t 0 := by
  rcases h with h | h
  · subst h; unfold nodeOk; simp
  · rw [h]

set_option maxHeartbeats 400000 in
theorem nodeDatum_any (k n : Int) (t : ByteArray) (sa : Option Addr) (sc m : Nat) (A : Option Addr) (c j : Nat) (w : World) :
    Calls Tryz.prog 116 #[.agg #[.int .i64 k, .int .i64 n, .string t, .slice sa m sc, .slice A j c]] w fun e w' => e = .returned (.agg #[.int .i64 k, .int .i64 n, .string t, .slice none 0 0]) ∧ Below w.heap.size w w' := by
  go_enter Tryz.func116, Tryz.ntmps116
  go_wp2_with fail
  refine bodyPost_ret (v := .agg #[.int .i64 k, .int .i64 n, .string t, .slice none 0 0]) (by simp [results, Tryz.results116, go_sem]) rfl ⟨rfl, ?_⟩
  first
    | exact ((Below.refl _ _).alloc (Nat.le_refl _) _).alloc (by simp) _
    | exact (((((((Below.refl _ _).alloc (Nat.le_refl _) _).alloc (by simp) _).setCell (by simp) _).setCell (by simp) _).setCell (by simp) _).setCell (by simp) _)

set_option maxRecDepth 100000 in
set_option maxHeartbeats 6000000 in
theorem validNode_any (k n : Int) (t : ByteArray) (sa : Option Addr) (sc : Nat) (s : List Int) (A : Option Addr) (c : Nat) (l : List S) (B : Nat) (w : World) (hin : (S.mk k n t sa sc s A c l).In w B) (hB : B ≤ w.heap.size) :
    Calls Tryz.prog 102 #[.agg #[.int .i64 k, .int .i64 n, .string t, .slice sa s.length sc, .slice A l.length c]] w fun e w' => e = .returned (.bool (sNodeOk k n t l.length s)) ∧ Below w.heap.size w w' := by
  have hcap := hin.cap
  have hsc := hin.scopes
  simp only [S.l, S.c, S.t] at hcap
  simp only [S.sa, S.sc, S.s] at hsc
  have hscap := hsc.cap
  by_cases h1 : k ≠ 0 ∧ 0 < l.length
  · obtain ⟨h1, h2⟩ := h1
    have H : Hid (sNodeOk k n t l.length s = false) := by show _ = _; unfold sNodeOk; rw [nodeOk_items h1 h2]; rfl
    have e1 : (k != 0) = true := by simpa using h1
    have e2 : (0 : Int) < (l.length : Int) := by omega
    clear h1
    go_enter Tryz.func102, Tryz.ntmps102
    go_wp2_with fail
    go_ret
    exact ⟨ret_bool H.out.symm, (Below.refl _ _).alloc (Nat.le_refl _) _⟩
  · have hkl : k = 0 ∨ l.length = 0 := by
      by_cases hk : k = 0
      · exact .inl hk
      · right
        rcases Nat.eq_zero_or_pos l.length with h | h
        · exact h
        · exact absurd ⟨hk, h⟩ h1
    have hN := nodeOk_none (n := n) (t := t) hkl
    have HN := Lib.hid hN
    clear h1 hN
    by_cases h3 : k ≠ 1 ∧ 0 < s.length
    · obtain ⟨h3, h4⟩ := h3
      have H : Hid (sNodeOk k n t l.length s = false) := by
        show _ = _
        have : decide (s.length = 0) = false := decide_eq_false (by omega)
        unfold sNodeOk
        rw [this, decide_eq_false h3]
        simp
      have e3 : (k != 1) = true := by simpa using h3
      have e4 : (0 : Int) < (s.length : Int) := by omega
      clear h3
      rcases hkl with h0 | h0
      · have e0 : (k != 0) = false := by simp [h0]
        clear h0
        go_enter Tryz.func102, Tryz.ntmps102
        go_wp2_with fail
        go_ret
        exact ⟨ret_bool H.out.symm, (Below.refl _ _).alloc (Nat.le_refl _) _⟩
      · cases e0 : (k != 0)
        all_goals
          go_enter Tryz.func102, Tryz.ntmps102
          go_wp2_with fail
          go_ret
          exact ⟨ret_bool H.out.symm, (Below.refl _ _).alloc (Nat.le_refl _) _⟩
    · have hks : k = 1 ∨ s.length = 0 := by
        by_cases hk : k = 1
        · exact .inl hk
        · right
          rcases Nat.eq_zero_or_pos s.length with h | h
          · exact h
          · exact absurd ⟨hk, h⟩ h3
      have H : Hid (sNodeOk k n t l.length s = (nodeOk k n t 0 && isSetI s)) := by
        show _ = _
        have : (decide (s.length = 0) || decide (k = 1)) = true := by
          rcases hks with h | h <;> simp [h]
        unfold sNodeOk
        rw [this, HN.out]
        simp
      clear h3
      have e0 : (k != 0) = false ∨ ((k != 0) = true ∧ ¬ (0 : Int) < (l.length : Int)) := by
        rcases hkl with h | h
        · exact .inl (by simp [h])
        · cases e : (k != 0)
          · exact .inl rfl
          · exact .inr ⟨rfl, by omega⟩
      have e1 : (k != 1) = false ∨ ((k != 1) = true ∧ ¬ (0 : Int) < (s.length : Int)) := by
        rcases hks with h | h
        · exact .inl (by simp [h])
        · cases e : (k != 1)
          · exact .inl rfl
          · exact .inr ⟨rfl, by omega⟩
      clear hkl hks
      rcases e0 with e0 | ⟨e0, e0'⟩
      · rcases e1 with e1 | ⟨e1, e1'⟩
        all_goals
          go_enter Tryz.func102, Tryz.ntmps102
          go_wp2_with fail
          refine (nodeDatum_any k n t sa sc s.length A c l.length _).mono ?_
          rintro e w1 ⟨rfl, hb1⟩
          go_wp2_with fail
          refine (implNode_any k n t none [] 0 _ hcap.2.2).mono ?_
          rintro e w2 ⟨rfl, hb2⟩
          have z1 := hb1.size
          simp only [World.size_alloc] at z1
          have x1 := ((S.Box.new w (.mk k n t sa sc s A c l) 43).below hb1 (by simp)).below hb2 (by omega)
          have g3 : w2.cell? ⟨w.heap.size, 3, none⟩ = some (.slice sa s.length sc) := x1.c3
          have bb : Below w.heap.size w w2 := ((Below.refl _ _).alloc (Nat.le_refl _) _).trans ((hb1.mono (by simp)).trans (hb2.mono (by omega)))
          clear hb1 hb2 x1
          cases hq : nodeOk k n t 0
          · have HF : Hid (sNodeOk k n t l.length s = false) := by show _ = _; rw [H.out, hq]; rfl
            clear hq
            go_wp2_with fail
            go_ret
            exact ⟨ret_bool HF.out.symm, bb⟩
          · have HF : Hid (sNodeOk k n t l.length s = isSetI s) := by show _ = _; rw [H.out, hq]; rfl
            clear hq
            go_wp2_with fail
            refine (implIsSet_any sa sc s B _ (hsc.below (bb.mono hB))).mono ?_
            rintro e w3 ⟨rfl, hw⟩
            obtain rfl := hw.symm
            go_wp2_with fail
            go_ret
            exact ⟨ret_bool HF.out.symm, bb⟩
      · have hl : l = [] := List.length_eq_zero_iff.1 (by omega)
        subst hl
        clear e0'
        simp only [List.length_nil] at *
        rcases e1 with e1 | ⟨e1, e1'⟩
        all_goals
          go_enter Tryz.func102, Tryz.ntmps102
          go_wp2_with fail
          refine (nodeDatum_any k n t sa sc s.length A c 0 _).mono ?_
          rintro e w1 ⟨rfl, hb1⟩
          go_wp2_with fail
          refine (implNode_any k n t none [] 0 _ hcap.2.2).mono ?_
          rintro e w2 ⟨rfl, hb2⟩
          have z1 := hb1.size
          simp only [World.size_alloc] at z1
          have x1 := ((S.Box.new w (.mk k n t sa sc s A c []) 43).below hb1 (by simp)).below hb2 (by omega)
          have g3 : w2.cell? ⟨w.heap.size, 3, none⟩ = some (.slice sa s.length sc) := x1.c3
          have bb : Below w.heap.size w w2 := ((Below.refl _ _).alloc (Nat.le_refl _) _).trans ((hb1.mono (by simp)).trans (hb2.mono (by omega)))
          clear hb1 hb2 x1
          cases hq : nodeOk k n t 0
          · have HF : Hid (sNodeOk k n t 0 s = false) := by show _ = _; rw [H.out, hq]; rfl
            clear hq
            go_wp2_with fail
            go_ret
            exact ⟨ret_bool HF.out.symm, bb⟩
          · have HF : Hid (sNodeOk k n t 0 s = isSetI s) := by show _ = _; rw [H.out, hq]; rfl
            clear hq
            go_wp2_with fail
            refine (implIsSet_any sa sc s B _ (hsc.below (bb.mono hB))).mono ?_
            rintro e w3 ⟨rfl, hw⟩
            obtain rfl := hw.symm
            go_wp2_with fail
            go_ret
            exact ⟨ret_bool HF.out.symm, bb⟩
end Go.Proofs.YtnldlbglgalbaabGreat
