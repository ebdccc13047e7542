/-
  The law on sets of scopes, walked: a set with a scope contains it, flipping removes it, and subsets are those of sets.
-/
import Derived.Test.YtknplopghgchaaaDrawS
import Derived.Test.YtknplopghgchaaaWith
namespace Go.Proofs.Ytknplopghgchaaa
open Go.RowKit

theorem isSet_of : ∀ (l : List Int) (p : Int), l.Pairwise (· < ·) → (∀ x ∈ l, p < x ∧ x ≤ 99999) → setFrom p l = true := by
  intro l
  induction l with
  | nil => intro p _ _; rfl
  | cons n r ih =>
    intro p hp hr
    obtain ⟨h1, h2⟩ := List.pairwise_cons.1 hp
    have hn := hr n (by simp)
    simp only [setFrom, Bool.and_eq_true, decide_eq_true_eq]
    exact ⟨hn.1, hn.2, ih n h2 fun x hx => ⟨h1 x hx, (hr x (by simp [hx])).2⟩⟩
theorem isSetI_of {l : List Int} (hp : l.Pairwise (· < ·)) (hr : ∀ x ∈ l, 1 ≤ x ∧ x ≤ 99999) : isSetI l = true := isSet_of l 0 hp fun x hx => by have := hr x hx; omega
theorem putL_sub (n : Int) : ∀ (l : List Int) (x : Int), x ∈ putL n l → x = n ∨ x ∈ l := by
  intro l
  induction l with
  | nil => intro x hx; simp [putL] at hx; exact .inl hx
  | cons y r ih =>
    intro x hx
    rw [putL] at hx
    split at hx
    · split at hx
      · rcases List.mem_cons.1 hx with h | h
        · exact .inl h
        · exact .inr h
      · exact .inr hx
    · rcases List.mem_cons.1 hx with h | h
      · exact .inr (by simp [h])
      · rcases ih x h with h | h
        · exact .inl h
        · exact .inr (by simp [h])
theorem putL_has (n : Int) : ∀ l : List Int, n ∈ putL n l := by
  intro l
  induction l with
  | nil => simp [putL]
  | cons y r ih =>
    rw [putL]
    split
    · split
      · simp
      · have : n = y := by omega
        simp [this]
    · simp [ih]
theorem putL_all (n : Int) : ∀ (l : List Int) (x : Int), x ∈ l → x ∈ putL n l := by
  intro l
  induction l with
  | nil => intro x hx; cases hx
  | cons y r ih =>
    intro x hx
    rw [putL]
    split
    · split
      · simp at hx ⊢; exact .inr hx
      · exact hx
    · rcases List.mem_cons.1 hx with h | h
      · simp [h]
      · simp [ih x h]
theorem putL_sorted (n : Int) : ∀ l : List Int, l.Pairwise (· < ·) → (putL n l).Pairwise (· < ·) := by
  intro l
  induction l with
  | nil => intro _; simp [putL]
  | cons y r ih =>
    intro hp
    obtain ⟨h1, h2⟩ := List.pairwise_cons.1 hp
    rw [putL]
    split
    · split
      · refine List.pairwise_cons.2 ⟨fun x hx => ?_, hp⟩
        rcases List.mem_cons.1 hx with h | h
        · omega
        · have := h1 x h; omega
      · exact hp
    · refine List.pairwise_cons.2 ⟨fun x hx => ?_, ih h2⟩
      rcases putL_sub n r x hx with h | h
      · omega
      · exact h1 x h
theorem kind_range {n : Int} (h : kindI n ≠ 0) : 1 ≤ n ∧ n ≤ 99999 := by
  have := mt kindI_zero.2 h
  omega
theorem putL_set {n : Int} {l : List Int} (hl : isSetI l = true) (hn : kindI n ≠ 0) : isSetI (putL n l) = true :=
  isSetI_of (putL_sorted n l (set_sorted hl)) fun x hx => by
    rcases putL_sub n l x hx with h | h
    · rw [h]; exact kind_range hn
    · exact set_range hl h
theorem cutL_set {n : Int} {l : List Int} (hl : isSetI l = true) : isSetI (cutL n l) = true :=
  isSetI_of ((set_sorted hl).filter _) fun x hx => set_range hl ((List.mem_filter.1 hx).1)
theorem cutL_not (n : Int) (l : List Int) : n ∉ cutL n l := by simp [cutL]
theorem subL_of {a b : List Int} (h : ∀ x ∈ a, x ∈ b) : subL a b = true := by
  unfold subL
  rw [List.all_eq_true]
  intro x hx
  simpa using h x hx
theorem subL_no {a b : List Int} {n : Int} (h : n ∈ a) (h2 : n ∉ b) : subL a b = false := by
  unfold subL
  rw [Bool.eq_false_iff]
  intro h3
  rw [List.all_eq_true] at h3
  exact h2 (by simpa using h3 n h)
theorem cutL_length {n : Int} : ∀ l : List Int, l.Pairwise (· < ·) → n ∈ l → l.length = (cutL n l).length + 1 := by
  intro l hp hm
  obtain ⟨k, _, hk, hlt⟩ := idx_spec l n hm
  rw [cutL_at n k l hp hk, List.length_append, List.length_take, List.length_drop]
  omega

/-- All that the law asks of the lists. -/
theorem sets_facts {l : List Int} {n : Int} (hl : isSetI l = true) (hn : kindI n ≠ 0) :
    withL n l = putL n l ∧ flipL n (putL n l) = cutL n (putL n l) ∧ isSetI (putL n l) = true ∧ (putL n l).contains n = true ∧ (cutL n (putL n l)).contains n = false ∧ subTop l (putL n l) = true ∧ subTop (cutL n (putL n l)) l = true ∧
      subTop (cutL n (putL n l)) (putL n l) = true ∧ subTop (putL n l) (cutL n (putL n l)) = false ∧ (putL n l).length = (cutL n (putL n l)).length + 1 := by
  have h1 := putL_set hl hn
  have h2 := putL_has n l
  have h3 := cutL_set (n := n) h1
  have hc : (putL n l).contains n = true := by simpa using h2
  refine ⟨by simp [withL, hl, hn], by unfold flipL; rw [if_pos ⟨h1, hn⟩, if_pos hc], h1, hc, by simpa using cutL_not n (putL n l), ?_, ?_, ?_, ?_, cutL_length _ (set_sorted h1) h2⟩
  · unfold subTop; rw [hl, h1, subL_of (putL_all n l)]; rfl
  · unfold subTop; rw [h3, hl, subL_of]; rfl
    intro x hx
    have hx1 := (List.mem_filter.1 hx).1
    rcases putL_sub n l x hx1 with h | h
    · subst h; exact absurd hx (cutL_not _ _)
    · exact h
  · unfold subTop; rw [h3, h1, subL_of]; rfl
    intro x hx
    exact (List.mem_filter.1 hx).1
  · unfold subTop; rw [h1, h3, subL_no h2 (cutL_not n _)]; rfl

set_option maxRecDepth 100000 in
set_option maxHeartbeats 1600000 in
theorem l2AnySet_any (B g : Nat) (w : World) (A : Option Addr) (c : Nat) (l : List Int) (hc : Cur B g w A c l) :
    Calls Try.prog 159 #[.pointer (some ⟨g, 0, none⟩)] w fun e w' => ∃ (v : Value) (ds : List Int), e = .returned v ∧ ds.length ≤ 4 ∧ w'.ownsRow w.heap.size 3 1 v ds.length (ds.map (Value.int .i64)) ∧ Cur B g w' A c l ∧ Chg [g] w w' := by
  obtain ⟨i0, hi, hz0, hz1, hz2⟩ := info_parts infoI
  have hglt := hc.lt
  go_enter Try.func159, Try.ntmps159
  go_wp2_with fail
  refine (l2Set_any B g _ A c l hc).mono ?_
  rintro e w1 ⟨v, ds, rfl, hd, hown1, hc1, hch1⟩
  have z1 := hch1.size
  go_wp2_with fail
  refine (l01Once_any 6 (by omega) (by omega) B g _ A c l hc1).mono ?_
  rintro e w2 ⟨⟨x, rfl⟩, hc2, hch2⟩
  have hown2 := iblk_of_row hown1 hglt hch2
  have hchA := hch1.trans hch2
  have z2 := hch2.size
  clear hown1 hch1 hch2 hc1
  cases x
  · go_wp2_with fail
    go_ret
    first | exact ⟨_, rfl, ds, by omega, hown2, hc2, hchA⟩ | exact ⟨_, ds, rfl, by omega, hown2, hc2, hchA⟩
  · go_wp2_with fail
    have bL : Below w2.heap.size w2 (w2.alloc (.cells #[.int .i64 0, .int .i64 1, .int .i64 (-1), .int .i64 99999, .int .i64 100000] 3)) := (Below.refl _ _).alloc (Nat.le_refl _) _
    have hlit : IIn (w2.alloc (.cells #[.int .i64 0, .int .i64 1, .int .i64 (-1), .int .i64 99999, .int .i64 100000] 3)) (w2.heap.size + 1) (some ⟨w2.heap.size, 0, none⟩) 5 [0, 1, -1, 99999, 100000] := ⟨by simp, by simp, fun _ => ⟨w2.heap.size, 0, rfl, by omega, fun j u hu => by
      rw [cell_of_row _ _ _ _ _ _ (heap_alloc_new w2 _)]
      match j, hu with
      | 0, hu => simp at hu; subst hu; rfl
      | 1, hu => simp at hu; subst hu; rfl
      | 2, hu => simp at hu; subst hu; rfl
      | 3, hu => simp at hu; subst hu; rfl
      | 4, hu => simp at hu; subst hu; rfl
      | j + 5, hu => simp at hu⟩⟩
    refine (l01Int_any (some ⟨w2.heap.size, 0, none⟩) 5 [0, 1, -1, 99999, 100000] (w2.heap.size + 1) (by simp) (by simp) B g _ A c l (hc2.below bL) hlit (by simp) (by rw [iblk_some (by simp)]; simp; omega)).mono ?_
    rintro e w3 ⟨⟨y, rfl, hy⟩, hc3, hch3⟩
    have hch4 : Chg [g] w2 w3 := (Chg.of_below bL).trans hch3
    have hown3 := iblk_of_row hown2 hglt hch4
    have hchB := hchA.trans hch4
    have z3 := hch4.size
    clear hown2 hch3 hch4 bL hlit hy hchA
    go_wp2_with (at_builtin; refine wpList_append_own _ rfl _ _ 33 rfl w.heap.size 3 i0 (.int .i64 0) 1 8 Try.underlying33 hi hz0 hz1 hz2 rfl (by decide) _ ds.length (ds.map (Value.int .i64)) rfl (hown3.alloc _) ⟨w3.heap.size, 0, none⟩ 1 1 [.int .i64 y] rfl rfl (inews _ _) (ione _) (by unfold maxLen; omega) (by omega) (by simp; omega) ?_)
    intro v' w4 hown' hgr _
    have hbase : ∀ q, v.ownBlock = some q → g ≠ q := fun q hq => by have := (hown3.lt q hq).1; omega
    have hcur4 : Cur B g w4 A c l := hc3.keep (by have := hgr.size; simp at this; omega) (fun k hk => (hgr.block k (by simp; have := hc3.lt; omega) (fun e => by have := (hown3.lt k e.symm).1; omega)).trans (Below.heap_alloc _ _ _ (by have := hc3.lt; omega)))
    have hb4 : Below w.heap.size w3 w4 := ((Below.refl _ _).alloc (by omega) _).grown hgr (by simp; omega) (fun k hk => (hown3.lt k hk).1)
    have hchC : Chg [g] w w4 := ⟨hb4.os.trans hchB.os, hb4.tape.trans hchB.tape, hb4.output.trans hchB.output, Nat.le_trans hchB.size hb4.size, fun k hk hn => (hb4.block k hk).trans (hchB.block k hk hn)⟩
    have r1 : w4.ownsRow w.heap.size 3 1 v' (ds ++ [y]).length ((ds ++ [y]).map (Value.int .i64)) := by simpa using hown'
    clear hown' hgr hown3 hb4 hchB
    go_wp2_with fail
    go_ret
    first | exact ⟨_, rfl, ds ++ [y], by simp; omega, r1, hcur4, hchC⟩ | exact ⟨_, ds ++ [y], rfl, by simp; omega, r1, hcur4, hchC⟩

set_option maxRecDepth 100000 in
set_option maxHeartbeats 800000 in
theorem drawHas_any (A : Option Addr) (c : Nat) (l : List Int) (B : Nat) (w : World) (hll : l.length ≤ 2000000) (hin : BIn w B A c l) (hB : B ≤ w.heap.size) :
    Calls Try.prog 103 #[.slice A l.length c] w fun e w' => ∃ (A' : Option Addr) (c' : Nat) (ds : List Int) (n : Nat), e = .returned (.tuple #[.slice A' ds.length c', .int .i64 n]) ∧ ds.length ≤ 4 ∧ IOwn w.heap.size w'.heap.size w' A' c' ds ∧ Below w.heap.size w w' := by
  go_enter Try.func103, Try.ntmps103
  go_wp2_with fail
  refine (l01New_any A c l B _ hll hin hB).mono ?_
  rintro e w1 ⟨rfl, hc1, hb1⟩
  have z1 := hb1.size
  go_wp2_with fail
  refine (l2AnySet_any B w.heap.size _ A c l hc1).mono ?_
  rintro e w2 ⟨v, ds, rfl, hd, hown2, hc2, hch2⟩
  have z2 := hch2.size
  obtain ⟨A', c', rfl, hio⟩ := own_of_row hown2
  go_wp2_with fail
  refine (l01Below_any 10 (by omega) (by omega) B w.heap.size _ A c l hc2).mono ?_
  rintro e w3 ⟨⟨x, rfl, hx⟩, hc3, hch3⟩
  have z3 := hch3.size
  have hlt1 := hc1.lt
  have hio3 := hio.chg hch3 (Nat.le_refl _) (fun k hk => by have := hio.lo_ k hk; simp; omega)
  have hb : Below w.heap.size w w3 := hb1.trans ((hch2.trans hch3).below (by simp) (by omega))
  clear hown2 hio hch2 hch3
  go_wp2_with fail
  go_ret2
  exact ⟨A', c', ds, x, rfl, hd, hio3.wide (by omega) (by omega), hb⟩

set_option maxRecDepth 100000 in
set_option maxHeartbeats 800000 in
theorem drawWith_any (A : Option Addr) (c : Nat) (l : List Int) (B : Nat) (w : World) (hll : l.length ≤ 2000000) (hin : BIn w B A c l) (hB : B ≤ w.heap.size) :
    Calls Try.prog 32 #[.slice A l.length c] w fun e w' => ∃ (A' : Option Addr) (c' : Nat) (ds : List Int) (n : Nat), e = .returned (.tuple #[.slice A' ds.length c', .int .i64 n]) ∧ ds.length ≤ 4 ∧ IOwn w.heap.size w'.heap.size w' A' c' ds ∧ Below w.heap.size w w' := by
  go_enter Try.func32, Try.ntmps32
  go_wp2_with fail
  refine (drawHas_any A c l B _ hll hin hB).mono ?_
  rintro e w1 ⟨A', c', ds, x, rfl, hd, hio, hb⟩
  go_wp2_with fail
  go_ret2
  exact ⟨A', c', ds, x, rfl, hd, hio, hb⟩
end Go.Proofs.Ytknplopghgchaaa
