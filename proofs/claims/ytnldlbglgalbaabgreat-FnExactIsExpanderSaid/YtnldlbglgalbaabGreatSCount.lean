/-
  Counting nodes and depths of syntax objects.
-/
import Derived.Test.YtnldlbglgalbaabGreatSTrees
namespace Go.Proofs.YtnldlbglgalbaabGreat
open Go.RowKit
namespace S
theorem eqB_refl : ∀ d : S, eqB d d = true := by
  intro d
  induction d using ind with
  | h d ih =>
    cases d with
    | mk k n t sa sc s A c l =>
      have key : ∀ l' : List S, (∀ x ∈ l', x ∈ l) → eqL l' l' = true := by
        intro l'
        induction l' with
        | nil => intro _; rfl
        | cons x r ih2 =>
          intro hs
          simp only [eqL, ih x (hs x (by simp)), ih2 fun y hy => hs y (by simp [hy]), Bool.and_self]
      simp [eqB, key l (fun _ h => h)]
theorem eqB_er : ∀ d e : S, eqB d e = eqB (er d) (er e) := by
  intro d
  induction d using ind with
  | h d ih =>
    cases d with
    | mk k n t sa sc s A c l =>
      intro e
      cases e with
      | mk k' n' t' sa' sc' s' A' c' l' =>
        have key : ∀ (a : List S), (∀ x ∈ a, x ∈ l) → ∀ b, eqL a b = eqL (erL a) (erL b) := by
          intro a
          induction a with
          | nil => intro _ b; cases b <;> rfl
          | cons x r ih2 =>
            intro hs b
            cases b with
            | nil => rfl
            | cons y s => simp only [eqL, erL, ← ih x (hs x (by simp)), ← ih2 (fun y hy => hs y (by simp [hy]))]
        simp only [eqB, er, key l (fun _ h => h)]
theorem eqB_of_er {d e : S} (h : er d = er e) : eqB d e = true := by rw [eqB_er, h]; exact eqB_refl _
theorem sizeL_er (l : List S) : sizeL (erL l) = sizeL l := by
  have key : ∀ d : S, size (er d) = size d := by
    intro d
    induction d using ind with
    | h d ih =>
      cases d with
      | mk k n t sa sc s A c l =>
        have key : ∀ (a : List S), (∀ x ∈ a, x ∈ l) → sizeL (erL a) = sizeL a := by
          intro a
          induction a with
          | nil => intro _; rfl
          | cons x r ih2 =>
            intro hs
            simp only [sizeL, erL, ih x (hs x (by simp)), ih2 fun y hy => hs y (by simp [hy])]
        simp only [er, size, key l (fun _ h => h)]
  induction l with
  | nil => rfl
  | cons x r ih => simp only [sizeL, erL, key, ih]
theorem size_er (d : S) : size (er d) = size d := by cases d; simp only [er, size, sizeL_er]
theorem erl_of_er {d e : S} (h : er d = er e) : erL d.l = erL e.l := by cases d; cases e; simp only [er, S.mk.injEq] at h; exact h.2.2.2.2.2.2.2.2
theorem er_er : ∀ d : S, er (er d) = er d := by
  intro d
  induction d using ind with
  | h d ih =>
    cases d with
    | mk k n t sa sc s A c l =>
      have key : ∀ (a : List S), (∀ x ∈ a, x ∈ l) → erL (erL a) = erL a := by
        intro a
        induction a with
        | nil => intro _; rfl
        | cons x r ih2 => intro hs; simp only [erL, ih x (hs x (by simp)), ih2 fun y hy => hs y (by simp [hy])]
      simp only [er, key l (fun _ h => h)]
theorem size_of_er {d e : S} (h : er d = er e) : d.size = e.size := by rw [← size_er, h, size_er]
theorem bulk_size (d : S) : d.size ≤ d.bulk + 1 := by
  induction d using ind with
  | h d ih =>
    cases d with
    | mk k n t sa sc s A c l =>
      have key : ∀ (a : List S), (∀ x ∈ a, x ∈ l) → sizeL a ≤ bulkL a := by
        intro a
        induction a with
        | nil => intro _; simp [sizeL]
        | cons x r ih2 =>
          intro hs
          have h1 := ih x (hs x (by simp))
          have h2 := ih2 fun y hy => hs y (by simp [hy])
          simp only [sizeL, bulkL]
          omega
      have := key l (fun _ h => h)
      simp only [size, bulk]
      omega
theorem bulkL_size (l : List S) : sizeL l ≤ bulkL l := by
  induction l with
  | nil => simp [sizeL]
  | cons x r ih => have := bulk_size x; simp only [sizeL, bulkL]; omega
theorem depth_er (d : S) : depth (er d) = depth d := by
  induction d using ind with
  | h d ih =>
    cases d with
    | mk k n t sa sc s A c l =>
      have key : ∀ (a : List S), (∀ x ∈ a, x ∈ l) → depthL (erL a) = depthL a := by
        intro a
        induction a with
        | nil => intro _; rfl
        | cons x r ih2 =>
          intro hs
          simp only [depthL, erL, ih x (hs x (by simp)), ih2 fun y hy => hs y (by simp [hy])]
      simp only [er, depth, key l (fun _ h => h)]
theorem depth_of_er {d e : S} (h : er d = er e) : d.depth = e.depth := by rw [← depth_er, h, depth_er]
theorem depth_le_size (d : S) : d.depth ≤ d.size := by
  induction d using ind with
  | h d ih =>
    cases d with
    | mk k n t sa sc s A c l =>
      have key : ∀ (a : List S), (∀ x ∈ a, x ∈ l) → depthL a ≤ sizeL a := by
        intro a
        induction a with
        | nil => intro _; simp [depthL]
        | cons x r ih2 =>
          intro hs
          have := ih x (hs x (by simp))
          have := ih2 fun y hy => hs y (by simp [hy])
          simp only [depthL, sizeL]
          omega
      have := key l (fun _ h => h)
      simp only [depth, size]
      omega
end S

set_option maxHeartbeats 400000 in
theorem specSCount_any : ∀ (m : Nat) (d : S) (B : Nat) (w : World), d.size ≤ m → m ≤ 2000000 → d.In w B → B ≤ w.heap.size →
    Calls Tryz.prog 36 #[d.val] w fun e w' => e = .returned (.int .i64 d.size) ∧ Below w.heap.size w w' := by
  intro m
  induction m with
  | zero => intro d B w h; have := d.size_pos; omega
  | succ m ih =>
    intro d B w hm hm2 hin hB
    obtain ⟨k, n, t, sa, sc, s, A, c, l⟩ := d
    have hcap := hin.cap
    simp only [S.l, S.c, S.t] at hcap
    simp only [S.val, S.k, S.n, S.t, S.sa, S.sc, S.s, S.A, S.l, S.c]
    go_enter Tryz.func36, Tryz.ntmps36
    go_wp2_with fail
    go_loopw [3, 9] (fun cnt i wr => ∃ j : Nat, j ≤ l.length ∧ i = .int .i64 j ∧ cnt = .int .i64 (1 + (S.sizeL (l.take j) : Int)) ∧ Below w.heap.size w wr) (fun _ i _ => l.length - (intOf i).toNat)
    case atStart => exact ⟨0, Nat.zero_le _, rfl, by simp [S.sizeL], (Below.refl _ _).alloc (Nat.le_refl _) _⟩
    case round =>
      obtain ⟨j, hj, rfl, rfl, hb⟩ := hrel
      by_cases hlt : j < l.length
      · obtain ⟨b, o, rfl, hblk, c0, c1, c2, c3, c4, hix⟩ := (hin.below (hb.mono hB)).at_ (i := j) (x := l[j]) (List.getElem?_eq_getElem hlt)
        have hsz := S.sizeL_append (l.take j) (l.drop j)
        rw [List.take_append_drop, List.drop_eq_getElem_cons hlt] at hsz
        simp only [S.sizeL] at hsz
        have hmm : 1 + S.sizeL l ≤ m + 1 := hm
        have hq : S.sizeL (l.take j) + l[j].size ≤ S.sizeL l := by omega
        have HS : Hid (S.sizeL (l.take (j + 1)) = S.sizeL (l.take j) + l[j].size) := by
          rw [List.take_succ_eq_append_getElem hlt, S.sizeL_append]; simp [S.sizeL, Hid]
        have hs2 := hb.size
        clear hsz hm
        go_wp2_with fail
        refine (ih l[j] B _ (by omega) (by omega) ((hix.alloc (by omega) _)) (by simp; omega)).mono ?_
        rintro e w1 ⟨rfl, hb1⟩
        go_wp2_with fail
        go_roundw
        case rel => exact ⟨j + 1, by omega, by go_num, by rw [HS.out]; go_num, hb.trans (((Below.refl _ _).alloc (by omega) _).trans (hb1.mono (by simp; omega)))⟩
        case measure => simp [intOf]; omega
      · have hj' : j = l.length := by omega
        go_wp2_with fail
        go_ret
        exact ⟨ret_int (by rw [List.take_of_length_le (by omega)]; simp [S.size]), hb⟩

set_option maxHeartbeats 400000 in
theorem specSDepth_any : ∀ (m : Nat) (d : S) (B : Nat) (w : World), d.size ≤ m → m ≤ 2000000 → d.In w B → B ≤ w.heap.size →
    Calls Tryz.prog 67 #[d.val] w fun e w' => e = .returned (.int .i64 d.depth) ∧ Below w.heap.size w w' := by
  intro m
  induction m with
  | zero => intro d B w h; have := d.size_pos; omega
  | succ m ih =>
    intro d B w hm hm2 hin hB
    obtain ⟨k, n, t, sa, sc, s, A, c, l⟩ := d
    have hcap := hin.cap
    have hdl := S.depth_le_size (.mk k n t sa sc s A c l)
    simp only [S.depth] at hdl
    simp only [S.l, S.c, S.t] at hcap
    simp only [S.val, S.k, S.n, S.t, S.sa, S.sc, S.s, S.A, S.l, S.c]
    go_enter Tryz.func67, Tryz.ntmps67
    go_wp2_with fail
    go_loopw [3, 9] (fun cnt i wr => ∃ j : Nat, j ≤ l.length ∧ i = .int .i64 j ∧ cnt = .int .i64 (S.depthL (l.take j) : Int) ∧ Below w.heap.size w wr) (fun _ i _ => l.length - (intOf i).toNat)
    case atStart => exact ⟨0, Nat.zero_le _, rfl, by simp [S.depthL], (Below.refl _ _).alloc (Nat.le_refl _) _⟩
    case round =>
      obtain ⟨j, hj, rfl, rfl, hb⟩ := hrel
      by_cases hlt : j < l.length
      · obtain ⟨b, o, rfl, hblk, c0, c1, c2, c3, c4, hix⟩ := (hin.below (hb.mono hB)).at_ (i := j) (x := l[j]) (List.getElem?_eq_getElem hlt)
        have hsz := S.sizeL_append (l.take j) (l.drop j)
        rw [List.take_append_drop, List.drop_eq_getElem_cons hlt] at hsz
        simp only [S.sizeL] at hsz
        have hmm : 1 + S.sizeL l ≤ m + 1 := hm
        have hq : S.sizeL (l.take j) + l[j].size ≤ S.sizeL l := by omega
        have HS : Hid (S.depthL (l.take (j + 1)) = max (S.depthL (l.take j)) l[j].depth) := by
          rw [List.take_succ_eq_append_getElem hlt, S.depthL_append]; simp [S.depthL, Hid]
        have hs2 := hb.size
        clear hsz hm
        go_wp2_with fail
        refine (ih l[j] B _ (by omega) (by omega) ((hix.alloc (by omega) _)) (by simp; omega)).mono ?_
        rintro e w1 ⟨rfl, hb1⟩
        have hb2 := hb.trans (((Below.refl _ _).alloc (by omega) _).trans (hb1.mono (by simp; omega)))
        by_cases hgt : S.depthL (l.take j) < l[j].depth
        · have HG : Hid (S.depthL (l.take (j + 1)) = l[j].depth) := by rw [Hid, HS.out]; omega
          go_wp2_with fail
          go_roundw
          case rel => exact ⟨j + 1, by omega, by go_num, by rw [HG.out]; try (simp; omega), hb2⟩
          case measure => simp [intOf]; omega
        · have HG : Hid (S.depthL (l.take (j + 1)) = S.depthL (l.take j)) := by rw [Hid, HS.out]; omega
          go_wp2_with fail
          go_roundw
          case rel => exact ⟨j + 1, by omega, by go_num, by rw [HG.out]; try (simp; omega), hb2⟩
          case measure => simp [intOf]; omega
      · have hj' : j = l.length := by omega
        have e1 : l.take j = l := List.take_of_length_le (by omega)
        rw [e1]
        have hm3 : 1 + S.sizeL l ≤ m + 1 := hm
        simp only [S.size] at hdl
        clear e1
        go_wp2_with fail
        go_ret
        exact ⟨ret_int (by simp [S.depth]), hb⟩
end Go.Proofs.YtnldlbglgalbaabGreat
