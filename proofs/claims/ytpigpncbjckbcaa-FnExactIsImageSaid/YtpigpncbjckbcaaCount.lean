/-
  Counting nodes and depths.
-/
import Derived.Test.YtpigpncbjckbcaaTrees
namespace Go.Proofs.Ytpigpncbjckbcaa
open Go.RowKit
namespace D
theorem depth_er (d : D) : depth (er d) = depth d := by
  induction d using ind with
  | h d ih =>
    cases d with
    | mk k n t A c l =>
      have key : ∀ (a : List D), (∀ x ∈ a, x ∈ l) → depthL (erL a) = depthL a := by
        intro a
        induction a with
        | nil => intro _; rfl
        | cons x r ih2 =>
          intro hs
          simp only [depthL, erL, ih x (hs x (by simp)), ih2 fun y hy => hs y (by simp [hy])]
      simp only [er, depth, key l (fun _ h => h)]
theorem depth_of_er {d e : D} (h : er d = er e) : d.depth = e.depth := by rw [← depth_er, h, depth_er]
theorem depth_le_size (d : D) : d.depth ≤ d.size := by
  induction d using ind with
  | h d ih =>
    cases d with
    | mk k n t A c l =>
      have key : ∀ (a : List D), (∀ x ∈ a, x ∈ l) → depthL a ≤ sizeL a := by
        intro a
        induction a with
        | nil => intro _; simp [depthL]
        | cons x r ih2 =>
          intro hs
          have := ih x (hs x (by simp))
          have := ih2 fun y hy => hs y (by simp [hy])
          simp only [depthL, sizeL]
          omega
      have := key l (fun _ h => h)
      simp only [depth, size]
      omega
end D

set_option maxHeartbeats 400000 in
theorem specDepth_any : ∀ (m : Nat) (d : D) (B : Nat) (w : World), d.size ≤ m → m ≤ 2000000 → d.In w B → B ≤ w.heap.size →
    Calls Try.prog 78 #[d.val] w fun e w' => e = .returned (.int .i64 d.depth) ∧ Below w.heap.size w w' := by
  intro m
  induction m with
  | zero => intro d B w h; have := d.size_pos; omega
  | succ m ih =>
    intro d B w hm hm2 hin hB
    obtain ⟨k, n, t, A, c, l⟩ := d
    have hcap := hin.cap
    have hdl := D.depth_le_size (.mk k n t A c l)
    simp only [D.depth] at hdl
    simp only [D.l, D.c, D.t] at hcap
    simp only [D.val, D.k, D.n, D.t, D.A, D.l, D.c]
    go_enter Try.func78, Try.ntmps78
    go_wp2_with fail
    go_loopw [3, 9] (fun cnt i wr => ∃ j : Nat, j ≤ l.length ∧ i = .int .i64 j ∧ cnt = .int .i64 (D.depthL (l.take j) : Int) ∧ Below w.heap.size w wr) (fun _ i _ => l.length - (intOf i).toNat)
    case atStart => exact ⟨0, Nat.zero_le _, rfl, by simp [D.depthL], (Below.refl _ _).alloc (Nat.le_refl _) _⟩
    case round =>
      obtain ⟨j, hj, rfl, rfl, hb⟩ := hrel
      by_cases hlt : j < l.length
      · obtain ⟨b, o, rfl, hblk, c0, c1, c2, c3, hix⟩ := (hin.below (hb.mono hB)).at_ (i := j) (x := l[j]) (List.getElem?_eq_getElem hlt)
        have hsz := D.sizeL_append (l.take j) (l.drop j)
        rw [List.take_append_drop, List.drop_eq_getElem_cons hlt] at hsz
        simp only [D.sizeL] at hsz
        have hmm : 1 + D.sizeL l ≤ m + 1 := hm
        have hq : D.sizeL (l.take j) + l[j].size ≤ D.sizeL l := by omega
        have HS : Hid (D.depthL (l.take (j + 1)) = max (D.depthL (l.take j)) l[j].depth) := by
          rw [List.take_succ_eq_append_getElem hlt, D.depthL_append]; simp [D.depthL, Hid]
        have hs2 := hb.size
        clear hsz hm
        go_wp2_with fail
        refine (ih l[j] B _ (by omega) (by omega) ((hix.alloc (by omega) _)) (by simp; omega)).mono ?_
        rintro e w1 ⟨rfl, hb1⟩
        have hb2 := hb.trans (((Below.refl _ _).alloc (by omega) _).trans (hb1.mono (by simp; omega)))
        by_cases hgt : D.depthL (l.take j) < l[j].depth
        · have HG : Hid (D.depthL (l.take (j + 1)) = l[j].depth) := by rw [Hid, HS.out]; omega
          go_wp2_with fail
          go_roundw
          case rel => exact ⟨j + 1, by omega, by go_num, by rw [HG.out]; try (simp; omega), hb2⟩
          case measure => simp [intOf]; omega
        · have HG : Hid (D.depthL (l.take (j + 1)) = D.depthL (l.take j)) := by rw [Hid, HS.out]; omega
          go_wp2_with fail
          go_roundw
          case rel => exact ⟨j + 1, by omega, by go_num, by rw [HG.out]; try (simp; omega), hb2⟩
          case measure => simp [intOf]; omega
      · have hj' : j = l.length := by omega
        have e1 : l.take j = l := List.take_of_length_le (by omega)
        rw [e1]
        have hm3 : 1 + D.sizeL l ≤ m + 1 := hm
        simp only [D.size] at hdl
        clear e1
        go_wp2_with fail
        go_ret
        exact ⟨ret_int (by simp [D.depth]), hb⟩
end Go.Proofs.Ytpigpncbjckbcaa
