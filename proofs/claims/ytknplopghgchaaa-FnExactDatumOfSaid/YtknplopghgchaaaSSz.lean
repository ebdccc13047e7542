/-
  The laws' own functions on syntax objects: sizes.
-/
import Derived.Test.YtknplopghgchaaaSOwn
import Derived.Test.YtknplopghgchaaaSz
namespace Go.Proofs.Ytknplopghgchaaa
open Go.RowKit

def SSzOk (m : Nat) : Prop := ∀ (d : S) (B : Nat) (w : World) (left : Int), d.size ≤ m → 0 ≤ left → left ≤ 1048576 → d.In w B → B ≤ w.heap.size →
    Calls Try.prog 63 #[d.val, .int .i64 left] w fun e w' => e = .returned (.int .i64 (szR d.bulk left)) ∧ Below w.heap.size w w'
def SSzLOk (m : Nat) : Prop := ∀ (k n : Int) (t : ByteArray) (sa : Option Addr) (sc : Nat) (s : List Int) (A : Option Addr) (c : Nat) (l : List S) (B : Nat) (w : World) (left : Int), S.sizeL l ≤ m → 0 ≤ left → left ≤ 1048576 → (S.mk k n t sa sc s A c l).In w B → B ≤ w.heap.size →
    Calls Try.prog 130 #[.slice A l.length c, .int .i64 left] w fun e w' => e = .returned (.int .i64 (szR (S.bulkL l) left)) ∧ Below w.heap.size w w'

theorem sbulkL_take_le (l : List S) (j : Nat) : S.bulkL (l.take j) + (l.length - j) ≤ S.bulkL l := by
  have h := S.bulkL_append (l.take j) (l.drop j)
  rw [List.take_append_drop] at h
  have h2 : ∀ r : List S, r.length ≤ S.bulkL r := fun r => by
    induction r with
    | nil => simp
    | cons d r ih => simp [S.bulkL]; omega
  have := h2 (l.drop j)
  rw [List.length_drop] at this
  omega
theorem sbulkL_take_succ (l : List S) (j : Nat) (h : j < l.length) : S.bulkL (l.take (j + 1)) = S.bulkL (l.take j) + 1 + l[j].bulk := by
  rw [List.take_succ_eq_append_getElem h, S.bulkL_append]; simp [S.bulkL]; omega
theorem ssizeL_get_le (l : List S) (j : Nat) (h : j < l.length) : l[j].size ≤ S.sizeL l := S.sizeL_mem (List.getElem_mem h)

set_option maxHeartbeats 400000 in
theorem sszL_step (m : Nat) (ih : SSzOk m) : SSzLOk m := by
  intro k n t sa sc s A c l B w left hm h0 hl hin hB
  have hcap := hin.cap
  simp only [S.l, S.c, S.t] at hcap
  by_cases hfit : (l.length : Int) ≤ left
  · have hn : ¬ (left - (l.length : Int) < 0) := by omega
    have hb0 := sbulkL_take_le l 0
    go_enter Try.func130, Try.ntmps130
    go_wp2_with fail
    go_loopw [1, 5] (fun lf i wr => ∃ j : Nat, j ≤ l.length ∧ i = .int .i64 j ∧ (S.bulkL (l.take j) : Int) + (l.length - j : Nat) ≤ left ∧ lf = .int .i64 (left - S.bulkL (l.take j) - (l.length - j : Nat)) ∧ Below w.heap.size w wr) (fun _ i _ => l.length - (intOf i).toNat)
    case atStart => exact ⟨0, Nat.zero_le _, rfl, by simp [S.bulkL]; omega, by simp [S.bulkL], Below.refl _ _⟩
    case round =>
      obtain ⟨j, hj, rfl, hf, rfl, hb⟩ := hrel
      by_cases hlt : j < l.length
      · obtain ⟨b, o, rfl, hblk, c0, c1, c2, c3, c4, hix⟩ := (hin.below (hb.mono hB)).at_ (i := j) (x := l[j]) (List.getElem?_eq_getElem hlt)
        have hs2 := hb.size
        have hsz := ssizeL_get_le l j hlt
        have HS : Hid (S.bulkL (l.take (j + 1)) = S.bulkL (l.take j) + 1 + l[j].bulk) := sbulkL_take_succ l j hlt
        have hle := sbulkL_take_le l (j + 1)
        rw [HS.out] at hle
        go_wp2_with fail
        refine (ih l[j] B _ _ (by omega) (by omega) (by omega) hix (by omega)).mono ?_
        rintro e w1 ⟨rfl, hb1⟩
        by_cases hy : (l[j].bulk : Int) ≤ left - S.bulkL (l.take j) - (l.length - j : Nat)
        · rw [szR_yes hy]
          have hy2 : ¬ (left - (S.bulkL (l.take j) : Int) - (l.length - j : Nat) - (l[j].bulk : Int) < 0) := by omega
          go_wp2_with fail
          go_roundw
          case rel => exact ⟨j + 1, by omega, by go_num, by rw [HS.out]; omega, by rw [HS.out]; go_num, hb.trans (hb1.mono (by omega))⟩
          case measure => simp [intOf]; omega
        · rw [szR_no hy]
          go_wp2_with fail
          go_ret
          exact ⟨ret_int (by rw [szR_no (by omega)]), hb.trans (hb1.mono (by omega))⟩
      · have hj' : j = l.length := by omega
        subst hj'
        go_wp2_with fail
        go_ret
        rw [List.take_length] at *
        exact ⟨ret_int (by rw [szR_yes (by omega)]; omega), hb⟩
  · have hn : left - (l.length : Int) < 0 := by omega
    go_enter Try.func130, Try.ntmps130
    go_wp2_with fail
    go_ret
    have := sbulkL_take_le l 0
    exact ⟨ret_int (by rw [szR_no (by omega)]), Below.refl _ _⟩

theorem szIR_any (A : Option Addr) (c : Nat) (l : List Int) (w : World) (left : Int) (hll : l.length ≤ c ∧ c ≤ 9223372036854775807) (h0 : 0 ≤ left) (h1 : left ≤ 1048576) :
    Calls Try.prog 129 #[.slice A l.length c, .int .i64 left] w fun e w' => e = .returned (.int .i64 (szR l.length left)) ∧ w' = w := by
  have h := szI_any A c l w left hll h0 h1
  unfold szR
  exact h

set_option maxHeartbeats 400000 in
theorem ssz_any : ∀ m, SSzOk m := by
  intro m
  induction m with
  | zero => intro d B w left h; have := d.size_pos; omega
  | succ m ih =>
    intro d B w left hm h0 hl hin hB
    obtain ⟨k, n, t, sa, sc, s, A, c, l⟩ := d
    have hL := sszL_step m ih
    have hcap := hin.cap
    have hsco := hin.scopes.cap
    simp only [S.l, S.c, S.t] at hcap
    simp only [S.sc, S.s] at hsco
    simp only [S.val, S.k, S.n, S.t, S.sa, S.sc, S.s, S.A, S.l, S.c]
    have hmm : S.sizeL l ≤ m := by simp only [S.size] at hm; omega
    by_cases hfit : (t.size : Int) ≤ left
    · have hn : ¬ (left - (t.size : Int) < 0) := by omega
      by_cases hfit2 : (s.length : Int) ≤ left - t.size
      · have hn2 : ¬ (left - (t.size : Int) - (s.length : Int) < 0) := by omega
        go_enter Try.func63, Try.ntmps63
        go_wp2_with fail
        refine (szIR_any sa sc s _ _ hsco (by omega) (by omega)).mono ?_
        rintro e w0 ⟨rfl, hw⟩
        obtain rfl := hw.symm
        rw [szR_yes (by omega)]
        go_wp2_with fail
        refine (hL k n t sa sc s A c l B _ _ hmm (by omega) (by omega) (hin.alloc hB _) (by simp; omega)).mono ?_
        rintro e w1 ⟨rfl, hb1⟩
        have hb : Below w.heap.size w w1 := ((Below.refl _ _).alloc (Nat.le_refl _) _).trans (hb1.mono (by simp))
        by_cases hy : (S.bulkL l : Int) ≤ left - t.size - s.length
        · rw [szR_yes hy]
          have hy2 : ¬ (left - (t.size : Int) - (s.length : Int) - (S.bulkL l : Int) < 0) := by omega
          go_wp2_with fail
          go_ret
          exact ⟨ret_int (by simp only [S.bulk]; rw [szR_yes (by omega)]; omega), hb⟩
        · rw [szR_no hy]
          go_wp2_with fail
          go_ret
          exact ⟨ret_int (by simp only [S.bulk]; rw [szR_no (by omega)]), hb⟩
      · go_enter Try.func63, Try.ntmps63
        go_wp2_with fail
        refine (szIR_any sa sc s _ _ hsco (by omega) (by omega)).mono ?_
        rintro e w0 ⟨rfl, hw⟩
        obtain rfl := hw.symm
        rw [szR_no (by omega)]
        go_wp2_with fail
        go_ret
        exact ⟨ret_int (by simp only [S.bulk]; rw [szR_no (by omega)]), (Below.refl _ _).alloc (Nat.le_refl _) _⟩
    · have hn : left - (t.size : Int) < 0 := by omega
      go_enter Try.func63, Try.ntmps63
      go_wp2_with fail
      go_ret
      exact ⟨ret_int (by simp only [S.bulk]; rw [szR_no (by omega)]), (Below.refl _ _).alloc (Nat.le_refl _) _⟩
end Go.Proofs.Ytknplopghgchaaa
