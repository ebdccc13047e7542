/-
  The laws' own functions on syntax objects: equality.
-/
import Derived.Test.YtknplopghgchaaaSBox
import Derived.Test.YtknplopghgchaaaProg
import Derived.Handy
import Derived.WalkSpells
import Derived.Deep.RegionHeld3
namespace Go.Proofs.Ytknplopghgchaaa
open Go.RowKit

def SEqOk (m : Nat) : Prop := ∀ (d e : S) (B : Nat) (w : World), d.size ≤ m → d.In w B → e.In w B → B ≤ w.heap.size →
    Calls Try.prog 67 #[d.val, e.val] w fun x w' => x = .returned (.bool (S.eqB d e)) ∧ Below w.heap.size w w'
def SEqLOk (m : Nat) : Prop := ∀ (k n : Int) (t : ByteArray) (sa : Option Addr) (sc : Nat) (s : List Int) (A : Option Addr) (c : Nat) (l : List S) (k' n' : Int) (t' : ByteArray) (sa' : Option Addr) (sc' : Nat) (s' : List Int) (A' : Option Addr) (c' : Nat) (l' : List S) (B : Nat) (w : World), S.sizeL l ≤ m →
    (S.mk k n t sa sc s A c l).In w B → (S.mk k' n' t' sa' sc' s' A' c' l').In w B → B ≤ w.heap.size →
    Calls Try.prog 90 #[.slice A l.length c, .slice A' l'.length c'] w fun x w' => x = .returned (.bool (S.eqL l l')) ∧ Below w.heap.size w w'

set_option maxHeartbeats 800000 in
theorem seq_any (m : Nat) (hL : SEqLOk m) : SEqOk (m + 1) := by
  intro d e B w hm hin hin' hB
  obtain ⟨k, n, t, sa, sc, s, A, c, l⟩ := d
  obtain ⟨k', n', t', sa', sc', s', A', c', l'⟩ := e
  have hcap := hin.cap
  have hcap' := hin'.cap
  have hsc := hin.scopes
  have hsc' := hin'.scopes
  simp only [S.l, S.c, S.t] at hcap hcap'
  simp only [S.sa, S.sc, S.s] at hsc hsc'
  simp only [S.val, S.k, S.n, S.t, S.sa, S.sc, S.s, S.A, S.l, S.c]
  have hmm : S.sizeL l ≤ m := by simp only [S.size] at hm; omega
  have hfin : S.eqB (.mk k n t sa sc s A c l) (.mk k' n' t' sa' sc' s' A' c' l') = (k == k' && (n == n' && (t.toList == t'.toList && (s == s' && S.eqL l l')))) := rfl
  have Hfin := Lib.hid hfin
  clear hfin
  by_cases hk : k = k'
  · by_cases hn : n = n'
    · subst hk hn
      cases ht : (t.toList == t'.toList)
      · have Ht := Lib.hid ht
        go_enter Try.func67, Try.ntmps67
        go_wp2_with fail
        go_ret
        exact ⟨ret_bool (by rw [Hfin.out, Ht.out]; simp), ((Below.refl _ _).alloc (Nat.le_refl _) _).alloc (by simp) _⟩
      · have Ht := Lib.hid ht
        go_enter Try.func67, Try.ntmps67
        go_wp2_with fail
        refine (eqI_any sa sc s sa' sc' s' B _ ((hsc.alloc hB _).alloc (by simp; omega) _) ((hsc'.alloc hB _).alloc (by simp; omega) _) (by simp; omega)).mono ?_
        rintro e w0 ⟨rfl, hb0⟩
        have z0 := hb0.size
        simp only [World.size_alloc] at z0 hb0
        have x0 := (S.Box.new w (.mk k n t sa sc s A c l) 63).below (w' := w0) (B := w.heap.size + 1) (((Below.refl _ _).alloc (by simp) _).trans (hb0.mono (by omega))) (by omega)
        have hy : (w.alloc (.cells #[.int .i64 k, .int .i64 n, .string t, .slice sa s.length sc, .slice A l.length c] 63)).heap.size = w.heap.size + 1 := by simp
        have x1 := (S.Box.new (w.alloc (.cells #[.int .i64 k, .int .i64 n, .string t, .slice sa s.length sc, .slice A l.length c] 63)) (.mk k n t' sa' sc' s' A' c' l') 63).below (w' := w0) (B := w.heap.size + 1 + 1) hb0 (by rw [hy]; omega)
        rw [hy] at x1
        have g4 : w0.cell? ⟨w.heap.size, 4, none⟩ = some (.slice A l.length c) := x0.c4
        have g4' : w0.cell? ⟨w.heap.size + 1, 4, none⟩ = some (.slice A' l'.length c') := x1.c4
        have bb : Below w.heap.size w w0 := (((Below.refl _ _).alloc (Nat.le_refl _) _).alloc (by simp) _).trans (hb0.mono (by omega))
        clear x0 x1 hb0 hy
        cases hs : (s == s')
        · have Hs := Lib.hid hs
          clear hs
          go_wp2_with fail
          go_ret
          exact ⟨ret_bool (by rw [Hfin.out, Ht.out, Hs.out]; simp), bb⟩
        · have Hs := Lib.hid hs
          clear hs
          go_wp2_with fail
          refine (hL k n t sa sc s A c l k n t' sa' sc' s' A' c' l' B _ hmm (hin.below (bb.mono hB)) (hin'.below (bb.mono hB)) (by omega)).mono ?_
          rintro e w1 ⟨rfl, hb1⟩
          have hb : Below w.heap.size w w1 := bb.trans (hb1.mono (by omega))
          cases hq : S.eqL l l'
          · go_wp2_with fail
            go_ret
            exact ⟨ret_bool (by rw [Hfin.out, Ht.out, Hs.out, hq]; simp), hb⟩
          · go_wp2_with fail
            go_ret
            exact ⟨ret_bool (by rw [Hfin.out, Ht.out, Hs.out, hq]; simp), hb⟩
    · subst hk
      have h1 : (n != n') = true := by simpa using hn
      have h2 : (n == n') = false := by simpa using hn
      have H2 := Lib.hid h2
      clear h2
      go_enter Try.func67, Try.ntmps67
      go_wp2_with fail
      go_ret
      exact ⟨ret_bool (by rw [Hfin.out, H2.out]; simp), ((Below.refl _ _).alloc (Nat.le_refl _) _).alloc (by simp) _⟩
  · have h1 : (k != k') = true := by simpa using hk
    have h2 : (k == k') = false := by simpa using hk
    have H2 := Lib.hid h2
    clear h2
    go_enter Try.func67, Try.ntmps67
    go_wp2_with fail
    go_ret
    exact ⟨ret_bool (by rw [Hfin.out, H2.out]; simp), ((Below.refl _ _).alloc (Nat.le_refl _) _).alloc (by simp) _⟩

theorem seqL_take (l l' : List S) (j : Nat) (h : j < l.length) (h' : j < l'.length) (ht : S.eqL (l.take j) (l'.take j) = true) : S.eqL l l' = (S.eqB l[j] l'[j] && S.eqL (l.drop (j + 1)) (l'.drop (j + 1))) := by
  induction j generalizing l l' with
  | zero =>
    match l, l' with
    | [], _ => simp at h
    | _ :: _, [] => simp at h'
    | a :: r, b :: s => simp [S.eqL]
  | succ j ih =>
    match l, l' with
    | [], _ => simp at h
    | _ :: _, [] => simp at h'
    | a :: r, b :: s =>
      simp [S.eqL] at ht h h' ⊢
      rw [ht.1, ih r s h h' ht.2]
      simp
theorem seqL_take_succ (l l' : List S) (j : Nat) (h : j < l.length) (h' : j < l'.length) : S.eqL (l.take (j + 1)) (l'.take (j + 1)) = (S.eqL (l.take j) (l'.take j) && S.eqB l[j] l'[j]) := by
  induction j generalizing l l' with
  | zero =>
    match l, l' with
    | [], _ => simp at h
    | _ :: _, [] => simp at h'
    | a :: r, b :: s => simp [S.eqL]
  | succ j ih =>
    match l, l' with
    | [], _ => simp at h
    | _ :: _, [] => simp at h'
    | a :: r, b :: s =>
      simp at h h'
      have := ih r s h h'
      simp [S.eqL] at this ⊢
      rw [this, Bool.and_assoc]
theorem seqL_length (l l' : List S) (h : l.length ≠ l'.length) : S.eqL l l' = false := by
  induction l generalizing l' with
  | nil => cases l' with
    | nil => simp at h
    | cons _ _ => rfl
  | cons a r ih => cases l' with
    | nil => rfl
    | cons b s =>
      simp at h
      simp [S.eqL, ih s h]

set_option maxHeartbeats 800000 in
theorem seqL_step (m : Nat) (ih : SEqOk m) : SEqLOk m := by
  intro k n t sa sc s A c l k' n' t' sa' sc' s' A' c' l' B w hm hin hin' hB
  have hcap := hin.cap
  have hcap' := hin'.cap
  simp only [S.l, S.c, S.t] at hcap hcap'
  by_cases hlen : l.length = l'.length
  · have hn1 : ((l.length : Int) != (l'.length : Int)) = false := by simp [hlen]
    have Hlen := Lib.hid hlen
    have hlen1 : l'.length ≤ l.length := by omega
    have hlen2 : l.length ≤ l'.length := by omega
    clear hlen
    go_enter Try.func90, Try.ntmps90
    go_wp2_with fail
    go_loopw [5] (fun i wr => ∃ j : Nat, j ≤ l.length ∧ i = .int .i64 j ∧ Hid (S.eqL (l.take j) (l'.take j) = true) ∧ Below w.heap.size w wr) (fun i _ => l.length - (intOf i).toNat)
    case atStart => exact ⟨0, Nat.zero_le _, rfl, by simp [Hid, S.eqL], Below.refl _ _⟩
    case round =>
      obtain ⟨j, hj, rfl, HE, hb⟩ := hrel
      by_cases hlt : j < l.length
      · have hlt' : j < l'.length := by omega
        obtain ⟨b, o, rfl, hblk, c0, c1, c2, c3, c4, hix⟩ := (hin.below (hb.mono hB)).at_ (i := j) (x := l[j]) (List.getElem?_eq_getElem hlt)
        obtain ⟨b', o', rfl, hblk', c0', c1', c2', c3', c4', hix'⟩ := (hin'.below (hb.mono hB)).at_ (i := j) (x := l'[j]) (List.getElem?_eq_getElem hlt')
        have hs2 := hb.size
        have hsz := S.sizeL_mem (l := l) (List.getElem_mem hlt)
        have g1 : (0 : Int) ≤ (j : Int) := by omega
        have g2 : (j : Int) < (l.length : Int) := by omega
        have g3 : (j : Int) < (l'.length : Int) := by omega
        go_wp2_with fail
        go_region_held3 (fun w' => w'.cell? ⟨b, o + j * 5, none⟩ = some (.int .i64 l[j].k) ∧ w'.cell? ⟨b, o + j * 5 + 1, none⟩ = some (.int .i64 l[j].n) ∧ w'.cell? ⟨b, o + j * 5 + 2, none⟩ = some (.string l[j].t) ∧ w'.cell? ⟨b, o + j * 5 + 3, none⟩ = some (.slice l[j].sa l[j].s.length l[j].sc) ∧ w'.cell? ⟨b, o + j * 5 + 4, none⟩ = some (.slice l[j].A l[j].l.length l[j].c) ∧ w'.cell? ⟨b', o' + j * 5, none⟩ = some (.int .i64 l'[j].k) ∧ w'.cell? ⟨b', o' + j * 5 + 1, none⟩ = some (.int .i64 l'[j].n) ∧ w'.cell? ⟨b', o' + j * 5 + 2, none⟩ = some (.string l'[j].t) ∧ w'.cell? ⟨b', o' + j * 5 + 3, none⟩ = some (.slice l'[j].sa l'[j].s.length l'[j].sc) ∧ w'.cell? ⟨b', o' + j * 5 + 4, none⟩ = some (.slice l'[j].A l'[j].l.length l'[j].c)) (go_keep)
          ((go_at_call 67; refine (ih l[j] l'[j] B _ ?_ ?_ ?_ ?_).mono ?_; omega; exact hix.drew; exact hix'.drew; (show B ≤ wr.heap.size); omega; rintro e w1 ⟨rfl, hb1⟩; have q1 : b < wr.heap.size := (by omega); have q2 : b' < wr.heap.size := (by omega); have a0 := (hb1.cell (p := ⟨b, o + j * 5, none⟩) q1).trans c0; have a1 := (hb1.cell (p := ⟨b, o + j * 5 + 1, none⟩) q1).trans c1; have a2 := (hb1.cell (p := ⟨b, o + j * 5 + 2, none⟩) q1).trans c2; have a3 := (hb1.cell (p := ⟨b, o + j * 5 + 3, none⟩) q1).trans c3; have a4 := (hb1.cell (p := ⟨b, o + j * 5 + 4, none⟩) q1).trans c4; have a0' := (hb1.cell (p := ⟨b', o' + j * 5, none⟩) q2).trans c0'; have a1' := (hb1.cell (p := ⟨b', o' + j * 5 + 1, none⟩) q2).trans c1'; have a2' := (hb1.cell (p := ⟨b', o' + j * 5 + 2, none⟩) q2).trans c2'; have a3' := (hb1.cell (p := ⟨b', o' + j * 5 + 3, none⟩) q2).trans c3'; have a4' := (hb1.cell (p := ⟨b', o' + j * 5 + 4, none⟩) q2).trans c4'))
        have hb2 : Below w.heap.size w w1 := hb.trans ((below_undrew hb1).mono (show w.heap.size ≤ wr.heap.size by omega))
        cases hq : S.eqB l[j] l'[j]
        · have Hq := Lib.hid hq
          go_wp2_with fail
          go_ret
          exact ⟨ret_bool (by rw [seqL_take l l' j hlt hlt' HE.out, Hq.out]; rfl), hb2⟩
        · have Hq := Lib.hid hq
          go_wp2_with fail
          go_roundw
          case rel => exact ⟨j + 1, by omega, by go_num, by (show _ = _); rw [seqL_take_succ l l' j hlt hlt', HE.out, Hq.out]; rfl, hb2⟩
          case measure => simp [intOf]; omega
      · have hj' : j = l.length := by omega
        subst hj'
        go_wp2_with fail
        go_ret
        exact ⟨ret_bool (by have := HE.out; rwa [List.take_length, List.take_of_length_le (by omega), eq_comm] at this), hb⟩
  · have hn1 : ((l.length : Int) != (l'.length : Int)) = true := by simpa using (by omega : ¬ (l.length : Int) = (l'.length : Int))
    have Hn := Lib.hid (seqL_length l l' hlen)
    go_enter Try.func90, Try.ntmps90
    go_wp2_with fail
    go_ret
    exact ⟨ret_bool Hn.out.symm, Below.refl _ _⟩
theorem seqL_all : ∀ m, SEqLOk m := by
  intro m
  induction m with
  | zero =>
    intro k n t sa sc s A c l k' n' t' sa' sc' s' A' c' l' B w hm hin hin' hB
    exact seqL_step 0 (fun d e B w hd => by have := d.size_pos; omega) k n t sa sc s A c l k' n' t' sa' sc' s' A' c' l' B w hm hin hin' hB
  | succ m ih => exact seqL_step (m + 1) (seq_any m ih)
theorem seq_all (m : Nat) : SEqOk (m + 1) := seq_any m (seqL_all m)
end Go.Proofs.Ytknplopghgchaaa
