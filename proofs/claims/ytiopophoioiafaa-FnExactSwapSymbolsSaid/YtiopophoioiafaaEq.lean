/-
  The laws' own functions on data: equality.
-/
import Derived.Test.YtiopophoioiafaaOwn
import Derived.Test.YtiopophoioiafaaProg
import Derived.Handy
import Derived.WalkSpells
import Derived.Deep.RegionHeld3
namespace Go.Proofs.Ytiopophoioiafaa
open Go.RowKit

def EqOk (m : Nat) : Prop := ∀ (d e : D) (B : Nat) (w : World), d.size ≤ m → d.In w B → e.In w B → B ≤ w.heap.size →
    Calls Try.prog 30 #[d.val, e.val] w fun x w' => x = .returned (.bool (D.eqB d e)) ∧ Below w.heap.size w w'
def EqLOk (m : Nat) : Prop := ∀ (k n : Int) (t : ByteArray) (A : Option Addr) (c : Nat) (l : List D) (k' n' : Int) (t' : ByteArray) (A' : Option Addr) (c' : Nat) (l' : List D) (B : Nat) (w : World), D.sizeL l ≤ m →
    (D.mk k n t A c l).In w B → (D.mk k' n' t' A' c' l').In w B → B ≤ w.heap.size →
    Calls Try.prog 99 #[.slice A l.length c, .slice A' l'.length c'] w fun x w' => x = .returned (.bool (D.eqL l l')) ∧ Below w.heap.size w w'

set_option maxHeartbeats 400000 in
theorem eq_any (m : Nat) (hL : EqLOk m) : EqOk (m + 1) := by
  intro d e B w hm hin hin' hB
  obtain ⟨k, n, t, A, c, l⟩ := d
  obtain ⟨k', n', t', A', c', l'⟩ := e
  have hcap := hin.cap
  have hcap' := hin'.cap
  simp only [D.l, D.c, D.t] at hcap hcap'
  simp only [D.val, D.k, D.n, D.t, D.A, D.l, D.c]
  have hmm : D.sizeL l ≤ m := by simp only [D.size] at hm; omega
  have hfin : D.eqB (.mk k n t A c l) (.mk k' n' t' A' c' l') = (k == k' && (n == n' && (t.toList == t'.toList && D.eqL l l'))) := rfl
  have Hfin := Lib.hid hfin
  clear hfin
  by_cases hk : k = k'
  · by_cases hn : n = n'
    · subst hk hn
      cases ht : (t.toList == t'.toList)
      · have Ht := Lib.hid ht
        go_enter Try.func30, Try.ntmps30
        go_wp2_with fail
        go_ret
        exact ⟨ret_bool (by rw [Hfin.out, Ht.out]; simp), ((Below.refl _ _).alloc (Nat.le_refl _) _).alloc (by simp) _⟩
      · have Ht := Lib.hid ht
        go_enter Try.func30, Try.ntmps30
        go_wp2_with fail
        refine (hL k n t A c l k n t' A' c' l' B _ hmm ((hin.alloc hB _).alloc (by simp; omega) _) ((hin'.alloc hB _).alloc (by simp; omega) _) (by simp; omega)).mono ?_
        rintro e w1 ⟨rfl, hb1⟩
        have hb : Below w.heap.size w w1 := (((Below.refl _ _).alloc (Nat.le_refl _) _).alloc (by simp) _).trans (hb1.mono (by simp; omega))
        cases hq : D.eqL l l'
        · go_wp2_with fail
          go_ret
          exact ⟨ret_bool (by rw [Hfin.out, Ht.out, hq]; simp), hb⟩
        · go_wp2_with fail
          go_ret
          exact ⟨ret_bool (by rw [Hfin.out, Ht.out, hq]; simp), hb⟩
    · subst hk
      have h1 : (n != n') = true := by simpa using hn
      have h2 : (n == n') = false := by simpa using hn
      have H2 := Lib.hid h2
      clear h2
      go_enter Try.func30, Try.ntmps30
      go_wp2_with fail
      go_ret
      exact ⟨ret_bool (by rw [Hfin.out, H2.out]; simp), ((Below.refl _ _).alloc (Nat.le_refl _) _).alloc (by simp) _⟩
  · have h1 : (k != k') = true := by simpa using hk
    have h2 : (k == k') = false := by simpa using hk
    have H2 := Lib.hid h2
    clear h2
    go_enter Try.func30, Try.ntmps30
    go_wp2_with fail
    go_ret
    exact ⟨ret_bool (by rw [Hfin.out, H2.out]; simp), ((Below.refl _ _).alloc (Nat.le_refl _) _).alloc (by simp) _⟩

theorem eqL_take (l l' : List D) (j : Nat) (h : j < l.length) (h' : j < l'.length) (ht : D.eqL (l.take j) (l'.take j) = true) : D.eqL l l' = (D.eqB l[j] l'[j] && D.eqL (l.drop (j + 1)) (l'.drop (j + 1))) := by
  induction j generalizing l l' with
  | zero =>
    match l, l' with
    | [], _ => simp at h
    | _ :: _, [] => simp at h'
    | a :: r, b :: s => simp [D.eqL]
  | succ j ih =>
    match l, l' with
    | [], _ => simp at h
    | _ :: _, [] => simp at h'
    | a :: r, b :: s =>
      simp [D.eqL] at ht h h' ⊢
      rw [ht.1, ih r s h h' ht.2]
      simp
theorem eqL_take_succ (l l' : List D) (j : Nat) (h : j < l.length) (h' : j < l'.length) : D.eqL (l.take (j + 1)) (l'.take (j + 1)) = (D.eqL (l.take j) (l'.take j) && D.eqB l[j] l'[j]) := by
  induction j generalizing l l' with
  | zero =>
    match l, l' with
    | [], _ => simp at h
    | _ :: _, [] => simp at h'
    | a :: r, b :: s => simp [D.eqL]
  | succ j ih =>
    match l, l' with
    | [], _ => simp at h
    | _ :: _, [] => simp at h'
    | a :: r, b :: s =>
      simp at h h'
      have := ih r s h h'
      simp [D.eqL] at this ⊢
      rw [this, Bool.and_assoc]
theorem eqL_length (l l' : List D) (h : l.length ≠ l'.length) : D.eqL l l' = false := by
  induction l generalizing l' with
  | nil => cases l' with
    | nil => simp at h
    | cons _ _ => rfl
  | cons a r ih => cases l' with
    | nil => rfl
    | cons b s =>
      simp at h
      simp [D.eqL, ih s h]

set_option maxHeartbeats 800000 in
theorem eqL_step (m : Nat) (ih : EqOk m) : EqLOk m := by
  intro k n t A c l k' n' t' A' c' l' B w hm hin hin' hB
  have hcap := hin.cap
  have hcap' := hin'.cap
  simp only [D.l, D.c, D.t] at hcap hcap'
  by_cases hlen : l.length = l'.length
  · have hn1 : ((l.length : Int) != (l'.length : Int)) = false := by simp [hlen]
    have Hlen := Lib.hid hlen
    have hlen1 : l'.length ≤ l.length := by omega
    have hlen2 : l.length ≤ l'.length := by omega
    clear hlen
    go_enter Try.func99, Try.ntmps99
    go_wp2_with fail
    go_loopw [5] (fun i wr => ∃ j : Nat, j ≤ l.length ∧ i = .int .i64 j ∧ Hid (D.eqL (l.take j) (l'.take j) = true) ∧ Below w.heap.size w wr) (fun i _ => l.length - (intOf i).toNat)
    case atStart => exact ⟨0, Nat.zero_le _, rfl, by simp [Hid, D.eqL], Below.refl _ _⟩
    case round =>
      obtain ⟨j, hj, rfl, HE, hb⟩ := hrel
      by_cases hlt : j < l.length
      · have hlt' : j < l'.length := by omega
        obtain ⟨b, o, rfl, hblk, c0, c1, c2, c3, hix⟩ := (hin.below (hb.mono hB)).at_ (i := j) (x := l[j]) (List.getElem?_eq_getElem hlt)
        obtain ⟨b', o', rfl, hblk', c0', c1', c2', c3', hix'⟩ := (hin'.below (hb.mono hB)).at_ (i := j) (x := l'[j]) (List.getElem?_eq_getElem hlt')
        have hs2 := hb.size
        have hsz := D.sizeL_mem (l := l) (List.getElem_mem hlt)
        have g1 : (0 : Int) ≤ (j : Int) := by omega
        have g2 : (j : Int) < (l.length : Int) := by omega
        have g3 : (j : Int) < (l'.length : Int) := by omega
        go_wp2_with fail
        go_region_held3 (fun w' => w'.cell? ⟨b, o + j * 4, none⟩ = some (.int .i64 l[j].k) ∧ w'.cell? ⟨b, o + j * 4 + 1, none⟩ = some (.int .i64 l[j].n) ∧ w'.cell? ⟨b, o + j * 4 + 2, none⟩ = some (.string l[j].t) ∧ w'.cell? ⟨b, o + j * 4 + 3, none⟩ = some (.slice l[j].A l[j].l.length l[j].c) ∧
            w'.cell? ⟨b', o' + j * 4, none⟩ = some (.int .i64 l'[j].k) ∧ w'.cell? ⟨b', o' + j * 4 + 1, none⟩ = some (.int .i64 l'[j].n) ∧ w'.cell? ⟨b', o' + j * 4 + 2, none⟩ = some (.string l'[j].t) ∧ w'.cell? ⟨b', o' + j * 4 + 3, none⟩ = some (.slice l'[j].A l'[j].l.length l'[j].c)) (go_keep)
          ((go_at_call 30; refine (ih l[j] l'[j] B _ ?_ ?_ ?_ ?_).mono ?_; omega; exact hix.drew; exact hix'.drew; (show B ≤ wr.heap.size); omega; rintro e w1 ⟨rfl, hb1⟩; have q1 : b < wr.heap.size := (by omega); have q2 : b' < wr.heap.size := (by omega); have a0 := (hb1.cell (p := ⟨b, o + j * 4, none⟩) q1).trans c0; have a1 := (hb1.cell (p := ⟨b, o + j * 4 + 1, none⟩) q1).trans c1; have a2 := (hb1.cell (p := ⟨b, o + j * 4 + 2, none⟩) q1).trans c2; have a3 := (hb1.cell (p := ⟨b, o + j * 4 + 3, none⟩) q1).trans c3; have a0' := (hb1.cell (p := ⟨b', o' + j * 4, none⟩) q2).trans c0'; have a1' := (hb1.cell (p := ⟨b', o' + j * 4 + 1, none⟩) q2).trans c1'; have a2' := (hb1.cell (p := ⟨b', o' + j * 4 + 2, none⟩) q2).trans c2'; have a3' := (hb1.cell (p := ⟨b', o' + j * 4 + 3, none⟩) q2).trans c3'))
        have hb2 : Below w.heap.size w w1 := hb.trans ((below_undrew hb1).mono (show w.heap.size ≤ wr.heap.size by omega))
        cases hq : D.eqB l[j] l'[j]
        · have Hq := Lib.hid hq
          go_wp2_with fail
          go_ret
          exact ⟨ret_bool (by rw [eqL_take l l' j hlt hlt' HE.out, Hq.out]; rfl), hb2⟩
        · have Hq := Lib.hid hq
          go_wp2_with fail
          go_roundw
          case rel => exact ⟨j + 1, by omega, by go_num, by (show _ = _); rw [eqL_take_succ l l' j hlt hlt', HE.out, Hq.out]; rfl, hb2⟩
          case measure => simp [intOf]; omega
      · have hj' : j = l.length := by omega
        subst hj'
        go_wp2_with fail
        go_ret
        exact ⟨ret_bool (by have := HE.out; rwa [List.take_length, List.take_of_length_le (by omega), eq_comm] at this), hb⟩
  · have hn1 : ((l.length : Int) != (l'.length : Int)) = true := by simpa using (by omega : ¬ (l.length : Int) = (l'.length : Int))
    have Hn := Lib.hid (eqL_length l l' hlen)
    go_enter Try.func99, Try.ntmps99
    go_wp2_with fail
    go_ret
    exact ⟨ret_bool Hn.out.symm, Below.refl _ _⟩
theorem eqL_all : ∀ m, EqLOk m := by
  intro m
  induction m with
  | zero =>
    intro k n t A c l k' n' t' A' c' l' B w hm hin hin' hB
    exact eqL_step 0 (fun d e B w hd => by have := d.size_pos; omega) k n t A c l k' n' t' A' c' l' B w hm hin hin' hB
  | succ m ih => exact eqL_step (m + 1) (eq_any m ih)
theorem eq_all (m : Nat) : EqOk (m + 1) := eq_any m (eqL_all m)
end Go.Proofs.Ytiopophoioiafaa
