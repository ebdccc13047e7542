/-
  Equality of syntax objects: the model's.
-/
import Derived.Test.YtfbfmajjooannaaSTrees
import Derived.Test.YtfbfmajjooannaaSCount
import Derived.Deep.RegionHeld3
namespace Go.Proofs.Ytfbfmajjooannaa
open Go.RowKit

set_option maxHeartbeats 400000 in
theorem sameInts_any (A : Option Addr) (c : Nat) (l : List Int) (A' : Option Addr) (c' : Nat) (l' : List Int) (B : Nat) (w : World) (hin : IIn w B A c l) (hin' : IIn w B A' c' l') (hB : B ≤ w.heap.size) :
    Calls Try.prog 94 #[.slice A l.length c, .slice A' l'.length c'] w fun e w' => e = .returned (.bool (l == l')) ∧ Below w.heap.size w w' := by
  have hcap := hin.cap
  have hcap' := hin'.cap
  by_cases hlen : l.length = l'.length
  · have hn1 : ((l.length : Int) != (l'.length : Int)) = false := by simp [hlen]
    have Hlen := Lib.hid hlen
    have hlen1 : l'.length ≤ l.length := by omega
    have hlen2 : l.length ≤ l'.length := by omega
    clear hlen
    go_enter Try.func94, Try.ntmps94
    go_wp2_with fail
    go_loopw [13] (fun i wr => ∃ j : Nat, j ≤ l.length ∧ i = .int .i64 j ∧ Hid (l.take j = l'.take j) ∧ Below w.heap.size w wr) (fun i _ => l.length - (intOf i).toNat)
    case atStart => exact ⟨0, Nat.zero_le _, rfl, by simp [Hid], Below.refl _ _⟩
    case round =>
      obtain ⟨j, hj, rfl, HE, hb⟩ := hrel
      by_cases hlt : j < l.length
      · have hlt' : j < l'.length := by omega
        obtain ⟨b, o, rfl, hblk, c0⟩ := (hin.below (hb.mono hB)).at_ hlt
        obtain ⟨b', o', rfl, hblk', c0'⟩ := (hin'.below (hb.mono hB)).at_ hlt'
        have g2 : (j : Int) < (l.length : Int) := by omega
        have g3 : (j : Int) < (l'.length : Int) := by omega
        by_cases hq : l[j] = l'[j]
        · have hq1 : (l[j] != l'[j]) = false := by simp [hq]
          have HT : Hid (l.take (j + 1) = l'.take (j + 1)) := by
            show _ = _
            rw [List.take_succ_eq_append_getElem hlt, List.take_succ_eq_append_getElem hlt', HE.out, hq]
          clear hq
          go_wp2_with fail
          go_region
          all_goals go_wp2_with fail
          all_goals refine ⟨⟨j + 1, by omega, by go_num, HT, hb.drew⟩, by simp [intOf]; omega⟩
        · have hq1 : (l[j] != l'[j]) = true := by simpa using hq
          have HF : Hid ((l == l') = false) := by
            show _ = _
            rw [beq_eq_false_iff_ne]
            rintro rfl
            exact hq rfl
          clear hq
          go_wp2_with fail
          go_region
          all_goals go_wp2_with fail
          all_goals go_ret
          all_goals exact ⟨ret_bool HF.out.symm, hb.drew⟩
      · have hj' : j = l.length := by omega
        subst hj'
        have HF : Hid ((l == l') = true) := by
          show _ = _
          have := HE.out
          rw [List.take_length, List.take_of_length_le (by omega)] at this
          simp [this]
        go_wp2_with fail
        go_ret
        exact ⟨ret_bool HF.out.symm, hb⟩
  · have hn1 : ((l.length : Int) != (l'.length : Int)) = true := by simpa using (by omega : ¬ (l.length : Int) = (l'.length : Int))
    have HF : Hid ((l == l') = false) := by
      show _ = _
      rw [beq_eq_false_iff_ne]
      rintro rfl
      exact hlen rfl
    go_enter Try.func94, Try.ntmps94
    go_wp2_with fail
    go_ret
    exact ⟨ret_bool HF.out.symm, Below.refl _ _⟩


set_option maxRecDepth 100000 in
set_option maxHeartbeats 2000000 in
theorem specSEqual_any : ∀ (m : Nat) (d e : S) (B : Nat) (w : World), d.size ≤ m → d.In w B → e.In w B → B ≤ w.heap.size →
    Calls Try.prog 132 #[d.val, e.val] w fun x w' => x = .returned (.bool (S.eqB d e)) ∧ Below w.heap.size w w' := by
  intro m
  induction m with
  | zero => intro d e B w h; have := d.size_pos; omega
  | succ m ih =>
  intro d e B w hm hin hin' hB
  obtain ⟨k, n, t, sa, sc, s, A, c, l⟩ := d
  obtain ⟨k', n', t', sa', sc', s', A', c', l'⟩ := e
  have hcap := hin.cap
  have hcap' := hin'.cap
  have hsc := hin.scopes
  have hsc' := hin'.scopes
  simp only [S.l, S.c, S.t] at hcap hcap'
  simp only [S.sa, S.sc, S.s] at hsc hsc'
  simp only [S.val, S.k, S.n, S.t, S.sa, S.sc, S.s, S.A, S.l, S.c]
  have hmm : S.sizeL l ≤ m := by simp only [S.size] at hm; omega
  have hfin : S.eqB (.mk k n t sa sc s A c l) (.mk k' n' t' sa' sc' s' A' c' l') = (k == k' && (n == n' && (t.toList == t'.toList && (s == s' && S.eqL l l')))) := rfl
  have Hfin := Lib.hid hfin
  clear hfin hm
  by_cases hk : k = k'
  · by_cases hn : n = n'
    · subst hk hn
      cases ht : (t.toList == t'.toList)
      · have h1 : (!(t.toList == t'.toList)) = true := by simp [ht]
        have H2 := Lib.hid ht
        go_enter Try.func132, Try.ntmps132
        go_wp2_with fail
        go_ret
        exact ⟨ret_bool (by rw [Hfin.out, H2.out]; simp), ((Below.refl _ _).alloc (Nat.le_refl _) _).alloc (by simp) _⟩
      · have Ht := Lib.hid ht
        have h1 : (!(t.toList == t'.toList)) = false := by simp [ht]
        clear ht
        go_enter Try.func132, Try.ntmps132
        go_wp2_with fail
        refine (sameInts_any sa sc s sa' sc' s' B _ ((hsc.alloc hB _).alloc (by simp; omega) _) ((hsc'.alloc hB _).alloc (by simp; omega) _) (by simp; omega)).mono ?_
        rintro e w0 ⟨rfl, hb0⟩
        have z0 := hb0.size
        simp only [World.size_alloc] at z0 hb0
        have x0 := (S.Box.new w (.mk k n t sa sc s A c l) 67).below (w' := w0) (B := w.heap.size + 1) (((Below.refl _ _).alloc (by simp) _).trans (hb0.mono (by omega))) (by omega)
        have hy : (w.alloc (.cells #[.int .i64 k, .int .i64 n, .string t, .slice sa s.length sc, .slice A l.length c] 67)).heap.size = w.heap.size + 1 := by simp
        have x1 := (S.Box.new (w.alloc (.cells #[.int .i64 k, .int .i64 n, .string t, .slice sa s.length sc, .slice A l.length c] 67)) (.mk k n t' sa' sc' s' A' c' l') 67).below (w' := w0) (B := w.heap.size + 1 + 1) hb0 (by rw [hy]; omega)
        rw [hy] at x1
        have g4 : w0.cell? ⟨w.heap.size, 4, none⟩ = some (.slice A l.length c) := x0.c4
        have g4' : w0.cell? ⟨w.heap.size + 1, 4, none⟩ = some (.slice A' l'.length c') := x1.c4
        have bb : Below w.heap.size w w0 := (((Below.refl _ _).alloc (Nat.le_refl _) _).alloc (by simp) _).trans (hb0.mono (by omega))
        clear x0 x1 hb0 hy
        cases hs : (s == s')
        · have Hs := Lib.hid hs
          clear hs
          go_wp2_with fail
          go_ret
          exact ⟨ret_bool (by rw [Hfin.out, Ht.out, Hs.out]; simp), bb⟩
        · have Hs := Lib.hid hs
          clear hs
          by_cases hlen : l.length = l'.length
          · have hn1 : ((l.length : Int) != (l'.length : Int)) = false := by simp [hlen]
            have hlen1 : l'.length ≤ l.length := by omega
            have hlen2 : l.length ≤ l'.length := by omega
            clear hlen
            go_wp2_with fail
            go_loopw [45] (fun i wr => ∃ j : Nat, j ≤ l.length ∧ i = .int .i64 j ∧ Hid (S.eqL (l.take j) (l'.take j) = true) ∧ Below w0.heap.size w0 wr) (fun i _ => l.length - (intOf i).toNat)
            case atStart => exact ⟨0, Nat.zero_le _, rfl, by simp [Hid, S.eqL], Below.refl _ _⟩
            case round =>
              obtain ⟨j, hj, rfl, HE, hb⟩ := hrel
              have hs2 := hb.size
              have b0 : Below w.heap.size w wr := bb.trans (hb.mono (by omega))
              by_cases hlt : j < l.length
              · have hlt' : j < l'.length := by omega
                have u2' : Hid (wr.cell? ⟨w.heap.size, 4, none⟩ = some (.slice A l.length c)) := (hb.cell (p := ⟨w.heap.size, 4, none⟩) (show w.heap.size < w0.heap.size by omega)).trans g4
                have u3' : Hid (wr.cell? ⟨w.heap.size + 1, 4, none⟩ = some (.slice A' l'.length c')) := (hb.cell (p := ⟨w.heap.size + 1, 4, none⟩) (show w.heap.size + 1 < w0.heap.size by omega)).trans g4'
                obtain ⟨b, o, rfl, hblk, c0, c1, c2, c3, c4, hix⟩ := (hin.below (b0.mono hB)).at_ (i := j) (x := l[j]) (List.getElem?_eq_getElem hlt)
                obtain ⟨b', o', rfl, hblk', c0', c1', c2', c3', c4', hix'⟩ := (hin'.below (b0.mono hB)).at_ (i := j) (x := l'[j]) (List.getElem?_eq_getElem hlt')
                have hsz := S.sizeL_mem (l := l) (List.getElem_mem hlt)
                have gg1 : (0 : Int) ≤ (j : Int) := by omega
                have gg2 : (j : Int) < (l.length : Int) := by omega
                have gg3 : (j : Int) < (l'.length : Int) := by omega
                have u2 := u2'.out
                have u3 := u3'.out
                clear g4 g4' u2' u3'
                go_wp2_with fail
                go_region_held3 (fun w' => w'.cell? ⟨w.heap.size, 4, none⟩ = some (.slice (some ⟨b, o, none⟩) l.length c) ∧ w'.cell? ⟨w.heap.size + 1, 4, none⟩ = some (.slice (some ⟨b', o', none⟩) l'.length c') ∧ w'.cell? ⟨b, o + j * 5, none⟩ = some (.int .i64 l[j].k) ∧ w'.cell? ⟨b, o + j * 5 + 1, none⟩ = some (.int .i64 l[j].n) ∧ w'.cell? ⟨b, o + j * 5 + 2, none⟩ = some (.string l[j].t) ∧ w'.cell? ⟨b, o + j * 5 + 3, none⟩ = some (.slice l[j].sa l[j].s.length l[j].sc) ∧ w'.cell? ⟨b, o + j * 5 + 4, none⟩ = some (.slice l[j].A l[j].l.length l[j].c) ∧ w'.cell? ⟨b', o' + j * 5, none⟩ = some (.int .i64 l'[j].k) ∧ w'.cell? ⟨b', o' + j * 5 + 1, none⟩ = some (.int .i64 l'[j].n) ∧ w'.cell? ⟨b', o' + j * 5 + 2, none⟩ = some (.string l'[j].t) ∧ w'.cell? ⟨b', o' + j * 5 + 3, none⟩ = some (.slice l'[j].sa l'[j].s.length l'[j].sc) ∧ w'.cell? ⟨b', o' + j * 5 + 4, none⟩ = some (.slice l'[j].A l'[j].l.length l'[j].c)) (go_keep)
                  ((go_at_call 132; refine (ih l[j] l'[j] B _ ?_ ?_ ?_ ?_).mono ?_; omega; exact hix.drew; exact hix'.drew; (show B ≤ wr.heap.size); omega; rintro e w1 ⟨rfl, hb1⟩; have hb1 := below_undrew hb1; have r0 := (hb1.cell (p := ⟨w.heap.size, 4, none⟩) (show w.heap.size < wr.heap.size by omega)).trans u2; have r1 := (hb1.cell (p := ⟨w.heap.size + 1, 4, none⟩) (show w.heap.size + 1 < wr.heap.size by omega)).trans u3; have r2 := (hb1.cell (p := ⟨b, o + j * 5, none⟩) (show b < wr.heap.size by omega)).trans c0; have r3 := (hb1.cell (p := ⟨b, o + j * 5 + 1, none⟩) (show b < wr.heap.size by omega)).trans c1; have r4 := (hb1.cell (p := ⟨b, o + j * 5 + 2, none⟩) (show b < wr.heap.size by omega)).trans c2; have r5 := (hb1.cell (p := ⟨b, o + j * 5 + 3, none⟩) (show b < wr.heap.size by omega)).trans c3; have r6 := (hb1.cell (p := ⟨b, o + j * 5 + 4, none⟩) (show b < wr.heap.size by omega)).trans c4; have r7 := (hb1.cell (p := ⟨b', o' + j * 5, none⟩) (show b' < wr.heap.size by omega)).trans c0'; have r8 := (hb1.cell (p := ⟨b', o' + j * 5 + 1, none⟩) (show b' < wr.heap.size by omega)).trans c1'; have r9 := (hb1.cell (p := ⟨b', o' + j * 5 + 2, none⟩) (show b' < wr.heap.size by omega)).trans c2'; have r10 := (hb1.cell (p := ⟨b', o' + j * 5 + 3, none⟩) (show b' < wr.heap.size by omega)).trans c3'; have r11 := (hb1.cell (p := ⟨b', o' + j * 5 + 4, none⟩) (show b' < wr.heap.size by omega)).trans c4'))
                have hb2 : Below w0.heap.size w0 w1 := hb.trans (hb1.mono (show w0.heap.size ≤ wr.heap.size by omega))
                have hb3 : Below w.heap.size w w1 := bb.trans (hb2.mono (by omega))
                cases hq : S.eqB l[j] l'[j]
                · have Hq := Lib.hid hq
                  go_wp2_with fail
                  go_ret
                  exact ⟨ret_bool (by rw [Hfin.out, Ht.out, Hs.out, seqL_take l l' j hlt hlt' HE.out, Hq.out]; simp), hb3⟩
                · have Hq := Lib.hid hq
                  go_wp2_with fail
                  go_roundw
                  case rel => exact ⟨j + 1, by omega, by go_num, by (show _ = _); rw [seqL_take_succ l l' j hlt hlt', HE.out, Hq.out]; rfl, hb2⟩
                  case measure => simp [intOf]; omega
              · have hj' : j = l.length := by omega
                subst hj'
                go_wp2_with fail
                go_ret
                exact ⟨ret_bool (by have := HE.out; rw [List.take_length, List.take_of_length_le (by omega)] at this; rw [Hfin.out, Ht.out, Hs.out, this]; simp), b0⟩
          · have hn1 : ((l.length : Int) != (l'.length : Int)) = true := by simpa using (by omega : ¬ (l.length : Int) = (l'.length : Int))
            have H2 := Lib.hid (seqL_length l l' hlen)
            clear hlen
            go_wp2_with fail
            go_ret
            exact ⟨ret_bool (by rw [Hfin.out, H2.out]; simp), bb⟩
    · subst hk
      have h1 : (n != n') = true := by simpa using hn
      have h2 : (n == n') = false := by simpa using hn
      have H2 := Lib.hid h2
      clear h2
      go_enter Try.func132, Try.ntmps132
      go_wp2_with fail
      go_ret
      exact ⟨ret_bool (by rw [Hfin.out, H2.out]; simp), ((Below.refl _ _).alloc (Nat.le_refl _) _).alloc (by simp) _⟩
  · have h1 : (k != k') = true := by simpa using hk
    have h2 : (k == k') = false := by simpa using hk
    have H2 := Lib.hid h2
    clear h2
    go_enter Try.func132, Try.ntmps132
    go_wp2_with fail
    go_ret
    exact ⟨ret_bool (by rw [Hfin.out, H2.out]; simp), ((Below.refl _ _).alloc (Nat.le_refl _) _).alloc (by simp) _⟩
end Go.Proofs.Ytfbfmajjooannaa
