/-
  Equality of data: the program's and the model's.
-/
import Derived.Test.YtpigpncbjckbcaaTrees
import Derived.Deep.RegionHeld3
namespace Go.Proofs.Ytpigpncbjckbcaa
open Go.RowKit

set_option maxRecDepth 100000 in
set_option maxHeartbeats 1000000 in
theorem implEqual_any : ∀ (m : Nat) (d e : D) (B : Nat) (w : World), d.size ≤ m → d.In w B → e.In w B → B ≤ w.heap.size →
    Calls Try.prog 60 #[d.val, e.val] w fun x w' => x = .returned (.bool (D.eqB d e)) ∧ Below w.heap.size w w' := by
  intro m
  induction m with
  | zero => intro d e B w h; have := d.size_pos; omega
  | succ m ih =>
  intro d e B w hm hin hin' hB
  obtain ⟨k, n, t, A, c, l⟩ := d
  obtain ⟨k', n', t', A', c', l'⟩ := e
  have hcap := hin.cap
  have hcap' := hin'.cap
  simp only [D.l, D.c, D.t] at hcap hcap'
  simp only [D.val, D.k, D.n, D.t, D.A, D.l, D.c]
  have hmm : D.sizeL l ≤ m := by simp only [D.size] at hm; omega
  have hfin : D.eqB (.mk k n t A c l) (.mk k' n' t' A' c' l') = (k == k' && (n == n' && (t.toList == t'.toList && D.eqL l l'))) := rfl
  have Hfin := Lib.hid hfin
  clear hfin hm
  by_cases hk : k = k'
  · by_cases hn : n = n'
    · subst hk hn
      cases ht : (t.toList == t'.toList)
      · have h1 : (!(t.toList == t'.toList)) = true := by simp [ht]
        have H2 := Lib.hid ht
        go_enter Try.func60, Try.ntmps60
        go_wp2_with fail
        go_ret
        exact ⟨ret_bool (by rw [Hfin.out, H2.out]; simp), ((Below.refl _ _).alloc (Nat.le_refl _) _).alloc (by simp) _⟩
      · have Ht := Lib.hid ht
        have h1 : (!(t.toList == t'.toList)) = false := by simp [ht]
        by_cases hlen : l.length = l'.length
        · have hn1 : ((l.length : Int) != (l'.length : Int)) = false := by simp [hlen]
          have hlen1 : l'.length ≤ l.length := by omega
          have hlen2 : l.length ≤ l'.length := by omega
          clear hlen
          go_enter Try.func60, Try.ntmps60
          go_wp2_with fail
          go_loopw [38] (fun i wr => ∃ j : Nat, j ≤ l.length ∧ i = .int .i64 j ∧ Hid (D.eqL (l.take j) (l'.take j) = true) ∧ Below (w.heap.size + 2) ((w.alloc (.cells #[.int .i64 k, .int .i64 n, .string t, .slice A l.length c] 51)).alloc (.cells #[.int .i64 k, .int .i64 n, .string t', .slice A' l'.length c'] 51)) wr) (fun i _ => l.length - (intOf i).toNat)
          case atStart => exact ⟨0, Nat.zero_le _, rfl, by simp [Hid, D.eqL], Below.refl _ _⟩
          case round =>
            obtain ⟨j, hj, rfl, HE, hb⟩ := hrel
            have hs2 := hb.size
            simp only [World.size_alloc] at hs2
            have b0 : Below w.heap.size w wr := (((Below.refl _ _).alloc (Nat.le_refl _) _).alloc (by simp) _).trans (hb.mono (by omega))
            by_cases hlt : j < l.length
            · have hlt' : j < l'.length := by omega
              have hx2 : Hid (wr.cell? ⟨w.heap.size, 3, none⟩ = some (.slice A l.length c)) := (hb.cell (p := ⟨w.heap.size, 3, none⟩) (by simp <;> omega)).trans (((World.cell?_alloc_lt _ _ _ (by simp)).trans (D.Box.new w (.mk k n t A c l) 51).c3))
              have hx3 : Hid (wr.cell? ⟨w.heap.size + 1, 3, none⟩ = some (.slice A' l'.length c')) := (hb.cell (p := ⟨w.heap.size + 1, 3, none⟩) (by simp)).trans (by have := (D.Box.new (w.alloc (.cells #[.int .i64 k, .int .i64 n, .string t, .slice A l.length c] 51)) (.mk k n t' A' c' l') 51).c3; rw [World.size_alloc] at this; exact this)
              obtain ⟨b, o, rfl, hblk, c0, c1, c2, c3, hix⟩ := (hin.below (b0.mono hB)).at_ (i := j) (x := l[j]) (List.getElem?_eq_getElem hlt)
              obtain ⟨b', o', rfl, hblk', c0', c1', c2', c3', hix'⟩ := (hin'.below (b0.mono hB)).at_ (i := j) (x := l'[j]) (List.getElem?_eq_getElem hlt')
              have hsz := D.sizeL_mem (l := l) (List.getElem_mem hlt)
              have gg1 : (0 : Int) ≤ (j : Int) := by omega
              have gg2 : (j : Int) < (l.length : Int) := by omega
              have gg3 : (j : Int) < (l'.length : Int) := by omega
              have wn : Below (w.heap.size + 2) (wr.alloc (.cells #[.int .i64 l[j].k, .int .i64 l[j].n, .string l[j].t, .slice l[j].A l[j].l.length l[j].c] 51)) (wr.alloc (.cells #[.int .i64 l[j].k, .int .i64 l[j].n, .string l[j].t, .slice l[j].A l[j].l.length l[j].c] 51)) := Below.refl _ _
              obtain ⟨g0, g1, g2, g3⟩ := D.Box.new wr l[j] 51
              have u3 : wr.cell? ⟨w.heap.size + 1, 3, none⟩ = some (.slice (some ⟨b', o', none⟩) l'.length c') := hx3.out
              have al : ∀ (p : Addr), p.block < wr.heap.size → (wr.alloc (.cells #[.int .i64 l[j].k, .int .i64 l[j].n, .string l[j].t, .slice l[j].A l[j].l.length l[j].c] 51)).cell? p = wr.cell? p := fun p hp => World.cell?_alloc_lt wr _ p hp
              have v3 := (al ⟨w.heap.size + 1, 3, none⟩ (show w.heap.size + 1 < wr.heap.size by omega)).trans u3
              have v4 := (al ⟨b', o' + j * 4, none⟩ (show b' < wr.heap.size by omega)).trans c0'
              have v5 := (al ⟨b', o' + j * 4 + 1, none⟩ (show b' < wr.heap.size by omega)).trans c1'
              have v6 := (al ⟨b', o' + j * 4 + 2, none⟩ (show b' < wr.heap.size by omega)).trans c2'
              have v7 := (al ⟨b', o' + j * 4 + 3, none⟩ (show b' < wr.heap.size by omega)).trans c3'
              clear al wn
              have nb1 : w.heap.size + 1 < wr.heap.size := by omega
              have nb2 : b' < wr.heap.size := by omega
              go_wp2_with fail
              go_region_held3 (fun w' => w'.cell? ⟨wr.heap.size, 0, none⟩ = some (.int .i64 l[j].k) ∧ w'.cell? ⟨wr.heap.size, 1, none⟩ = some (.int .i64 l[j].n) ∧ w'.cell? ⟨wr.heap.size, 2, none⟩ = some (.string l[j].t) ∧ w'.cell? ⟨wr.heap.size, 3, none⟩ = some (.slice l[j].A l[j].l.length l[j].c) ∧ w'.cell? ⟨w.heap.size + 1, 3, none⟩ = some (.slice (some ⟨b', o', none⟩) l'.length c') ∧ w'.cell? ⟨b', o' + j * 4, none⟩ = some (.int .i64 l'[j].k) ∧ w'.cell? ⟨b', o' + j * 4 + 1, none⟩ = some (.int .i64 l'[j].n) ∧ w'.cell? ⟨b', o' + j * 4 + 2, none⟩ = some (.string l'[j].t) ∧ w'.cell? ⟨b', o' + j * 4 + 3, none⟩ = some (.slice l'[j].A l'[j].l.length l'[j].c)) (go_keep)
                ((go_at_call 60; refine (ih l[j] l'[j] B _ ?_ ?_ ?_ ?_).mono ?_; omega; exact (hix.alloc (show B ≤ wr.heap.size by omega) _).drew; exact (hix'.alloc (show B ≤ wr.heap.size by omega) _).drew; (simp; omega); rintro e w1 ⟨rfl, hb1⟩; have r0 := (hb1.cell (p := ⟨wr.heap.size, 0, none⟩) (by simp <;> omega)).trans g0; have r1 := (hb1.cell (p := ⟨wr.heap.size, 1, none⟩) (by simp <;> omega)).trans g1; have r2 := (hb1.cell (p := ⟨wr.heap.size, 2, none⟩) (by simp <;> omega)).trans g2; have r3 := (hb1.cell (p := ⟨wr.heap.size, 3, none⟩) (by simp <;> omega)).trans g3; have r4 := (hb1.cell (p := ⟨w.heap.size + 1, 3, none⟩) (by simp <;> omega)).trans v3; have r5 := (hb1.cell (p := ⟨b', o' + j * 4, none⟩) (by simp <;> omega)).trans v4; have r6 := (hb1.cell (p := ⟨b', o' + j * 4 + 1, none⟩) (by simp <;> omega)).trans v5; have r7 := (hb1.cell (p := ⟨b', o' + j * 4 + 2, none⟩) (by simp <;> omega)).trans v6; have r8 := (hb1.cell (p := ⟨b', o' + j * 4 + 3, none⟩) (by simp <;> omega)).trans v7))
              have hb2 : Below (w.heap.size + 2) ((w.alloc (.cells #[.int .i64 k, .int .i64 n, .string t, .slice (some ⟨b, o, none⟩) l.length c] 51)).alloc (.cells #[.int .i64 k, .int .i64 n, .string t', .slice (some ⟨b', o', none⟩) l'.length c'] 51)) w1 := (hb.alloc (by omega) _).trans ((below_undrew hb1).mono (by simp <;> omega))
              have hb3 : Below w.heap.size w w1 := (((Below.refl _ _).alloc (Nat.le_refl _) _).alloc (by simp) _).trans (hb2.mono (by omega))
              cases hq : D.eqB l[j] l'[j]
              · have Hq := Lib.hid hq
                go_wp2_with fail
                go_ret
                exact ⟨ret_bool (by rw [Hfin.out, Ht.out, eqL_take l l' j hlt hlt' HE.out, Hq.out]; simp), hb3⟩
              · have Hq := Lib.hid hq
                go_wp2_with fail
                go_roundw
                case rel => exact ⟨j + 1, by omega, by go_num, by (show _ = _); rw [eqL_take_succ l l' j hlt hlt', HE.out, Hq.out]; rfl, hb2⟩
                case measure => simp [intOf]; omega
            · have hj' : j = l.length := by omega
              subst hj'
              go_wp2_with fail
              go_ret
              exact ⟨ret_bool (by have := HE.out; rw [List.take_length, List.take_of_length_le (by omega)] at this; rw [Hfin.out, Ht.out, this]; simp), b0⟩
        · have hn1 : ((l.length : Int) != (l'.length : Int)) = true := by simpa using (by omega : ¬ (l.length : Int) = (l'.length : Int))
          have H2 := Lib.hid (eqL_length l l' hlen)
          go_enter Try.func60, Try.ntmps60
          go_wp2_with fail
          go_ret
          exact ⟨ret_bool (by rw [Hfin.out, H2.out]; simp), ((Below.refl _ _).alloc (Nat.le_refl _) _).alloc (by simp) _⟩
    · subst hk
      have h1 : (n != n') = true := by simpa using hn
      have h2 : (n == n') = false := by simpa using hn
      have H2 := Lib.hid h2
      clear h2
      go_enter Try.func60, Try.ntmps60
      go_wp2_with fail
      go_ret
      exact ⟨ret_bool (by rw [Hfin.out, H2.out]; simp), ((Below.refl _ _).alloc (Nat.le_refl _) _).alloc (by simp) _⟩
  · have h1 : (k != k') = true := by simpa using hk
    have h2 : (k == k') = false := by simpa using hk
    have H2 := Lib.hid h2
    clear h2
    go_enter Try.func60, Try.ntmps60
    go_wp2_with fail
    go_ret
    exact ⟨ret_bool (by rw [Hfin.out, H2.out]; simp), ((Below.refl _ _).alloc (Nat.le_refl _) _).alloc (by simp) _⟩

set_option maxRecDepth 100000 in
set_option maxHeartbeats 1000000 in
theorem specEqual_any : ∀ (m : Nat) (d e : D) (B : Nat) (w : World), d.size ≤ m → d.In w B → e.In w B → B ≤ w.heap.size →
    Calls Try.prog 25 #[d.val, e.val] w fun x w' => x = .returned (.bool (D.eqB d e)) ∧ Below w.heap.size w w' := by
  intro m
  induction m with
  | zero => intro d e B w h; have := d.size_pos; omega
  | succ m ih =>
  intro d e B w hm hin hin' hB
  obtain ⟨k, n, t, A, c, l⟩ := d
  obtain ⟨k', n', t', A', c', l'⟩ := e
  have hcap := hin.cap
  have hcap' := hin'.cap
  simp only [D.l, D.c, D.t] at hcap hcap'
  simp only [D.val, D.k, D.n, D.t, D.A, D.l, D.c]
  have hmm : D.sizeL l ≤ m := by simp only [D.size] at hm; omega
  have hfin : D.eqB (.mk k n t A c l) (.mk k' n' t' A' c' l') = (k == k' && (n == n' && (t.toList == t'.toList && D.eqL l l'))) := rfl
  have Hfin := Lib.hid hfin
  clear hfin hm
  by_cases hk : k = k'
  · by_cases hn : n = n'
    · subst hk hn
      cases ht : (t.toList == t'.toList)
      · have h1 : (!(t.toList == t'.toList)) = true := by simp [ht]
        have H2 := Lib.hid ht
        go_enter Try.func25, Try.ntmps25
        go_wp2_with fail
        go_ret
        exact ⟨ret_bool (by rw [Hfin.out, H2.out]; simp), ((Below.refl _ _).alloc (Nat.le_refl _) _).alloc (by simp) _⟩
      · have Ht := Lib.hid ht
        have h1 : (!(t.toList == t'.toList)) = false := by simp [ht]
        by_cases hlen : l.length = l'.length
        · have hn1 : ((l.length : Int) != (l'.length : Int)) = false := by simp [hlen]
          have hlen1 : l'.length ≤ l.length := by omega
          have hlen2 : l.length ≤ l'.length := by omega
          clear hlen
          go_enter Try.func25, Try.ntmps25
          go_wp2_with fail
          go_loopw [37] (fun i wr => ∃ j : Nat, j ≤ l.length ∧ i = .int .i64 j ∧ Hid (D.eqL (l.take j) (l'.take j) = true) ∧ Below (w.heap.size + 2) ((w.alloc (.cells #[.int .i64 k, .int .i64 n, .string t, .slice A l.length c] 51)).alloc (.cells #[.int .i64 k, .int .i64 n, .string t', .slice A' l'.length c'] 51)) wr) (fun i _ => l.length - (intOf i).toNat)
          case atStart => exact ⟨0, Nat.zero_le _, rfl, by simp [Hid, D.eqL], Below.refl _ _⟩
          case round =>
            obtain ⟨j, hj, rfl, HE, hb⟩ := hrel
            have hs2 := hb.size
            simp only [World.size_alloc] at hs2
            have b0 : Below w.heap.size w wr := (((Below.refl _ _).alloc (Nat.le_refl _) _).alloc (by simp) _).trans (hb.mono (by omega))
            by_cases hlt : j < l.length
            · have hlt' : j < l'.length := by omega
              have hx2 : Hid (wr.cell? ⟨w.heap.size, 3, none⟩ = some (.slice A l.length c)) := (hb.cell (p := ⟨w.heap.size, 3, none⟩) (by simp <;> omega)).trans (((World.cell?_alloc_lt _ _ _ (by simp)).trans (D.Box.new w (.mk k n t A c l) 51).c3))
              have hx3 : Hid (wr.cell? ⟨w.heap.size + 1, 3, none⟩ = some (.slice A' l'.length c')) := (hb.cell (p := ⟨w.heap.size + 1, 3, none⟩) (by simp)).trans (by have := (D.Box.new (w.alloc (.cells #[.int .i64 k, .int .i64 n, .string t, .slice A l.length c] 51)) (.mk k n t' A' c' l') 51).c3; rw [World.size_alloc] at this; exact this)
              obtain ⟨b, o, rfl, hblk, c0, c1, c2, c3, hix⟩ := (hin.below (b0.mono hB)).at_ (i := j) (x := l[j]) (List.getElem?_eq_getElem hlt)
              obtain ⟨b', o', rfl, hblk', c0', c1', c2', c3', hix'⟩ := (hin'.below (b0.mono hB)).at_ (i := j) (x := l'[j]) (List.getElem?_eq_getElem hlt')
              have hsz := D.sizeL_mem (l := l) (List.getElem_mem hlt)
              have gg1 : (0 : Int) ≤ (j : Int) := by omega
              have gg2 : (j : Int) < (l.length : Int) := by omega
              have gg3 : (j : Int) < (l'.length : Int) := by omega
              have u3 : wr.cell? ⟨w.heap.size + 1, 3, none⟩ = some (.slice (some ⟨b', o', none⟩) l'.length c') := hx3.out
              have u2 : wr.cell? ⟨w.heap.size, 3, none⟩ = some (.slice (some ⟨b, o, none⟩) l.length c) := hx2.out
              go_wp2_with fail
              go_region_held3 (fun w' => w'.cell? ⟨w.heap.size, 3, none⟩ = some (.slice (some ⟨b, o, none⟩) l.length c) ∧ w'.cell? ⟨w.heap.size + 1, 3, none⟩ = some (.slice (some ⟨b', o', none⟩) l'.length c') ∧ w'.cell? ⟨b, o + j * 4, none⟩ = some (.int .i64 l[j].k) ∧ w'.cell? ⟨b, o + j * 4 + 1, none⟩ = some (.int .i64 l[j].n) ∧ w'.cell? ⟨b, o + j * 4 + 2, none⟩ = some (.string l[j].t) ∧ w'.cell? ⟨b, o + j * 4 + 3, none⟩ = some (.slice l[j].A l[j].l.length l[j].c) ∧ w'.cell? ⟨b', o' + j * 4, none⟩ = some (.int .i64 l'[j].k) ∧ w'.cell? ⟨b', o' + j * 4 + 1, none⟩ = some (.int .i64 l'[j].n) ∧ w'.cell? ⟨b', o' + j * 4 + 2, none⟩ = some (.string l'[j].t) ∧ w'.cell? ⟨b', o' + j * 4 + 3, none⟩ = some (.slice l'[j].A l'[j].l.length l'[j].c)) (go_keep)
                ((go_at_call 25; refine (ih l[j] l'[j] B _ ?_ ?_ ?_ ?_).mono ?_; omega; exact hix.drew; exact hix'.drew; (simp; omega); rintro e w1 ⟨rfl, hb1⟩; have r0 := (hb1.cell (p := ⟨w.heap.size, 3, none⟩) (by simp <;> omega)).trans u2; have r1 := (hb1.cell (p := ⟨w.heap.size + 1, 3, none⟩) (by simp <;> omega)).trans u3; have r2 := (hb1.cell (p := ⟨b, o + j * 4, none⟩) (by simp <;> omega)).trans c0; have r3 := (hb1.cell (p := ⟨b, o + j * 4 + 1, none⟩) (by simp <;> omega)).trans c1; have r4 := (hb1.cell (p := ⟨b, o + j * 4 + 2, none⟩) (by simp <;> omega)).trans c2; have r5 := (hb1.cell (p := ⟨b, o + j * 4 + 3, none⟩) (by simp <;> omega)).trans c3; have r6 := (hb1.cell (p := ⟨b', o' + j * 4, none⟩) (by simp <;> omega)).trans c0'; have r7 := (hb1.cell (p := ⟨b', o' + j * 4 + 1, none⟩) (by simp <;> omega)).trans c1'; have r8 := (hb1.cell (p := ⟨b', o' + j * 4 + 2, none⟩) (by simp <;> omega)).trans c2'; have r9 := (hb1.cell (p := ⟨b', o' + j * 4 + 3, none⟩) (by simp <;> omega)).trans c3'))
              have hb2 : Below (w.heap.size + 2) ((w.alloc (.cells #[.int .i64 k, .int .i64 n, .string t, .slice (some ⟨b, o, none⟩) l.length c] 51)).alloc (.cells #[.int .i64 k, .int .i64 n, .string t', .slice (some ⟨b', o', none⟩) l'.length c'] 51)) w1 := hb.trans ((below_undrew hb1).mono (show w.heap.size + 2 ≤ wr.heap.size by omega))
              have hb3 : Below w.heap.size w w1 := (((Below.refl _ _).alloc (Nat.le_refl _) _).alloc (by simp) _).trans (hb2.mono (by omega))
              cases hq : D.eqB l[j] l'[j]
              · have Hq := Lib.hid hq
                go_wp2_with fail
                go_ret
                exact ⟨ret_bool (by rw [Hfin.out, Ht.out, eqL_take l l' j hlt hlt' HE.out, Hq.out]; simp), hb3⟩
              · have Hq := Lib.hid hq
                go_wp2_with fail
                go_roundw
                case rel => exact ⟨j + 1, by omega, by go_num, by (show _ = _); rw [eqL_take_succ l l' j hlt hlt', HE.out, Hq.out]; rfl, hb2⟩
                case measure => simp [intOf]; omega
            · have hj' : j = l.length := by omega
              subst hj'
              go_wp2_with fail
              go_ret
              exact ⟨ret_bool (by have := HE.out; rw [List.take_length, List.take_of_length_le (by omega)] at this; rw [Hfin.out, Ht.out, this]; simp), b0⟩
        · have hn1 : ((l.length : Int) != (l'.length : Int)) = true := by simpa using (by omega : ¬ (l.length : Int) = (l'.length : Int))
          have H2 := Lib.hid (eqL_length l l' hlen)
          go_enter Try.func25, Try.ntmps25
          go_wp2_with fail
          go_ret
          exact ⟨ret_bool (by rw [Hfin.out, H2.out]; simp), ((Below.refl _ _).alloc (Nat.le_refl _) _).alloc (by simp) _⟩
    · subst hk
      have h1 : (n != n') = true := by simpa using hn
      have h2 : (n == n') = false := by simpa using hn
      have H2 := Lib.hid h2
      clear h2
      go_enter Try.func25, Try.ntmps25
      go_wp2_with fail
      go_ret
      exact ⟨ret_bool (by rw [Hfin.out, H2.out]; simp), ((Below.refl _ _).alloc (Nat.le_refl _) _).alloc (by simp) _⟩
  · have h1 : (k != k') = true := by simpa using hk
    have h2 : (k == k') = false := by simpa using hk
    have H2 := Lib.hid h2
    clear h2
    go_enter Try.func25, Try.ntmps25
    go_wp2_with fail
    go_ret
    exact ⟨ret_bool (by rw [Hfin.out, H2.out]; simp), ((Below.refl _ _).alloc (Nat.le_refl _) _).alloc (by simp) _⟩
end Go.Proofs.Ytpigpncbjckbcaa
