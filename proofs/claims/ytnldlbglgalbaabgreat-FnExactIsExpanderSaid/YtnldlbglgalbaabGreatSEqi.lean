/-
  Equality of syntax objects: the program's.
-/
import Derived.Test.YtnldlbglgalbaabGreatSEqs
import Derived.Test.YtnldlbglgalbaabGreatScTops
namespace Go.Proofs.YtnldlbglgalbaabGreat
open Go.RowKit

theorem implSameInts_any (A : Option Addr) (c : Nat) (l : List Int) (A' : Option Addr) (c' : Nat) (l' : List Int) (B : Nat) (w : World) (hin : IIn w B A c l) (hin' : IIn w B A' c' l') :
    Calls Tryz.prog 89 #[.slice A l.length c, .slice A' l'.length c'] w fun e w' => e = .returned (.bool (l == l')) ∧ Below w.heap.size w w' := by
  have hcap := hin.cap
  have hcap' := hin'.cap
  by_cases hlen : l.length = l'.length
  · by_cases hl : l = []
    · subst hl
      have hl' : l' = [] := List.length_eq_zero_iff.1 hlen.symm
      subst hl'
      refine (Tryz.slices_Equal_int_empty A A' c 0 c' w (by omega)).mono ?_
      rintro e w' ⟨rfl, rfl⟩
      exact ⟨rfl, Below.refl _ _⟩
    · obtain ⟨b, o, rfl, _, _⟩ := hin.mem hl
      obtain ⟨b', o', rfl, _, _⟩ := hin'.mem (by rintro rfl; exact hl (List.length_eq_zero_iff.1 hlen))
      refine (Tryz.slices_Equal_int b o l.length c b' o' l'.length c' l l' w (Nat.le_refl _) (Nat.le_refl _) (by omega) (by omega) (igetD hin) (igetD hin')).mono ?_
      rintro e w' ⟨rfl, q, rfl⟩
      exact ⟨ret_bool (by rw [List.take_length, List.take_length]), below_undrewN (Below.refl _ _)⟩
  · refine (Tryz.slices_Equal_int_lens A A' l.length c l'.length c' w hlen).mono ?_
    rintro e w' ⟨rfl, rfl⟩
    refine ⟨ret_bool ?_, Below.refl _ _⟩
    symm
    rw [beq_eq_false_iff_ne]
    rintro rfl
    exact hlen rfl

def SEqvOk (m : Nat) : Prop := ∀ (d e : S) (B : Nat) (w : World), d.size ≤ m → d.In w B → e.In w B → B ≤ w.heap.size →
    Calls Tryz.prog 114 #[d.val, e.val] w fun x w' => x = .returned (.bool (S.eqB d e)) ∧ Below w.heap.size w w'

set_option maxRecDepth 100000 in
set_option maxHeartbeats 1000000 in
theorem equalFunc_any (m : Nat) (ih : SEqvOk m) (k n : Int) (t : ByteArray) (sa : Option Addr) (sc : Nat) (s : List Int) (A : Option Addr) (c : Nat) (l : List S) (k' n' : Int) (t' : ByteArray) (sa' : Option Addr) (sc' : Nat) (s' : List Int) (A' : Option Addr) (c' : Nat) (l' : List S) (B : Nat) (w : World) (hm : S.sizeL l ≤ m)
    (hin : (S.mk k n t sa sc s A c l).In w B) (hin' : (S.mk k' n' t' sa' sc' s' A' c' l').In w B) (hB : B ≤ w.heap.size) :
    Calls Tryz.prog 138 #[.slice A l.length c, .slice A' l'.length c', .func (.func 114) #[] #[]] w fun x w' => x = .returned (.bool (S.eqL l l')) ∧ Below w.heap.size w w' := by
  have hcap := hin.cap
  have hcap' := hin'.cap
  simp only [S.l, S.c, S.t] at hcap hcap'
  by_cases hlen : l.length = l'.length
  · have hn1 : ((l.length : Int) != (l'.length : Int)) = false := by simp [hlen]
    have hlen1 : l'.length ≤ l.length := by omega
    have hlen2 : l.length ≤ l'.length := by omega
    clear hlen
    go_enter Tryz.func138, Tryz.ntmps138
    go_wp2_with fail
    go_loopw [17] (fun i wr => ∃ j : Nat, j ≤ l.length ∧ i = .int .i64 j ∧ Hid (S.eqL (l.take j) (l'.take j) = true) ∧ Below w.heap.size w wr) (fun i _ => l.length - (intOf i).toNat)
    case atStart => exact ⟨0, Nat.zero_le _, rfl, by simp [Hid, S.eqL], Below.refl _ _⟩
    case round =>
      obtain ⟨j, hj, rfl, HE, hb⟩ := hrel
      have hs2 := hb.size
      by_cases hlt : j < l.length
      · have hlt' : j < l'.length := by omega
        obtain ⟨b, o, rfl, hblk, c0, c1, c2, c3, c4, hix⟩ := (hin.below (hb.mono hB)).at_ (i := j) (x := l[j]) (List.getElem?_eq_getElem hlt)
        obtain ⟨b', o', rfl, hblk', c0', c1', c2', c3', c4', hix'⟩ := (hin'.below (hb.mono hB)).at_ (i := j) (x := l'[j]) (List.getElem?_eq_getElem hlt')
        have hsz := S.sizeL_mem (l := l) (List.getElem_mem hlt)
        have gg1 : (0 : Int) ≤ (j : Int) := by omega
        have gg2 : (j : Int) < (l.length : Int) := by omega
        have gg3 : (j : Int) < (l'.length : Int) := by omega
        have al : ∀ (p : Addr), p.block < wr.heap.size → (wr.alloc (.cells #[.int .i64 l[j].k, .int .i64 l[j].n, .string l[j].t, .slice l[j].sa l[j].s.length l[j].sc, .slice l[j].A l[j].l.length l[j].c] 43)).cell? p = wr.cell? p := fun p hp => World.cell?_alloc_lt wr _ p hp
        have v0 := (al ⟨b', o' + j * 5, none⟩ (show b' < wr.heap.size by omega)).trans c0'
        have v1 := (al ⟨b', o' + j * 5 + 1, none⟩ (show b' < wr.heap.size by omega)).trans c1'
        have v2 := (al ⟨b', o' + j * 5 + 2, none⟩ (show b' < wr.heap.size by omega)).trans c2'
        have v3 := (al ⟨b', o' + j * 5 + 3, none⟩ (show b' < wr.heap.size by omega)).trans c3'
        have v4 := (al ⟨b', o' + j * 5 + 4, none⟩ (show b' < wr.heap.size by omega)).trans c4'
        clear al
        have bn : Below wr.heap.size wr ((wr.alloc (.cells #[.int .i64 l[j].k, .int .i64 l[j].n, .string l[j].t, .slice l[j].sa l[j].s.length l[j].sc, .slice l[j].A l[j].l.length l[j].c] 43)).alloc (.cells #[.int .i64 l'[j].k, .int .i64 l'[j].n, .string l'[j].t, .slice l'[j].sa l'[j].s.length l'[j].sc, .slice l'[j].A l'[j].l.length l'[j].c] 43)) := ((Below.refl _ _).alloc (Nat.le_refl _) _).alloc (by simp) _
        go_wp2_with fail
        refine (ih l[j] l'[j] B _ (by omega) (hix.below (bn.mono (by omega))) (hix'.below (bn.mono (by omega))) (by simp; omega)).mono ?_
        rintro e w1 ⟨rfl, hb1⟩
        have hb2 : Below w.heap.size w w1 := hb.trans ((bn.trans (hb1.mono (by simp; omega))).mono hs2)
        clear bn hb1
        cases hq : S.eqB l[j] l'[j]
        · have Hq := Lib.hid hq
          go_wp2_with fail
          go_ret
          exact ⟨ret_bool (by rw [seqL_take l l' j hlt hlt' HE.out, Hq.out]; rfl), hb2⟩
        · have Hq := Lib.hid hq
          go_wp2_with fail
          go_roundw
          case rel => exact ⟨j + 1, by omega, by go_num, by (show _ = _); rw [seqL_take_succ l l' j hlt hlt', HE.out, Hq.out]; rfl, hb2⟩
          case measure => simp [intOf]; omega
      · have hj' : j = l.length := by omega
        subst hj'
        go_wp2_with fail
        go_ret
        exact ⟨ret_bool (by have := HE.out; rwa [List.take_length, List.take_of_length_le (by omega), eq_comm] at this), hb⟩
  · have hn1 : ((l.length : Int) != (l'.length : Int)) = true := by simpa using (by omega : ¬ (l.length : Int) = (l'.length : Int))
    have Hn := Lib.hid (seqL_length l l' hlen)
    go_enter Tryz.func138, Tryz.ntmps138
    go_wp2_with fail
    go_ret
    exact ⟨ret_bool Hn.out.symm, Below.refl _ _⟩

set_option maxRecDepth 100000 in
set_option maxHeartbeats 2000000 in
theorem implSEqual_any : ∀ m, SEqvOk m := by
  intro m
  induction m with
  | zero => intro d e B w h; have := d.size_pos; omega
  | succ m ih =>
  intro d e B w hm hin hin' hB
  obtain ⟨k, n, t, sa, sc, s, A, c, l⟩ := d
  obtain ⟨k', n', t', sa', sc', s', A', c', l'⟩ := e
  have hcap := hin.cap
  have hcap' := hin'.cap
  have hsc := hin.scopes
  have hsc' := hin'.scopes
  simp only [S.l, S.c, S.t] at hcap hcap'
  simp only [S.sa, S.sc, S.s] at hsc hsc'
  simp only [S.val, S.k, S.n, S.t, S.sa, S.sc, S.s, S.A, S.l, S.c]
  have hmm : S.sizeL l ≤ m := by simp only [S.size] at hm; omega
  have hfin : S.eqB (.mk k n t sa sc s A c l) (.mk k' n' t' sa' sc' s' A' c' l') = (k == k' && (n == n' && (t.toList == t'.toList && (s == s' && S.eqL l l')))) := rfl
  have Hfin := Lib.hid hfin
  clear hfin hm
  by_cases hk : k = k'
  · by_cases hn : n = n'
    · subst hk hn
      have h01 : (k == k) = true := beq_self_eq_true _
      have h02 : (n == n) = true := beq_self_eq_true _
      cases ht : (t.toList == t'.toList)
      · have H2 := Lib.hid ht
        go_enter Tryz.func114, Tryz.ntmps114
        go_wp2_with fail
        go_ret
        exact ⟨ret_bool (by rw [Hfin.out, H2.out]; simp), ((Below.refl _ _).alloc (Nat.le_refl _) _).alloc (by simp) _⟩
      · have Ht := Lib.hid ht
        go_enter Tryz.func114, Tryz.ntmps114
        go_wp2_with fail
        refine (implSameInts_any sa sc s sa' sc' s' B _ ((hsc.alloc hB _).alloc (by simp; omega) _) ((hsc'.alloc hB _).alloc (by simp; omega) _)).mono ?_
        rintro e w0 ⟨rfl, hb0⟩
        have z0 := hb0.size
        simp only [World.size_alloc] at z0 hb0
        have x0 := (S.Box.new w (.mk k n t sa sc s A c l) 43).below (w' := w0) (B := w.heap.size + 1) (((Below.refl _ _).alloc (by simp) _).trans (hb0.mono (by omega))) (by omega)
        have hy : (w.alloc (.cells #[.int .i64 k, .int .i64 n, .string t, .slice sa s.length sc, .slice A l.length c] 43)).heap.size = w.heap.size + 1 := by simp
        have x1 := (S.Box.new (w.alloc (.cells #[.int .i64 k, .int .i64 n, .string t, .slice sa s.length sc, .slice A l.length c] 43)) (.mk k n t' sa' sc' s' A' c' l') 43).below (w' := w0) (B := w.heap.size + 1 + 1) hb0 (by rw [hy]; omega)
        rw [hy] at x1
        have g4 : w0.cell? ⟨w.heap.size, 4, none⟩ = some (.slice A l.length c) := x0.c4
        have g4' : w0.cell? ⟨w.heap.size + 1, 4, none⟩ = some (.slice A' l'.length c') := x1.c4
        have bb : Below w.heap.size w w0 := (((Below.refl _ _).alloc (Nat.le_refl _) _).alloc (by simp) _).trans (hb0.mono (by omega))
        clear x0 x1 hb0 hy
        cases hs : (s == s')
        · have Hs := Lib.hid hs
          clear hs
          go_wp2_with fail
          go_ret
          exact ⟨ret_bool (by rw [Hfin.out, Ht.out, Hs.out]; simp), bb⟩
        · have Hs := Lib.hid hs
          clear hs
          go_wp2_with fail
          refine (equalFunc_any m ih k n t sa sc s A c l k n t' sa' sc' s' A' c' l' B _ hmm (hin.below (bb.mono hB)) (hin'.below (bb.mono hB)) (by omega)).mono ?_
          rintro e w1 ⟨rfl, hb1⟩
          have hb : Below w.heap.size w w1 := bb.trans (hb1.mono (by omega))
          go_wp2_with fail
          go_ret
          exact ⟨ret_bool (by rw [Hfin.out, Ht.out, Hs.out]; simp), hb⟩
    · subst hk
      have h1 : (n == n') = false := by simpa using hn
      have H2 := Lib.hid h1
      go_enter Tryz.func114, Tryz.ntmps114
      go_wp2_with fail
      go_ret
      exact ⟨ret_bool (by rw [Hfin.out, H2.out]; simp), ((Below.refl _ _).alloc (Nat.le_refl _) _).alloc (by simp) _⟩
  · have h1 : (k == k') = false := by simpa using hk
    have H2 := Lib.hid h1
    go_enter Tryz.func114, Tryz.ntmps114
    go_wp2_with fail
    go_ret
    exact ⟨ret_bool (by rw [Hfin.out, H2.out]; simp), ((Below.refl _ _).alloc (Nat.le_refl _) _).alloc (by simp) _⟩
end Go.Proofs.YtnldlbglgalbaabGreat
