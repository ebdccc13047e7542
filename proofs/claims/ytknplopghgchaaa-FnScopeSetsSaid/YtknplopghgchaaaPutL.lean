/-
  Sets of scopes: the model's lists with a scope more or less.
-/
import Derived.Test.YtknplopghgchaaaPut
namespace Go.Proofs.Ytknplopghgchaaa
open Go.RowKit

/-- The list with n at its place. -/
def putL (n : Int) : List Int → List Int | [] => [n] | x :: r => if n ≤ x then (if n < x then n :: x :: r else x :: r) else x :: putL n r

set_option maxHeartbeats 1600000 in
theorem l2Put_any (A : Option Addr) (c : Nat) (l : List Int) (n : Int) (B : Nat) (w : World) (hll : l.length ≤ 2000000) (hin : IIn w B A c l) (hB : B ≤ w.heap.size) : Calls Try.prog 123 #[.slice A l.length c, .int .i64 n] w (RetI (putL n l) w) := by
  have hcap := hin.cap
  obtain ⟨i0, hi, hz0, hz1, hz2⟩ := info_parts infoI
  have hown0 : (w.alloc (.cells #[] 3)).ownsRow w.heap.size 3 1 (.slice (some ⟨w.heap.size, 0, none⟩) 0 0) ([] : List Int).length (([] : List Int).map (Value.int .i64)) := World.ownsRow_made w #[] 0 (Nat.le_refl _) (by unfold maxLen; omega) (by simp)
  have b0 : Below w.heap.size w (w.alloc (.cells #[] 3)) := (Below.refl _ _).alloc (Nat.le_refl _) _
  go_enter Try.func123, Try.ntmps123
  go_wp2_with fail
  go_loopw [5, 6, 12] (fun v p i wr => ∃ (j : Nat) (ds : List Int) (q : Bool), j ≤ l.length ∧ i = .int .i64 j ∧ p = .bool q ∧ wr.ownsRow w.heap.size 3 1 v ds.length (ds.map (Value.int .i64)) ∧ Hid (putL n l = ds ++ (if q then l.drop j else putL n (l.drop j))) ∧ ds.length ≤ j + (if q then 1 else 0) ∧ Below w.heap.size w wr) (fun _ _ i _ => l.length - (intOf i).toNat)
  case atStart => exact ⟨0, [], false, Nat.zero_le _, rfl, rfl, hown0, by simp [Hid], by simp, b0⟩
  case round =>
    obtain ⟨j, ds, q, hj, rfl, rfl, hown, HE, hdl, hb⟩ := hrel
    have hs2 := hb.size
    by_cases hlt : j < l.length
    · obtain ⟨b, o, rfl, hblk, c0⟩ := (hin.below (hb.mono hB)).at_ hlt
      have hd := List.drop_eq_getElem_cons hlt
      have HD := Lib.hid hd
      clear hd
      cases q
      · simp only [Bool.false_eq_true, if_false, Nat.add_zero] at HE hdl
        rcases Int.lt_trichotomy l[j] n with hc | hc | hc
        · have h1 : ¬ n ≤ l[j] := by omega
          go_wp2_with (at_builtin; refine wpList_append_own _ rfl _ _ 33 rfl w.heap.size 3 i0 (.int .i64 0) 1 8 Try.underlying33 hi hz0 hz1 hz2 rfl (by decide) _ ds.length (ds.map (Value.int .i64)) rfl (hown.alloc _) ⟨wr.heap.size, 0, none⟩ 1 1 [.int .i64 l[j]] rfl rfl (inews _ _) (ione _) (by unfold maxLen; omega) (by omega) (by simp; omega) ?_)
          intro v' w1 hown' hgr _
          obtain ⟨r1, r2, r3⟩ := igrow hb hs2 hown hown' hgr
          clear hown' hgr hown
          go_wp2_with fail
          refine ⟨⟨j + 1, ds ++ [l[j]], false, by omega, by go_num, rfl, r1, ?_, by simp; omega, r2⟩, by simp [intOf]; omega⟩
          show _ = _
          rw [HE.out, HD.out, putL, if_neg (by omega)]
          simp only [Bool.false_eq_true, if_false, List.append_assoc, List.singleton_append]
        · have h1 : n ≤ l[j] := by omega
          have h2 : ¬ n < l[j] := by omega
          have HC := Lib.hid hc
          clear hc
          go_wp2_with (at_builtin; refine wpList_append_own _ rfl _ _ 33 rfl w.heap.size 3 i0 (.int .i64 0) 1 8 Try.underlying33 hi hz0 hz1 hz2 rfl (by decide) _ ds.length (ds.map (Value.int .i64)) rfl (hown.alloc _) ⟨wr.heap.size, 0, none⟩ 1 1 [.int .i64 l[j]] rfl rfl (inews _ _) (ione _) (by unfold maxLen; omega) (by omega) (by simp; omega) ?_)
          intro v' w1 hown' hgr _
          obtain ⟨r1, r2, r3⟩ := igrow hb hs2 hown hown' hgr
          clear hown' hgr hown
          go_wp2_with fail
          refine ⟨⟨j + 1, ds ++ [l[j]], true, by omega, by go_num, rfl, r1, ?_, by simp; omega, r2⟩, by simp [intOf]; omega⟩
          show _ = _
          rw [HE.out, HD.out, putL, if_pos h1, if_neg (by have := HC.out; omega)]
          simp only [if_true, List.append_assoc, List.singleton_append]
        · have h1 : n ≤ l[j] := by omega
          go_wp2_with (at_builtin; refine wpList_append_own _ rfl (.tmp 26) (.tmp 28) 33 rfl w.heap.size 3 i0 (.int .i64 0) 1 8 Try.underlying33 hi hz0 hz1 hz2 rfl (by decide) _ ds.length (ds.map (Value.int .i64)) rfl (hown.alloc _) ⟨wr.heap.size, 0, none⟩ 1 1 [.int .i64 n] rfl rfl (inews _ _) (ione _) (by unfold maxLen; omega) (by omega) (by simp; omega) ?_)
          intro v' w1 hown' hgr _
          obtain ⟨r1, r2, r3⟩ := igrow hb hs2 hown hown' hgr
          clear hown' hgr hown
          have hdl2 : (ds ++ [n]).length ≤ j + 1 := by simp; omega
          obtain ⟨es, he⟩ : ∃ es, es = ds ++ [n] := ⟨_, rfl⟩
          rw [← he] at r1 hdl2
          have HS := Lib.hid he
          clear he
          go_wp2_with (at_builtin; refine wpList_append_own _ rfl (.tmp 30) (.tmp 32) 33 rfl w.heap.size 3 i0 (.int .i64 0) 1 8 Try.underlying33 hi hz0 hz1 hz2 rfl (by decide) _ es.length (es.map (Value.int .i64)) rfl (r1.alloc _) ⟨w1.heap.size, 0, none⟩ 1 1 [.int .i64 l[j]] rfl rfl (inews _ _) (ione _) (by unfold maxLen; omega) (by omega) (by simp; omega) ?_)
          intro v'' w2 hown' hgr _
          obtain ⟨s1, s2, s3⟩ := igrow r2 r3 r1 hown' hgr
          clear hown' hgr r1
          go_wp2_with fail
          refine ⟨⟨j + 1, es ++ [l[j]], true, by omega, by go_num, rfl, s1, ?_, by simp; omega, s2⟩, by simp [intOf]; omega⟩
          show _ = _
          rw [HS.out, HE.out, HD.out, putL, if_pos h1, if_pos (by omega)]
          simp only [if_true, List.append_assoc, List.singleton_append, List.cons_append, List.nil_append]
      · simp only [if_true] at HE hdl
        go_wp2_with (at_builtin; refine wpList_append_own _ rfl _ _ 33 rfl w.heap.size 3 i0 (.int .i64 0) 1 8 Try.underlying33 hi hz0 hz1 hz2 rfl (by decide) _ ds.length (ds.map (Value.int .i64)) rfl (hown.alloc _) ⟨wr.heap.size, 0, none⟩ 1 1 [.int .i64 l[j]] rfl rfl (inews _ _) (ione _) (by unfold maxLen; omega) (by omega) (by simp; omega) ?_)
        intro v' w1 hown' hgr _
        obtain ⟨r1, r2, r3⟩ := igrow hb hs2 hown hown' hgr
        clear hown' hgr hown
        go_wp2_with fail
        refine ⟨⟨j + 1, ds ++ [l[j]], true, by omega, by go_num, rfl, r1, ?_, by simp; omega, r2⟩, by simp [intOf]; omega⟩
        show _ = _
        rw [HE.out, HD.out]
        simp only [if_true, List.append_assoc, List.singleton_append]
    · have hj' : j = l.length := by omega
      subst hj'
      cases q
      · simp only [Bool.false_eq_true, if_false, List.drop_length, Nat.add_zero] at HE hdl
        go_wp2_with (at_builtin; refine wpList_append_own _ rfl _ _ 33 rfl w.heap.size 3 i0 (.int .i64 0) 1 8 Try.underlying33 hi hz0 hz1 hz2 rfl (by decide) _ ds.length (ds.map (Value.int .i64)) rfl (hown.alloc _) ⟨wr.heap.size, 0, none⟩ 1 1 [.int .i64 n] rfl rfl (inews _ _) (ione _) (by unfold maxLen; omega) (by omega) (by simp; omega) ?_)
        intro v' w1 hown' hgr _
        obtain ⟨r1, r2, r3⟩ := igrow hb hs2 hown hown' hgr
        clear hown' hgr hown
        obtain ⟨A', c', rfl, ho⟩ := own_of_row r1
        have HQ : Hid (putL n l = ds ++ [n]) := HE.out
        clear r1
        go_wp2_with fail
        go_ret
        exact ⟨A', c', by rw [HQ.out]; rfl, by rw [HQ.out]; exact ho, r2⟩
      · simp only [if_true, List.drop_length, List.append_nil] at HE
        obtain ⟨A', c', rfl, ho⟩ := own_of_row hown
        clear hown
        go_wp2_with fail
        go_ret
        exact ⟨A', c', by rw [HE.out]; rfl, by rw [HE.out]; exact ho, hb⟩

/-- The list without n. -/
def cutL (n : Int) (l : List Int) : List Int := l.filter (fun x => !(x == n))
theorem filter_take_succ {p : Int → Bool} {l : List Int} {j : Nat} (h : j < l.length) : (l.take (j + 1)).filter p = (l.take j).filter p ++ (if p l[j] then [l[j]] else []) := by
  rw [List.take_succ_eq_append_getElem h, List.filter_append]
  cases hp : p l[j] <;> simp [hp]
theorem filter_take_len {p : Int → Bool} (l : List Int) (j : Nat) : ((l.take j).filter p).length ≤ j := by
  have := List.length_filter_le p (l.take j)
  rw [List.length_take] at this
  omega

set_option maxHeartbeats 1600000 in
theorem l2Flip_any (A : Option Addr) (c : Nat) (l : List Int) (n : Int) (B : Nat) (w : World) (hll : l.length ≤ 2000000) (hin : IIn w B A c l) (hB : B ≤ w.heap.size) : Calls Try.prog 124 #[.slice A l.length c, .int .i64 n] w (RetI (if l.contains n then cutL n l else putL n l) w) := by
  have hcap := hin.cap
  obtain ⟨i0, hi, hz0, hz1, hz2⟩ := info_parts infoI
  cases hq : l.contains n
  · have Hq := Lib.hid hq
    clear hq
    simp only [Bool.false_eq_true, if_false]
    go_enter Try.func124, Try.ntmps124
    go_wp2_with (go_at_call 55; refine (specHas_any A c l n B _ hin).mono ?_; rintro e' w' ⟨rfl, hw⟩; obtain rfl := hw.symm; rw [Hq.out])
    refine (l2Put_any A c l n B _ hll hin hB).mono ?_
    rintro e w1 ⟨A', c', rfl, ho, hb⟩
    go_wp2_with fail
    go_ret
    exact ⟨A', c', rfl, ho, hb⟩
  · have Hq := Lib.hid hq
    clear hq
    simp only [if_true]
    have hown0 : (w.alloc (.cells #[] 3)).ownsRow w.heap.size 3 1 (.slice (some ⟨w.heap.size, 0, none⟩) 0 0) ([] : List Int).length (([] : List Int).map (Value.int .i64)) := World.ownsRow_made w #[] 0 (Nat.le_refl _) (by unfold maxLen; omega) (by simp)
    have b0 : Below w.heap.size w (w.alloc (.cells #[] 3)) := (Below.refl _ _).alloc (Nat.le_refl _) _
    go_enter Try.func124, Try.ntmps124
    go_wp2_with (go_at_call 55; refine (specHas_any A c l n B _ hin).mono ?_; rintro e' w' ⟨rfl, hw⟩; obtain rfl := hw.symm; rw [Hq.out])
    go_loopw [5, 18] (fun v i wr => ∃ (j : Nat) (ds : List Int), j ≤ l.length ∧ i = .int .i64 j ∧ wr.ownsRow w.heap.size 3 1 v ds.length (ds.map (Value.int .i64)) ∧ Hid (ds = (l.take j).filter (fun x => !(x == n))) ∧ ds.length ≤ j ∧ Below w.heap.size w wr) (fun _ i _ => l.length - (intOf i).toNat)
    case atStart => exact ⟨0, [], Nat.zero_le _, rfl, hown0, by simp [Hid], by simp, b0⟩
    case round =>
      obtain ⟨j, ds, hj, rfl, hown, HE, hdl, hb⟩ := hrel
      have hs2 := hb.size
      by_cases hlt : j < l.length
      · obtain ⟨b, o, rfl, hblk, c0⟩ := (hin.below (hb.mono hB)).at_ hlt
        have HT := Lib.hid (filter_take_succ (p := fun x => !(x == n)) hlt)
        by_cases hc : l[j] = n
        · have h1 : (l[j] != n) = false := by simp [hc]
          have HR : Hid (ds = (l.take (j + 1)).filter (fun x => !(x == n))) := by
            show _ = _
            rw [HT.out, HE.out]; simp [hc]
          clear hc
          go_wp2_with fail
          exact ⟨⟨j + 1, ds, by omega, by go_num, hown, HR, by omega, hb⟩, by simp [intOf]; omega⟩
        · have h1 : (l[j] != n) = true := by simpa using hc
          have HR : Hid (ds ++ [l[j]] = (l.take (j + 1)).filter (fun x => !(x == n))) := by
            show _ = _
            rw [HT.out, HE.out]; simp [hc]
          clear hc
          go_wp2_with (at_builtin; refine wpList_append_own _ rfl _ _ 33 rfl w.heap.size 3 i0 (.int .i64 0) 1 8 Try.underlying33 hi hz0 hz1 hz2 rfl (by decide) _ ds.length (ds.map (Value.int .i64)) rfl (hown.alloc _) ⟨wr.heap.size, 0, none⟩ 1 1 [.int .i64 l[j]] rfl rfl (inews _ _) (ione _) (by unfold maxLen; omega) (by omega) (by simp; omega) ?_)
          intro v' w1 hown' hgr _
          obtain ⟨r1, r2, r3⟩ := igrow hb hs2 hown hown' hgr
          clear hown' hgr hown
          go_wp2_with fail
          exact ⟨⟨j + 1, ds ++ [l[j]], by omega, by go_num, r1, HR, by simp; omega, r2⟩, by simp [intOf]; omega⟩
      · have hj' : j = l.length := by omega
        subst hj'
        have HQ : Hid (cutL n l = ds) := by
          show _ = _
          have := HE.out
          rw [List.take_length] at this
          exact this.symm
        obtain ⟨A', c', rfl, ho⟩ := own_of_row hown
        clear hown
        go_wp2_with fail
        go_ret
        exact ⟨A', c', by rw [HQ.out]; rfl, by rw [HQ.out]; exact ho, hb⟩

/-- The list without the scopes of the third kind. -/
def nousesL (l : List Int) : List Int := l.filter (fun x => !(kindI x == 3))
set_option maxHeartbeats 1600000 in
theorem l2NoUses_any (A : Option Addr) (c : Nat) (l : List Int) (B : Nat) (w : World) (hll : l.length ≤ 2000000) (hin : IIn w B A c l) (hB : B ≤ w.heap.size) : Calls Try.prog 125 #[.slice A l.length c] w (RetI (nousesL l) w) := by
  have hcap := hin.cap
  obtain ⟨i0, hi, hz0, hz1, hz2⟩ := info_parts infoI
  have hown0 : (w.alloc (.cells #[] 3)).ownsRow w.heap.size 3 1 (.slice (some ⟨w.heap.size, 0, none⟩) 0 0) ([] : List Int).length (([] : List Int).map (Value.int .i64)) := World.ownsRow_made w #[] 0 (Nat.le_refl _) (by unfold maxLen; omega) (by simp)
  have b0 : Below w.heap.size w (w.alloc (.cells #[] 3)) := (Below.refl _ _).alloc (Nat.le_refl _) _
  go_enter Try.func125, Try.ntmps125
  go_wp2_with fail
  go_loopw [3, 9] (fun v i wr => ∃ (j : Nat) (ds : List Int), j ≤ l.length ∧ i = .int .i64 j ∧ wr.ownsRow w.heap.size 3 1 v ds.length (ds.map (Value.int .i64)) ∧ Hid (ds = (l.take j).filter (fun x => !(kindI x == 3))) ∧ ds.length ≤ j ∧ Below w.heap.size w wr) (fun _ i _ => l.length - (intOf i).toNat)
  case atStart => exact ⟨0, [], Nat.zero_le _, rfl, hown0, by simp [Hid], by simp, b0⟩
  case round =>
    obtain ⟨j, ds, hj, rfl, hown, HE, hdl, hb⟩ := hrel
    have hs2 := hb.size
    by_cases hlt : j < l.length
    · obtain ⟨b, o, rfl, hblk, c0⟩ := (hin.below (hb.mono hB)).at_ hlt
      have HT := Lib.hid (filter_take_succ (p := fun x => !(kindI x == 3)) hlt)
      by_cases hc : kindI l[j] = 3
      · have h1 : (kindI l[j] != 3) = false := by simp [hc]
        have HR : Hid (ds = (l.take (j + 1)).filter (fun x => !(kindI x == 3))) := by
          show _ = _
          rw [HT.out, HE.out]; simp [hc]
        clear hc
        go_wp2_with fail
        refine (specKind_any _ _).mono ?_
        rintro e w1 ⟨rfl, hb1⟩
        have r1 : w1.ownsRow w.heap.size 3 1 _ ds.length (ds.map (Value.int .i64)) := hown.kept (row := none) ⟨hb1.os, hb1.tape, hb1.output, hb1.size, fun k hk _ => hb1.block k hk⟩ (by cases Value.ownBlock _ <;> simp)
        have r2 := hb.trans (hb1.mono hs2)
        go_wp2_with fail
        exact ⟨⟨j + 1, ds, by omega, by go_num, r1, HR, by omega, r2⟩, by simp [intOf]; omega⟩
      · have h1 : (kindI l[j] != 3) = true := by simpa using hc
        have HR : Hid (ds ++ [l[j]] = (l.take (j + 1)).filter (fun x => !(kindI x == 3))) := by
          show _ = _
          rw [HT.out, HE.out]; simp [hc]
        clear hc
        go_wp2_with fail
        refine (specKind_any _ _).mono ?_
        rintro e w1 ⟨rfl, hb1⟩
        have hown1 : w1.ownsRow w.heap.size 3 1 _ ds.length (ds.map (Value.int .i64)) := hown.kept (row := none) ⟨hb1.os, hb1.tape, hb1.output, hb1.size, fun k hk _ => hb1.block k hk⟩ (by cases Value.ownBlock _ <;> simp)
        have hbx := hb.trans (hb1.mono hs2)
        have hs3 := hbx.size
        clear hown
        go_wp2_with (at_builtin; refine wpList_append_own _ rfl _ _ 33 rfl w.heap.size 3 i0 (.int .i64 0) 1 8 Try.underlying33 hi hz0 hz1 hz2 rfl (by decide) _ ds.length (ds.map (Value.int .i64)) rfl (hown1.alloc _) ⟨w1.heap.size, 0, none⟩ 1 1 [.int .i64 l[j]] rfl rfl (inews _ _) (ione _) (by unfold maxLen; omega) (by omega) (by simp; omega) ?_)
        intro v' w2 hown' hgr _
        obtain ⟨r1, r2, r3⟩ := igrow hbx hs3 hown1 hown' hgr
        clear hown' hgr hown1
        go_wp2_with fail
        exact ⟨⟨j + 1, ds ++ [l[j]], by omega, by go_num, r1, HR, by simp; omega, r2⟩, by simp [intOf]; omega⟩
    · have hj' : j = l.length := by omega
      subst hj'
      have HQ : Hid (nousesL l = ds) := by
        show _ = _
        have := HE.out
        rw [List.take_length] at this
        exact this.symm
      obtain ⟨A', c', rfl, ho⟩ := own_of_row hown
      clear hown
      go_wp2_with fail
      go_ret
      exact ⟨A', c', by rw [HQ.out]; rfl, by rw [HQ.out]; exact ho, hb⟩

def subL (a b : List Int) : Bool := a.all (b.contains ·)
set_option maxHeartbeats 800000 in
theorem l2Subset_any (A : Option Addr) (c : Nat) (l : List Int) (A' : Option Addr) (c' : Nat) (l' : List Int) (B : Nat) (w : World) (hin : IIn w B A c l) (hin' : IIn w B A' c' l') :
    Calls Try.prog 128 #[.slice A l.length c, .slice A' l'.length c'] w fun e w' => e = .returned (.bool (subL l l')) ∧ w' = w := by
  have hcap := hin.cap
  go_enter Try.func128, Try.ntmps128
  go_wp2_with fail
  go_loopw [9] (fun i wr => ∃ j : Nat, j ≤ l.length ∧ i = .int .i64 j ∧ Hid (subL l l' = subL (l.drop j) l') ∧ wr = w) (fun i _ => l.length - (intOf i).toNat)
  case atStart => exact ⟨0, Nat.zero_le _, rfl, by simp [Hid], rfl⟩
  case round =>
    obtain ⟨j, hj, rfl, HE, rfl⟩ := hrel
    by_cases hlt : j < l.length
    · obtain ⟨b, o, rfl, hblk, c0⟩ := hin.at_ hlt
      have HD : Hid (subL l l' = (l'.contains l[j] && subL (l.drop (j + 1)) l')) := by
        show _ = _
        rw [HE.out, List.drop_eq_getElem_cons hlt]; rfl
      cases hq : l'.contains l[j]
      · have Hq := Lib.hid hq
        have HF : Hid (subL l l' = false) := by
          show _ = _
          rw [HD.out, hq]; rfl
        clear hq
        go_wp2_with (go_at_call 55; refine (specHas_any A' c' l' l[j] B _ hin').mono ?_; rintro e' w' ⟨rfl, hw⟩; obtain rfl := hw.symm; rw [Hq.out])
        go_ret
        exact ⟨ret_bool HF.out.symm, rfl⟩
      · have Hq := Lib.hid hq
        have HF : Hid (subL l l' = subL (l.drop (j + 1)) l') := by
          show _ = _
          rw [HD.out, hq]; rfl
        clear hq
        go_wp2_with (go_at_call 55; refine (specHas_any A' c' l' l[j] B _ hin').mono ?_; rintro e' w' ⟨rfl, hw⟩; obtain rfl := hw.symm; rw [Hq.out])
        exact ⟨⟨j + 1, by omega, by go_num, HF, by first | rfl | trivial⟩, by simp [intOf]; omega⟩
    · have hj' : j = l.length := by omega
      subst hj'
      have HF : Hid (subL l l' = true) := by
        show _ = _
        rw [HE.out, List.drop_length]; rfl
      go_wp2_with fail
      go_ret
      exact ⟨ret_bool HF.out.symm, rfl⟩
end Go.Proofs.Ytknplopghgchaaa
