/-
  The model's draws of sets of scopes.
-/
import Derived.Test.YtknplopghgchaaaDraw
import Derived.Test.YtknplopghgchaaaSorted
namespace Go.Proofs.Ytknplopghgchaaa
open Go.RowKit

/-- Returned: a row of the call's own that may grow. -/
def RetO (l : List Int) (w : World) (e : Ending) (w' : World) : Prop := ∃ v : Value, e = .returned v ∧ w'.ownsRow w.heap.size 3 1 v l.length (l.map (Value.int .i64)) ∧ Below w.heap.size w w'

set_option maxHeartbeats 1600000 in
theorem l2PutO_any (A : Option Addr) (c : Nat) (l : List Int) (n : Int) (B : Nat) (w : World) (hll : l.length ≤ 2000000) (hin : IIn w B A c l) (hB : B ≤ w.heap.size) : Calls Try.prog 123 #[.slice A l.length c, .int .i64 n] w (RetO (putL n l) w) := by
  have hcap := hin.cap
  obtain ⟨i0, hi, hz0, hz1, hz2⟩ := info_parts infoI
  have hown0 : (w.alloc (.cells #[] 3)).ownsRow w.heap.size 3 1 (.slice (some ⟨w.heap.size, 0, none⟩) 0 0) ([] : List Int).length (([] : List Int).map (Value.int .i64)) := World.ownsRow_made w #[] 0 (Nat.le_refl _) (by unfold maxLen; omega) (by simp)
  have b0 : Below w.heap.size w (w.alloc (.cells #[] 3)) := (Below.refl _ _).alloc (Nat.le_refl _) _
  go_enter Try.func123, Try.ntmps123
  go_wp2_with fail
  go_loopw [5, 6, 12] (fun v p i wr => ∃ (j : Nat) (ds : List Int) (q : Bool), j ≤ l.length ∧ i = .int .i64 j ∧ p = .bool q ∧ wr.ownsRow w.heap.size 3 1 v ds.length (ds.map (Value.int .i64)) ∧ Hid (putL n l = ds ++ (if q then l.drop j else putL n (l.drop j))) ∧ ds.length ≤ j + (if q then 1 else 0) ∧ Below w.heap.size w wr) (fun _ _ i _ => l.length - (intOf i).toNat)
  case atStart => exact ⟨0, [], false, Nat.zero_le _, rfl, rfl, hown0, by simp [Hid], by simp, b0⟩
  case round =>
    obtain ⟨j, ds, q, hj, rfl, rfl, hown, HE, hdl, hb⟩ := hrel
    have hs2 := hb.size
    by_cases hlt : j < l.length
    · obtain ⟨b, o, rfl, hblk, c0⟩ := (hin.below (hb.mono hB)).at_ hlt
      have hd := List.drop_eq_getElem_cons hlt
      have HD := Lib.hid hd
      clear hd
      cases q
      · simp only [Bool.false_eq_true, if_false, Nat.add_zero] at HE hdl
        rcases Int.lt_trichotomy l[j] n with hc | hc | hc
        · have h1 : ¬ n ≤ l[j] := by omega
          go_wp2_with (at_builtin; refine wpList_append_own _ rfl _ _ 33 rfl w.heap.size 3 i0 (.int .i64 0) 1 8 Try.underlying33 hi hz0 hz1 hz2 rfl (by decide) _ ds.length (ds.map (Value.int .i64)) rfl (hown.alloc _) ⟨wr.heap.size, 0, none⟩ 1 1 [.int .i64 l[j]] rfl rfl (inews _ _) (ione _) (by unfold maxLen; omega) (by omega) (by simp; omega) ?_)
          intro v' w1 hown' hgr _
          obtain ⟨r1, r2, r3⟩ := igrow hb hs2 hown hown' hgr
          clear hown' hgr hown
          go_wp2_with fail
          refine ⟨⟨j + 1, ds ++ [l[j]], false, by omega, by go_num, rfl, r1, ?_, by simp; omega, r2⟩, by simp [intOf]; omega⟩
          show _ = _
          rw [HE.out, HD.out, putL, if_neg (by omega)]
          simp only [Bool.false_eq_true, if_false, List.append_assoc, List.singleton_append]
        · have h1 : n ≤ l[j] := by omega
          have h2 : ¬ n < l[j] := by omega
          have HC := Lib.hid hc
          clear hc
          go_wp2_with (at_builtin; refine wpList_append_own _ rfl _ _ 33 rfl w.heap.size 3 i0 (.int .i64 0) 1 8 Try.underlying33 hi hz0 hz1 hz2 rfl (by decide) _ ds.length (ds.map (Value.int .i64)) rfl (hown.alloc _) ⟨wr.heap.size, 0, none⟩ 1 1 [.int .i64 l[j]] rfl rfl (inews _ _) (ione _) (by unfold maxLen; omega) (by omega) (by simp; omega) ?_)
          intro v' w1 hown' hgr _
          obtain ⟨r1, r2, r3⟩ := igrow hb hs2 hown hown' hgr
          clear hown' hgr hown
          go_wp2_with fail
          refine ⟨⟨j + 1, ds ++ [l[j]], true, by omega, by go_num, rfl, r1, ?_, by simp; omega, r2⟩, by simp [intOf]; omega⟩
          show _ = _
          rw [HE.out, HD.out, putL, if_pos h1, if_neg (by have := HC.out; omega)]
          simp only [if_true, List.append_assoc, List.singleton_append]
        · have h1 : n ≤ l[j] := by omega
          go_wp2_with (at_builtin; refine wpList_append_own _ rfl (.tmp 26) (.tmp 28) 33 rfl w.heap.size 3 i0 (.int .i64 0) 1 8 Try.underlying33 hi hz0 hz1 hz2 rfl (by decide) _ ds.length (ds.map (Value.int .i64)) rfl (hown.alloc _) ⟨wr.heap.size, 0, none⟩ 1 1 [.int .i64 n] rfl rfl (inews _ _) (ione _) (by unfold maxLen; omega) (by omega) (by simp; omega) ?_)
          intro v' w1 hown' hgr _
          obtain ⟨r1, r2, r3⟩ := igrow hb hs2 hown hown' hgr
          clear hown' hgr hown
          have hdl2 : (ds ++ [n]).length ≤ j + 1 := by simp; omega
          obtain ⟨es, he⟩ : ∃ es, es = ds ++ [n] := ⟨_, rfl⟩
          rw [← he] at r1 hdl2
          have HS := Lib.hid he
          clear he
          go_wp2_with (at_builtin; refine wpList_append_own _ rfl (.tmp 30) (.tmp 32) 33 rfl w.heap.size 3 i0 (.int .i64 0) 1 8 Try.underlying33 hi hz0 hz1 hz2 rfl (by decide) _ es.length (es.map (Value.int .i64)) rfl (r1.alloc _) ⟨w1.heap.size, 0, none⟩ 1 1 [.int .i64 l[j]] rfl rfl (inews _ _) (ione _) (by unfold maxLen; omega) (by omega) (by simp; omega) ?_)
          intro v'' w2 hown' hgr _
          obtain ⟨s1, s2, s3⟩ := igrow r2 r3 r1 hown' hgr
          clear hown' hgr r1
          go_wp2_with fail
          refine ⟨⟨j + 1, es ++ [l[j]], true, by omega, by go_num, rfl, s1, ?_, by simp; omega, s2⟩, by simp [intOf]; omega⟩
          show _ = _
          rw [HS.out, HE.out, HD.out, putL, if_pos h1, if_pos (by omega)]
          simp only [if_true, List.append_assoc, List.singleton_append, List.cons_append, List.nil_append]
      · simp only [if_true] at HE hdl
        go_wp2_with (at_builtin; refine wpList_append_own _ rfl _ _ 33 rfl w.heap.size 3 i0 (.int .i64 0) 1 8 Try.underlying33 hi hz0 hz1 hz2 rfl (by decide) _ ds.length (ds.map (Value.int .i64)) rfl (hown.alloc _) ⟨wr.heap.size, 0, none⟩ 1 1 [.int .i64 l[j]] rfl rfl (inews _ _) (ione _) (by unfold maxLen; omega) (by omega) (by simp; omega) ?_)
        intro v' w1 hown' hgr _
        obtain ⟨r1, r2, r3⟩ := igrow hb hs2 hown hown' hgr
        clear hown' hgr hown
        go_wp2_with fail
        refine ⟨⟨j + 1, ds ++ [l[j]], true, by omega, by go_num, rfl, r1, ?_, by simp; omega, r2⟩, by simp [intOf]; omega⟩
        show _ = _
        rw [HE.out, HD.out]
        simp only [if_true, List.append_assoc, List.singleton_append]
    · have hj' : j = l.length := by omega
      subst hj'
      cases q
      · simp only [Bool.false_eq_true, if_false, List.drop_length, Nat.add_zero] at HE hdl
        go_wp2_with (at_builtin; refine wpList_append_own _ rfl _ _ 33 rfl w.heap.size 3 i0 (.int .i64 0) 1 8 Try.underlying33 hi hz0 hz1 hz2 rfl (by decide) _ ds.length (ds.map (Value.int .i64)) rfl (hown.alloc _) ⟨wr.heap.size, 0, none⟩ 1 1 [.int .i64 n] rfl rfl (inews _ _) (ione _) (by unfold maxLen; omega) (by omega) (by simp; omega) ?_)
        intro v' w1 hown' hgr _
        obtain ⟨r1, r2, r3⟩ := igrow hb hs2 hown hown' hgr
        clear hown' hgr hown
        have HQ : Hid (putL n l = ds ++ [n]) := HE.out
        go_wp2_with fail
        go_ret
        exact ⟨_, rfl, by rw [HQ.out]; exact r1, r2⟩
      · simp only [if_true, List.drop_length, List.append_nil] at HE
        go_wp2_with fail
        go_ret
        exact ⟨_, rfl, by rw [HE.out]; exact hown, hb⟩


set_option maxRecDepth 100000 in
set_option maxHeartbeats 800000 in
theorem l01New_any (A : Option Addr) (c : Nat) (l : List Int) (B : Nat) (w : World) (hll : l.length ≤ 2000000) (hin : BIn w B A c l) (hB : B ≤ w.heap.size) :
    Calls Try.prog 93 #[.slice A l.length c] w fun e w' => e = .returned (.pointer (some ⟨w.heap.size, 0, none⟩)) ∧ Cur B w.heap.size w' A c l ∧ Below w.heap.size w w' := by
  have hcap := hin.cap
  go_enter Try.func93, Try.ntmps93
  go_wp2_with fail
  go_loopw [3, 4] (fun h i wr => ∃ (j : Nat) (hh : Int), j ≤ l.length ∧ i = .int .i64 j ∧ h = .int .i64 hh ∧ wr = w) (fun _ i _ => l.length - (intOf i).toNat)
  case atStart => exact ⟨0, _, Nat.zero_le _, rfl, rfl, rfl⟩
  case round =>
    obtain ⟨j, hh, hj, rfl, rfl, hw⟩ := hrel
    obtain rfl := hw.symm
    have fin : ∀ hh : Int, Cur B w.heap.size (w.alloc (.cells #[.slice A l.length c, .int .i64 0, .int .i64 hh] 112)) A c l := fun hh =>
      ⟨by rw [cell_of_row _ _ _ _ _ _ (heap_alloc_new w _)]; rfl, ⟨0, Nat.zero_le _, by rw [cell_of_row _ _ _ _ _ _ (heap_alloc_new w _)]; rfl⟩, ⟨hh, by rw [cell_of_row _ _ _ _ _ _ (heap_alloc_new w _)]; rfl⟩, Free.new _ _ _, hin.keep fun k hk => Below.heap_alloc _ _ _ (by omega), hB, by simp⟩
    have Fin := Lib.hid fin
    clear fin
    by_cases hlt : j < l.length
    · obtain ⟨b, o, rfl, hblk, c0⟩ := hin.at_ hlt
      by_cases h4 : (j : Int) < 4000
      · go_wp2_with fail
        exact ⟨⟨j + 1, _, by omega, by go_num, rfl, by first | rfl | trivial⟩, by simp [intOf]; omega⟩
      · go_wp2_with fail
        go_ret
        exact ⟨rfl, Fin.out _, (Below.refl _ _).alloc (Nat.le_refl _) _⟩
    · go_wp2_with fail
      go_ret
      exact ⟨rfl, Fin.out _, (Below.refl _ _).alloc (Nat.le_refl _) _⟩

theorem iblk_of_row {w : World} {base : Nat} {v : Value} {ds : List Int} (h : w.ownsRow base 3 1 v ds.length (ds.map (Value.int .i64))) {w' : World} {g : Nat} (hg : g < base) (hc : Chg [g] w w') : w'.ownsRow base 3 1 v ds.length (ds.map (Value.int .i64)) :=
  h.kept (row := some g) ⟨hc.os, hc.tape, hc.output, hc.size, fun k hk hn => hc.block k hk (by simp; rintro rfl; exact hn rfl)⟩ (by
    right
    intro e
    have := (h.lt g e).1
    omega)
theorem row_below {w : World} {base : Nat} {v : Value} {ds : List Int} (h : w.ownsRow base 3 1 v ds.length (ds.map (Value.int .i64))) {w' : World} (hb : Below w.heap.size w w') : w'.ownsRow base 3 1 v ds.length (ds.map (Value.int .i64)) :=
  h.kept (row := none) ⟨hb.os, hb.tape, hb.output, hb.size, fun k hk _ => hb.block k hk⟩ (by cases Value.ownBlock _ <;> simp)
theorem row_base {w : World} {base base' : Nat} {v : Value} {ds : List Int} (h : w.ownsRow base 3 1 v ds.length (ds.map (Value.int .i64))) (hb : base' ≤ base) : w.ownsRow base' 3 1 v ds.length (ds.map (Value.int .i64)) := by
  refine ⟨h.1, ?_⟩
  rcases h.2 with h1 | ⟨g, cap, cur, e1, e2, e3⟩
  · exact .inl h1
  · exact .inr ⟨g, cap, cur, e1, by omega, e3⟩

set_option maxRecDepth 100000 in
set_option maxHeartbeats 1600000 in
theorem l2Set_any (B g : Nat) (w : World) (A : Option Addr) (c : Nat) (l : List Int) (hc : Cur B g w A c l) :
    Calls Try.prog 189 #[.pointer (some ⟨g, 0, none⟩)] w fun e w' => ∃ (v : Value) (ds : List Int), e = .returned v ∧ ds.length ≤ 3 ∧ w'.ownsRow w.heap.size 3 1 v ds.length (ds.map (Value.int .i64)) ∧ Cur B g w' A c l ∧ Chg [g] w w' := by
  have hown0 : (w.alloc (.cells #[] 3)).ownsRow w.heap.size 3 1 (.slice (some ⟨w.heap.size, 0, none⟩) 0 0) ([] : List Int).length (([] : List Int).map (Value.int .i64)) := World.ownsRow_made w #[] 0 (Nat.le_refl _) (by unfold maxLen; omega) (by simp)
  have b0 : Below w.heap.size w (w.alloc (.cells #[] 3)) := (Below.refl _ _).alloc (Nat.le_refl _) _
  have hglt := hc.lt
  have hc0 := hc.below b0
  go_enter Try.func189, Try.ntmps189
  go_wp2_with fail
  refine (l01Below_any 4 (by omega) (by omega) B g _ A c l hc0).mono ?_
  rintro e w1 ⟨⟨x, rfl, hx⟩, hc1, hch1⟩
  have hown1 := iblk_of_row hown0 hglt hch1
  have hchA : Chg [g] w w1 := (Chg.of_below b0).trans hch1
  clear hown0 hc0 hch1 b0
  go_wp2_with fail
  go_loopw [3, 4] (fun v n wr => ∃ (ds : List Int) (k : Nat), n = .int .i64 k ∧ ds.length + k ≤ 3 ∧ wr.ownsRow w.heap.size 3 1 v ds.length (ds.map (Value.int .i64)) ∧ Cur B g wr A c l ∧ Chg [g] w wr) (fun _ n _ => (intOf n).toNat)
  case atStart => exact ⟨[], x, rfl, by simp; omega, hown1, hc1, hchA⟩
  case round =>
    obtain ⟨ds, k, rfl, hk, hown, hc2, hch⟩ := hrel
    have hz := hch.size
    by_cases h0 : (0 : Int) < (k : Int)
    · have hl3 : ds.length ≤ 2000000 := by omega
      obtain ⟨A1, c1, rfl, hio⟩ := own_of_row hown
      go_wp2_with fail
      refine (l01Below_any 9 (by omega) (by omega) B g _ A c l hc2).mono ?_
      rintro e w2 ⟨⟨y, rfl, hy⟩, hc3, hch3⟩
      have hz3 := hch3.size
      have hi := hio.inn.chg hch3 (Nat.le_refl _) (fun q hq => by have := hio.lo_ q hq; simp; omega)
      go_wp2_with fail
      refine (l2PutO_any A1 c1 ds _ _ _ hl3 hi hz3).mono ?_
      rintro e w3 ⟨v3, rfl, hown3, hb3⟩
      have hc4 := hc3.below hb3
      have hch4 : Chg [g] w w3 := (hch.trans hch3).trans (Chg.of_below hb3)
      have hlen := putL_length (1 + (y : Int)) ds
      have hown4 := row_base hown3 (base' := w.heap.size) (by omega)
      clear hown3 hown hio hi hb3 hch3 hc3
      go_wp2_with fail
      refine ⟨⟨_, k - 1, by go_num, by omega, hown4, hc4, hch4⟩, by simp [intOf]; omega⟩
    · go_wp2_with fail
      go_ret
      exact ⟨_, rfl, ds, by omega, hown, hc2, hch⟩
end Go.Proofs.Ytknplopghgchaaa
