/-
  Rows of Instr: the laws' own size and copies (written by gen/rec.py).
-/
import Derived.Test.YtpigpncbjckbcaaNtT
import Derived.Test.YtpigpncbjckbcaaCopy
namespace Go.Proofs.Ytpigpncbjckbcaa
open Go.RowKit

theorem Nt_info : (Try.prog.info? 53).map (fun i => (i.zero, i.size, i.bytes)) = some (some (.agg #[.int .i64 0, .int .i64 0, .int .i64 0, .int .i64 0, .string ⟨#[]⟩, .slice none 0 0]), 6, 72) := by kernel_rfl
set_option maxRecDepth 100000 in
set_option maxHeartbeats 1000000 in
theorem Nt_szL_any (A : Option Addr) (c : Nat) (l : List Nt) (B : Nat) (w : World) (left : Int) (h0 : 0 ≤ left) (hl : left ≤ 1048576) (hin : Nt.E.LIn w B A c l) (hB : B ≤ w.heap.size) :
    Calls Try.prog 58 #[.slice A l.length c, .int .i64 left] w fun e w' => e = .returned (.int .i64 (szR (Row.bulk Nt.bulk l) left)) ∧ Below w.heap.size w w' := by
  have hcap := hin.cap
  by_cases hfit : (l.length : Int) ≤ left
  · have hn : ¬ (left - (l.length : Int) < 0) := by omega
    have hb0 := Row.bulk_take_le Nt.bulk l 0
    go_enter Try.func58, Try.ntmps58
    go_wp2_with fail
    go_loopw [1, 5] (fun lf i wr => ∃ j : Nat, j ≤ l.length ∧ i = .int .i64 j ∧ (Row.bulk Nt.bulk (l.take j) : Int) + (l.length - j : Nat) ≤ left ∧ lf = .int .i64 (left - Row.bulk Nt.bulk (l.take j) - (l.length - j : Nat)) ∧ Below w.heap.size w wr) (fun _ i _ => l.length - (intOf i).toNat)
    case atStart => exact ⟨0, Nat.zero_le _, rfl, by simp [Row.bulk]; omega, by simp [Row.bulk], Below.refl _ _⟩
    case round =>
      obtain ⟨j, hj, rfl, hf, rfl, hb⟩ := hrel
      by_cases hlt : j < l.length
      · obtain ⟨b, o, rfl, hblk, c0, c1, c2, c3, c4, c5, hix⟩ := Nt.at_ (hin.below (hb.mono hB)) (i := j) (x := l[j]) (List.getElem?_eq_getElem hlt)
        have hs2 := hb.size
        have HS : Hid (Row.bulk Nt.bulk (l.take (j + 1)) = Row.bulk Nt.bulk (l.take j) + 1 + (l[j]).bulk) := Row.bulk_take_succ _ l j hlt
        have hle := Row.bulk_take_le Nt.bulk l (j + 1)
        rw [HS.out] at hle
        go_wp2_with fail
        refine (Nt_sz_any l[j] B _ _ (by omega) (by omega) hix (by omega)).mono ?_
        rintro e w1 ⟨rfl, hb1⟩
        by_cases hy : ((l[j]).bulk : Int) ≤ left - Row.bulk Nt.bulk (l.take j) - (l.length - j : Nat)
        · rw [szR_yes hy]
          have hy2 : ¬ (left - (Row.bulk Nt.bulk (l.take j) : Int) - (l.length - j : Nat) - ((l[j]).bulk : Int) < 0) := by omega
          go_wp2_with fail
          go_roundw
          case rel => exact ⟨j + 1, by omega, by go_num, by rw [HS.out]; omega, by rw [HS.out]; go_num, hb.trans (hb1.mono (by omega))⟩
          case measure => simp [intOf]; omega
        · rw [szR_no hy]
          go_wp2_with fail
          go_ret
          exact ⟨ret_int (by rw [szR_no (by omega)]), hb.trans (hb1.mono (by omega))⟩
      · have hj' : j = l.length := by omega
        subst hj'
        go_wp2_with fail
        go_ret
        rw [List.take_length] at *
        exact ⟨ret_int (by rw [szR_yes (by omega)]; omega), hb⟩
  · have hn : left - (l.length : Int) < 0 := by omega
    go_enter Try.func58, Try.ntmps58
    go_wp2_with fail
    go_ret
    have := Row.bulk_take_le Nt.bulk l 0
    exact ⟨ret_int (by rw [szR_no (by omega)]), Below.refl _ _⟩

set_option maxRecDepth 100000 in
set_option maxHeartbeats 2000000 in
theorem Nt_toL_any (A : Option Addr) (c : Nat) (l : List Nt) (B : Nat) (w : World) (hbk : Row.bulk Nt.bulk l ≤ 1500000) (hin : Nt.E.LIn w B A c l) (hB : B ≤ w.heap.size) : Calls Try.prog 59 #[.slice A l.length c] w (RetNtL (l.map Nt.er) w) := by
  have hcap := hin.cap
  have hll := Row.bulk_len Nt.bulk l
  obtain ⟨i0, hi0, hz0, hz1, hz2⟩ := info_parts Nt_info
  have hmk := fun W => run_make_rowN (P := Try.prog) 46 53 i0 _ Try.underlying46 hi0 hz0 .i64 .i64 l.length l.length (Nat.le_refl _) (by rw [hz2]; omega) (by omega) W
  rw [hz1] at hmk
  go_enter Try.func59, Try.ntmps59
  go_wp2_with fail
  go_loopw [4] (fun i wr => ∃ j : Nat, j ≤ l.length ∧ i = .int .i64 j ∧ ∃ ds : List Nt, Hid (ds.map Nt.er = (l.take j).map Nt.er) ∧ ds.length ≤ j ∧ j ≤ ds.length ∧ Nt.E.Fill wr w.heap.size 53 l.length ds ∧ Below w.heap.size w wr) (fun i _ => l.length - (intOf i).toNat)
  case atStart => exact ⟨0, Nat.zero_le _, rfl, [], by simp [Hid], Nat.le_refl _, Nat.le_refl _, Elem.Fill.new w _ (by rw [size_madeCells]; show l.length * 6 = 6 * l.length; omega), (Below.refl _ _).alloc (Nat.le_refl _) _⟩
  case round =>
    obtain ⟨j, hj, rfl, ds, HE, hd1, hd2, hF, hb⟩ := hrel
    by_cases hlt : j < l.length
    · obtain ⟨b, o, rfl, hblk, c0, c1, c2, c3, c4, c5, hix⟩ := Nt.at_ (hin.below (hb.mono hB)) (i := j) (x := l[j]) (List.getElem?_eq_getElem hlt)
      have hs2 := hb.size
      have hbk1 := Row.bulk_mem (f := Nt.bulk) (l := l) (List.getElem_mem hlt)
      have hglt : w.heap.size < wr.heap.size := hF.row.lt
      go_wp2_with fail
      refine (Nt_to_any l[j] B _ (by omega) hix (by omega)).mono ?_
      rintro e w1 ⟨d, rfl, hde, hod, hb1⟩
      have hrow1 := hF.row.below hb1 hglt
      have e4 : Nt.E.n = 6 := rfl
      obtain ⟨v0, hc0⟩ := hrow1.old (i := j * 6) (by rw [e4]; omega)
      have f0 := hrow1.frozen (j * 6)
      obtain ⟨v1, hc1⟩ := hrow1.old (i := j * 6 + 1) (by rw [e4]; omega)
      have f1 := hrow1.frozen (j * 6 + 1)
      obtain ⟨v2, hc2⟩ := hrow1.old (i := j * 6 + 2) (by rw [e4]; omega)
      have f2 := hrow1.frozen (j * 6 + 2)
      obtain ⟨v3, hc3⟩ := hrow1.old (i := j * 6 + 3) (by rw [e4]; omega)
      have f3 := hrow1.frozen (j * 6 + 3)
      obtain ⟨v4, hc4⟩ := hrow1.old (i := j * 6 + 4) (by rw [e4]; omega)
      have f4 := hrow1.frozen (j * 6 + 4)
      obtain ⟨v5, hc5⟩ := hrow1.old (i := j * 6 + 5) (by rw [e4]; omega)
      have f5 := hrow1.frozen (j * 6 + 5)
      have hst := hF.step hb1 hod (by omega)
      have ej : Nt.E.n * ds.length = j * 6 := by rw [e4]; omega
      rw [ej] at hst
      have Hst := Lib.hid hst
      have Hde := Lib.hid hde
      clear hde hst e4 ej hrow1
      simp only [Nt.val]
      go_wp2_with fail
      refine ⟨⟨j + 1, by omega, by go_num, ds ++ [d], ?_, by simp; omega, by simp; omega, Hst.out, ?_⟩, by simp [intOf]; omega⟩
      · show _ = _
        rw [List.take_succ_eq_append_getElem hlt, List.map_append, List.map_append, HE.out]
        simp [Hde.out]
      · exact ((((((hb.trans (hb1.mono (by omega))).setCell (by simp) _).setCell (by simp) _).setCell (by simp) _).setCell (by simp) _).setCell (by simp) _).setCell (by simp) _
    · have hj' : j = l.length := by omega
      have hj'' : ds.length = l.length := by omega
      subst hj'
      have hdone := hF.done hj'' (by omega)
      have HE' := HE.out
      rw [List.take_length] at HE'
      have HR := Lib.hid HE'
      have HL := Lib.hid hj''
      clear hj'' HE'
      go_wp2_with fail
      go_ret
      exact ⟨some ⟨w.heap.size, 0, none⟩, l.length, ds, ret_sl HL.out.symm, HR.out, hdone, hb⟩
end Go.Proofs.Ytpigpncbjckbcaa
