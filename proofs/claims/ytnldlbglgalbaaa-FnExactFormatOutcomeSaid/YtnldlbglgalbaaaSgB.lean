/-
  Strings as elements of rows: where they lie, the laws' own size, copies and comparison of rows of strings, and such rows as arguments.
-/
import Derived.Test.YtnldlbglgalbaaaRecB
import Derived.Test.YtnldlbglgalbaaaSTrees
import Derived.Test.YtnldlbglgalbaaaCopy
import Derived.Test.YtnldlbglgalbaaaPosts
import Derived.Test.YtnldlbglgalbaaaKoOpen
import Derived.Deep.RegionHeld3
namespace Go.Proofs.Ytnldlbglgalbaaa
open Go.ChangeShapes Go.WideShapes Go.ChangeAt Go.RowKit

abbrev Sg := ByteArray
namespace Sg
def E : Elem Sg where
  cells := fun x => [.string x]
  n := 1
  pos := by decide
  len := fun _ => rfl
  one := by
    intro b u hu
    simp only [List.mem_cons, List.not_mem_nil, or_false] at hu
    subst hu; rfl
  In := fun _ _ x => ByteArray.size x ≤ 9223372036854775807
  blks := fun _ => []
  lt := fun _ _ hb => by cases hb
  keepB := fun h _ => h
  more := fun h _ => h
theorem E_n : E.n = 1 := rfl
abbrev Er := ByteArray
def er (x : Sg) : Er := x
def bulk (x : Sg) : Nat := ByteArray.size x
theorem bulk_of_er {x y : Sg} (h : er x = er y) : bulk x = bulk y := by
  rw [show x = y from h]
theorem map_er (l : List Sg) : l.map er = l := by
  induction l with
  | nil => rfl
  | cons a r ih => rw [List.map_cons, ih]; rfl
theorem own_of {lo hi : Nat} {w : World} {x : Sg} (h : ByteArray.size x ≤ 9223372036854775807) : E.Own lo hi w x := by
  refine ⟨h, ?_, ?_, ?_⟩ <;> simp [E]
/-- The cells of element i. -/
theorem at_ {w : World} {B : Nat} {A : Option Addr} {c : Nat} {l : List Sg} (h : E.LIn w B A c l) {i : Nat} {x : Sg} (hi : l[i]? = some x) :
    ∃ b o : Nat, A = some ⟨b, o, none⟩ ∧ b < B ∧ w.cell? ⟨b, o + i, none⟩ = some (.string x) ∧ ByteArray.size x ≤ 9223372036854775807 := by
  obtain ⟨b, o, e, hb, hc, hx⟩ := h.at_ hi
  have h0 := hc 0 _ rfl
  exact ⟨b, o, e, hb, by simpa [E] using h0, hx⟩
end Sg
/-- Returned: a list of the call's own. -/
def RetSgL (x : List Sg.Er) (w : World) (e : Ending) (w' : World) : Prop := ∃ (A : Option Addr) (c : Nat) (l : List Sg), e = .returned (.slice A l.length c) ∧ l.map Sg.er = x ∧ Sg.E.LOwn w.heap.size w'.heap.size w' A c l ∧ Below w.heap.size w w'
theorem Sg_info : (Try.prog.info? 9).map (fun i => (i.zero, i.size, i.bytes)) = some (some (.string ⟨#[]⟩), 1, 16) := by kernel_rfl

set_option maxRecDepth 100000 in
set_option maxHeartbeats 1000000 in
theorem Sg_szL_any (A : Option Addr) (c : Nat) (l : List Sg) (B : Nat) (w : World) (left : Int) (h0 : 0 ≤ left) (hl : left ≤ 1048576) (hin : Sg.E.LIn w B A c l) (hB : B ≤ w.heap.size) :
    Calls Try.prog 44 #[.slice A l.length c, .int .i64 left] w fun e w' => e = .returned (.int .i64 (szR (Row.bulk Sg.bulk l) left)) ∧ Below w.heap.size w w' := by
  have hcap := hin.cap
  by_cases hfit : (l.length : Int) ≤ left
  · have hn : ¬ (left - (l.length : Int) < 0) := by omega
    have hb0 := Row.bulk_take_le Sg.bulk l 0
    go_enter Try.func44, Try.ntmps44
    go_wp2_with fail
    go_loopw [1, 5] (fun lf i wr => ∃ j : Nat, j ≤ l.length ∧ i = .int .i64 j ∧ (Row.bulk Sg.bulk (l.take j) : Int) + (l.length - j : Nat) ≤ left ∧ lf = .int .i64 (left - Row.bulk Sg.bulk (l.take j) - (l.length - j : Nat)) ∧ Below w.heap.size w wr) (fun _ i _ => l.length - (intOf i).toNat)
    case atStart => exact ⟨0, Nat.zero_le _, rfl, by simp [Row.bulk]; omega, by simp [Row.bulk], Below.refl _ _⟩
    case round =>
      obtain ⟨j, hj, rfl, hf, rfl, hb⟩ := hrel
      by_cases hlt : j < l.length
      · obtain ⟨b, o, rfl, hblk, c0, hix⟩ := Sg.at_ (hin.below (hb.mono hB)) (i := j) (x := l[j]) (List.getElem?_eq_getElem hlt)
        have hs2 := hb.size
        have HS : Hid (Row.bulk Sg.bulk (l.take (j + 1)) = Row.bulk Sg.bulk (l.take j) + 1 + (ByteArray.size l[j])) := Row.bulk_take_succ _ l j hlt
        have hle := Row.bulk_take_le Sg.bulk l (j + 1)
        rw [HS.out] at hle
        by_cases hy : ((ByteArray.size l[j]) : Int) ≤ left - Row.bulk Sg.bulk (l.take j) - (l.length - j : Nat)
        · have hy2 : ¬ (left - (Row.bulk Sg.bulk (l.take j) : Int) - (l.length - j : Nat) - ((ByteArray.size l[j] : Nat) : Int) < 0) := by omega
          go_wp2_with fail
          go_roundw
          case rel => exact ⟨j + 1, by omega, by go_num, by rw [HS.out]; omega, by rw [HS.out]; go_num, hb⟩
          case measure => simp [intOf]; omega
        · have hy2 : left - (Row.bulk Sg.bulk (l.take j) : Int) - (l.length - j : Nat) - ((ByteArray.size l[j] : Nat) : Int) < 0 := by omega
          go_wp2_with fail
          go_ret
          exact ⟨ret_int (by rw [szR_no (by omega)]), hb⟩
      · have hj' : j = l.length := by omega
        subst hj'
        go_wp2_with fail
        go_ret
        rw [List.take_length] at *
        exact ⟨ret_int (by rw [szR_yes (by omega)]; omega), hb⟩
  · have hn : left - (l.length : Int) < 0 := by omega
    go_enter Try.func44, Try.ntmps44
    go_wp2_with fail
    go_ret
    have := Row.bulk_take_le Sg.bulk l 0
    exact ⟨ret_int (by rw [szR_no (by omega)]), Below.refl _ _⟩

set_option maxRecDepth 100000 in
set_option maxHeartbeats 2000000 in
theorem Sg_toL_any (A : Option Addr) (c : Nat) (l : List Sg) (B : Nat) (w : World) (hbk : Row.bulk Sg.bulk l ≤ 1500000) (hin : Sg.E.LIn w B A c l) (hB : B ≤ w.heap.size) : Calls Try.prog 46 #[.slice A l.length c] w (RetSgL (l.map Sg.er) w) := by
  have hcap := hin.cap
  have hll := Row.bulk_len Sg.bulk l
  obtain ⟨i0, hi0, hz0, hz1, hz2⟩ := info_parts Sg_info
  have hmk := fun W => run_make_rowI (P := Try.prog) 38 9 i0 _ Try.underlying38 hi0 hz0 .i64 .i64 l.length l.length (Nat.le_refl _) (by rw [hz2]; omega) (by omega) W
  rw [hz1] at hmk
  go_enter Try.func46, Try.ntmps46
  go_wp2_with fail
  go_loopw [4] (fun i wr => ∃ j : Nat, j ≤ l.length ∧ i = .int .i64 j ∧ ∃ ds : List Sg, Hid (ds = l.take j) ∧ ds.length ≤ j ∧ j ≤ ds.length ∧ Sg.E.Fill wr w.heap.size 9 l.length ds ∧ Below w.heap.size w wr) (fun i _ => l.length - (intOf i).toNat)
  case atStart => exact ⟨0, Nat.zero_le _, rfl, [], by simp [Hid], Nat.le_refl _, Nat.le_refl _, Elem.Fill.new w _ (by rw [size_madeCells]; show l.length = 1 * l.length; omega), (Below.refl _ _).alloc (Nat.le_refl _) _⟩
  case round =>
    obtain ⟨j, hj, rfl, ds, HE, hd1, hd2, hF, hb⟩ := hrel
    by_cases hlt : j < l.length
    · obtain ⟨b, o, rfl, hblk, c0, hix⟩ := Sg.at_ (hin.below (hb.mono hB)) (i := j) (x := l[j]) (List.getElem?_eq_getElem hlt)
      have hs2 := hb.size
      have hglt : w.heap.size < wr.heap.size := hF.row.lt
      have e4 : Sg.E.n = 1 := rfl
      obtain ⟨v0, hc0⟩ := hF.row.old (i := j) (by rw [e4]; omega)
      have f0 := hF.row.frozen j
      have hst := hF.step (Below.refl _ _) (Sg.own_of (lo := wr.heap.size) (hi := wr.heap.size) (w := wr) (x := l[j]) hix) (by omega)
      have ej : Sg.E.n * ds.length = j := by rw [e4]; omega
      rw [ej] at hst
      have Hst := Lib.hid hst
      clear hst e4 ej
      go_wp2_with fail
      refine ⟨⟨j + 1, by omega, by go_num, ds ++ [l[j]], ?_, by simp; omega, by simp; omega, Hst.out, ?_⟩, by simp [intOf]; omega⟩
      · show _ = _
        rw [List.take_succ_eq_append_getElem hlt, HE.out]
      · exact hb.setCell (by simp) _
    · have hj' : j = l.length := by omega
      have hj'' : ds.length = l.length := by omega
      subst hj'
      have hdone := hF.done hj'' (by omega)
      have HE' := HE.out
      rw [List.take_length] at HE'
      have HR := Lib.hid HE'
      have HL := Lib.hid hj''
      clear hj'' HE'
      go_wp2_with fail
      go_ret
      exact ⟨some ⟨w.heap.size, 0, none⟩, l.length, ds, ret_sl HL.out.symm, by rw [HR.out], hdone, hb⟩

set_option maxRecDepth 100000 in
set_option maxHeartbeats 1000000 in
theorem Sg_eqL_any (A : Option Addr) (c : Nat) (l : List Sg) (A' : Option Addr) (c' : Nat) (l' : List Sg) (B : Nat) (w : World) (he : l.map Sg.er = l'.map Sg.er) (hin : Sg.E.LIn w B A c l) (hin' : Sg.E.LIn w B A' c' l') (hB : B ≤ w.heap.size) :
    Calls Try.prog 48 #[.slice A l.length c, .slice A' l'.length c'] w fun e w' => e = .returned (.bool true) ∧ Below w.heap.size w w' := by
  rw [Sg.map_er, Sg.map_er] at he
  subst he
  have hcap := hin.cap
  have hn1 : ((l.length : Int) != (l.length : Int)) = false := by simp
  go_enter Try.func48, Try.ntmps48
  go_wp2_with fail
  go_loopw [5] (fun i wr => ∃ j : Nat, j ≤ l.length ∧ i = .int .i64 j ∧ Below w.heap.size w wr) (fun i _ => l.length - (intOf i).toNat)
  case atStart => exact ⟨0, Nat.zero_le _, rfl, Below.refl _ _⟩
  case round =>
    obtain ⟨j, hj, rfl, hb⟩ := hrel
    by_cases hlt : j < l.length
    · obtain ⟨b, o, rfl, hblk, c0, _⟩ := Sg.at_ (hin.below (hb.mono hB)) (i := j) (x := l[j]) (List.getElem?_eq_getElem hlt)
      obtain ⟨b', o', rfl, hblk', c0', _⟩ := Sg.at_ (hin'.below (hb.mono hB)) (i := j) (x := l[j]) (List.getElem?_eq_getElem hlt)
      have g2 : (j : Int) < (l.length : Int) := by omega
      have hq1 : (ByteArray.toList l[j] != ByteArray.toList l[j]) = false := by simp
      go_wp2_with fail
      go_region
      all_goals go_wp2_with fail
      all_goals refine ⟨⟨j + 1, by omega, by go_num, hb.drew⟩, by simp [intOf]; omega⟩
    · have hj' : j = l.length := by omega
      subst hj'
      go_wp2_with fail
      go_ret
      exact ⟨rfl, hb⟩

set_option maxRecDepth 100000 in
set_option maxHeartbeats 1000000 in
theorem open_Sgrow {H : Type} {enc : TypeId × Value → H} {w : World} {base : Nat} {spare : Nat → Bool} {held : Bool} {fuel : Nat} {cs : List Value} {x : DataW H × List MemPlace} (h : DataW.trod enc Try.prog w base spare held fuel 38 cs = some x) :
    ∃ (A : Option Addr) (c : Nat) (l : List Sg), cs = [.slice A l.length c] ∧ Sg.E.LIn w w.heap.size A c l := by
  have hC : Try.prog.cellsOf 9 = 1 := by kernel_rfl
  rcases DataW.trod_slice Try.underlying38 h with ⟨rfl, _⟩ | ⟨a, len, cap, elems, rest, n, rfl, rfl, _, _, hl, hm, hlen, hel, _⟩
  · exact ⟨none, 0, [], rfl, Elem.LIn.nil_ (by omega) (fun _ => rfl)⟩
  · have key : ∀ i, i < len → ∃ d : Sg, Sg.E.In w w.heap.size d ∧ ∀ j u, (Sg.E.cells d)[j]? = some u → w.cell? (a.add (i * 1 + j)) = some u := by
      intro i hi
      have hi' := hel i hi
      rw [List.getElem?_eq_getElem (by omega)] at hi'
      obtain ⟨cs', hcs, ht⟩ := Option.bind_eq_some_iff.1 hi'
      rw [hC] at hcs
      obtain ⟨_, hlen', hat⟩ := World.cells?_some hcs
      match cs', hlen' with
      | [v0], _ =>
        obtain ⟨s, e, _, hs⟩ := DataW.trod_string Try.underlying9 ht
        simp only [List.cons.injEq, and_true] at e
        subst e
        refine ⟨s, hs, fun j u hu => ?_⟩
        have hj : j < 1 := by have h := (List.getElem?_eq_some_iff.1 hu).1; rw [Sg.E.len] at h; exact h
        have b := hat j (by simpa using hj)
        rw [Go.Deep.add_add] at b
        rw [b]
        exact hu
    obtain ⟨l, hll, hp⟩ := list_of len key
    refine ⟨some a, cap, l, by rw [hll], ⟨by omega, by unfold maxLen at hm; omega⟩, by simp, fun hne => ?_, fun d hd => ?_⟩
    · have hpos : 0 < l.length := List.length_pos_iff.2 hne
      have h0 : w.cell? (a.add (0 * 1 + 0)) = some _ := (hp 0 _ (List.getElem?_eq_getElem hpos)).2 0 _ rfl
      have hsp : a.spot = none := by
        have := spot_of_cell h0
        simpa [Addr.add] using this
      refine ⟨a.block, a.off, by rw [← hsp], ?_, ?_⟩
      · have := World.block_lt_of_cell? w _ h0
        simpa [Addr.add] using this
      · intro j u hu
        have hj : j < 1 * l.length := by have h := (List.getElem?_eq_some_iff.1 hu).1; rw [Elem.cellsL_length] at h; exact h
        have hi : l[j / 1]? = some l[j / 1] := List.getElem?_eq_getElem (by omega)
        have g := Elem.cellsL_get (E := Sg.E) hi (j := j % 1) (show j % 1 < 1 by omega)
        have e4 : Sg.E.n = 1 := rfl
        rw [e4, show 1 * (j / 1) + j % 1 = j by omega, hu] at g
        have b := (hp _ _ hi).2 (j % 1) u g.symm
        rw [add_plain a hsp] at b
        rwa [show j / 1 * 1 + j % 1 = j by omega] at b
    · obtain ⟨i, hi⟩ := List.mem_iff_getElem?.1 hd
      exact (hp i d hi).1
end Go.Proofs.Ytnldlbglgalbaaa
