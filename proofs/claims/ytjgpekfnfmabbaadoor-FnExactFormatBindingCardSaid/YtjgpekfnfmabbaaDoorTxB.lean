/-
  The text of scopes, the model's and the program's (written by gen/txb.py).
-/
import Derived.Test.YtjgpekfnfmabbaaDoorTxI
import Derived.Deep.AppendLies
namespace Go.Proofs.YtjgpekfnfmabbaaDoor
open Go.RowKit

set_option maxRecDepth 100000 in
set_option maxHeartbeats 2000000 in
theorem joinB_any (A : Option Addr) (c : Nat) (l : List ByteArray) (sep : ByteArray) (B : Nat) (w : World) (hin : TIn w B A c l) (hB : B ≤ w.heap.size) (hsep : sep.size ≤ 100) (hlen : (Lib.join (l.map (·.data.toList)) sep.data.toList).length ≤ 100000000) (hl : l.length ≤ 2000000) :
    Calls Tryd.prog 53 #[.slice A l.length c, .string sep] w fun e w' => e = .returned (.string (baL (Lib.join (l.map (·.data.toList)) sep.data.toList))) ∧ Below w.heap.size w w' := by
  have hcap := hin.cap
  have mono : ∀ j, j ≤ l.length → (Lib.join ((l.take j).map (·.data.toList)) sep.data.toList).length ≤ (Lib.join (l.map (·.data.toList)) sep.data.toList).length := by
    intro j hj
    have e : l.map (·.data.toList) = (l.take j).map (·.data.toList) ++ (l.drop j).map (·.data.toList) := by rw [← List.map_append, List.take_append_drop]
    rw [e]
    have gen : ∀ (b a : List (List UInt8)), (Lib.join a sep.data.toList).length ≤ (Lib.join (a ++ b) sep.data.toList).length := by
      intro b
      induction b with
      | nil => intro a; simp
      | cons y r ih =>
        intro a
        have h1 := ih (a ++ [y])
        rw [List.append_assoc, List.singleton_append] at h1
        refine Nat.le_trans ?_ h1
        by_cases ha : a = []
        · subst ha; simp [Lib.join_nil]
        · rw [join_snoc a y _ ha, List.length_append, List.length_append]; omega
    exact gen _ _
  have HM := Lib.hid mono
  have HLL := Lib.hid hlen
  clear mono hlen
  go_enter Tryd.func53, Tryd.ntmps53
  go_wp2_with fail
  go_loopw [5, 6, 7, 10] (fun q _ _ i wr => ∃ (j : Nat) (out : ByteArray), j ≤ l.length ∧ i = .int .i64 j ∧ q = .string out ∧ Hid (out.data.toList = Lib.join ((l.take j).map (·.data.toList)) sep.data.toList) ∧ wr = w) (fun _ _ _ i _ => l.length - (intOf i).toNat)
  case atStart => exact ⟨0, ⟨#[]⟩, Nat.zero_le _, rfl, rfl, by simp [Hid, Lib.join_nil], rfl⟩
  case round =>
    obtain ⟨j, out, hj, rfl, rfl, HO, rfl⟩ := hrel
    have hos : out.size ≤ 100000000 := by rw [ba_size, HO.out]; exact Nat.le_trans (HM.out j hj) HLL.out
    by_cases hlt : j < l.length
    · obtain ⟨b, o, rfl, hblk, c0⟩ := hin.at_ hlt
      have hM := HM.out (j + 1) (by omega)
      have e1 : (l.take (j + 1)).map (·.data.toList) = (l.take j).map (·.data.toList) ++ [l[j].data.toList] := by rw [List.take_succ_eq_append_getElem hlt, List.map_append]; rfl
      by_cases h0 : j = 0
      · have hnn : ¬ ((0 : Int) < (j : Int)) := by omega
        have HE : Hid ((out ++ l[j]).data.toList = Lib.join ((l.take (j + 1)).map (·.data.toList)) sep.data.toList) := by
          show _ = _
          have e2 : l.take j = [] := by rw [h0]; rfl
          rw [ba_app, HO.out, e1, e2]
          simp [Lib.join_nil, Lib.join_one]
        have hsz : l[j].size ≤ 100000000 := by
          have h := HE.out
          rw [ba_app] at h
          have := congrArg List.length h
          rw [List.length_append] at this
          have h2 := HLL.out
          rw [ba_size]; omega
        clear hM e1 h0
        go_wp2_with fail
        go_roundw
        case rel => exact ⟨j + 1, _, by omega, by go_num, rfl, HE.out, by first | rfl | trivial⟩
        case measure => simp [intOf]; omega
      · have hpos : (0 : Int) < (j : Int) := by omega
        have hne : (l.take j).map (·.data.toList) ≠ [] := by
          intro h
          rw [List.map_eq_nil_iff] at h
          have := congrArg List.length h
          rw [List.length_take] at this
          simp only [List.length_nil] at this
          omega
        have HE : Hid ((out ++ sep ++ l[j]).data.toList = Lib.join ((l.take (j + 1)).map (·.data.toList)) sep.data.toList) := by
          show _ = _
          rw [ba_app, ba_app, HO.out, e1, join_snoc _ _ _ hne]
        have hsz : l[j].size ≤ 100000000 := by
          have h := HE.out
          rw [ba_app] at h
          have := congrArg List.length h
          rw [List.length_append] at this
          have h2 := HLL.out
          rw [ba_size]; omega
        clear hM e1 hne h0
        go_wp2_with fail
        go_roundw
        case rel => exact ⟨j + 1, _, by omega, by go_num, rfl, HE.out, by first | rfl | trivial⟩
        case measure => simp [intOf]; omega
    · have hj' : j = l.length := by omega
      subst hj'
      have HE : Hid (out = baL (Lib.join (l.map (·.data.toList)) sep.data.toList)) := by
        have := HO.out
        rw [List.take_length] at this
        exact baL_of this
      go_wp2_with fail
      go_ret
      exact ⟨by rw [HE.out]; rfl, Below.refl _ _⟩

/-- The text of scopes. -/
def scT (s : List Int) : List UInt8 := if s.isEmpty then [] else 123 :: (Lib.join (s.map Lib.itoa) [44] ++ [125])
theorem join_sum (l : List (List UInt8)) (b : UInt8) : (Lib.join l [b]).length ≤ (l.map fun x => x.length + 1).sum := by
  cases l with
  | nil => simp [Lib.join_nil]
  | cons x r =>
    rw [Lib.join_length]
    have : Lib.lens (x :: r) + (r.length + 1) = ((x :: r).map fun x => x.length + 1).sum := by
      have h : ∀ m : List (List UInt8), Lib.lens m + m.length = (m.map fun x => x.length + 1).sum := by
        intro m
        induction m with
        | nil => rfl
        | cons y s ih =>
          have e : Lib.lens (y :: s) = y.length + Lib.lens s := by simp [Lib.lens]
          rw [e, List.map_cons, List.sum_cons, List.length_cons, ← ih]; omega
      simpa using h (x :: r)
    simp only [List.length_cons, List.length_nil] at this ⊢
    omega
theorem itoas_sum : ∀ s : List Int, (∀ n ∈ s, 0 ≤ n ∧ n ≤ 99999) → ((s.map Lib.itoa).map fun x => x.length + 1).sum ≤ 22 * s.length
  | [], _ => by simp
  | n :: r, h => by
    have h1 := h n (by simp)
    have h2 := Lib.itoa_length_le n (by omega) (by omega)
    have h3 := itoas_sum r fun x hx => h x (by simp [hx])
    simp only [List.map_cons, List.sum_cons, List.length_cons]
    omega
theorem scT_len {s : List Int} (h : ∀ n ∈ s, 0 ≤ n ∧ n ≤ 99999) : (scT s).length ≤ 22 * s.length + 2 := by
  unfold scT
  split
  · simp
  · have h1 := join_sum (s.map Lib.itoa) 44
    have h2 := itoas_sum s h
    simp only [List.length_cons, List.length_append, List.length_nil]
    omega

set_option maxRecDepth 100000 in
set_option maxHeartbeats 2000000 in
theorem specSc_any (A : Option Addr) (c : Nat) (s : List Int) (B : Nat) (w : World) (hin : IIn w B A c s) (hB : B ≤ w.heap.size) (hr : ∀ n ∈ s, 0 ≤ n ∧ n ≤ 99999) (hsl : s.length ≤ 2000000) :
    Calls Tryd.prog 44 #[.slice A s.length c] w fun e w' => e = .returned (.string (baL (scT s))) ∧ Below w.heap.size w w' := by
  have hcap := hin.cap
  by_cases h0 : s = []
  · subst h0
    simp only [List.length_nil]
    go_enter Tryd.func44, Tryd.ntmps44
    go_wp2_with fail
    go_ret
    exact ⟨rfl, Below.refl _ _⟩
  have n0 : ((s.length : Int) == 0) = false := by
    have : 0 < s.length := List.length_pos_iff.2 h0
    simp; omega
  obtain ⟨SS, hSS⟩ : ∃ SS, SS = s.map fun n => baL (Lib.itoa n) := ⟨_, rfl⟩
  have hSl : SS.length = s.length := by rw [hSS, List.length_map]
  have hST : SS.map (·.data.toList) = s.map Lib.itoa := by
    rw [hSS, List.map_map]
    exact List.map_congr_left fun d _ => baL_list _
  obtain ⟨J, hJ⟩ : ∃ J, J = baL (Lib.join (SS.map (·.data.toList)) [44]) := ⟨_, rfl⟩
  have hJl : (Lib.join (SS.map (·.data.toList)) [44]).length ≤ 50000000 := by
    rw [hST]
    have h1 := join_sum (s.map Lib.itoa) 44
    have h2 := itoas_sum s hr
    omega
  have hJs : J.size ≤ 50000000 := by rw [hJ, baL_size]; exact hJl
  have HE : Hid ((⟨#[123]⟩ : ByteArray) ++ J ++ (⟨#[125]⟩ : ByteArray) = baL (scT s)) := by
    show _ = _
    refine baL_of ?_
    unfold scT
    rw [ba_app, ba_app, hJ, baL_list, hST, if_neg (by simpa using h0)]
    rfl
  have HJ := Lib.hid hJ
  have HJl := Lib.hid hJl
  have HSS := Lib.hid hSS
  have HR := Lib.hid hr
  clear hJ hJl hSS hST hr h0
  obtain ⟨i0, hi, hz0, hz1, hz2⟩ := info_parts infoT
  have R0 := Lib.hid (World.ownsRow_made (e := 9) (size := 1) w #[] 0 (Nat.le_refl _) (by unfold maxLen; omega) (by simp) : (w.alloc (.cells #[] 9)).ownsRow w.heap.size 9 1 (.slice (some ⟨w.heap.size, 0, none⟩) 0 0) ([] : List ByteArray).length (([] : List ByteArray).map Value.string))
  go_enter Tryd.func44, Tryd.ntmps44
  go_wp2_with fail
  go_loopw [3, 5, 12] (fun q _ i wr => ∃ (j : Nat) (ds : List ByteArray), j ≤ s.length ∧ i = .int .i64 j ∧ Hid (ds = SS.take j) ∧ ds.length ≤ j ∧ j ≤ ds.length ∧ wr.ownsRow w.heap.size 9 1 q ds.length (ds.map Value.string) ∧ Below w.heap.size w wr) (fun _ _ i _ => s.length - (intOf i).toNat)
  case atStart => exact ⟨0, [], Nat.zero_le _, rfl, rfl, Nat.le_refl _, Nat.le_refl _, R0.out, (Below.refl _ _).alloc (Nat.le_refl _) _⟩
  case round =>
    obtain ⟨j, ds, hj, rfl, HD, hd1, hd2, hrow, hb⟩ := hrel
    have hs2 := hb.size
    obtain ⟨Av, cv, rfl, hov⟩ := town_of_row hrow
    have hcapv := hov.inn.cap
    by_cases hlt : j < s.length
    · obtain ⟨b, o, rfl, hblk, c0⟩ := (hin.below (hb.mono hB)).at_ hlt
      have hq := HR.out s[j] (List.getElem_mem hlt)
      have hc : Calls Tryd.prog 45 #[.int .i64 s[j]] wr fun e w' => e = .returned (.string (baL (Lib.itoa s[j]))) ∧ Below wr.heap.size wr w' := specFmtN_any s[j] (by omega) (by omega) wr
      clear hq
      go_wp2_with fail
      refine hc.mono ?_
      rintro e w1 ⟨rfl, hb1⟩
      clear hc
      have hs1 := hb1.size
      have hrow1 := srow_below hrow hb1
      have hb2 : Below w.heap.size w w1 := hb.trans (hb1.mono hs2)
      have HD2 : Hid (ds ++ [baL (Lib.itoa s[j])] = SS.take (j + 1)) := by
        show _ = _
        rw [List.take_succ_eq_append_getElem (by omega), ← HD.out]
        congr 2
        have h := HSS.out
        subst h
        simp
      clear hb1 hrow hb
      go_wp2_with (at_builtin; refine wpList_append_lies _ rfl (.tmp 16) (.tmp 19) 70 rfl w.heap.size 9 i0 (.string ⟨#[]⟩) 1 16 Tryd.underlying70 hi hz0 hz1 hz2 rfl (by decide) _ ds.length (ds.map Value.string) rfl (hrow1.alloc _) ⟨w1.heap.size, 0, none⟩ 1 1 [.string (baL (Lib.itoa s[j]))] rfl rfl ?c1 (tone _) (by omega) (by unfold maxLen; omega) (by omega) (by simp; omega) (w1.heap.size + 1) ?c2 ?_)
      case c1 => exact tnews w1 (baL (Lib.itoa s[j]))
      case c2 => simp
      intro g cap w2 hown' hgr hat hlt'
      obtain ⟨hS1, hS2, hS3⟩ := tgrow hb2 (by omega) hrow1 hown' hgr
      have HS1 := Lib.hid hS1
      clear hown' hgr hat hrow1 hov hb2 hS1
      go_wp2_with fail
      go_roundw
      case rel => exact ⟨j + 1, _, by omega, by go_num, HD2.out, by simp; omega, by simp; omega, by have h := HS1.out; first | exact h | simpa using h, hS2⟩
      case measure => simp [intOf]; omega
    · have hj' : j = s.length := by omega
      subst hj'
      have hds : ds = SS := by rw [HD.out, List.take_of_length_le (by omega)]
      subst hds
      have hcon : Calls Tryd.prog 53 #[.slice Av s.length cv, .string ⟨#[44]⟩] wr fun e w' => e = .returned (.string J) ∧ Below wr.heap.size wr w' := by
        have h := joinB_any Av cv ds ⟨#[44]⟩ wr.heap.size wr hov.inn (Nat.le_refl _) (by decide) (by have := HJl.out; exact Nat.le_trans this (by decide)) (by omega)
        rw [hSl] at h
        rw [HJ.out]
        exact h
      clear HD hrow hov
      go_wp2_with fail
      (with_reducible refine hcon.mono ?_)
      rintro e w1 ⟨rfl, hb1⟩
      clear hcon
      go_wp2_with fail
      go_ret
      exact ⟨by rw [← HE.out]; rfl, hb.trans (hb1.mono hs2)⟩

set_option maxRecDepth 100000 in
set_option maxHeartbeats 2000000 in
theorem mapN_any (A : Option Addr) (c : Nat) (s : List Int) (B : Nat) (w : World) (hin : IIn w B A c s) (hB : B ≤ w.heap.size) (hr : ∀ n ∈ s, 0 ≤ n ∧ n ≤ 99999) (hsl : s.length ≤ 2000000) (h0 : s ≠ []) (ht : Tab w) :
    Calls Tryd.prog 72 #[.slice A s.length c, .func (.func 49) #[] #[]] w fun e w' => e = .returned (.slice (some ⟨w.heap.size, 0, none⟩) s.length s.length) ∧ TRow w' w.heap.size s.length (s.map fun n => baL (Lib.itoa n)) ∧ Below w.heap.size w w' := by
  have hcap := hin.cap
  have n0 : ((s.length : Int) == 0) = false := by
    have : 0 < s.length := List.length_pos_iff.2 h0
    simp; omega
  obtain ⟨SS, hSS⟩ : ∃ SS, SS = s.map fun n => baL (Lib.itoa n) := ⟨_, rfl⟩
  have hSl : SS.length = s.length := by rw [hSS, List.length_map]
  rw [← hSS]
  have HSS := Lib.hid hSS
  have HR := Lib.hid hr
  have HT := Lib.hid ht
  clear hSS hr h0 ht
  obtain ⟨i0, hi0, hz0, hz1, hz2⟩ := info_parts infoT
  have hmk := fun W => run_make_rowN (P := Tryd.prog) 70 9 i0 _ Tryd.underlying70 hi0 hz0 .i64 .i64 s.length s.length (Nat.le_refl _) (by rw [hz2]; omega) (by omega) W
  rw [hz1] at hmk
  go_enter Tryd.func72, Tryd.ntmps72
  go_wp2_with fail
  go_loopw [6, 7, 16] (fun _ _ i wr => ∃ (j : Nat) (ds : List ByteArray), j ≤ s.length ∧ i = .int .i64 j ∧ Hid (ds = SS.take j) ∧ ds.length ≤ j ∧ j ≤ ds.length ∧ TRow wr w.heap.size s.length ds ∧ Below w.heap.size w wr) (fun _ _ i _ => s.length - (intOf i).toNat)
  case atStart => exact ⟨0, [], Nat.zero_le _, rfl, rfl, Nat.le_refl _, Nat.le_refl _, ⟨_, D.Blk.new _ _ _, by rw [size_madeCells], by simp⟩, (Below.refl _ _).alloc (Nat.le_refl _) _⟩
  case round =>
    obtain ⟨j, ds, hj, rfl, HD, hd1, hd2, hrow, hb⟩ := hrel
    have hs2 := hb.size
    by_cases hlt : j < s.length
    · obtain ⟨b, o, rfl, hblk, c0⟩ := (hin.below (hb.mono hB)).at_ hlt
      have hq := HR.out s[j] (List.getElem_mem hlt)
      have hglt : w.heap.size < wr.heap.size := hrow.lt
      have hc : Calls Tryd.prog 49 #[.int .i64 s[j]] wr fun e w' => e = .returned (.string (baL (Lib.itoa s[j]))) ∧ Below wr.heap.size wr w' := implFmtN_any s[j] (by omega) (by omega) wr (HT.out.below hb (Nat.le_refl _))
      clear hq
      go_wp2_with (go_at_call 49; with_reducible refine hc.mono ?_; rintro e w1 ⟨rfl, hb1⟩; have hrow1 := hrow.below hb1 hglt; have hb2 := hb.trans (hb1.mono hs2); obtain ⟨u0, hc0⟩ := hrow1.old hlt; have f0 := hrow1.frozen j; have hst := hrow1.step (Nat.le_antisymm hd1 hd2) hlt (baL (Lib.itoa s[j])))
      have HD2 : Hid (ds ++ [baL (Lib.itoa s[j])] = SS.take (j + 1)) := by
        show _ = _
        rw [List.take_succ_eq_append_getElem (by omega), ← HD.out]
        congr 2
        have h := HSS.out
        subst h
        simp
      refine ⟨⟨j + 1, _, by omega, by go_num, HD2.out, by simp; omega, by simp; omega, hst, hb2.setCell (by simp) _⟩, by simp [intOf]; omega⟩
    · have hj' : j = s.length := by omega
      subst hj'
      have hds : ds = SS := by rw [HD.out, List.take_of_length_le (by omega)]
      subst hds
      go_wp2_with fail
      go_ret
      exact ⟨rfl, hrow, hb⟩

set_option maxRecDepth 100000 in
set_option maxHeartbeats 2000000 in
theorem implSc_any (A : Option Addr) (c : Nat) (s : List Int) (B : Nat) (w : World) (hin : IIn w B A c s) (hB : B ≤ w.heap.size) (hr : ∀ n ∈ s, 0 ≤ n ∧ n ≤ 99999) (hsl : s.length ≤ 2000000) (ht : Tab w) :
    Calls Tryd.prog 47 #[.slice A s.length c] w fun e w' => e = .returned (.string (baL (scT s))) ∧ Below w.heap.size w w' := by
  have hcap := hin.cap
  by_cases h0 : s = []
  · subst h0
    simp only [List.length_nil]
    clear ht
    go_enter Tryd.func47, Tryd.ntmps47
    go_wp2_with fail
    go_ret
    exact ⟨rfl, Below.refl _ _⟩
  have n0 : ((s.length : Int) == 0) = false := by
    have : 0 < s.length := List.length_pos_iff.2 h0
    simp; omega
  have hmap := mapN_any A c s B w hin hB hr hsl h0 ht
  obtain ⟨SS, hSS⟩ : ∃ SS, SS = s.map fun n => baL (Lib.itoa n) := ⟨_, rfl⟩
  rw [← hSS] at hmap
  have hSl : SS.length = s.length := by rw [hSS, List.length_map]
  have hST : SS.map (·.data.toList) = s.map Lib.itoa := by
    rw [hSS, List.map_map]
    exact List.map_congr_left fun d _ => baL_list _
  obtain ⟨J, hJ⟩ : ∃ J, J = baL (Lib.join (SS.map (·.data.toList)) [44]) := ⟨_, rfl⟩
  have hJl : (Lib.join (SS.map (·.data.toList)) [44]).length ≤ 50000000 := by
    rw [hST]
    have h1 := join_sum (s.map Lib.itoa) 44
    have h2 := itoas_sum s hr
    omega
  have hJs : J.size ≤ 50000000 := by rw [hJ, baL_size]; exact hJl
  have HE : Hid ((⟨#[123]⟩ : ByteArray) ++ J ++ (⟨#[125]⟩ : ByteArray) = baL (scT s)) := by
    show _ = _
    refine baL_of ?_
    unfold scT
    rw [ba_app, ba_app, hJ, baL_list, hST, if_neg (by simpa using h0)]
    rfl
  have HJ := Lib.hid hJ
  have HJl := Lib.hid hJl
  clear hJ hJl hSS hST hr h0 ht
  go_enter Tryd.func47, Tryd.ntmps47
  go_wp2_with fail
  (with_reducible refine hmap.mono ?_)
  clear hmap
  rintro e w1 ⟨rfl, hrow, hb⟩
  have hs2 := hb.size
  obtain ⟨cs, h1, h2, h3⟩ := hrow
  have hcon : Calls Tryd.prog 55 #[.slice (some ⟨w.heap.size, 0, none⟩) s.length s.length, .string ⟨#[44]⟩] w1 fun e w' => e = .returned (.string J) ∧ Below w1.heap.size w1 w' := by
    have h := Tryd.strings_Join w.heap.size 0 s.length SS ⟨#[44]⟩ w1 (fun i x hx => by rw [Nat.zero_add, h1.cell]; exact h3 i x hx) h1.lt (by omega) (by omega) (by have := HJl.out; exact Nat.le_trans this (by decide))
    rw [hSl] at h
    rw [HJ.out]
    exact h
  clear h1 h2 h3
  go_wp2_with fail
  (with_reducible refine hcon.mono ?_)
  clear hcon
  rintro e w2 ⟨rfl, hb2⟩
  go_wp2_with fail
  go_ret
  exact ⟨by rw [← HE.out]; rfl, hb.trans (hb2.mono hs2)⟩
end Go.Proofs.YtjgpekfnfmabbaaDoor
