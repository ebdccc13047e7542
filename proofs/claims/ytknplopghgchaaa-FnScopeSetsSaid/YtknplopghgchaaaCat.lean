/-
  slices.Concat at []int, walked.
-/
import Derived.Test.YtknplopghgchaaaTop
namespace Go.Proofs.Ytknplopghgchaaa
open Go.RowKit

/-- A row of ints by its place. -/
structure IR where
  A : Option Addr
  c : Nat
  l : List Int
def IR.val (r : IR) : Value := .slice r.A r.l.length r.c
def catR (rs : List IR) : List Int := rs.flatMap IR.l
theorem catR_append (a b : List IR) : catR (a ++ b) = catR a ++ catR b := by simp [catR]
theorem catR_le (rs : List IR) (j : Nat) : (catR (rs.take j)).length ≤ (catR rs).length := by
  have : catR rs = catR (rs.take j) ++ catR (rs.drop j) := by rw [← catR_append, List.take_append_drop]
  rw [this, List.length_append]
  omega

set_option maxHeartbeats 800000 in
theorem growNil_any (n : Nat) (hn : n ≤ 8000000) (w : World) : Calls Try.prog 162 #[.slice none 0 0, .int .i64 n] w fun e w' => ∃ v, e = .returned v ∧ w'.ownsRow w.heap.size 3 1 v 0 [] ∧ Below w.heap.size w w' := by
  rcases Nat.eq_zero_or_pos n with rfl | hpos
  · refine (Try.slices_Grow_room none 0 0 0 w (Nat.le_refl _) (by omega) (by omega) (Nat.le_refl _)).mono ?_
    rintro e w' ⟨rfl, rfl⟩
    exact ⟨_, rfl, World.ownsRow_nil _ _ _ _, Below.refl _ _⟩
  · obtain ⟨i0, hi, hz0, hz1, hz2⟩ := info_parts infoI
    refine (Try.slices_Grow_grow i0 _ hi hz0 (by omega) none 0 0 n [] w (Nat.le_refl _) (by omega) (by rw [hz2]; omega) (by omega) (by simp) (fun _ => rfl) (fun _ h => by cases h)).mono ?_
    rintro e w' ⟨rfl, rfl⟩
    have hge := grownCap_ge w (0 + n) 0 3
    have hle := grownCap_le_maxLen w (0 + n) 0 3 (by unfold maxLen; omega)
    refine ⟨_, rfl, ?_, ?_⟩
    · refine World.ownsRow_made w.drew _ _ (Nat.le_refl _) hle ?_
      simp only [Array.size_append, size_zeroCells]
      simp [Value.cells]
      rw [Nat.zero_add] at hge
      omega
    · exact (show Below w.heap.size w w.drew from ⟨rfl, rfl, rfl, Nat.le_refl _, fun _ _ => rfl⟩).alloc (Nat.le_refl _) _

set_option maxRecDepth 100000 in
set_option maxHeartbeats 1600000 in
theorem concat_any (g cap : Nat) (rs : List IR) (B : Nat) (w : World) (hlen : rs.length ≤ 4) (hcap : rs.length ≤ cap ∧ cap ≤ 9223372036854775807) (hg : g < w.heap.size) (hcells : ∀ j r, rs[j]? = some r → w.cell? ⟨g, j, none⟩ = some r.val) (hin : ∀ r ∈ rs, IIn w B r.A r.c r.l) (hB : B ≤ w.heap.size) (hsum : (catR rs).length ≤ 8000000) :
    Calls Try.prog 108 #[.slice (some ⟨g, 0, none⟩) rs.length cap] w (RetI (catR rs) w) := by
  obtain ⟨i0, hi, hz0, hz1, hz2⟩ := info_parts infoI
  have HC := Lib.hid hcells
  clear hcells
  go_enter Try.func108, Try.ntmps108
  go_wp2_with fail
  go_loopw [3, 11] (fun s i wr => ∃ j : Nat, j ≤ rs.length ∧ i = .int .i64 j ∧ s = .int .i64 ((catR (rs.take j)).length : Nat) ∧ wr = w) (fun _ i _ => rs.length - (intOf i).toNat)
  case atStart => exact ⟨0, Nat.zero_le _, rfl, by simp [catR], rfl⟩
  case round =>
    obtain ⟨j, hj, rfl, rfl, hw⟩ := hrel
    obtain rfl := hw.symm
    by_cases hlt : j < rs.length
    · obtain ⟨r, hr⟩ : ∃ r, rs[j]? = some r := ⟨_, List.getElem?_eq_getElem hlt⟩
      obtain ⟨A, c, l⟩ := r
      have c0 := HC.out j _ hr
      simp only [IR.val] at c0
      have Hr := Lib.hid hr
      have Hi := hin ⟨A, c, l⟩ (List.mem_of_getElem? hr)
      clear hr
      have HT : Hid (catR (rs.take (j + 1)) = catR (rs.take j) ++ l) := by
        show _ = _
        rw [List.take_add_one, Hr.out, catR_append]
        simp [catR]
      have hle := catR_le rs (j + 1)
      rw [HT.out, List.length_append] at hle
      have g0 := Hi.cap
      simp only at g0
      have hn : ¬ (((catR (rs.take j)).length : Int) + (l.length : Int) < 0) := by omega
      go_wp2_with fail
      refine ⟨⟨j + 1, by omega, by go_num, by rw [HT.out, List.length_append]; go_num, by first | rfl | trivial⟩, by simp [intOf]; omega⟩
    · have hj' : j = rs.length := by omega
      subst hj'
      rw [List.take_length]
      go_wp2_with fail
      refine (growNil_any (catR rs).length hsum _).mono ?_
      rintro e w1 ⟨v, rfl, hown, hb1⟩
      have z1 := hb1.size
      go_wp2_with fail
      go_loopw [6, 27] (fun v i wr => ∃ (j : Nat) (ds : List Int), j ≤ rs.length ∧ i = .int .i64 j ∧ Hid (ds = catR (rs.take j)) ∧ ds.length ≤ 8000000 ∧ wr.ownsRow w.heap.size 3 1 v ds.length (ds.map (Value.int .i64)) ∧ Below w.heap.size w wr) (fun _ i _ => rs.length - (intOf i).toNat)
      case atStart => exact ⟨0, [], Nat.zero_le _, rfl, by simp [catR, Hid], by simp, hown, hb1⟩
      case round =>
        obtain ⟨j, ds, hj, rfl, HE, hdl, hown, hb⟩ := hrel
        have hs2 := hb.size
        by_cases hlt : j < rs.length
        · obtain ⟨r, hr⟩ : ∃ r, rs[j]? = some r := ⟨_, List.getElem?_eq_getElem hlt⟩
          obtain ⟨A, c, l⟩ := r
          have c0 : _ = _ := (hb.cell (p := ⟨g, j, none⟩) hg).trans (HC.out j _ hr)
          simp only [IR.val] at c0
          have Hr := Lib.hid hr
          have Hi := hin ⟨A, c, l⟩ (List.mem_of_getElem? hr)
          clear hr
          have HT : Hid (ds ++ l = catR (rs.take (j + 1))) := by
            show _ = _
            rw [List.take_add_one, Hr.out, catR_append, HE.out]
            simp [catR]
          have hle := catR_le rs (j + 1)
          rw [← HT.out, List.length_append] at hle
          have hir := Hi.below (hb.mono hB)
          have g0 := hir.cap
          simp only at hir g0
          by_cases hn : A = none
          · obtain rfl := hn
            obtain rfl := hir.nil rfl
            have hl : l = [] := by
              cases l with
              | nil => rfl
              | cons _ _ => simp at g0
            subst hl
            rw [List.append_nil] at HT
            go_wp2_with (at_builtin; refine wpList_append_own_none rfl _ _ 33 rfl w.heap.size 3 i0 1 Try.underlying33 hi _ ds.length (ds.map (Value.int .i64)) rfl hown rfl ?_)
            exact ⟨⟨j + 1, ds, by omega, by go_num, HT, hdl, hown, hb⟩, by simp [intOf]; omega⟩
          · obtain ⟨a, rfl⟩ := Option.ne_none_iff_exists'.1 hn
            have hnews : ∀ j u, (l.map (Value.int .i64))[j]? = some u → wr.cell? (a.add j) = some u := by
              intro j u hu
              have hne : l ≠ [] := by rintro rfl; simp at hu
              obtain ⟨b, o, e, _, _⟩ := hir.mem hne
              obtain rfl := Option.some.inj e
              exact iall hir j u hu
            go_wp2_with (at_builtin; refine wpList_append_own _ rfl _ _ 33 rfl w.heap.size 3 i0 (.int .i64 0) 1 8 Try.underlying33 hi hz0 hz1 hz2 rfl (by decide) _ ds.length (ds.map (Value.int .i64)) rfl hown a l.length c (l.map (Value.int .i64)) rfl (by simp) hnews (iallone l) (by unfold maxLen; omega) (by omega) (by omega) ?_)
            intro v' w2 hown' hgr _
            have hown2 : w2.ownsRow w.heap.size 3 1 v' (ds ++ l).length ((ds ++ l).map (Value.int .i64)) := by simpa using hown'
            have hb2 : Below w.heap.size w w2 := hb.grown hgr hs2 (fun k hk => (hown.lt k hk).1)
            clear hown' hgr hnews hown
            go_wp2_with fail
            exact ⟨⟨j + 1, ds ++ l, by omega, by go_num, HT, by rw [List.length_append]; omega, hown2, hb2⟩, by simp [intOf]; omega⟩
        · have hj' : j = rs.length := by omega
          subst hj'
          have HQ : Hid (catR rs = ds) := by
            show _ = _
            have := HE.out
            rw [List.take_length] at this
            exact this.symm
          obtain ⟨A', c', rfl, ho⟩ := own_of_row hown
          clear hown
          go_wp2_with fail
          go_ret
          exact ⟨A', c', by rw [HQ.out]; rfl, by rw [HQ.out]; exact ho, hb⟩
end Go.Proofs.Ytknplopghgchaaa
