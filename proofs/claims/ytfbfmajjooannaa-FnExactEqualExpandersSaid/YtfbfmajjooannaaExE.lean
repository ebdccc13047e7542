/-
  EqualExpanders, the model's and the program's (written by gen/exp.py).
-/
import Derived.Test.YtfbfmajjooannaaExB
import Derived.Test.YtfbfmajjooannaaEqBd
import Derived.Deep.RegionHeld3
namespace Go.Proofs.Ytfbfmajjooannaa
open Go.RowKit

set_option maxRecDepth 100000 in
set_option maxHeartbeats 4000000 in
theorem implEqEx_any (x y : Ex) (B : Nat) (w : World) (hx : x.In w B) (hy : y.In w B) (hB : B ≤ w.heap.size) :
    Calls Try.prog 18 #[x.val, y.val] w fun e w' => e = .returned (.bool (Ex.eqB x y)) ∧ Below w.heap.size w w' := by
  have K : Hid (Ex.eqB x y = (Bd.eqBL x.l0 y.l0 && (Ru.eqR x.l1 y.l1 && (x.s == y.s && (x.v == y.v && x.t == y.t))))) := rfl
  have hax := hx.a.cap
  have hbx := hx.b.cap
  have hay := hy.a.cap
  have hby := hy.b.cap
  obtain ⟨W1, hW1⟩ : ∃ W1, W1 = w.alloc (.cells #[.slice x.A0 x.l0.length x.c0, .slice x.A1 x.l1.length x.c1, .int .i64 x.s, .int .i64 x.v, .int .i64 x.t] 27) := ⟨_, rfl⟩
  obtain ⟨W2, hW2⟩ : ∃ W2, W2 = W1.alloc (.cells #[.slice y.A0 y.l0.length y.c0, .slice y.A1 y.l1.length y.c1, .int .i64 y.s, .int .i64 y.v, .int .i64 y.t] 27) := ⟨_, rfl⟩
  have z1 : W1.heap.size = w.heap.size + 1 := by rw [hW1]; simp
  have z2 : W2.heap.size = w.heap.size + 1 + 1 := by rw [hW2]; simp [z1]
  have B1 : Below w.heap.size w W1 := by rw [hW1]; exact (Below.refl _ _).alloc (Nat.le_refl _) _
  have B2 : Below W1.heap.size W1 W2 := by rw [hW2]; exact (Below.refl _ _).alloc (Nat.le_refl _) _
  have X0 : Ex.Box W1 w.heap.size x := by rw [hW1]; exact Ex.Box.new _ _ _
  have X0 := X0.below B2 (by omega)
  have Y0 : Ex.Box W2 (w.heap.size + 1) y := by rw [hW2, ← z1]; exact Ex.Box.new _ _ _
  have b0 := B1.trans (B2.mono (by omega))
  have ix := hx.below (b0.mono hB)
  have iy := hy.below (b0.mono hB)
  unfold Ex.val
  have X0q := X0
  obtain ⟨a0, a1, a2, a3, a4⟩ := X0q
  have Y0q := Y0
  obtain ⟨c0, c1, c2, c3, c4⟩ := Y0q
  go_enter Try.func18, Try.ntmps18
  go_wp2_with fail
  rw [← hW1, ← hW2]
  clear hW1 hW2 B1 B2 a0 a1 a2 a3 a4 c0 c1 c2 c3 c4
  refine (implEqBL_any x.A0 x.c0 x.l0 y.A0 y.c0 y.l0 B _ ix.a iy.a (by omega)).mono ?_
  rintro e v1 ⟨rfl, hb1⟩
  have y1 := hb1.size
  have X1 := X0.below hb1 (by omega)
  have Y1 := Y0.below hb1 (by omega)
  have b1 := b0.trans (hb1.mono (by omega))
  have ix := hx.below (b1.mono hB)
  have iy := hy.below (b1.mono hB)
  clear hb1 X0 Y0 b0
  have Xq := X1
  obtain ⟨a0, a1, a2, a3, a4⟩ := Xq
  have Yq := Y1
  obtain ⟨c0, c1, c2, c3, c4⟩ := Yq
  have la : w.heap.size < v1.heap.size := by omega
  have lb : w.heap.size + 1 < v1.heap.size := by omega
  cases h0 : Bd.eqBL x.l0 y.l0
  · have H0 := Lib.hid h0
    clear h0
    go_wp2_with fail
    go_ret
    exact ⟨ret_bool (by rw [K.out, H0.out]; rfl), b1⟩
  have H0 := Lib.hid h0
  clear h0
  go_wp2_with fail
  clear a0 a1 a2 a3 a4 c0 c1 c2 c3 c4 la lb
  refine (equalFuncR_any x.A1 x.c1 x.l1 y.A1 y.c1 y.l1 B _ ix.b iy.b (by omega)).mono ?_
  rintro e v2 ⟨rfl, hb2⟩
  have y2 := hb2.size
  have X2 := X1.below hb2 (by omega)
  have Y2 := Y1.below hb2 (by omega)
  have b2 := b1.trans (hb2.mono (by omega))
  have ix := hx.below (b2.mono hB)
  have iy := hy.below (b2.mono hB)
  clear hb2 X1 Y1 b1
  have Xq := X2
  obtain ⟨a0, a1, a2, a3, a4⟩ := Xq
  have Yq := Y2
  obtain ⟨c0, c1, c2, c3, c4⟩ := Yq
  have la : w.heap.size < v2.heap.size := by omega
  have lb : w.heap.size + 1 < v2.heap.size := by omega
  cases h1 : Ru.eqR x.l1 y.l1
  · have H1 := Lib.hid h1
    clear h1
    go_wp2_with fail
    go_ret
    exact ⟨ret_bool (by rw [K.out, H0.out, H1.out]; rfl), b2⟩
  have H1 := Lib.hid h1
  clear h1
  cases hs : (x.s == y.s)
  · have HS := Lib.hid hs
    go_wp2_with fail
    go_ret
    exact ⟨ret_bool (by rw [K.out, H0.out, H1.out, HS.out]; rfl), b2⟩
  have HS := Lib.hid hs
  cases hv : (x.v == y.v)
  · have HV := Lib.hid hv
    go_wp2_with fail
    go_ret
    exact ⟨ret_bool (by rw [K.out, H0.out, H1.out, HS.out, HV.out]; rfl), b2⟩
  have HV := Lib.hid hv
  go_wp2_with fail
  go_ret
  exact ⟨ret_bool (by rw [K.out, H0.out, H1.out, HS.out, HV.out]; rfl), b2⟩

set_option maxRecDepth 100000 in
set_option maxHeartbeats 8000000 in
theorem specEqEx_any (x y : Ex) (B : Nat) (w : World) (hx : x.In w B) (hy : y.In w B) (hB : B ≤ w.heap.size) :
    Calls Try.prog 16 #[x.val, y.val] w fun e w' => e = .returned (.bool (Ex.eqB x y)) ∧ Below w.heap.size w w' := by
  have K : Hid (Ex.eqB x y = (Bd.eqBL x.l0 y.l0 && (Ru.eqR x.l1 y.l1 && (x.s == y.s && (x.v == y.v && x.t == y.t))))) := rfl
  have hax := hx.a.cap
  have hbx := hx.b.cap
  have hay := hy.a.cap
  have hby := hy.b.cap
  obtain ⟨W1, hW1⟩ : ∃ W1, W1 = w.alloc (.cells #[.slice x.A0 x.l0.length x.c0, .slice x.A1 x.l1.length x.c1, .int .i64 x.s, .int .i64 x.v, .int .i64 x.t] 27) := ⟨_, rfl⟩
  obtain ⟨W2, hW2⟩ : ∃ W2, W2 = W1.alloc (.cells #[.slice y.A0 y.l0.length y.c0, .slice y.A1 y.l1.length y.c1, .int .i64 y.s, .int .i64 y.v, .int .i64 y.t] 27) := ⟨_, rfl⟩
  have z1 : W1.heap.size = w.heap.size + 1 := by rw [hW1]; simp
  have z2 : W2.heap.size = w.heap.size + 1 + 1 := by rw [hW2]; simp [z1]
  have B1 : Below w.heap.size w W1 := by rw [hW1]; exact (Below.refl _ _).alloc (Nat.le_refl _) _
  have B2 : Below W1.heap.size W1 W2 := by rw [hW2]; exact (Below.refl _ _).alloc (Nat.le_refl _) _
  have X0 : Ex.Box W1 w.heap.size x := by rw [hW1]; exact Ex.Box.new _ _ _
  have X0 := X0.below B2 (by omega)
  have Y0 : Ex.Box W2 (w.heap.size + 1) y := by rw [hW2, ← z1]; exact Ex.Box.new _ _ _
  have b0 := B1.trans (B2.mono (by omega))
  have ix := hx.below (b0.mono hB)
  have iy := hy.below (b0.mono hB)
  unfold Ex.val
  have X0q := X0
  obtain ⟨a0, a1, a2, a3, a4⟩ := X0q
  have Y0q := Y0
  obtain ⟨c0, c1, c2, c3, c4⟩ := Y0q
  go_enter Try.func16, Try.ntmps16
  go_wp2_with fail
  rw [← hW1, ← hW2]
  clear hW1 hW2 B1 B2 a0 a1 a2 a3 a4 c0 c1 c2 c3 c4
  refine (specEqBL_any x.A0 x.c0 x.l0 y.A0 y.c0 y.l0 B _ ix.a iy.a (by omega)).mono ?_
  rintro e v1 ⟨rfl, hb1⟩
  have y1 := hb1.size
  have X1 := X0.below hb1 (by omega)
  have Y1 := Y0.below hb1 (by omega)
  have b1 := b0.trans (hb1.mono (by omega))
  have ix := hx.below (b1.mono hB)
  have iy := hy.below (b1.mono hB)
  clear hb1 X0 Y0 b0
  have Xq := X1
  obtain ⟨a0, a1, a2, a3, a4⟩ := Xq
  have Yq := Y1
  obtain ⟨c0, c1, c2, c3, c4⟩ := Yq
  have la : w.heap.size < v1.heap.size := by omega
  have lb : w.heap.size + 1 < v1.heap.size := by omega
  cases h0 : Bd.eqBL x.l0 y.l0
  · have H0 := Lib.hid h0
    clear h0
    go_wp2_with fail
    go_ret
    exact ⟨ret_bool (by rw [K.out, H0.out]; first | rfl | simp), b1⟩
  have H0 := Lib.hid h0
  clear h0
  by_cases hlen : x.l1.length ≠ y.l1.length
  · have hn1 : ((x.l1.length : Int) != (y.l1.length : Int)) = true := by simpa using (by omega : ¬ (x.l1.length : Int) = (y.l1.length : Int))
    have H1 := Lib.hid (Ru.eqR_length _ _ hlen)
    clear hlen
    go_wp2_with fail
    go_ret
    exact ⟨ret_bool (by rw [K.out, H0.out, H1.out]; first | rfl | simp), b1⟩
  have hlen := Decidable.not_not.1 hlen
  have hn1 : ((x.l1.length : Int) != (y.l1.length : Int)) = false := by simp [hlen]
  have hlen1 : y.l1.length ≤ x.l1.length := by omega
  have hlen2 : x.l1.length ≤ y.l1.length := by omega
  clear hlen
  cases hs : (x.s == y.s)
  · have ns : (x.s != y.s) = true := by simp [bne, hs]
    have HS := Lib.hid hs
    clear hs
    go_wp2_with fail
    go_ret
    exact ⟨ret_bool (by rw [K.out, H0.out, HS.out]; first | rfl | simp), b1⟩
  have ns : (x.s != y.s) = false := by simp [bne, hs]
  have HS := Lib.hid hs
  clear hs
  cases hv : (x.v == y.v)
  · have nv : (x.v != y.v) = true := by simp [bne, hv]
    have HV := Lib.hid hv
    clear hv
    go_wp2_with fail
    go_ret
    exact ⟨ret_bool (by rw [K.out, H0.out, HS.out, HV.out]; first | rfl | simp), b1⟩
  have nv : (x.v != y.v) = false := by simp [bne, hv]
  have HV := Lib.hid hv
  clear hv
  cases ht : (x.t == y.t)
  · have nt : (x.t != y.t) = true := by simp [bne, ht]
    have HT := Lib.hid ht
    clear ht
    go_wp2_with fail
    go_ret
    exact ⟨ret_bool (by rw [K.out, H0.out, HS.out, HV.out, HT.out]; first | rfl | simp), b1⟩
  have nt : (x.t != y.t) = false := by simp [bne, ht]
  have HT := Lib.hid ht
  clear ht
  go_wp2_with fail
  clear a0 a1 a2 a3 a4 c0 c1 c2 c3 c4 la lb
  go_loopw [5, 45] (fun _ i wr => ∃ j : Nat, j ≤ x.l1.length ∧ i = .int .i64 j ∧ Hid (Ru.eqR (x.l1.take j) (y.l1.take j) = true) ∧ Below v1.heap.size v1 wr) (fun _ i _ => x.l1.length - (intOf i).toNat)
  case atStart => exact ⟨0, Nat.zero_le _, rfl, by simp [Hid, Ru.eqR], Below.refl _ _⟩
  case round =>
    obtain ⟨j, hj, rfl, HE, hb⟩ := hrel
    have hs2 := hb.size
    have X2 := X1.below hb (by omega)
    have Y2 := Y1.below hb (by omega)
    have b2 := b1.trans (hb.mono (by omega))
    have jx := hx.below (b2.mono hB)
    have jy := hy.below (b2.mono hB)
    by_cases hlt : j < x.l1.length
    · have hlt' : j < y.l1.length := by omega
      obtain ⟨bb, o, hA, hblk, p0, p1, p2, hix⟩ := Ru.at_ jx.b (i := j) (x := x.l1[j]) (List.getElem?_eq_getElem hlt)
      obtain ⟨bb', o', hA', hblk', d0, d1, d2, hix'⟩ := Ru.at_ jy.b (i := j) (x := y.l1[j]) (List.getElem?_eq_getElem hlt')
      have g2 : (j : Int) < (x.l1.length : Int) := by omega
      have g3 : (j : Int) < (y.l1.length : Int) := by omega
      obtain ⟨_, a1, _, _, _⟩ := X2
      obtain ⟨_, c1, _, _, _⟩ := Y2
      rw [hA] at a1
      rw [hA'] at c1
      have HA := Lib.hid hA
      have HA' := Lib.hid hA'
      clear hA hA'
      have la : w.heap.size < wr.heap.size := by omega
      have lb : w.heap.size + 1 < wr.heap.size := by omega
      have lc : bb < wr.heap.size := by omega
      have ld : bb' < wr.heap.size := by omega
      cases hq : Ru.eqB x.l1[j] y.l1[j]
      · have Hq := Lib.hid hq
        have HN := Lib.hid (Ru.eqR_no hlt hlt' hq)
        clear hq
        go_wp2_with fail
        go_region_held3 (fun w' => w'.cell? ⟨w.heap.size, 1, none⟩ = some (.slice (some ⟨bb, o, none⟩) x.l1.length x.c1) ∧ w'.cell? ⟨w.heap.size + 1, 1, none⟩ = some (.slice (some ⟨bb', o', none⟩) y.l1.length y.c1) ∧ w'.cell? ⟨bb, o + j * 3, none⟩ = some (.slice x.l1[j].A0 x.l1[j].l0.length x.l1[j].c0) ∧ w'.cell? ⟨bb, o + j * 3 + 1, none⟩ = some (.slice x.l1[j].A1 x.l1[j].l1.length x.l1[j].c1) ∧ w'.cell? ⟨bb, o + j * 3 + 2, none⟩ = some (.slice x.l1[j].A2 x.l1[j].l2.length x.l1[j].c2) ∧ w'.cell? ⟨bb', o' + j * 3, none⟩ = some (.slice y.l1[j].A0 y.l1[j].l0.length y.l1[j].c0) ∧ w'.cell? ⟨bb', o' + j * 3 + 1, none⟩ = some (.slice y.l1[j].A1 y.l1[j].l1.length y.l1[j].c1) ∧ w'.cell? ⟨bb', o' + j * 3 + 2, none⟩ = some (.slice y.l1[j].A2 y.l1[j].l2.length y.l1[j].c2)) (go_keep)
          ((go_at_call 44; have hcon := specEqRu_any x.l1[j] y.l1[j] B wr.drew hix.drew hix'.drew (show B ≤ wr.heap.size by omega); rw [Hq.out] at hcon; simp only [Ru.val] at hcon; (with_reducible refine hcon.mono ?_); clear hcon; rintro e w1 ⟨rfl, hb1⟩; have hb1 : Below wr.heap.size wr w1 := below_undrew hb1; have a1' := (hb1.cell (p := ⟨w.heap.size, 1, none⟩) la).trans a1; have c1' := (hb1.cell (p := ⟨w.heap.size + 1, 1, none⟩) lb).trans c1; have p0' := (hb1.cell (p := ⟨bb, o + j * 3, none⟩) lc).trans p0; have p1' := (hb1.cell (p := ⟨bb, o + j * 3 + 1, none⟩) lc).trans p1; have p2' := (hb1.cell (p := ⟨bb, o + j * 3 + 2, none⟩) lc).trans p2; have d0' := (hb1.cell (p := ⟨bb', o' + j * 3, none⟩) ld).trans d0; have d1' := (hb1.cell (p := ⟨bb', o' + j * 3 + 1, none⟩) ld).trans d1; have d2' := (hb1.cell (p := ⟨bb', o' + j * 3 + 2, none⟩) ld).trans d2))
        all_goals go_wp2_with fail
        all_goals go_ret
        all_goals exact ⟨ret_bool (by rw [K.out, HN.out]; simp), b2.trans (hb1.mono (by omega))⟩
      · have Hq := Lib.hid hq
        clear hq
        go_wp2_with fail
        go_region_held3 (fun w' => w'.cell? ⟨w.heap.size, 1, none⟩ = some (.slice (some ⟨bb, o, none⟩) x.l1.length x.c1) ∧ w'.cell? ⟨w.heap.size + 1, 1, none⟩ = some (.slice (some ⟨bb', o', none⟩) y.l1.length y.c1) ∧ w'.cell? ⟨bb, o + j * 3, none⟩ = some (.slice x.l1[j].A0 x.l1[j].l0.length x.l1[j].c0) ∧ w'.cell? ⟨bb, o + j * 3 + 1, none⟩ = some (.slice x.l1[j].A1 x.l1[j].l1.length x.l1[j].c1) ∧ w'.cell? ⟨bb, o + j * 3 + 2, none⟩ = some (.slice x.l1[j].A2 x.l1[j].l2.length x.l1[j].c2) ∧ w'.cell? ⟨bb', o' + j * 3, none⟩ = some (.slice y.l1[j].A0 y.l1[j].l0.length y.l1[j].c0) ∧ w'.cell? ⟨bb', o' + j * 3 + 1, none⟩ = some (.slice y.l1[j].A1 y.l1[j].l1.length y.l1[j].c1) ∧ w'.cell? ⟨bb', o' + j * 3 + 2, none⟩ = some (.slice y.l1[j].A2 y.l1[j].l2.length y.l1[j].c2)) (go_keep)
          ((go_at_call 44; have hcon := specEqRu_any x.l1[j] y.l1[j] B wr.drew hix.drew hix'.drew (show B ≤ wr.heap.size by omega); rw [Hq.out] at hcon; simp only [Ru.val] at hcon; (with_reducible refine hcon.mono ?_); clear hcon; rintro e w1 ⟨rfl, hb1⟩; have hb1 : Below wr.heap.size wr w1 := below_undrew hb1; have a1' := (hb1.cell (p := ⟨w.heap.size, 1, none⟩) la).trans a1; have c1' := (hb1.cell (p := ⟨w.heap.size + 1, 1, none⟩) lb).trans c1; have p0' := (hb1.cell (p := ⟨bb, o + j * 3, none⟩) lc).trans p0; have p1' := (hb1.cell (p := ⟨bb, o + j * 3 + 1, none⟩) lc).trans p1; have p2' := (hb1.cell (p := ⟨bb, o + j * 3 + 2, none⟩) lc).trans p2; have d0' := (hb1.cell (p := ⟨bb', o' + j * 3, none⟩) ld).trans d0; have d1' := (hb1.cell (p := ⟨bb', o' + j * 3 + 1, none⟩) ld).trans d1; have d2' := (hb1.cell (p := ⟨bb', o' + j * 3 + 2, none⟩) ld).trans d2))
        all_goals go_wp2_with fail
        go_roundw
        case rel => exact ⟨j + 1, by omega, by go_num, by (show _ = _); rw [Ru.eqR_step hlt hlt', HE.out, Hq.out]; rfl, hb.trans (hb1.mono (by omega))⟩
        case measure => simp [intOf]; omega
    · have hj' : j = x.l1.length := by omega
      subst hj'
      have H1 : Hid (Ru.eqR x.l1 y.l1 = true) := by
        show _ = _
        have := HE.out
        rwa [List.take_length, List.take_of_length_le (by omega)] at this
      go_wp2_with fail
      go_ret
      exact ⟨ret_bool (by rw [K.out, H0.out, H1.out, HS.out, HV.out, HT.out]; rfl), b2⟩

theorem implEqEx_c (x y : Ex) {x0 y0 : Ex} (B : Nat) (w : World) (hxe : x.er = x0.er) (hye : y.er = y0.er) {X : Bool} (hX : X = Ex.eqB x0 y0) (hx : x.In w B) (hy : y.In w B) (hB : B ≤ w.heap.size) :
    Calls Try.prog 18 #[x.val, y.val] w fun e w' => e = .returned (.bool X) ∧ Below w.heap.size w w' := by
  rw [hX, ← Ex.eqB_er hxe hye]
  exact implEqEx_any x y B w hx hy hB

theorem specEqEx_c (x y : Ex) {x0 y0 : Ex} (B : Nat) (w : World) (hxe : x.er = x0.er) (hye : y.er = y0.er) {X : Bool} (hX : X = Ex.eqB x0 y0) (hx : x.In w B) (hy : y.In w B) (hB : B ≤ w.heap.size) :
    Calls Try.prog 16 #[x.val, y.val] w fun e w' => e = .returned (.bool X) ∧ Below w.heap.size w w' := by
  rw [hX, ← Ex.eqB_er hxe hye]
  exact specEqEx_any x y B w hx hy hB
end Go.Proofs.Ytfbfmajjooannaa
