/-
  The text of an instruction (written by gen/fin.py).
-/
import Derived.Test.YtpigpncbjckbcaaDoorNtV
import Derived.Test.YtpigpncbjckbcaaDoorTxI
namespace Go.Proofs.YtpigpncbjckbcaaDoor
open Go.RowKit

/-- FormatInstr's answer. -/
def Nt.txt (x : Nt) : ByteArray := if x.ok = true then (if x.o = 1 then opNm x.o ++ ⟨#[32]⟩ ++ baL (D.txt x.t) else if x.bare = true then opNm x.o else opNm x.o ++ ⟨#[32]⟩ ++ ⟨(Lib.itoa x.i).toArray⟩) else ⟨#[]⟩
theorem Nt.ok_er {x y : Nt} (h : x.er = y.er) : x.ok = y.ok := by
  obtain ⟨e1, e2, e3⟩ := Nt.er_parts h
  unfold Nt.ok Nt.top Nt.bare
  rw [e1, e2, D.isD_of_er e3, D.eqB_er, e3, ← D.eqB_er]
theorem Nt.txt_er {x y : Nt} (h : x.er = y.er) : x.txt = y.txt := by
  obtain ⟨e1, e2, e3⟩ := Nt.er_parts h
  unfold Nt.txt Nt.bare
  rw [Nt.ok_er h, e1, e2, D.txt_of_er e3]
theorem cat_size (a b : ByteArray) : (a ++ b).size = a.size + b.size := by simp
theorem itoa_small {n : Int} (h0 : 0 ≤ n) (h1 : n ≤ 4000) : (⟨(Lib.itoa n).toArray⟩ : ByteArray).size ≤ 30 := by
  have HL := dd_len 20 n.natAbs (by omega)
  by_cases hz : n = 0
  · subst hz; decide +kernel
  · rw [itoa_dd n hz]
    show (Array.size _) ≤ 30
    simp
    split <;> simp <;> omega

set_option maxRecDepth 100000 in
set_option maxHeartbeats 2000000 in
theorem instrText_any (x : Nt) (B : Nat) (w : World) (hok : x.ok = true) (hin : Nt.E.In w B x) (hB : B ≤ w.heap.size) (htab : Tab w) : Calls Tryd.prog 17 #[Nt.val x] w fun e w' => e = .returned (.string x.txt) ∧ Below w.heap.size w w' := by
  have hq : x.txt = (if x.o = 1 then opNm x.o ++ ⟨#[32]⟩ ++ baL (D.txt x.t) else if x.bare = true then opNm x.o else opNm x.o ++ ⟨#[32]⟩ ++ ⟨(Lib.itoa x.i).toArray⟩) := by unfold Nt.txt; rw [if_pos hok]
  obtain ⟨W1, hW1⟩ : ∃ W1, W1 = w.alloc (.cells #[.int .i64 x.o, .int .i64 x.i, .int .i64 x.t.k, .int .i64 x.t.n, .string x.t.t, .slice x.t.A x.t.l.length x.t.c] 33) := ⟨_, rfl⟩
  have b1 : Below w.heap.size w W1 := by rw [hW1]; exact (Below.refl _ _).alloc (Nat.le_refl _) _
  have z1 : w.heap.size < W1.heap.size := by rw [hW1]; simp
  have xb : Nt.Box W1 w.heap.size x := by rw [hW1]; exact Nt.Box.new _ _ _
  have ht := (Nt.E_in (hin.below (b1.mono hB))).t
  have tb1 := htab.below b1 (Nat.le_refl _)
  have HOK := Lib.hid hok
  clear hok
  have hsz := opNm_size x.o
  have XB := Lib.hid xb
  have HBR : Hid (∀ u : World, Calls Tryd.prog 30 #[.agg #[.int .i64 x.o, .int .i64 x.i, .int .i64 x.t.k, .int .i64 x.t.n, .string x.t.t, .slice x.t.A x.t.l.length x.t.c]] u fun e w' => e = .returned (.bool x.bare) ∧ Below u.heap.size u w') := fun u => isBare_any x u
  obtain ⟨N, hN⟩ : ∃ N, N = opNm x.o := ⟨_, rfl⟩
  have HO : Hid (Calls Tryd.prog 25 #[.int .i64 x.o] W1 fun e w' => e = .returned (.string N) ∧ Below W1.heap.size W1 w') := by show Calls _ _ _ _ _; rw [hN]; exact implOp_any x.o W1
  rw [← hN] at hq hsz
  clear hN
  have n0 : ¬ (9223372036854775807 < N.size + 1) := by omega
  unfold Nt.val
  obtain ⟨a0, a1, a2, a3, a4, a5⟩ := xb
  by_cases h1 : x.o = 1
  · rw [if_pos h1] at hq
    have HQ := Lib.hid hq
    have H1 := Lib.hid h1
    have hv := HOK.out
    rw [Nt.ok_one h1] at hv
    simp only [Bool.and_eq_true] at hv
    have hv2 := hv.2
    unfold D.isD at hv2
    simp only [Bool.and_eq_true, decide_eq_true_eq] at hv2
    have hvd := hv2.2.2
    have hsd := hv2.1
    have hlen := D.txt_len x.t hvd
    have hls := baL_size (D.txt x.t)
    have HC : Hid (∀ u : World, Below W1.heap.size W1 u → Calls Tryd.prog 29 #[.agg #[.int .i64 x.t.k, .int .i64 x.t.n, .string x.t.t, .slice x.t.A x.t.l.length x.t.c]] u fun e w' => e = .returned (.string (baL (D.txt x.t))) ∧ Below u.heap.size u w') := fun u hu => by
      exact txI_any _ x.t B u (Nat.le_refl _) hvd (by omega) (ht.below (hu.mono (by omega))) (by have := hu.size; omega) (htab.below (b1.trans (hu.mono (by omega))) (Nat.le_refl _))
    obtain ⟨Z, hZ⟩ : ∃ Z, Z = baL (D.txt x.t) := ⟨_, rfl⟩
    rw [← hZ] at HC hls HQ
    clear hq h1 hv hv2 hvd hZ
    go_enter Tryd.func17, Tryd.ntmps17
    go_upto_region 1 with fail
    rw [← hW1]
    clear hW1
    go_wp2_with fail
    clear a0 a1 a2 a3 a4 a5
    (with_reducible refine HO.out.mono ?_)
    rintro e w2 ⟨rfl, hb2⟩
    have z2 := hb2.size
    have b2 := b1.trans (hb2.mono (by omega))
    have XC := XB.out.below hb2 z1
    obtain ⟨a0, a1, a2, a3, a4, a5⟩ := id XC
    have tb2 := htab.below b2 (Nat.le_refl _)
    have h1 := H1.out
    go_wp2_with fail
    clear h1
    obtain ⟨S, hS⟩ : ∃ S, S = N ++ ⟨#[32]⟩ := ⟨_, rfl⟩
    have hSs : S.size = N.size + 1 := by rw [hS, cat_size]; rfl
    rw [← hS]
    (with_reducible refine (HC.out _ hb2).mono ?_)
    rintro e w3 ⟨rfl, hb3⟩
    have n1 : ¬ (9223372036854775807 < S.size + Z.size) := by omega
    go_wp2_with fail
    go_ret
    exact ⟨by rw [HQ.out]; rfl, b2.trans (hb3.mono (by omega))⟩
  · rw [if_neg h1] at hq
    have hv := HOK.out
    have hr : 1 ≤ x.o ∧ x.o ≤ 20 := by
      by_cases hr : 1 ≤ x.o ∧ x.o ≤ 20
      · exact hr
      · rw [Nt.ok_no hr] at hv; exact absurd hv (by decide)
    rw [Nt.ok_else hr h1] at hv
    simp only [Bool.and_eq_true, decide_eq_true_eq] at hv
    have hi0 := hv.1.1
    have hi1 : x.i ≤ 4000 := by have := hv.1.2; unfold Nt.top at this; split at this <;> omega
    clear hv hr
    cases hb : x.bare
    · rw [hb] at HBR hq
      rw [if_neg (by decide)] at hq
      have HQ := Lib.hid hq
      clear hb hq
      have HC : Hid (∀ u : World, Below W1.heap.size W1 u → Calls Tryd.prog 31 #[.int .i64 x.i] u fun e w' => e = .returned (.string ⟨(Lib.itoa x.i).toArray⟩) ∧ Below u.heap.size u w') := fun u hu => implFmtN_any x.i (by omega) (by omega) u (htab.below (b1.trans (hu.mono (by omega))) (Nat.le_refl _))
      have hls := itoa_small hi0 hi1
      obtain ⟨Z, hZ⟩ : ∃ Z, Z = (⟨(Lib.itoa x.i).toArray⟩ : ByteArray) := ⟨_, rfl⟩
      rw [← hZ] at HC hls HQ
      clear hZ
      go_enter Tryd.func17, Tryd.ntmps17
      go_upto_region 1 with fail
      rw [← hW1]
      clear hW1
      go_wp2_with fail
      clear a0 a1 a2 a3 a4 a5
      (with_reducible refine HO.out.mono ?_)
      rintro e w2 ⟨rfl, hb2⟩
      have z2 := hb2.size
      have b2 := b1.trans (hb2.mono (by omega))
      have XC := XB.out.below hb2 z1
      obtain ⟨a0, a1, a2, a3, a4, a5⟩ := id XC
      have tb2 := htab.below b2 (Nat.le_refl _)
      go_wp2_with fail
      clear a0 a1 a2 a3 a4 a5
      (with_reducible refine (HBR.out _).mono ?_)
      rintro e w3 ⟨rfl, hb3⟩
      have z3 := hb3.size
      have hb23 := hb2.trans (hb3.mono (by omega))
      have XD := XC.below hb3 (by omega)
      obtain ⟨a0, a1, a2, a3, a4, a5⟩ := XD
      go_wp2_with fail
      obtain ⟨S, hS⟩ : ∃ S, S = N ++ ⟨#[32]⟩ := ⟨_, rfl⟩
      have hSs : S.size = N.size + 1 := by rw [hS, cat_size]; rfl
      rw [← hS]
      (with_reducible refine (HC.out _ hb23).mono ?_)
      rintro e w4 ⟨rfl, hb4⟩
      have n1 : ¬ (9223372036854775807 < S.size + Z.size) := by omega
      go_wp2_with fail
      go_ret
      exact ⟨by rw [HQ.out]; rfl, b2.trans ((hb3.trans (hb4.mono z3)).mono (by omega))⟩
    · rw [hb] at HBR hq
      rw [if_pos rfl] at hq
      have HQ := Lib.hid hq
      clear hb hq
      go_enter Tryd.func17, Tryd.ntmps17
      go_upto_region 1 with fail
      rw [← hW1]
      clear hW1
      go_wp2_with fail
      clear a0 a1 a2 a3 a4 a5
      (with_reducible refine HO.out.mono ?_)
      rintro e w2 ⟨rfl, hb2⟩
      have z2 := hb2.size
      have b2 := b1.trans (hb2.mono (by omega))
      have XC := XB.out.below hb2 z1
      obtain ⟨a0, a1, a2, a3, a4, a5⟩ := id XC
      have tb2 := htab.below b2 (Nat.le_refl _)
      go_wp2_with fail
      clear a0 a1 a2 a3 a4 a5
      (with_reducible refine (HBR.out _).mono ?_)
      rintro e w3 ⟨rfl, hb3⟩
      go_wp2_with fail
      go_ret
      exact ⟨by rw [HQ.out]; rfl, b2.trans (hb3.mono (by omega))⟩

set_option maxRecDepth 100000 in
set_option maxHeartbeats 2000000 in
theorem implFI_any (x : Nt) (B : Nat) (w : World) (hin : Nt.E.In w B x) (hB : B ≤ w.heap.size) (htab : Tab w) : Calls Tryd.prog 7 #[Nt.val x] w fun e w' => e = .returned (.string x.txt) ∧ Below w.heap.size w w' := by
  obtain ⟨W1, hW1⟩ : ∃ W1, W1 = w.alloc (.cells #[.int .i64 x.o, .int .i64 x.i, .int .i64 x.t.k, .int .i64 x.t.n, .string x.t.t, .slice x.t.A x.t.l.length x.t.c] 33) := ⟨_, rfl⟩
  have b1 : Below w.heap.size w W1 := by rw [hW1]; exact (Below.refl _ _).alloc (Nat.le_refl _) _
  have z1 : w.heap.size < W1.heap.size := by rw [hW1]; simp
  have xb : Nt.Box W1 w.heap.size x := by rw [hW1]; exact Nt.Box.new _ _ _
  have hin1 := hin.below (b1.mono hB)
  have hv := isValid_any x B W1 hin1 (by omega)
  have XB := Lib.hid xb
  cases hok : x.ok
  · have HQ : Hid (x.txt = ⟨#[]⟩) := by show _ = _; unfold Nt.txt; rw [hok]; rfl
    rw [hok] at hv
    unfold Nt.val at hv ⊢
    obtain ⟨a0, a1, a2, a3, a4, a5⟩ := xb
    clear hok
    go_enter Tryd.func7, Tryd.ntmps7
    go_upto_region 1 with fail
    rw [← hW1]
    clear hW1
    go_wp2_with fail
    (with_reducible refine hv.mono ?_)
    rintro e w2 ⟨rfl, hb2⟩
    go_wp2_with fail
    go_ret
    exact ⟨by rw [HQ.out]; rfl, b1.trans (hb2.mono (by omega))⟩
  · have HT : Hid (∀ u : World, Below W1.heap.size W1 u → Calls Tryd.prog 17 #[.agg #[.int .i64 x.o, .int .i64 x.i, .int .i64 x.t.k, .int .i64 x.t.n, .string x.t.t, .slice x.t.A x.t.l.length x.t.c]] u fun e w' => e = .returned (.string x.txt) ∧ Below u.heap.size u w') := fun u hu => instrText_any x B u hok (hin1.below (hu.mono (by omega))) (by have := hu.size; omega) (htab.below (b1.trans (hu.mono (by omega))) (Nat.le_refl _))
    rw [hok] at hv
    unfold Nt.val at hv ⊢
    obtain ⟨a0, a1, a2, a3, a4, a5⟩ := xb
    clear hok
    go_enter Tryd.func7, Tryd.ntmps7
    go_upto_region 1 with fail
    rw [← hW1]
    clear hW1
    go_wp2_with fail
    clear a0 a1 a2 a3 a4 a5
    (with_reducible refine hv.mono ?_)
    rintro e w2 ⟨rfl, hb2⟩
    have XC := XB.out.below hb2 z1
    obtain ⟨a0, a1, a2, a3, a4, a5⟩ := XC
    go_wp2_with fail
    (with_reducible refine (HT.out _ hb2).mono ?_)
    rintro e w3 ⟨rfl, hb3⟩
    go_wp2_with fail
    go_ret
    exact ⟨rfl, b1.trans ((hb2.trans (hb3.mono hb2.size)).mono (by omega))⟩

set_option maxRecDepth 100000 in
set_option maxHeartbeats 4000000 in
theorem specFI_any (x : Nt) (B : Nat) (w : World) (hin : Nt.E.In w B x) (hB : B ≤ w.heap.size) (hs : x.t.size ≤ 2000000) : Calls Tryd.prog 5 #[Nt.val x] w fun e w' => e = .returned (.string x.txt) ∧ Below w.heap.size w w' := by
  obtain ⟨W1, hW1⟩ : ∃ W1, W1 = w.alloc (.cells #[.int .i64 x.o, .int .i64 x.i, .int .i64 x.t.k, .int .i64 x.t.n, .string x.t.t, .slice x.t.A x.t.l.length x.t.c] 33) := ⟨_, rfl⟩
  have b1 : Below w.heap.size w W1 := by rw [hW1]; exact (Below.refl _ _).alloc (Nat.le_refl _) _
  have z1 : w.heap.size < W1.heap.size := by rw [hW1]; simp
  have xb : Nt.Box W1 w.heap.size x := by rw [hW1]; exact Nt.Box.new _ _ _
  have hin1 := hin.below (b1.mono hB)
  have hv := l10Instr_any x B W1 hin1 (by omega) hs
  have ht := (Nt.E_in hin1).t
  have XB := Lib.hid xb
  have hsz := opNm_size x.o
  obtain ⟨N, hN⟩ : ∃ N, N = opNm x.o := ⟨_, rfl⟩
  have HO : Hid (∀ u, Calls Tryd.prog 11 #[.int .i64 x.o] u fun e w' => e = .returned (.string N) ∧ Below u.heap.size u w') := by rw [hN]; exact fun u => specOp_any x.o u
  have hq0 : x.ok = true → x.txt = (if x.o = 1 then N ++ ⟨#[32]⟩ ++ baL (D.txt x.t) else if x.bare = true then N else N ++ ⟨#[32]⟩ ++ ⟨(Lib.itoa x.i).toArray⟩) := fun h => by unfold Nt.txt; rw [if_pos h, hN]
  rw [← hN] at hsz
  clear hN
  have n0 : ¬ (9223372036854775807 < N.size + 1) := by omega
  cases hok : x.ok
  · have HQ : Hid (x.txt = ⟨#[]⟩) := by show _ = _; unfold Nt.txt; rw [hok]; rfl
    rw [hok] at hv
    unfold Nt.val at hv ⊢
    obtain ⟨a0, a1, a2, a3, a4, a5⟩ := xb
    clear hok hq0
    go_enter Tryd.func5, Tryd.ntmps5
    go_upto_region 1 with fail
    rw [← hW1]
    clear hW1
    go_wp2_with fail
    clear a0 a1 a2 a3 a4 a5
    (with_reducible refine hv.mono ?_)
    rintro e w2 ⟨rfl, hb2⟩
    have z2 := hb2.size
    have b2 := b1.trans (hb2.mono (by omega))
    have XC := XB.out.below hb2 z1
    obtain ⟨a0, a1, a2, a3, a4, a5⟩ := id XC
    go_wp2_with fail
    go_ret
    exact ⟨by rw [HQ.out]; rfl, b2⟩
  · have hq := hq0 hok
    rw [hok] at hv
    unfold Nt.val at hv ⊢
    obtain ⟨a0, a1, a2, a3, a4, a5⟩ := xb
    clear hq0
    by_cases h1 : x.o = 1
    · rw [if_pos h1] at hq
      have HQ := Lib.hid hq
      have H1 := Lib.hid h1
      rw [Nt.ok_one h1] at hok
      simp only [Bool.and_eq_true] at hok
      have hv2 := hok.2
      unfold D.isD at hv2
      simp only [Bool.and_eq_true, decide_eq_true_eq] at hv2
      have hvd := hv2.2.2
      have hsd := hv2.1
      have hlen := D.txt_len x.t hvd
      have hls := baL_size (D.txt x.t)
      have HC : Hid (∀ u : World, Below W1.heap.size W1 u → Calls Tryd.prog 12 #[.agg #[.int .i64 x.t.k, .int .i64 x.t.n, .string x.t.t, .slice x.t.A x.t.l.length x.t.c]] u fun e w' => e = .returned (.string (baL (D.txt x.t))) ∧ Below u.heap.size u w') := fun u hu => by
        exact txS_any _ x.t B u (Nat.le_refl _) hvd (by omega) (ht.below (hu.mono (by omega))) (by have := hu.size; omega)
      obtain ⟨Z, hZ⟩ : ∃ Z, Z = baL (D.txt x.t) := ⟨_, rfl⟩
      rw [← hZ] at HC hls HQ
      clear hq h1 hok hv2 hvd hZ
      go_enter Tryd.func5, Tryd.ntmps5
      go_upto_region 1 with fail
      rw [← hW1]
      clear hW1
      go_wp2_with fail
      clear a0 a1 a2 a3 a4 a5
      (with_reducible refine hv.mono ?_)
      rintro e w2 ⟨rfl, hb2⟩
      have z2 := hb2.size
      have b2 := b1.trans (hb2.mono (by omega))
      have XC := XB.out.below hb2 z1
      obtain ⟨a0, a1, a2, a3, a4, a5⟩ := id XC
      have nc0 : ∀ v : Near w2, v.at_.cell? ⟨w.heap.size, 0, none⟩ = some (.int .i64 x.o) := fun v => v.cell _ a0 (by omega)
      have nc1 : ∀ v : Near w2, v.at_.cell? ⟨w.heap.size, 1, none⟩ = some (.int .i64 x.i) := fun v => v.cell _ a1 (by omega)
      have nc2 : ∀ v : Near w2, v.at_.cell? ⟨w.heap.size, 2, none⟩ = some (.int .i64 x.t.k) := fun v => v.cell _ a2 (by omega)
      have nc3 : ∀ v : Near w2, v.at_.cell? ⟨w.heap.size, 3, none⟩ = some (.int .i64 x.t.n) := fun v => v.cell _ a3 (by omega)
      have nc4 : ∀ v : Near w2, v.at_.cell? ⟨w.heap.size, 4, none⟩ = some (.string x.t.t) := fun v => v.cell _ a4 (by omega)
      have nc5 : ∀ v : Near w2, v.at_.cell? ⟨w.heap.size, 5, none⟩ = some (.slice x.t.A x.t.l.length x.t.c) := fun v => v.cell _ a5 (by omega)
      have HON : Hid (∀ v : Near w2, Calls Tryd.prog 11 #[.int .i64 x.o] v.at_ fun e w' => e = .returned (.string N) ∧ Below v.at_.heap.size v.at_ w') := fun v => HO.out v.at_
      have HCN : Hid (∀ v : Near w2, Calls Tryd.prog 12 #[.agg #[.int .i64 x.t.k, .int .i64 x.t.n, .string x.t.t, .slice x.t.A x.t.l.length x.t.c]] v.at_ fun e w' => e = .returned (.string Z) ∧ Below v.at_.heap.size v.at_ w') := fun v => HC.out v.at_ (hb2.trans (v.below.mono z2))
      have n1 : ¬ (9223372036854775807 < (N ++ ⟨#[32]⟩ : ByteArray).size + Z.size) := by rw [cat_size]; have : (⟨#[32]⟩ : ByteArray).size = 1 := rfl; omega
      have n2 : ¬ (9223372036854775807 < N.size + 1 + Z.size) := by omega
      have h1 := H1.out
      go_upto_region 4 with fail
      clear h1 a0 a1 a2 a3 a4 a5
      refine wp_region_near (by kernel_rfl) (by kernel_rfl) ?_
      repeat (go_big_quiet_step (first | (go_at_call 11; with_reducible exact Calls.near (HON.out _)) | (go_at_call 12; with_reducible exact Calls.near (HCN.out _))))
      refine wpQuiet_nil ?_
      intro _ hw1
      obtain ⟨nx, hw2⟩ := hw1
      subst hw2
      go_wp2_with fail
      go_ret
      exact ⟨by rw [HQ.out]; rfl, b2.trans (nx.below.mono (by omega))⟩
    · rw [if_neg h1] at hq
      have hr : 1 ≤ x.o ∧ x.o ≤ 20 := by
        by_cases hr : 1 ≤ x.o ∧ x.o ≤ 20
        · exact hr
        · rw [Nt.ok_no hr] at hok; exact absurd hok (by decide)
      rw [Nt.ok_else hr h1] at hok
      simp only [Bool.and_eq_true, decide_eq_true_eq] at hok
      have hi0 := hok.1.1
      have hi1 : x.i ≤ 4000 := by have := hok.1.2; unfold Nt.top at this; split at this <;> omega
      have HP := fun u => l10Plain_any x u
      clear hok hr
      cases hb : x.bare
      · rw [hb] at HP hq
        rw [if_neg (by decide)] at hq
        have HQ := Lib.hid hq
        clear hb hq
        have HC : Hid (∀ u : World, Calls Tryd.prog 14 #[.int .i64 x.i] u fun e w' => e = .returned (.string ⟨(Lib.itoa x.i).toArray⟩) ∧ Below u.heap.size u w') := fun u => specFmtN_any x.i (by omega) (by omega) u
        have hls := itoa_small hi0 hi1
        obtain ⟨Z, hZ⟩ : ∃ Z, Z = (⟨(Lib.itoa x.i).toArray⟩ : ByteArray) := ⟨_, rfl⟩
        rw [← hZ] at HC hls HQ
        clear hZ
        go_enter Tryd.func5, Tryd.ntmps5
        go_upto_region 1 with fail
        rw [← hW1]
        clear hW1
        go_wp2_with fail
        clear a0 a1 a2 a3 a4 a5
        (with_reducible refine hv.mono ?_)
        rintro e w2 ⟨rfl, hb2⟩
        have z2 := hb2.size
        have b2 := b1.trans (hb2.mono (by omega))
        have XC := XB.out.below hb2 z1
        obtain ⟨a0, a1, a2, a3, a4, a5⟩ := id XC
        have nc0 : ∀ v : Near w2, v.at_.cell? ⟨w.heap.size, 0, none⟩ = some (.int .i64 x.o) := fun v => v.cell _ a0 (by omega)
        have nc1 : ∀ v : Near w2, v.at_.cell? ⟨w.heap.size, 1, none⟩ = some (.int .i64 x.i) := fun v => v.cell _ a1 (by omega)
        have nc2 : ∀ v : Near w2, v.at_.cell? ⟨w.heap.size, 2, none⟩ = some (.int .i64 x.t.k) := fun v => v.cell _ a2 (by omega)
        have nc3 : ∀ v : Near w2, v.at_.cell? ⟨w.heap.size, 3, none⟩ = some (.int .i64 x.t.n) := fun v => v.cell _ a3 (by omega)
        have nc4 : ∀ v : Near w2, v.at_.cell? ⟨w.heap.size, 4, none⟩ = some (.string x.t.t) := fun v => v.cell _ a4 (by omega)
        have nc5 : ∀ v : Near w2, v.at_.cell? ⟨w.heap.size, 5, none⟩ = some (.slice x.t.A x.t.l.length x.t.c) := fun v => v.cell _ a5 (by omega)
        have HON : Hid (∀ v : Near w2, Calls Tryd.prog 11 #[.int .i64 x.o] v.at_ fun e w' => e = .returned (.string N) ∧ Below v.at_.heap.size v.at_ w') := fun v => HO.out v.at_
        have HCN : Hid (∀ v : Near w2, Calls Tryd.prog 14 #[.int .i64 x.i] v.at_ fun e w' => e = .returned (.string Z) ∧ Below v.at_.heap.size v.at_ w') := fun v => HC.out v.at_
        have n1 : ¬ (9223372036854775807 < (N ++ ⟨#[32]⟩ : ByteArray).size + Z.size) := by rw [cat_size]; have : (⟨#[32]⟩ : ByteArray).size = 1 := rfl; omega
        have n2 : ¬ (9223372036854775807 < N.size + 1 + Z.size) := by omega
        go_wp2_with (first | (go_at_call 13; (with_reducible refine (HP _).mono ?_); rintro e w3 ⟨rfl, hw3⟩; obtain rfl := hw3))
        go_upto_region 7 with fail
        clear a0 a1 a2 a3 a4 a5
        refine wp_region_near (by kernel_rfl) (by kernel_rfl) ?_
        repeat (go_big_quiet_step (first | (go_at_call 11; with_reducible exact Calls.near (HON.out _)) | (go_at_call 14; with_reducible exact Calls.near (HCN.out _))))
        refine wpQuiet_nil ?_
        intro _ hw1
        obtain ⟨nx, hw2⟩ := hw1
        subst hw2
        go_wp2_with fail
        go_ret
        exact ⟨by rw [HQ.out]; rfl, b2.trans (nx.below.mono (by omega))⟩
      · rw [hb] at HP hq
        rw [if_pos rfl] at hq
        have HQ := Lib.hid hq
        clear hb hq
        go_enter Tryd.func5, Tryd.ntmps5
        go_upto_region 1 with fail
        rw [← hW1]
        clear hW1
        go_wp2_with fail
        clear a0 a1 a2 a3 a4 a5
        (with_reducible refine hv.mono ?_)
        rintro e w2 ⟨rfl, hb2⟩
        have z2 := hb2.size
        have b2 := b1.trans (hb2.mono (by omega))
        have XC := XB.out.below hb2 z1
        obtain ⟨a0, a1, a2, a3, a4, a5⟩ := id XC
        go_wp2_with fail
        (with_reducible refine (HP _).mono ?_)
        rintro e w3 ⟨rfl, hw3⟩
        obtain rfl := hw3
        go_wp2_with fail
        (with_reducible refine (HO.out _).mono ?_)
        rintro e w4 ⟨rfl, hb4⟩
        go_wp2_with fail
        go_ret
        exact ⟨by rw [HQ.out]; rfl, b2.trans (hb4.mono (by omega))⟩
theorem specFI_c (x : Nt) {x0 : Nt} (B : Nat) (w : World) (he : x.er = x0.er) {T : ByteArray} (hT : T = x0.txt) (hs : x0.bulk ≤ 1048576) (hin : Nt.E.In w B x) (hB : B ≤ w.heap.size) :
    Calls Tryd.prog 5 #[Nt.val x] w fun e w' => e = .returned (.string T) ∧ Below w.heap.size w w' := by
  have hbu := Nt.bulk_of_er he
  have hs2 : x.t.size ≤ 2000000 := by have := D.bulk_size x.t; unfold Nt.bulk at hbu hs; omega
  rw [hT, ← Nt.txt_er he]
  exact specFI_any x B w hin hB hs2
theorem implFI_c (x : Nt) {x0 : Nt} (B : Nat) (w : World) (he : x.er = x0.er) {T : ByteArray} (hT : T = x0.txt) (hs : x0.bulk ≤ 1048576) (hin : Nt.E.In w B x) (hB : B ≤ w.heap.size) (ht : Tab w) :
    Calls Tryd.prog 7 #[Nt.val x] w fun e w' => e = .returned (.string T) ∧ Below w.heap.size w w' := by
  have hbu := Nt.bulk_of_er he
  have hs2 : x.t.size ≤ 2000000 := by have := D.bulk_size x.t; unfold Nt.bulk at hbu hs; omega
  rw [hT, ← Nt.txt_er he]
  exact implFI_any x B w hin hB ht
end Go.Proofs.YtpigpncbjckbcaaDoor
