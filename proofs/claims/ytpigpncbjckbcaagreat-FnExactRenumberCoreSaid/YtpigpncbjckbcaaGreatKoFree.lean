/-
  FreeVariables: the mathematics, and the model's walk (written by gen/kofree.py).
-/
import Derived.Test.YtpigpncbjckbcaaGreatKoBox
import Derived.Deep.RegionHeld3
import Derived.Deep.DeepCutAuto
import Derived.Laws.EntriesVeiled
namespace Go.Proofs.YtpigpncbjckbcaaGreat
open Go.RowKit
def Ko.isVar (a : Ko) : Bool := a.k == 2 || a.k == 4
def Ko.freeN (a : Ko) (bd acc : List Int) : List Int := if (a.isVar && !bd.contains a.n) = true then addN acc a.n else acc
def Ko.freeX (a : Ko) (bd acc : List Int) : Bool := a.isVar && (!bd.contains a.n && !acc.contains a.n)
theorem Ko.freeN_yes {a : Ko} {bd acc : List Int} (h : a.freeX bd acc = true) : a.freeN bd acc = acc ++ [a.n] := by
  unfold Ko.freeX at h
  simp only [Bool.and_eq_true, Bool.not_eq_true'] at h
  unfold Ko.freeN
  rw [if_pos (by simp only [h.1, h.2.1]; rfl), addN_no h.2.2]
theorem Ko.freeN_no {a : Ko} {bd acc : List Int} (h : a.freeX bd acc = false) : a.freeN bd acc = acc := by
  unfold Ko.freeX at h
  unfold Ko.freeN
  split
  · rename_i hh
    simp only [Bool.and_eq_true, Bool.not_eq_true'] at hh
    rw [hh.1, hh.2] at h
    simp only [Bool.not_false, Bool.true_and, Bool.not_eq_false'] at h
    exact addN_yes h
  · rfl
theorem Ko.freeN_len (a : Ko) (bd acc : List Int) : (a.freeN bd acc).length ≤ acc.length + 1 := by
  unfold Ko.freeN
  split
  · exact addN_len _ _
  · omega
namespace Tr
mutual
def free : Tr Ko → List Int → List Int → List Int | .mk a _ _ l, bd, acc => freeL l (bd ++ a.s) (a.freeN bd acc)
def freeL : List (Tr Ko) → List Int → List Int → List Int | [], _, acc => acc | d :: r, bd, acc => freeL r bd (free d bd acc)
end
theorem free_eq (d : Tr Ko) (bd acc : List Int) : free d bd acc = freeL d.l (bd ++ d.a.s) (d.a.freeN bd acc) := by cases d; rfl
theorem freeL_append (a b : List (Tr Ko)) (bd : List Int) : ∀ acc, freeL (a ++ b) bd acc = freeL b bd (freeL a bd acc) := by
  induction a with
  | nil => intro acc; rfl
  | cons d r ih => intro acc; simp only [List.cons_append, freeL, ih]
theorem freeL_take_succ (l : List (Tr Ko)) (j : Nat) (h : j < l.length) (bd acc : List Int) : freeL (l.take (j + 1)) bd acc = free l[j] bd (freeL (l.take j) bd acc) := by
  rw [List.take_succ_eq_append_getElem h, freeL_append]; rfl
mutual
theorem free_of_er : ∀ d e : Tr Ko, er Ko.er d = er Ko.er e → ∀ bd acc, free d bd acc = free e bd acc
  | .mk a _ _ l, .mk b _ _ m => fun h bd acc => by
    simp only [er, Tr.mk.injEq] at h
    have ha := h.1
    simp only [Ko.er, Ko.mk.injEq] at ha
    have e1 : a.freeN bd acc = b.freeN bd acc := by unfold Ko.freeN Ko.isVar; rw [ha.1, ha.2.1]
    simp only [free, e1, ha.2.2.2.2.1, freeL_of_er l m h.2.2.2]
theorem freeL_of_er : ∀ l m : List (Tr Ko), erL Ko.er l = erL Ko.er m → ∀ bd acc, freeL l bd acc = freeL m bd acc
  | [], [] => fun _ _ _ => rfl
  | [], _ :: _ => fun h _ _ => by simp [erL] at h
  | _ :: _, [] => fun h _ _ => by simp [erL] at h
  | d :: r, e :: t => fun h bd acc => by
    simp only [erL, List.cons.injEq] at h
    simp only [freeL, free_of_er d e h.1, freeL_of_er r t h.2]
end
mutual
theorem free_len : ∀ (d : Tr Ko) (bd acc : List Int), (free d bd acc).length ≤ acc.length + 1 + d.bulk Ko.bulk
  | .mk a _ _ l, bd, acc => by
    have h1 := a.freeN_len bd acc
    have h2 := freeL_len l (bd ++ a.s) (a.freeN bd acc)
    simp only [free, bulk]; omega
theorem freeL_len : ∀ (l : List (Tr Ko)) (bd acc : List Int), (freeL l bd acc).length ≤ acc.length + bulkL Ko.bulk l
  | [], bd, acc => by simp [freeL, bulkL]
  | d :: r, bd, acc => by
    have h1 := free_len d bd acc
    have h2 := freeL_len r bd (free d bd acc)
    simp only [freeL, bulkL]; omega
end
end Tr
set_option maxRecDepth 100000 in
theorem specNames_any (d : Tr Ko) (w : World) : Calls Tryz.prog 101 #[Ko.val d] w fun e w' => e = .returned (.bool d.a.isVar) ∧ Below w.heap.size w w' := by
  have b1 : Below w.heap.size w (w.alloc (.cells #[.int .i64 d.a.k, .int .i64 d.a.n, .slice d.a.sA d.a.s.length d.a.sC, .int .i64 d.a.d.k, .int .i64 d.a.d.n, .string d.a.d.t, .slice d.a.d.A d.a.d.l.length d.a.d.c, .slice d.A d.l.length d.c] 35)) := (Below.refl _ _).alloc (Nat.le_refl _) _
  unfold Ko.val
  cases h2 : (d.a.k == 2)
  · have HQ : Hid (d.a.isVar = (d.a.k == 4)) := by show _ = _; unfold Ko.isVar; rw [h2]; rfl
    go_enter Tryz.func101, Tryz.ntmps101
    go_wp2_with fail
    go_ret
    exact ⟨ret_bool HQ.out.symm, b1⟩
  · have HQ : Hid (d.a.isVar = true) := by show _ = _; unfold Ko.isVar; rw [h2]; rfl
    go_enter Tryz.func101, Tryz.ntmps101
    go_wp2_with fail
    go_ret
    exact ⟨ret_bool HQ.out.symm, b1⟩
def KoFreOk (m : Nat) : Prop := ∀ (d : Tr Ko) (B base : Nat) (Ab : Option Addr) (cb : Nat) (bl : List Int) (acc : List Int) (v : Value) (w : World), d.size ≤ m → Ko.E.In w B d → B ≤ base → base ≤ w.heap.size → w.ownsRow base 3 1 v acc.length (acc.map (Value.int .i64)) → acc.length + 1 + d.bulk Ko.bulk ≤ 4000000 →
    IIn w w.heap.size Ab cb bl → bl.length + d.bulk Ko.bulk ≤ 2000000 → (∀ b ∈ iblk Ab bl, v.ownBlock ≠ some b) →
    Calls Tryz.prog 99 #[Ko.val d, .slice Ab bl.length cb, v] w (RetN [] base (d.free bl acc) v w)
set_option maxRecDepth 100000 in
set_option maxHeartbeats 1500000 in
theorem specFre_step (m : Nat) (ih : KoFreOk m) : KoFreOk (m + 1) := by
  intro d B base Ab cb bl acc v w hm hin hB hbw hrow hacc hbl hblen hoff
  have hBw : B ≤ w.heap.size := by omega
  have hcap := (Ko.E_in hin).2.cap
  have hs := (Ko.E_in hin).1.s
  have hscap := hs.cap
  have hbcap := hbl.cap
  have hsq := Tr.size_eq d
  have hbq := Tr.bulk_eq Ko.bulk d
  have hkb : Ko.bulk d.a = d.a.s.length + d.a.d.bulk := rfl
  obtain ⟨i0, hi, hz0, hz1, hz2⟩ := info_parts infoI
  obtain ⟨acc0, hacc0⟩ : ∃ a, a = d.a.freeN bl acc := ⟨_, rfl⟩
  obtain ⟨b3, hb3e⟩ : ∃ x, x = bl ++ d.a.s := ⟨_, rfl⟩
  have HB3 := Lib.hid hb3e
  have HLB : Hid (b3.length = bl.length + d.a.s.length) := by show _ = _; rw [hb3e, List.length_append]
  have K : Hid (d.free bl acc = Tr.freeL d.l b3 acc0) := by rw [hacc0, hb3e]; exact Tr.free_eq _ _ _
  clear hb3e
  have hal : acc0.length ≤ acc.length + 1 := by rw [hacc0]; exact d.a.freeN_len _ _
  have Hacc := Lib.hid hacc0
  clear hacc0
  have hv : ∀ g, v.ownBlock = some g → B ≤ g := fun g hg => by have := (hrow.lt g hg).1; omega
  have hv2 : v.ownBlock ≠ some w.heap.size := fun e => by have := (hrow.lt _ e).2; omega
  obtain ⟨W, hW⟩ : ∃ W, W = w.alloc (.cells #[.int .i64 d.a.k, .int .i64 d.a.n, .slice d.a.sA d.a.s.length d.a.sC, .int .i64 d.a.d.k, .int .i64 d.a.d.n, .string d.a.d.t, .slice d.a.d.A d.a.d.l.length d.a.d.c, .slice d.A d.l.length d.c] 35) := ⟨_, rfl⟩
  have hgW : GrewN [] base acc v w v W := by rw [hW]; exact GrewN.alloc0 hrow _
  have zW : W.heap.size = w.heap.size + 1 := by rw [hW]; simp
  have X0 : Ko.Box W w.heap.size d := by rw [hW]; exact Ko.Box.new _ _ _
  have hblW : IIn W W.heap.size Ab cb bl := by rw [hW]; exact (hbl.alloc (Nat.le_refl _) _).more (by simp)
  have hsW : IIn W B d.a.sA d.a.sC d.a.s := by rw [hW]; exact hs.alloc hBw _
  have hrowW := hgW.1
  obtain ⟨Av, cv, ev⟩ := irow_len hrow
  have hovW : IIn W W.heap.size Av cv acc := by
    obtain ⟨A', c', e, ho⟩ := own_of_row hrowW
    rw [ev] at e
    injection e with e1 _ e2
    subst e1 e2
    exact ho.inn
  obtain ⟨X, hX⟩ : ∃ X, X = d.a.freeX bl acc := ⟨_, rfl⟩
  have HXX := Lib.hid hX
  clear hX
  have HX := Lib.hid X0
  unfold Ko.val
  subst ev
  obtain ⟨a0, a1, a2, a3, a4, a5, a6, a7⟩ := X0
  go_enter Tryz.func99, Tryz.ntmps99
  go_upto_region 1 with fail
  rw [← hW]
  clear hW
  go_cut [24] (fun b wx => b = .bool X ∧ Below W.heap.size W wx)
  case first =>
    cases hV : d.a.isVar
    · have HV := Lib.hid hV
      have e0 : X = false := by rw [HXX.out]; unfold Ko.freeX; rw [hV]; rfl
      have E0 := Lib.hid e0
      clear hV e0
      go_wp2_with (first
        | (go_at_call 101; refine (specNames_any d W).mono ?_; rintro e w1 ⟨rfl, hb1⟩; rw [HV.out]; have z1 := hb1.size; have X1 := HX.out.below hb1 (by omega); obtain ⟨a0, a1, a2, a3, a4, a5, a6, a7⟩ := X1)
        | (go_at_call 170; with_reducible refine (specHas_any Ab cb bl d.a.n _ _ (hblW.below hb1)).mono ?_; rintro e' w' ⟨rfl, hw⟩; obtain rfl := hw.symm; rw [HB.out])
        | (go_at_call 170; with_reducible refine (specHas_any Av cv acc d.a.n _ _ (hovW.below hb1)).mono ?_; rintro e' w' ⟨rfl, hw⟩; obtain rfl := hw.symm; rw [HC.out]))
      go_meet
      exact ⟨by rw [E0.out], hb1⟩
    · have HV := Lib.hid hV
      cases hb : bl.contains d.a.n
      · have HB := Lib.hid hb
        cases hc : acc.contains d.a.n
        · have HC := Lib.hid hc
          have e0 : X = true := by rw [HXX.out]; unfold Ko.freeX; rw [hV, hb, hc]; rfl
          have E0 := Lib.hid e0
          clear hV hb hc e0
          go_wp2_with (first
            | (go_at_call 101; refine (specNames_any d W).mono ?_; rintro e w1 ⟨rfl, hb1⟩; rw [HV.out]; have z1 := hb1.size; have X1 := HX.out.below hb1 (by omega); obtain ⟨a0, a1, a2, a3, a4, a5, a6, a7⟩ := X1)
            | (go_at_call 170; with_reducible refine (specHas_any Ab cb bl d.a.n _ _ (hblW.below hb1)).mono ?_; rintro e' w' ⟨rfl, hw⟩; obtain rfl := hw.symm; rw [HB.out])
            | (go_at_call 170; with_reducible refine (specHas_any Av cv acc d.a.n _ _ (hovW.below hb1)).mono ?_; rintro e' w' ⟨rfl, hw⟩; obtain rfl := hw.symm; rw [HC.out]))
          go_meet
          exact ⟨by rw [E0.out], hb1⟩
        · have HC := Lib.hid hc
          have e0 : X = false := by rw [HXX.out]; unfold Ko.freeX; rw [hV, hb, hc]; rfl
          have E0 := Lib.hid e0
          clear hV hb hc e0
          go_wp2_with (first
            | (go_at_call 101; refine (specNames_any d W).mono ?_; rintro e w1 ⟨rfl, hb1⟩; rw [HV.out]; have z1 := hb1.size; have X1 := HX.out.below hb1 (by omega); obtain ⟨a0, a1, a2, a3, a4, a5, a6, a7⟩ := X1)
            | (go_at_call 170; with_reducible refine (specHas_any Ab cb bl d.a.n _ _ (hblW.below hb1)).mono ?_; rintro e' w' ⟨rfl, hw⟩; obtain rfl := hw.symm; rw [HB.out])
            | (go_at_call 170; with_reducible refine (specHas_any Av cv acc d.a.n _ _ (hovW.below hb1)).mono ?_; rintro e' w' ⟨rfl, hw⟩; obtain rfl := hw.symm; rw [HC.out]))
          go_meet
          exact ⟨by rw [E0.out], hb1⟩
      · have HB := Lib.hid hb
        have e0 : X = false := by rw [HXX.out]; unfold Ko.freeX; rw [hV, hb]; rfl
        have E0 := Lib.hid e0
        clear hV hb e0
        go_wp2_with (first
          | (go_at_call 101; refine (specNames_any d W).mono ?_; rintro e w1 ⟨rfl, hb1⟩; rw [HV.out]; have z1 := hb1.size; have X1 := HX.out.below hb1 (by omega); obtain ⟨a0, a1, a2, a3, a4, a5, a6, a7⟩ := X1)
          | (go_at_call 170; with_reducible refine (specHas_any Ab cb bl d.a.n _ _ (hblW.below hb1)).mono ?_; rintro e' w' ⟨rfl, hw⟩; obtain rfl := hw.symm; rw [HB.out])
          | (go_at_call 170; with_reducible refine (specHas_any Av cv acc d.a.n _ _ (hovW.below hb1)).mono ?_; rintro e' w' ⟨rfl, hw⟩; obtain rfl := hw.symm; rw [HC.out]))
        go_meet
        exact ⟨by rw [E0.out], hb1⟩
  case rest =>
    obtain ⟨rfl, hb1⟩ := hcut
    obtain ⟨W0, rfl⟩ : ∃ W, W = wc := ⟨_, rfl⟩
    have z1 := hb1.size
    have X1 := HX.out.below hb1 (by omega)
    clear a0 a1 a2 a3 a4 a5 a6 a7
    obtain ⟨a0, a1, a2, a3, a4, a5, a6, a7⟩ := X1
    have hg0 := hgW.later hb1
    have hr0 := hg0.1
    have hb0 := (hblW.below hb1).more z1
    have hs0 := hsW.below (hb1.mono (by omega))
    cases hx : X
    · have h0 : acc0 = acc := by rw [Hacc.out]; exact Ko.freeN_no (by rw [← HXX.out, hx])
      obtain ⟨W1, rfl⟩ : ∃ W, W = W0 := ⟨_, rfl⟩
      have HG1 : Hid (GrewN [] base acc0 (.slice Av acc.length cv) w (.slice Av acc.length cv) W1) := by rw [h0]; exact hg0
      have hbl1 := hb0
      have hs1 := hs0
      clear hx h0 hg0
      have lt1 : w.heap.size < W1.heap.size := by omega
      go_upto_region 3 with fail
      go_cut [1] (fun q wx => ∃ v3, q = v3 ∧ (wx.ownsRow W1.heap.size 3 1 v3 b3.length (b3.map (Value.int .i64)) ∧ Below W1.heap.size W1 wx))
      case first =>
        obtain hA | ⟨a, hA⟩ : d.a.sA = none ∨ ∃ a, d.a.sA = some a := by cases d.a.sA <;> simp
        ·
          have hl0 : d.a.s = [] := by
            have h1 := hs.nil hA
            exact List.length_eq_zero_iff.1 (by omega)
          have hc0 : d.a.sC = 0 := hs.nil hA
          have el : d.a.s.length = 0 := by rw [hl0]; rfl
          rw [hA, hc0, el] at a2
          have HL0 := Lib.hid hl0
          have p2 := a2
          clear hA hc0 el hl0
          go_region_held3 (fun w' => w'.cell? ⟨w.heap.size, 2, none⟩ = some (.slice none 0 0)) (go_keep) (first | (go_at_call 97; refine (l2IntsR_any Ab cb bl W1.heap.size _ (by omega) ?_ ?_).mono ?_; exact hbl1.drew; (show W1.heap.size ≤ W1.heap.size; exact Nat.le_refl _); rintro e wa ⟨v2, rfl, hr2, hba⟩; have hba : Below W1.heap.size W1 wa := below_undrew hba; have hr2 : wa.ownsRow W1.heap.size 3 1 v2 bl.length (bl.map (Value.int .i64)) := hr2; obtain ⟨A2, c2, rfl⟩ := irow_len hr2; have a2 := (hba.cell (p := ⟨w.heap.size, 2, none⟩) lt1).trans a2) | (refine step_append_none _ rfl (.tmp 31) (.tmp 33) 22 rfl W1.heap.size 3 i0 1 Tryz.underlying22 hi (.slice A2 bl.length c2) bl.length (bl.map (Value.int .i64)) rfl hr2 rfl ?_; have HT3 : Hid (wa.ownsRow W1.heap.size 3 1 (.slice A2 bl.length c2) b3.length (b3.map (Value.int .i64)) ∧ Below W1.heap.size W1 wa) := ⟨by rw [HB3.out, HL0.out, List.append_nil]; exact hr2, hba⟩))
          all_goals (go_wp2_with fail; go_meet)
          all_goals exact ⟨_, rfl, HT3.out⟩
        ·
          have hnews : ∀ wa : World, Below W1.heap.size W1 wa → ∀ j u, (d.a.s.map (Value.int .i64))[j]? = some u → wa.cell? (a.add j) = some u := by
            intro wa hba j u hu
            have hne : d.a.s ≠ [] := by intro e; rw [e] at hu; simp at hu
            obtain ⟨b, o, e, _, _⟩ := hs.mem hne
            rw [hA] at e
            obtain rfl := Option.some.inj e
            have hs' := hs1.below (hba.mono (by omega))
            rw [hA] at hs'
            exact iall hs' j u hu
          rw [hA] at a2
          have p2 := a2
          clear hA
          go_region_held3 (fun w' => w'.cell? ⟨w.heap.size, 2, none⟩ = some (.slice (some a) d.a.s.length d.a.sC)) (go_keep) (first | (go_at_call 97; refine (l2IntsR_any Ab cb bl W1.heap.size _ (by omega) ?_ ?_).mono ?_; exact hbl1.drew; (show W1.heap.size ≤ W1.heap.size; exact Nat.le_refl _); rintro e wa ⟨v2, rfl, hr2, hba⟩; have hba : Below W1.heap.size W1 wa := below_undrew hba; have hr2 : wa.ownsRow W1.heap.size 3 1 v2 bl.length (bl.map (Value.int .i64)) := hr2; obtain ⟨A2, c2, rfl⟩ := irow_len hr2; have a2 := (hba.cell (p := ⟨w.heap.size, 2, none⟩) lt1).trans a2) | (refine step_append_at _ rfl (.tmp 31) (.tmp 33) 22 rfl W1.heap.size 3 i0 (.int .i64 0) 1 8 Tryz.underlying22 hi hz0 hz1 hz2 rfl (by decide) (.slice A2 bl.length c2) bl.length (bl.map (Value.int .i64)) rfl hr2 a d.a.s.length d.a.sC (d.a.s.map (Value.int .i64)) rfl (by simp) (hnews wa hba) (iallone d.a.s) (by unfold maxLen; omega) (by omega) hba.size ?_; intro v3 w3 hown3 hgr3 hat3; have HT3 : Hid (w3.ownsRow W1.heap.size 3 1 v3 b3.length (b3.map (Value.int .i64)) ∧ Below W1.heap.size W1 w3) := ⟨by rw [HB3.out]; simpa using hown3, hba.grown hgr3 hba.size (fun k hk => (hr2.lt k hk).1)⟩; have a2 := (HT3.out.2.cell (p := ⟨w.heap.size, 2, none⟩) lt1).trans p2; clear hown3 hgr3 hat3))
          all_goals (go_wp2_with fail; go_meet)
          all_goals exact ⟨_, rfl, HT3.out⟩
      case rest =>
        obtain ⟨v3, rfl, hr3, hb3⟩ := hcut
        obtain ⟨w3, rfl⟩ : ∃ W, W = wc := ⟨_, rfl⟩
        have z3 := hb3.size
        have y7 := (hb3.cell (p := ⟨w.heap.size, 7, none⟩) lt1).trans a7
        obtain ⟨A3, c3, rfl, ho3⟩ := own_of_row hr3
        have HI3 := Lib.hid ho3.inn
        have HG3 := Lib.hid (HG1.out.later hb3)
        have HO3 : Hid (∀ b ∈ iblk A3 b3, (Value.slice Av acc.length cv).ownBlock ≠ some b) := fun b hb e => by
          have h1 := ho3.lo_ b hb
          have h2 := (HG1.out.1.lt b e).2
          omega
        clear hr3 ho3 hb3 a0 a1 a2 a3 a4 a5 a6 a7
        go_wp2_with fail
        go_loopw [2, 38] (fun q i wr => ∃ j : Nat, j ≤ d.l.length ∧ i = .int .i64 j ∧ GrewN [] base (Tr.freeL (d.l.take j) b3 acc0) (.slice Av acc.length cv) w q wr ∧ IIn wr wr.heap.size A3 c3 b3 ∧ ∀ b ∈ iblk A3 b3, q.ownBlock ≠ some b) (fun _ i _ => d.l.length - (intOf i).toNat)
        case atStart => exact ⟨0, Nat.zero_le _, rfl, HG3.out, HI3.out, HO3.out⟩
        case round =>
          obtain ⟨j, hj, rfl, hG, hI, hO⟩ := hrel
          have hs2 := hG.2.1.size
          by_cases hlt : j < d.l.length
          · obtain ⟨b, o, hA, hblk, k0, k1, k2, k3, k4, k5, k6, k7, hix⟩ := Ko.at_ ((Ko.E_in hin).2.below (hG.below (by simp) hv hBw)) (i := j) (x := d.l[j]) (List.getElem?_eq_getElem hlt)
            have hsz := Tr.sizeL_mem (l := d.l) (List.getElem_mem hlt)
            have hwl := Tr.freeL_len (d.l.take j) b3 acc0
            have hbd := Tr.bulkL_drop Ko.bulk d.l j hlt
            have hG1 := hG.alloc (.cells #[.int .i64 d.l[j].a.k, .int .i64 d.l[j].a.n, .slice d.l[j].a.sA d.l[j].a.s.length d.l[j].a.sC, .int .i64 d.l[j].a.d.k, .int .i64 d.l[j].a.d.n, .string d.l[j].a.d.t, .slice d.l[j].a.d.A d.l[j].a.d.l.length d.l[j].a.d.c, .slice d.l[j].A d.l[j].l.length d.l[j].c] 35)
            have HG1 := Lib.hid hG1
            have HI1 := Lib.hid ((hI.alloc (Nat.le_refl _) (.cells #[.int .i64 d.l[j].a.k, .int .i64 d.l[j].a.n, .slice d.l[j].a.sA d.l[j].a.s.length d.l[j].a.sC, .int .i64 d.l[j].a.d.k, .int .i64 d.l[j].a.d.n, .string d.l[j].a.d.t, .slice d.l[j].a.d.A d.l[j].a.d.l.length d.l[j].a.d.c, .slice d.l[j].A d.l[j].l.length d.l[j].c] 35)).more (B' := (wr.alloc (.cells #[.int .i64 d.l[j].a.k, .int .i64 d.l[j].a.n, .slice d.l[j].a.sA d.l[j].a.s.length d.l[j].a.sC, .int .i64 d.l[j].a.d.k, .int .i64 d.l[j].a.d.n, .string d.l[j].a.d.t, .slice d.l[j].a.d.A d.l[j].a.d.l.length d.l[j].a.d.c, .slice d.l[j].A d.l[j].l.length d.l[j].c] 35)).heap.size) (by simp))
            have HO1 := Lib.hid hO
            clear hG hG1 hI hO
            rw [hA]
            go_wp2_with fail
            have hlb := HLB.out
            refine (ih d.l[j] B base A3 c3 b3 (Tr.freeL (d.l.take j) b3 acc0) _ _ (by omega) (Elem.In.alloc hix (by omega) _) hB (by simp; omega) HG1.out.1 (by omega) HI1.out (by omega) HO1.out).mono ?_
            clear hlb
            rintro e w1 ⟨v', rfl, hG2⟩
            have hG3 := HG1.out.trans hG2
            have z12 := hG2.2.1.size
            have hI2 : IIn w1 w1.heap.size A3 c3 b3 := (HI1.out.keep fun k hk => hG2.block (HI1.out.blk_lt k hk) (by simp) (HO1.out k hk)).more z12
            have hO2 : ∀ b ∈ iblk A3 b3, v'.ownBlock ≠ some b := fun k hk => hG2.off (HI1.out.blk_lt k hk) (HO1.out k hk)
            have HG3 := Lib.hid hG3
            have HI2 := Lib.hid hI2
            have HO2 := Lib.hid hO2
            clear hG3 hG2 hI2 hO2
            go_wp2_with fail
            refine ⟨⟨j + 1, by omega, by go_num, ?_, HI2.out, HO2.out⟩, by simp [intOf]; omega⟩
            rw [Tr.freeL_take_succ d.l j hlt]
            exact HG3.out
          · have hj' : j = d.l.length := by omega
            subst hj'
            rw [List.take_length] at hG
            have HG := Lib.hid hG
            clear hG
            go_wp2_with fail
            go_ret
            exact ⟨_, rfl, by rw [K.out]; exact HG.out⟩
    · have h0 : acc0 = acc ++ [d.a.n] := by rw [Hacc.out]; exact Ko.freeN_yes (by rw [← HXX.out, hx])
      have H0 := Lib.hid h0
      clear hx h0
      have hdr := hr0.alloc (.cells #[.int .i64 d.a.n] 3)
      go_upto_region 3 with (at_builtin; refine wpList_append_lies _ rfl (.tmp 25) (.tmp 28) 22 rfl base 3 i0 (.int .i64 0) 1 8 Tryz.underlying22 hi hz0 hz1 hz2 rfl (by decide) _ acc.length (acc.map (Value.int .i64)) rfl hdr ⟨W0.heap.size, 0, none⟩ 1 1 [.int .i64 d.a.n] rfl rfl (inews W0 d.a.n) (ione d.a.n) (by omega) (by unfold maxLen; omega) (by omega) (by simp; omega) (W0.heap.size + 1) ?c2 ?_)
      case c2 => simp
      intro g cap W1 hown' hgr hat hlt1
      have hS := (GrewN.snoc (F := []) hown' hgr (by
        rcases hat with e | rfl
        · exact .inl e.symm
        · exact .inr fun g' hg' => by have e' : W0.heap.size + 1 = g' := Option.some.inj hg'; omega))
      have HG1 : Hid (GrewN [] base acc0 (.slice Av acc.length cv) w (.slice (some ⟨g, 0, none⟩) (acc.length + 1) cap) W1) := by rw [H0.out]; exact hg0.trans hS
      have zz := hS.2.1.size
      have hX1 := (show Ko.Box W0 w.heap.size d from ⟨a0, a1, a2, a3, a4, a5, a6, a7⟩).keep (hS.block (b := w.heap.size) (by omega) (by simp) hv2)
      have hbl1 : IIn W1 W1.heap.size Ab cb bl := (hb0.keep fun k hk => hS.block (hb0.blk_lt k hk) (by simp) (hoff k hk)).more zz
      have hs1 : IIn W1 B d.a.sA d.a.sC d.a.s := hs0.below (hS.below (by simp) hv (by omega))
      clear a0 a1 a2 a3 a4 a5 a6 a7 hown' hgr hat hS hg0
      obtain ⟨a0, a1, a2, a3, a4, a5, a6, a7⟩ := hX1
      have lt1 : w.heap.size < W1.heap.size := by omega
      go_upto_region 3 with fail
      go_cut [1] (fun q wx => ∃ v3, q = v3 ∧ (wx.ownsRow W1.heap.size 3 1 v3 b3.length (b3.map (Value.int .i64)) ∧ Below W1.heap.size W1 wx))
      case first =>
        obtain hA | ⟨a, hA⟩ : d.a.sA = none ∨ ∃ a, d.a.sA = some a := by cases d.a.sA <;> simp
        ·
          have hl0 : d.a.s = [] := by
            have h1 := hs.nil hA
            exact List.length_eq_zero_iff.1 (by omega)
          have hc0 : d.a.sC = 0 := hs.nil hA
          have el : d.a.s.length = 0 := by rw [hl0]; rfl
          rw [hA, hc0, el] at a2
          have HL0 := Lib.hid hl0
          have p2 := a2
          clear hA hc0 el hl0
          go_region_held3 (fun w' => w'.cell? ⟨w.heap.size, 2, none⟩ = some (.slice none 0 0)) (go_keep) (first | (go_at_call 97; refine (l2IntsR_any Ab cb bl W1.heap.size _ (by omega) ?_ ?_).mono ?_; exact hbl1.drew; (show W1.heap.size ≤ W1.heap.size; exact Nat.le_refl _); rintro e wa ⟨v2, rfl, hr2, hba⟩; have hba : Below W1.heap.size W1 wa := below_undrew hba; have hr2 : wa.ownsRow W1.heap.size 3 1 v2 bl.length (bl.map (Value.int .i64)) := hr2; obtain ⟨A2, c2, rfl⟩ := irow_len hr2; have a2 := (hba.cell (p := ⟨w.heap.size, 2, none⟩) lt1).trans a2) | (refine step_append_none _ rfl (.tmp 31) (.tmp 33) 22 rfl W1.heap.size 3 i0 1 Tryz.underlying22 hi (.slice A2 bl.length c2) bl.length (bl.map (Value.int .i64)) rfl hr2 rfl ?_; have HT3 : Hid (wa.ownsRow W1.heap.size 3 1 (.slice A2 bl.length c2) b3.length (b3.map (Value.int .i64)) ∧ Below W1.heap.size W1 wa) := ⟨by rw [HB3.out, HL0.out, List.append_nil]; exact hr2, hba⟩))
          all_goals (go_wp2_with fail; go_meet)
          all_goals exact ⟨_, rfl, HT3.out⟩
        ·
          have hnews : ∀ wa : World, Below W1.heap.size W1 wa → ∀ j u, (d.a.s.map (Value.int .i64))[j]? = some u → wa.cell? (a.add j) = some u := by
            intro wa hba j u hu
            have hne : d.a.s ≠ [] := by intro e; rw [e] at hu; simp at hu
            obtain ⟨b, o, e, _, _⟩ := hs.mem hne
            rw [hA] at e
            obtain rfl := Option.some.inj e
            have hs' := hs1.below (hba.mono (by omega))
            rw [hA] at hs'
            exact iall hs' j u hu
          rw [hA] at a2
          have p2 := a2
          clear hA
          go_region_held3 (fun w' => w'.cell? ⟨w.heap.size, 2, none⟩ = some (.slice (some a) d.a.s.length d.a.sC)) (go_keep) (first | (go_at_call 97; refine (l2IntsR_any Ab cb bl W1.heap.size _ (by omega) ?_ ?_).mono ?_; exact hbl1.drew; (show W1.heap.size ≤ W1.heap.size; exact Nat.le_refl _); rintro e wa ⟨v2, rfl, hr2, hba⟩; have hba : Below W1.heap.size W1 wa := below_undrew hba; have hr2 : wa.ownsRow W1.heap.size 3 1 v2 bl.length (bl.map (Value.int .i64)) := hr2; obtain ⟨A2, c2, rfl⟩ := irow_len hr2; have a2 := (hba.cell (p := ⟨w.heap.size, 2, none⟩) lt1).trans a2) | (refine step_append_at _ rfl (.tmp 31) (.tmp 33) 22 rfl W1.heap.size 3 i0 (.int .i64 0) 1 8 Tryz.underlying22 hi hz0 hz1 hz2 rfl (by decide) (.slice A2 bl.length c2) bl.length (bl.map (Value.int .i64)) rfl hr2 a d.a.s.length d.a.sC (d.a.s.map (Value.int .i64)) rfl (by simp) (hnews wa hba) (iallone d.a.s) (by unfold maxLen; omega) (by omega) hba.size ?_; intro v3 w3 hown3 hgr3 hat3; have HT3 : Hid (w3.ownsRow W1.heap.size 3 1 v3 b3.length (b3.map (Value.int .i64)) ∧ Below W1.heap.size W1 w3) := ⟨by rw [HB3.out]; simpa using hown3, hba.grown hgr3 hba.size (fun k hk => (hr2.lt k hk).1)⟩; have a2 := (HT3.out.2.cell (p := ⟨w.heap.size, 2, none⟩) lt1).trans p2; clear hown3 hgr3 hat3))
          all_goals (go_wp2_with fail; go_meet)
          all_goals exact ⟨_, rfl, HT3.out⟩
      case rest =>
        obtain ⟨v3, rfl, hr3, hb3⟩ := hcut
        obtain ⟨w3, rfl⟩ : ∃ W, W = wc := ⟨_, rfl⟩
        have z3 := hb3.size
        have y7 := (hb3.cell (p := ⟨w.heap.size, 7, none⟩) lt1).trans a7
        obtain ⟨A3, c3, rfl, ho3⟩ := own_of_row hr3
        have HI3 := Lib.hid ho3.inn
        have HG3 := Lib.hid (HG1.out.later hb3)
        have HO3 : Hid (∀ b ∈ iblk A3 b3, (Value.slice (some ⟨g, 0, none⟩) (acc.length + 1) cap).ownBlock ≠ some b) := fun b hb e => by
          have h1 := ho3.lo_ b hb
          have h2 := (HG1.out.1.lt b e).2
          omega
        clear hr3 ho3 hb3 a0 a1 a2 a3 a4 a5 a6 a7
        go_wp2_with fail
        go_loopw [2, 38] (fun q i wr => ∃ j : Nat, j ≤ d.l.length ∧ i = .int .i64 j ∧ GrewN [] base (Tr.freeL (d.l.take j) b3 acc0) (.slice Av acc.length cv) w q wr ∧ IIn wr wr.heap.size A3 c3 b3 ∧ ∀ b ∈ iblk A3 b3, q.ownBlock ≠ some b) (fun _ i _ => d.l.length - (intOf i).toNat)
        case atStart => exact ⟨0, Nat.zero_le _, rfl, HG3.out, HI3.out, HO3.out⟩
        case round =>
          obtain ⟨j, hj, rfl, hG, hI, hO⟩ := hrel
          have hs2 := hG.2.1.size
          by_cases hlt : j < d.l.length
          · obtain ⟨b, o, hA, hblk, k0, k1, k2, k3, k4, k5, k6, k7, hix⟩ := Ko.at_ ((Ko.E_in hin).2.below (hG.below (by simp) hv hBw)) (i := j) (x := d.l[j]) (List.getElem?_eq_getElem hlt)
            have hsz := Tr.sizeL_mem (l := d.l) (List.getElem_mem hlt)
            have hwl := Tr.freeL_len (d.l.take j) b3 acc0
            have hbd := Tr.bulkL_drop Ko.bulk d.l j hlt
            have hG1 := hG.alloc (.cells #[.int .i64 d.l[j].a.k, .int .i64 d.l[j].a.n, .slice d.l[j].a.sA d.l[j].a.s.length d.l[j].a.sC, .int .i64 d.l[j].a.d.k, .int .i64 d.l[j].a.d.n, .string d.l[j].a.d.t, .slice d.l[j].a.d.A d.l[j].a.d.l.length d.l[j].a.d.c, .slice d.l[j].A d.l[j].l.length d.l[j].c] 35)
            have HG1 := Lib.hid hG1
            have HI1 := Lib.hid ((hI.alloc (Nat.le_refl _) (.cells #[.int .i64 d.l[j].a.k, .int .i64 d.l[j].a.n, .slice d.l[j].a.sA d.l[j].a.s.length d.l[j].a.sC, .int .i64 d.l[j].a.d.k, .int .i64 d.l[j].a.d.n, .string d.l[j].a.d.t, .slice d.l[j].a.d.A d.l[j].a.d.l.length d.l[j].a.d.c, .slice d.l[j].A d.l[j].l.length d.l[j].c] 35)).more (B' := (wr.alloc (.cells #[.int .i64 d.l[j].a.k, .int .i64 d.l[j].a.n, .slice d.l[j].a.sA d.l[j].a.s.length d.l[j].a.sC, .int .i64 d.l[j].a.d.k, .int .i64 d.l[j].a.d.n, .string d.l[j].a.d.t, .slice d.l[j].a.d.A d.l[j].a.d.l.length d.l[j].a.d.c, .slice d.l[j].A d.l[j].l.length d.l[j].c] 35)).heap.size) (by simp))
            have HO1 := Lib.hid hO
            clear hG hG1 hI hO
            rw [hA]
            go_wp2_with fail
            have hlb := HLB.out
            refine (ih d.l[j] B base A3 c3 b3 (Tr.freeL (d.l.take j) b3 acc0) _ _ (by omega) (Elem.In.alloc hix (by omega) _) hB (by simp; omega) HG1.out.1 (by omega) HI1.out (by omega) HO1.out).mono ?_
            clear hlb
            rintro e w1 ⟨v', rfl, hG2⟩
            have hG3 := HG1.out.trans hG2
            have z12 := hG2.2.1.size
            have hI2 : IIn w1 w1.heap.size A3 c3 b3 := (HI1.out.keep fun k hk => hG2.block (HI1.out.blk_lt k hk) (by simp) (HO1.out k hk)).more z12
            have hO2 : ∀ b ∈ iblk A3 b3, v'.ownBlock ≠ some b := fun k hk => hG2.off (HI1.out.blk_lt k hk) (HO1.out k hk)
            have HG3 := Lib.hid hG3
            have HI2 := Lib.hid hI2
            have HO2 := Lib.hid hO2
            clear hG3 hG2 hI2 hO2
            go_wp2_with fail
            refine ⟨⟨j + 1, by omega, by go_num, ?_, HI2.out, HO2.out⟩, by simp [intOf]; omega⟩
            rw [Tr.freeL_take_succ d.l j hlt]
            exact HG3.out
          · have hj' : j = d.l.length := by omega
            subst hj'
            rw [List.take_length] at hG
            have HG := Lib.hid hG
            clear hG
            go_wp2_with fail
            go_ret
            exact ⟨_, rfl, by rw [K.out]; exact HG.out⟩
theorem specFre_any : ∀ m, KoFreOk m := by
  intro m
  induction m with
  | zero => intro d B base Ab cb bl acc v w h; have := d.size_pos; omega
  | succ m ih => exact specFre_step m ih
end Go.Proofs.YtpigpncbjckbcaaGreat
namespace Go.Proofs.YtpigpncbjckbcaaGreat
open Go.RowKit Go.Maps Go.WideMaps Go.ChangeMaps
theorem zeroInt (w : World) : (zeroValue 3).run Tryz.prog w = .ok (.int .i64 0) w := by kernel_rfl
def cntF (bd : List Int) : Int → Int := fun k => (bd.count k : Int)
theorem cntF_snoc (bd : List Int) (x : Int) : updI (fun k => .int .i64 (cntF bd k)) x (.int .i64 (cntF bd x + 1)) = fun k => .int .i64 (cntF (bd ++ [x]) k) := by
  funext u
  unfold updI cntF
  by_cases e : u = x
  · subst e; simp
  · rw [if_neg e]; simp [List.count_append, List.count_singleton, Ne.symm e]
def decF (bd s : List Int) : Int → Int := fun k => (bd.count k : Int) - (s.count k : Int)
theorem decF_nil (bd : List Int) : decF bd [] = cntF bd := by funext k; simp [decF, cntF]
theorem decF_all (bd s : List Int) : decF (bd ++ s) s = cntF bd := by funext k; simp [decF, cntF, List.count_append]
theorem decF_snoc (bd s : List Int) (x : Int) : updI (fun k => .int .i64 (decF bd s k)) x (.int .i64 (decF bd s x - 1)) = fun k => .int .i64 (decF bd (s ++ [x]) k) := by
  funext u
  unfold updI decF
  by_cases e : u = x
  · subst e; simp [List.count_append]; omega
  · rw [if_neg e]; simp [List.count_append, List.count_singleton, Ne.symm e]
theorem cntF_le (bd : List Int) (x : Int) : 0 ≤ cntF bd x ∧ cntF bd x ≤ bd.length := by
  unfold cntF
  have := List.count_le_length (a := x) (l := bd)
  omega
theorem decF_le (bd s : List Int) (x : Int) : -(s.length : Int) ≤ decF bd s x ∧ decF bd s x ≤ bd.length := by
  unfold decF
  have := List.count_le_length (a := x) (l := bd)
  have := List.count_le_length (a := x) (l := s)
  omega
theorem cntF_has (bd : List Int) (x : Int) : (cntF bd x == 0) = !bd.contains x := by
  unfold cntF
  cases h : bd.contains x
  · have h2 : x ∉ bd := by simpa using h
    simp [List.count_eq_zero.2 h2]
  · have h2 : x ∈ bd := by simpa using h
    have h3 : 0 < bd.count x := List.count_pos_iff.2 h2
    simp only [Bool.not_true, beq_eq_false_iff_ne]
    omega
structure FS (gb gv gf gs M Mb B base : Nat) (v : Value) (acc : List Int) (fu : Nat) (f : Int → Int) (w : World) : Prop where
  ns : NS gv gs M B base v acc w
  cb : CellN gb (.map (some Mb)) w
  cf : CellN gf (.func (.func 173) #[] #[.pointer (some ⟨gb, 0, none⟩), .pointer (some ⟨gv, 0, none⟩), .pointer (some ⟨gf, 0, none⟩)]) w
  map : ∃ n, n + fu ≤ 1099511627776 ∧ IMap w (.int .i64 0) Mb n (fun k => .int .i64 (f k))
  le : B ≤ gb ∧ B ≤ gf ∧ B ≤ Mb
  lb : gb < base ∧ gf < base ∧ Mb < base
  ne : gb ≠ gs ∧ gb ≠ M ∧ gb ≠ Mb ∧ gf ≠ gs ∧ gf ≠ M ∧ gf ≠ Mb ∧ gv ≠ Mb ∧ Mb ≠ gs ∧ Mb ≠ M
section
variable {gb gv gf gs M Mb B base fu : Nat} {v v' : Value} {acc acc' : List Int} {f : Int → Int} {w w' : World}
theorem FS.less {fu' : Nat} (h : FS gb gv gf gs M Mb B base v acc fu f w) (hf : fu' ≤ fu) : FS gb gv gf gs M Mb B base v acc fu' f w := by
  obtain ⟨n, h1, h2⟩ := h.map
  exact ⟨h.ns, h.cb, h.cf, ⟨n, by omega, h2⟩, h.le, h.lb, h.ne⟩
theorem FS.keep (h : FS gb gv gf gs M Mb B base v acc fu f w) (hz : w.heap.size ≤ w'.heap.size) (hk : ∀ k, k < w.heap.size → w'.heap[k]? = w.heap[k]?) : FS gb gv gf gs M Mb B base v acc fu f w' := by
  obtain ⟨n, h1, h2⟩ := h.map
  refine ⟨⟨h.ns.nl.keep hz fun k hk2 => hk k ?_, h.ns.cell.keep hz (hk gv h.ns.cell.lt), h.ns.b1, h.ns.b2, h.ns.b3, h.ns.n1, h.ns.n2, h.ns.lb, by have := h.ns.bw; omega⟩, h.cb.keep hz (hk gb h.cb.lt), h.cf.keep hz (hk gf h.cf.lt), ⟨n, h1, h2.keep (hk Mb h2.lt)⟩, h.le, h.lb, h.ne⟩
  rcases hk2 with rfl | rfl | hk2
  · exact h.ns.nl.lt
  · exact h.ns.nl.map.lt
  · exact (h.ns.nl.row.lt k hk2).2
theorem FS.below_ (h : FS gb gv gf gs M Mb B base v acc fu f w) (hb : Below w.heap.size w w') : FS gb gv gf gs M Mb B base v acc fu f w' := h.keep hb.size hb.block
theorem FS.alloc (h : FS gb gv gf gs M Mb B base v acc fu f w) (o : Obj) : FS gb gv gf gs M Mb B base v acc fu f (w.alloc o) := h.keep (by simp) fun k hk => Below.heap_alloc _ _ _ hk
theorem FS.add (h : FS gb gv gf gs M Mb B base v acc fu f w) (hn : NL gs M base v' acc' w') (hg : GrewN [gs, M] base acc' v w v' w') : FS gb gv gf gs M Mb B base v' acc' fu f w' := by
  obtain ⟨n, h1, h2⟩ := h.map
  have hz := hg.2.1.size
  obtain ⟨e1, e2, e3, e4, e5, e6, e7, e8, e9⟩ := h.ne
  obtain ⟨l1, l2, l3⟩ := h.lb
  have far : ∀ b, b < w.heap.size → b ≠ gs → b ≠ M → b < base → w'.heap[b]? = w.heap[b]? := fun b hb n1 n2 hlt =>
    hg.block hb (by simp only [List.mem_cons, List.not_mem_nil, or_false, not_or]; exact ⟨n1, n2⟩) (fun e => by have := (h.ns.nl.row.lt b e).1; omega)
  exact ⟨h.ns.step hn hg, h.cb.keep hz (far gb h.cb.lt e1 e2 l1), h.cf.keep hz (far gf h.cf.lt e4 e5 l2), ⟨n, h1, h2.keep (far Mb h2.lt e8 e9 l3)⟩, h.le, h.lb, h.ne⟩
theorem FS.look (h : FS gb gv gf gs M Mb B base v acc fu f w) {k : Int} (hk : (Lit.int .i64 k).wf = true) : (Instr.lookup 149 (.map (some Mb)) (.int .i64 k) false).run Tryz.prog w = .ok (.int .i64 (f k)) w := by
  obtain ⟨n, h1, h2⟩ := h.map
  exact h2.look Tryz.underlying149 (zeroInt w) hk
theorem FS.put (h : FS gb gv gf gs M Mb B base v acc fu f w) (hfu : 1 ≤ fu) {k : Int} (hk : (Lit.int .i64 k).wf = true) (x : Int) {g : Int → Int} (hg : updI (fun k => .int .i64 (f k)) k (.int .i64 x) = fun k => .int .i64 (g k)) :
    ∃ w2, (Instr.mapUpdate 149 (.map (some Mb)) (.int .i64 k) (.int .i64 x)).run Tryz.prog w = .ok () w2 ∧ FS gb gv gf gs M Mb B base v acc (fu - 1) g w2 ∧ Chg [Mb] w w2 := by
  obtain ⟨n, h1, h2⟩ := h.map
  obtain ⟨w2, hrun, hm, hgr⟩ := h2.put (t := 149) Tryz.underlying149 (by unfold maxLen; omega) hk (.int .i64 x)
  rw [hg] at hm
  obtain ⟨e1, e2, e3, e4, e5, e6, e7, e8, e9⟩ := h.ne
  have hc : Chg [Mb] w w2 := chg_of_grown hgr (by simp)
  have far : ∀ b, b < w.heap.size → b ≠ Mb → w2.heap[b]? = w.heap[b]? := fun b hb hne => hc.block b hb (by simpa using hne)
  have hz := hc.size
  refine ⟨w2, hrun, ⟨⟨h.ns.nl.keep hz fun b hb => ?_, h.ns.cell.keep hz (far gv h.ns.cell.lt e7), h.ns.b1, h.ns.b2, h.ns.b3, h.ns.n1, h.ns.n2, h.ns.lb, by have := h.ns.bw; omega⟩, h.cb.keep hz (far gb h.cb.lt e3), h.cf.keep hz (far gf h.cf.lt e6), ⟨n + 1, by omega, hm⟩, h.le, h.lb, h.ne⟩, hc⟩
  rcases hb with rfl | rfl | hb
  · exact far _ h.ns.nl.lt (Ne.symm e8)
  · exact far _ h.ns.nl.map.lt (Ne.symm e9)
  · have h3 := h.ns.nl.row.lt b hb
    have h4 := h.lb.2.2
    exact far b h3.2 (by omega)
theorem FS.below (h : FS gb gv gf gs M Mb B base v acc fu f w) (hg : GrewN [gs, M, Mb] base acc' v w v' w') : Below B w w' :=
  hg.below (by have := h.ns.b2; have := h.ns.b3; have := h.le.2.2; simp; omega) (fun g e => by have := (h.ns.nl.row.lt g e).1; have := h.ns.b1; have := h.ns.lb; omega) (by have := h.ns.bw; have := h.ns.b1; have := h.ns.lb; omega)
theorem FS.box (h : FS gb gv gf gs M Mb B base v acc fu f w) {b : Nat} (hg : GrewN [gs, M, Mb] base acc' v w v' w') (hb : b < w.heap.size) (h1 : base ≤ b) (h2 : v.ownBlock ≠ some b) : w'.heap[b]? = w.heap[b]? :=
  hg.block hb (by have := h.ns.nl.gb; have := h.ns.nl.mb; have := h.lb.2.2; simp; omega) h2
end
theorem GrewN.more {F F' : List Nat} {base : Nat} {acc : List Int} {v v1 : Value} {w w1 : World} (h : GrewN F base acc v w v1 w1) (hF : ∀ k ∈ F, k ∈ F') : GrewN F' base acc v w v1 w1 :=
  ⟨h.1, h.2.1.mono fun k hk => by
    rcases List.mem_append.1 hk with hk | hk
    · exact List.mem_append.2 (.inl (hF k hk))
    · exact List.mem_append.2 (.inr hk), h.2.2⟩
theorem GrewN.chg {F : List Nat} {base : Nat} {acc : List Int} {v v1 : Value} {w w1 w2 : World} (h : GrewN F base acc v w v1 w1) (hc : Chg F w1 w2) (hr : w2.ownsRow base 3 1 v1 acc.length (acc.map (Value.int .i64))) : GrewN F base acc v w v1 w2 :=
  h.trans ⟨hr, hc.mono fun k hk => List.mem_append.2 (.inl hk), .inl rfl⟩
set_option maxRecDepth 100000 in
theorem implVar_any (d : Tr Ko) (w : World) : Calls Tryz.prog 174 #[Ko.val d] w fun e w' => e = .returned (.bool d.a.isVar) ∧ Below w.heap.size w w' := by
  have b1 : Below w.heap.size w (w.alloc (.cells #[.int .i64 d.a.k, .int .i64 d.a.n, .slice d.a.sA d.a.s.length d.a.sC, .int .i64 d.a.d.k, .int .i64 d.a.d.n, .string d.a.d.t, .slice d.a.d.A d.a.d.l.length d.a.d.c, .slice d.A d.l.length d.c] 35)) := (Below.refl _ _).alloc (Nat.le_refl _) _
  unfold Ko.val
  cases h2 : (d.a.k == 2)
  · have HQ : Hid (d.a.isVar = (d.a.k == 4)) := by show _ = _; unfold Ko.isVar; rw [h2]; rfl
    go_enter Tryz.func174, Tryz.ntmps174
    go_wp2_with fail
    go_ret
    exact ⟨ret_bool HQ.out.symm, b1⟩
  · have HQ : Hid (d.a.isVar = true) := by show _ = _; unfold Ko.isVar; rw [h2]; rfl
    go_enter Tryz.func174, Tryz.ntmps174
    go_wp2_with fail
    go_ret
    exact ⟨ret_bool HQ.out.symm, b1⟩
def KoVisOk (m : Nat) : Prop := ∀ (d : Tr Ko) (gb gv gf gs M Mb B base : Nat) (bd acc : List Int) (v : Value) (fu : Nat) (w : World), d.size ≤ m → Ko.E.In w B d → FS gb gv gf gs M Mb B base v acc fu (cntF bd) w → 2 * d.bulk Ko.bulk ≤ fu → acc.length + 1 + d.bulk Ko.bulk ≤ 4000000 → bd.length + d.bulk Ko.bulk ≤ 2000000 →
    Calls Tryz.prog 173 #[Ko.val d, .pointer (some ⟨gb, 0, none⟩), .pointer (some ⟨gv, 0, none⟩), .pointer (some ⟨gf, 0, none⟩)] w fun e w' => e = .returned (.tuple #[]) ∧ ∃ v', FS gb gv gf gs M Mb B base v' (d.free bd acc) (fu - 2 * d.bulk Ko.bulk) (cntF bd) w' ∧ GrewN [gs, M, Mb] base (d.free bd acc) v w v' w'
set_option maxRecDepth 100000 in
set_option maxHeartbeats 2000000 in
theorem vis_step (m : Nat) (ih : KoVisOk m) : KoVisOk (m + 1) := by
  intro d gb gv gf gs M Mb B base bd acc v fu w hm hin hF0 hfu hacc hbdl
  have hbw := hF0.ns.bw
  have hs := (Ko.E_in hin).1.s
  have hwf := (Ko.E_in hin).1.wf
  have hscap := hs.cap
  have hcap := (Ko.E_in hin).2.cap
  have hsq := Tr.size_eq d
  have hbq := Tr.bulk_eq Ko.bulk d
  have hkb : Ko.bulk d.a = d.a.s.length + d.a.d.bulk := rfl
  have hBw : B ≤ w.heap.size := by have := hF0.ns.b1; have := hF0.ns.lb; omega
  obtain ⟨acc0, hacc0⟩ : ∃ a, a = d.a.freeN bd acc := ⟨_, rfl⟩
  obtain ⟨b3, hb3e⟩ : ∃ x, x = bd ++ d.a.s := ⟨_, rfl⟩
  have HB3 := Lib.hid hb3e
  have HLB : Hid (b3.length = bd.length + d.a.s.length) := by show _ = _; rw [hb3e, List.length_append]
  have K : Hid (d.free bd acc = Tr.freeL d.l b3 acc0) := by rw [hacc0, hb3e]; exact Tr.free_eq _ _ _
  clear hb3e
  have hal : acc0.length ≤ acc.length + 1 := by rw [hacc0]; exact d.a.freeN_len _ _
  have Hacc := Lib.hid hacc0
  clear hacc0
  have hv2 : v.ownBlock ≠ some w.heap.size := fun e => by have := (hF0.ns.nl.row.lt _ e).2; omega
  obtain ⟨W, hW⟩ : ∃ W, W = w.alloc (.cells #[.int .i64 d.a.k, .int .i64 d.a.n, .slice d.a.sA d.a.s.length d.a.sC, .int .i64 d.a.d.k, .int .i64 d.a.d.n, .string d.a.d.t, .slice d.a.d.A d.a.d.l.length d.a.d.c, .slice d.A d.l.length d.c] 35) := ⟨_, rfl⟩
  have hgW : GrewN [gs, M, Mb] base acc v w v W := by rw [hW]; exact GrewN.alloc0 hF0.ns.nl.row _
  have hFW : FS gb gv gf gs M Mb B base v acc fu (cntF bd) W := by rw [hW]; exact hF0.alloc _
  have zW : W.heap.size = w.heap.size + 1 := by rw [hW]; simp
  have X0 : Ko.Box W w.heap.size d := by rw [hW]; exact Ko.Box.new _ _ _
  obtain ⟨X, hX⟩ : ∃ X, X = (d.a.isVar && !bd.contains d.a.n) := ⟨_, rfl⟩
  have HXX := Lib.hid hX
  clear hX
  have HX := Lib.hid X0
  unfold Ko.val
  obtain ⟨a0, a1, a2, a3, a4, a5, a6, a7⟩ := X0
  go_enter Tryz.func173, Tryz.ntmps173
  go_upto_region 1 with fail
  rw [← hW]
  clear hW
  go_cut [19] (fun b wx => b = .bool X ∧ Below W.heap.size W wx)
  case first =>
    cases hV : d.a.isVar
    · have HV := Lib.hid hV
      have e0 : X = false := by rw [HXX.out, hV]; rfl
      have E0 := Lib.hid e0
      clear hV e0
      go_wp2_with (go_at_call 174; refine (implVar_any d W).mono ?_; rintro e w1 ⟨rfl, hb1⟩; rw [HV.out])
      go_meet
      exact ⟨by rw [E0.out], hb1⟩
    · have HV := Lib.hid hV
      have hc := cntF_has bd d.a.n
      cases hb : bd.contains d.a.n
      · have e0 : X = true := by rw [HXX.out, hV, hb]; rfl
        have E0 := Lib.hid e0
        rw [hb] at hc
        have hx0 : cntF bd d.a.n = 0 := by simpa using hc
        have HX0 := Lib.hid hx0
        clear hV hb hc e0 hx0
        go_wp2_with (go_at_call 174; refine (implVar_any d W).mono ?_; rintro e w1 ⟨rfl, hb1⟩; rw [HV.out]; have z1 := hb1.size; have hF1 := hFW.below_ hb1; have p1 := hF1.cb.cell; have hlook := hF1.look hwf.1; rw [HX0.out] at hlook; have X1 := HX.out.below hb1 (by omega); obtain ⟨a0, a1, a2, a3, a4, a5, a6, a7⟩ := X1)
        go_meet
        exact ⟨by rw [E0.out], hb1⟩
      · have e0 : X = false := by rw [HXX.out, hV, hb]; rfl
        have E0 := Lib.hid e0
        rw [hb] at hc
        obtain ⟨x, hx⟩ : ∃ x, x = cntF bd d.a.n := ⟨_, rfl⟩
        rw [← hx] at hc
        have HXE := Lib.hid hx
        have hc2 : (x == 0) = false := hc
        clear hV hb hc e0 hx
        go_wp2_with (go_at_call 174; refine (implVar_any d W).mono ?_; rintro e w1 ⟨rfl, hb1⟩; rw [HV.out]; have z1 := hb1.size; have hF1 := hFW.below_ hb1; have p1 := hF1.cb.cell; have hlook := hF1.look hwf.1; rw [← HXE.out] at hlook; have X1 := HX.out.below hb1 (by omega); obtain ⟨a0, a1, a2, a3, a4, a5, a6, a7⟩ := X1)
        go_meet
        exact ⟨by rw [E0.out], hb1⟩
  case rest =>
    obtain ⟨rfl, hb1⟩ := hcut
    obtain ⟨w1, rfl⟩ : ∃ W, W = wc := ⟨_, rfl⟩
    have z1 := hb1.size
    have hF1 := hFW.below_ hb1
    have X1 := HX.out.below hb1 (by omega)
    clear a0 a1 a2 a3 a4 a5 a6 a7
    obtain ⟨a0, a1, a2, a3, a4, a5, a6, a7⟩ := X1
    cases hx : X
    · have h0 : acc0 = acc := by rw [Hacc.out]; unfold Ko.freeN; rw [← HXX.out, hx]; rfl
      have HF1 : Hid (FS gb gv gf gs M Mb B base v acc0 fu (cntF bd) w1) := by rw [h0]; exact hF1
      have HG1 : Hid (GrewN [gs, M, Mb] base acc0 v W v w1) := by rw [h0]; exact (GrewN.refl hFW.ns.nl.row).later hb1
      clear hx h0 hF1
      go_wp2_with fail
      clear a0 a1 a2 a3 a4 a5 a6 a7
      go_loopw [27] (fun i wr => ∃ j : Nat, j ≤ d.a.s.length ∧ i = .int .i64 j ∧ FS gb gv gf gs M Mb B base v acc0 (fu - j) (cntF (bd ++ d.a.s.take j)) wr ∧ GrewN [gs, M, Mb] base acc0 v W v wr) (fun i _ => d.a.s.length - (intOf i).toNat)
      case atStart => exact ⟨0, Nat.zero_le _, rfl, by simpa using HF1.out, HG1.out⟩
      case round =>
        obtain ⟨j, hj, rfl, hF, hG⟩ := hrel
        have hs2 := hG.2.1.size
        have X1 := HX.out.keep (hFW.box hG (b := w.heap.size) (by omega) (by omega) hv2)
        by_cases hlt : j < d.a.s.length
        · obtain ⟨b, o, hA, hblk, hcell⟩ := (hs.below (hF0.below (hgW.trans hG))).at_ hlt
          have gg : (j : Int) < (d.a.s.length : Int) := by omega
          have htk : (d.a.s.take j).length ≤ d.a.s.length := by rw [List.length_take]; omega
          obtain ⟨x, hx⟩ : ∃ x, x = cntF (bd ++ d.a.s.take j) d.a.s[j] := ⟨_, rfl⟩
          have hlook := hF.look (hwf.2 _ (List.getElem_mem hlt))
          rw [← hx] at hlook
          have hle := cntF_le (bd ++ d.a.s.take j) d.a.s[j]
          rw [← hx, List.length_append] at hle
          have hlb := HLB.out
          have x1 : -9000000 ≤ x := by omega
          have x2 : x ≤ 9000000 := by omega
          have hst := cntF_snoc (bd ++ d.a.s.take j) d.a.s[j]
          rw [← hx] at hst
          have htk2 : d.a.s.take (j + 1) = d.a.s.take j ++ [d.a.s[j]] := List.take_succ_eq_append_getElem hlt
          rw [List.append_assoc, ← htk2] at hst
          obtain ⟨w2, hrun, hF2, hc2⟩ := hF.put (by omega) (hwf.2 _ (List.getElem_mem hlt)) (x + 1) hst
          have HF2 := Lib.hid hF2
          have HG2 := Lib.hid (hG.chg (hc2.mono (by simp)) hF2.ns.nl.row)
          have p1 := hF.cb.cell
          have HA := Lib.hid hA
          rw [hA]
          clear hx hle hst htk2 hF hF2 hG hc2 X1 hA hlb
          go_wp2_with fail
          go_roundw
          case rel => exact ⟨j + 1, by omega, by go_num, HF2.out.less (by omega), HG2.out⟩
          case measure => simp [intOf]; omega
        · have hj' : j = d.a.s.length := by omega
          subst hj'
          rw [List.take_length, ← HB3.out] at hF
          have HF2 := Lib.hid hF
          have HG2 := Lib.hid hG
          clear hF hG
          obtain ⟨a0, a1, a2, a3, a4, a5, a6, a7⟩ := X1
          clear a0 a1 a2 a3 a4 a5 a6
          go_wp2_with fail
          clear a7
          obtain ⟨wi, rfl⟩ : ∃ W, W = wr := ⟨_, rfl⟩
          go_loopw [39] (fun i wr => ∃ (j : Nat) (q : Value), j ≤ d.l.length ∧ i = .int .i64 j ∧ FS gb gv gf gs M Mb B base q (Tr.freeL (d.l.take j) b3 acc0) (fu - d.a.s.length - 2 * Tr.bulkL Ko.bulk (d.l.take j)) (cntF b3) wr ∧ GrewN [gs, M, Mb] base (Tr.freeL (d.l.take j) b3 acc0) v W q wr) (fun i _ => d.l.length - (intOf i).toNat)
          case atStart => exact ⟨0, v, Nat.zero_le _, rfl, HF2.out.less (by omega), HG2.out⟩
          case round =>
            obtain ⟨j, q, hj, rfl, hF, hG⟩ := hrel
            have hs2 := hG.2.1.size
            by_cases hlt : j < d.l.length
            · obtain ⟨b, o, hA, hblk, k0, k1, k2, k3, k4, k5, k6, k7, hix⟩ := Ko.at_ ((Ko.E_in hin).2.below (hF0.below (hgW.trans hG))) (i := j) (x := d.l[j]) (List.getElem?_eq_getElem hlt)
              have hsz := Tr.sizeL_mem (l := d.l) (List.getElem_mem hlt)
              have hwl := Tr.freeL_len (d.l.take j) b3 acc0
              have hbd := Tr.bulkL_drop Ko.bulk d.l j hlt
              have hbt := Tr.bulkL_take_succ Ko.bulk d.l j hlt
              have HBT := Lib.hid hbt
              clear hbt
              have HG1 := Lib.hid (hG.alloc (.cells #[.int .i64 d.l[j].a.k, .int .i64 d.l[j].a.n, .slice d.l[j].a.sA d.l[j].a.s.length d.l[j].a.sC, .int .i64 d.l[j].a.d.k, .int .i64 d.l[j].a.d.n, .string d.l[j].a.d.t, .slice d.l[j].a.d.A d.l[j].a.d.l.length d.l[j].a.d.c, .slice d.l[j].A d.l[j].l.length d.l[j].c] 35))
              have HF3 := Lib.hid (hF.alloc (.cells #[.int .i64 d.l[j].a.k, .int .i64 d.l[j].a.n, .slice d.l[j].a.sA d.l[j].a.s.length d.l[j].a.sC, .int .i64 d.l[j].a.d.k, .int .i64 d.l[j].a.d.n, .string d.l[j].a.d.t, .slice d.l[j].a.d.A d.l[j].a.d.l.length d.l[j].a.d.c, .slice d.l[j].A d.l[j].l.length d.l[j].c] 35))
              have p1 := HF3.out.cf.cell
              clear hG hF
              rw [hA]
              go_wp2_with fail
              have hlb := HLB.out
              refine (ih d.l[j] gb gv gf gs M Mb B base b3 (Tr.freeL (d.l.take j) b3 acc0) q _ _ (by omega) (Elem.In.alloc hix (by omega) _) HF3.out (by omega) (by omega) (by omega)).mono ?_
              clear hlb
              rintro e w1 ⟨rfl, v', hF4, hG2⟩
              have HG3 := Lib.hid (HG1.out.trans hG2)
              have hbt := HBT.out
              have HF4 := Lib.hid (hF4.less (fu' := fu - d.a.s.length - 2 * Tr.bulkL Ko.bulk (d.l.take (j + 1))) (by omega))
              clear hG2 hF4 hbt p1
              go_wp2_with fail
              refine ⟨⟨j + 1, v', by omega, by go_num, ?_, ?_⟩, by simp [intOf]; omega⟩
              · rw [Tr.freeL_take_succ d.l j hlt]
                exact HF4.out
              · rw [Tr.freeL_take_succ d.l j hlt]
                exact HG3.out
            · have hj' : j = d.l.length := by omega
              subst hj'
              rw [List.take_length] at hG hF
              have X2 := HX.out.keep (hFW.box hG (b := w.heap.size) (by omega) (by omega) hv2)
              have HG3 := Lib.hid hG
              have HF3 := Lib.hid hF
              clear hG hF
              obtain ⟨a0, a1, a2, a3, a4, a5, a6, a7⟩ := X2
              go_wp2_with fail
              clear a0 a1 a2 a3 a4 a5 a6 a7
              obtain ⟨wj, rfl⟩ : ∃ W, W = wr := ⟨_, rfl⟩
              go_loopw [50] (fun i wr => ∃ j : Nat, j ≤ d.a.s.length ∧ i = .int .i64 j ∧ FS gb gv gf gs M Mb B base q (Tr.freeL d.l b3 acc0) (fu - d.a.s.length - 2 * Tr.bulkL Ko.bulk d.l - j) (decF b3 (d.a.s.take j)) wr ∧ GrewN [gs, M, Mb] base (Tr.freeL d.l b3 acc0) v W q wr) (fun i _ => d.a.s.length - (intOf i).toNat)
              case atStart => exact ⟨0, Nat.zero_le _, rfl, by rw [List.take_zero, decF_nil]; exact (HF3.out.less (by omega)), HG3.out⟩
              case round =>
                obtain ⟨j, hj, rfl, hF, hG⟩ := hrel
                have hs2 := hG.2.1.size
                have X1 := HX.out.keep (hFW.box hG (b := w.heap.size) (by omega) (by omega) hv2)
                by_cases hlt : j < d.a.s.length
                · obtain ⟨b, o, hA, hblk, hcell⟩ := (hs.below (hF0.below (hgW.trans hG))).at_ hlt
                  have gg : (j : Int) < (d.a.s.length : Int) := by omega
                  have htk : (d.a.s.take j).length ≤ d.a.s.length := by rw [List.length_take]; omega
                  obtain ⟨x, hx⟩ : ∃ x, x = decF b3 (d.a.s.take j) d.a.s[j] := ⟨_, rfl⟩
                  have hlook := hF.look (hwf.2 _ (List.getElem_mem hlt))
                  rw [← hx] at hlook
                  have hle := decF_le b3 (d.a.s.take j) d.a.s[j]
                  rw [← hx] at hle
                  have hlb := HLB.out
                  have x1 : -9000000 ≤ x := by omega
                  have x2 : x ≤ 9000000 := by omega
                  have hst := decF_snoc b3 (d.a.s.take j) d.a.s[j]
                  rw [← hx] at hst
                  have htk2 : d.a.s.take (j + 1) = d.a.s.take j ++ [d.a.s[j]] := List.take_succ_eq_append_getElem hlt
                  rw [← htk2] at hst
                  obtain ⟨w2, hrun, hF2, hc2⟩ := hF.put (by omega) (hwf.2 _ (List.getElem_mem hlt)) (x - 1) hst
                  have HF2 := Lib.hid hF2
                  have HG2 := Lib.hid (hG.chg (hc2.mono (by simp)) hF2.ns.nl.row)
                  have p1 := hF.cb.cell
                  have HA := Lib.hid hA
                  rw [hA]
                  clear hx hle hst htk2 hF hF2 hG hc2 X1 hA hlb
                  go_wp2_with fail
                  go_roundw
                  case rel => exact ⟨j + 1, by omega, by go_num, HF2.out.less (by omega), HG2.out⟩
                  case measure => simp [intOf]; omega
                · have hj' : j = d.a.s.length := by omega
                  subst hj'
                  rw [List.take_length, HB3.out, decF_all] at hF
                  have HF4 := Lib.hid (hF.less (fu' := fu - 2 * d.bulk Ko.bulk) (by omega))
                  have HG4 := Lib.hid hG
                  clear hF hG X1
                  go_wp2_with fail
                  go_end0
                  exact ⟨rfl, q, by rw [K.out, HB3.out]; exact HF4.out, by rw [K.out]; exact hgW.trans HG4.out⟩
    · have h0 : acc0 = addN acc d.a.n := by rw [Hacc.out]; unfold Ko.freeN; rw [← HXX.out, hx]; rfl
      have p2 := hF1.ns.cell.cell
      have H0 := Lib.hid h0
      clear hx h0
      go_wp2_with (go_at_call 175; refine (nlAdd_any gs M base v acc d.a.n w1 hF1.ns.nl hF1.ns.bw hwf.1 (by omega)).mono ?_)
      rintro e w2 ⟨rfl, vn, hn2, hg2⟩
      rw [← H0.out] at hn2 hg2
      have HF1 := Lib.hid (hF1.add hn2 hg2)
      have HG1 := Lib.hid (((GrewN.refl hFW.ns.nl.row).later hb1).trans (hg2.more (F' := [gs, M, Mb]) (by simp)))
      have X2 := HX.out.keep (hFW.box HG1.out (b := w.heap.size) (by omega) (by omega) hv2)
      clear a0 a1 a2 a3 a4 a5 a6 a7 hn2 hg2 hF1 p2
      obtain ⟨a0, a1, a2, a3, a4, a5, a6, a7⟩ := X2
      go_wp2_with fail
      clear a0 a1 a2 a3 a4 a5 a6 a7
      go_loopw [27] (fun i wr => ∃ j : Nat, j ≤ d.a.s.length ∧ i = .int .i64 j ∧ FS gb gv gf gs M Mb B base vn acc0 (fu - j) (cntF (bd ++ d.a.s.take j)) wr ∧ GrewN [gs, M, Mb] base acc0 v W vn wr) (fun i _ => d.a.s.length - (intOf i).toNat)
      case atStart => exact ⟨0, Nat.zero_le _, rfl, by simpa using HF1.out, HG1.out⟩
      case round =>
        obtain ⟨j, hj, rfl, hF, hG⟩ := hrel
        have hs2 := hG.2.1.size
        have X1 := HX.out.keep (hFW.box hG (b := w.heap.size) (by omega) (by omega) hv2)
        by_cases hlt : j < d.a.s.length
        · obtain ⟨b, o, hA, hblk, hcell⟩ := (hs.below (hF0.below (hgW.trans hG))).at_ hlt
          have gg : (j : Int) < (d.a.s.length : Int) := by omega
          have htk : (d.a.s.take j).length ≤ d.a.s.length := by rw [List.length_take]; omega
          obtain ⟨x, hx⟩ : ∃ x, x = cntF (bd ++ d.a.s.take j) d.a.s[j] := ⟨_, rfl⟩
          have hlook := hF.look (hwf.2 _ (List.getElem_mem hlt))
          rw [← hx] at hlook
          have hle := cntF_le (bd ++ d.a.s.take j) d.a.s[j]
          rw [← hx, List.length_append] at hle
          have hlb := HLB.out
          have x1 : -9000000 ≤ x := by omega
          have x2 : x ≤ 9000000 := by omega
          have hst := cntF_snoc (bd ++ d.a.s.take j) d.a.s[j]
          rw [← hx] at hst
          have htk2 : d.a.s.take (j + 1) = d.a.s.take j ++ [d.a.s[j]] := List.take_succ_eq_append_getElem hlt
          rw [List.append_assoc, ← htk2] at hst
          obtain ⟨w2, hrun, hF2, hc2⟩ := hF.put (by omega) (hwf.2 _ (List.getElem_mem hlt)) (x + 1) hst
          have HF2 := Lib.hid hF2
          have HG2 := Lib.hid (hG.chg (hc2.mono (by simp)) hF2.ns.nl.row)
          have p1 := hF.cb.cell
          have HA := Lib.hid hA
          rw [hA]
          clear hx hle hst htk2 hF hF2 hG hc2 X1 hA hlb
          go_wp2_with fail
          go_roundw
          case rel => exact ⟨j + 1, by omega, by go_num, HF2.out.less (by omega), HG2.out⟩
          case measure => simp [intOf]; omega
        · have hj' : j = d.a.s.length := by omega
          subst hj'
          rw [List.take_length, ← HB3.out] at hF
          have HF2 := Lib.hid hF
          have HG2 := Lib.hid hG
          clear hF hG
          obtain ⟨a0, a1, a2, a3, a4, a5, a6, a7⟩ := X1
          clear a0 a1 a2 a3 a4 a5 a6
          go_wp2_with fail
          clear a7
          obtain ⟨wi, rfl⟩ : ∃ W, W = wr := ⟨_, rfl⟩
          go_loopw [39] (fun i wr => ∃ (j : Nat) (q : Value), j ≤ d.l.length ∧ i = .int .i64 j ∧ FS gb gv gf gs M Mb B base q (Tr.freeL (d.l.take j) b3 acc0) (fu - d.a.s.length - 2 * Tr.bulkL Ko.bulk (d.l.take j)) (cntF b3) wr ∧ GrewN [gs, M, Mb] base (Tr.freeL (d.l.take j) b3 acc0) v W q wr) (fun i _ => d.l.length - (intOf i).toNat)
          case atStart => exact ⟨0, vn, Nat.zero_le _, rfl, HF2.out.less (by omega), HG2.out⟩
          case round =>
            obtain ⟨j, q, hj, rfl, hF, hG⟩ := hrel
            have hs2 := hG.2.1.size
            by_cases hlt : j < d.l.length
            · obtain ⟨b, o, hA, hblk, k0, k1, k2, k3, k4, k5, k6, k7, hix⟩ := Ko.at_ ((Ko.E_in hin).2.below (hF0.below (hgW.trans hG))) (i := j) (x := d.l[j]) (List.getElem?_eq_getElem hlt)
              have hsz := Tr.sizeL_mem (l := d.l) (List.getElem_mem hlt)
              have hwl := Tr.freeL_len (d.l.take j) b3 acc0
              have hbd := Tr.bulkL_drop Ko.bulk d.l j hlt
              have hbt := Tr.bulkL_take_succ Ko.bulk d.l j hlt
              have HBT := Lib.hid hbt
              clear hbt
              have HG1 := Lib.hid (hG.alloc (.cells #[.int .i64 d.l[j].a.k, .int .i64 d.l[j].a.n, .slice d.l[j].a.sA d.l[j].a.s.length d.l[j].a.sC, .int .i64 d.l[j].a.d.k, .int .i64 d.l[j].a.d.n, .string d.l[j].a.d.t, .slice d.l[j].a.d.A d.l[j].a.d.l.length d.l[j].a.d.c, .slice d.l[j].A d.l[j].l.length d.l[j].c] 35))
              have HF3 := Lib.hid (hF.alloc (.cells #[.int .i64 d.l[j].a.k, .int .i64 d.l[j].a.n, .slice d.l[j].a.sA d.l[j].a.s.length d.l[j].a.sC, .int .i64 d.l[j].a.d.k, .int .i64 d.l[j].a.d.n, .string d.l[j].a.d.t, .slice d.l[j].a.d.A d.l[j].a.d.l.length d.l[j].a.d.c, .slice d.l[j].A d.l[j].l.length d.l[j].c] 35))
              have p1 := HF3.out.cf.cell
              clear hG hF
              rw [hA]
              go_wp2_with fail
              have hlb := HLB.out
              refine (ih d.l[j] gb gv gf gs M Mb B base b3 (Tr.freeL (d.l.take j) b3 acc0) q _ _ (by omega) (Elem.In.alloc hix (by omega) _) HF3.out (by omega) (by omega) (by omega)).mono ?_
              clear hlb
              rintro e w1 ⟨rfl, v', hF4, hG2⟩
              have HG3 := Lib.hid (HG1.out.trans hG2)
              have hbt := HBT.out
              have HF4 := Lib.hid (hF4.less (fu' := fu - d.a.s.length - 2 * Tr.bulkL Ko.bulk (d.l.take (j + 1))) (by omega))
              clear hG2 hF4 hbt p1
              go_wp2_with fail
              refine ⟨⟨j + 1, v', by omega, by go_num, ?_, ?_⟩, by simp [intOf]; omega⟩
              · rw [Tr.freeL_take_succ d.l j hlt]
                exact HF4.out
              · rw [Tr.freeL_take_succ d.l j hlt]
                exact HG3.out
            · have hj' : j = d.l.length := by omega
              subst hj'
              rw [List.take_length] at hG hF
              have X2 := HX.out.keep (hFW.box hG (b := w.heap.size) (by omega) (by omega) hv2)
              have HG3 := Lib.hid hG
              have HF3 := Lib.hid hF
              clear hG hF
              obtain ⟨a0, a1, a2, a3, a4, a5, a6, a7⟩ := X2
              go_wp2_with fail
              clear a0 a1 a2 a3 a4 a5 a6 a7
              obtain ⟨wj, rfl⟩ : ∃ W, W = wr := ⟨_, rfl⟩
              go_loopw [50] (fun i wr => ∃ j : Nat, j ≤ d.a.s.length ∧ i = .int .i64 j ∧ FS gb gv gf gs M Mb B base q (Tr.freeL d.l b3 acc0) (fu - d.a.s.length - 2 * Tr.bulkL Ko.bulk d.l - j) (decF b3 (d.a.s.take j)) wr ∧ GrewN [gs, M, Mb] base (Tr.freeL d.l b3 acc0) v W q wr) (fun i _ => d.a.s.length - (intOf i).toNat)
              case atStart => exact ⟨0, Nat.zero_le _, rfl, by rw [List.take_zero, decF_nil]; exact (HF3.out.less (by omega)), HG3.out⟩
              case round =>
                obtain ⟨j, hj, rfl, hF, hG⟩ := hrel
                have hs2 := hG.2.1.size
                have X1 := HX.out.keep (hFW.box hG (b := w.heap.size) (by omega) (by omega) hv2)
                by_cases hlt : j < d.a.s.length
                · obtain ⟨b, o, hA, hblk, hcell⟩ := (hs.below (hF0.below (hgW.trans hG))).at_ hlt
                  have gg : (j : Int) < (d.a.s.length : Int) := by omega
                  have htk : (d.a.s.take j).length ≤ d.a.s.length := by rw [List.length_take]; omega
                  obtain ⟨x, hx⟩ : ∃ x, x = decF b3 (d.a.s.take j) d.a.s[j] := ⟨_, rfl⟩
                  have hlook := hF.look (hwf.2 _ (List.getElem_mem hlt))
                  rw [← hx] at hlook
                  have hle := decF_le b3 (d.a.s.take j) d.a.s[j]
                  rw [← hx] at hle
                  have hlb := HLB.out
                  have x1 : -9000000 ≤ x := by omega
                  have x2 : x ≤ 9000000 := by omega
                  have hst := decF_snoc b3 (d.a.s.take j) d.a.s[j]
                  rw [← hx] at hst
                  have htk2 : d.a.s.take (j + 1) = d.a.s.take j ++ [d.a.s[j]] := List.take_succ_eq_append_getElem hlt
                  rw [← htk2] at hst
                  obtain ⟨w2, hrun, hF2, hc2⟩ := hF.put (by omega) (hwf.2 _ (List.getElem_mem hlt)) (x - 1) hst
                  have HF2 := Lib.hid hF2
                  have HG2 := Lib.hid (hG.chg (hc2.mono (by simp)) hF2.ns.nl.row)
                  have p1 := hF.cb.cell
                  have HA := Lib.hid hA
                  rw [hA]
                  clear hx hle hst htk2 hF hF2 hG hc2 X1 hA hlb
                  go_wp2_with fail
                  go_roundw
                  case rel => exact ⟨j + 1, by omega, by go_num, HF2.out.less (by omega), HG2.out⟩
                  case measure => simp [intOf]; omega
                · have hj' : j = d.a.s.length := by omega
                  subst hj'
                  rw [List.take_length, HB3.out, decF_all] at hF
                  have HF4 := Lib.hid (hF.less (fu' := fu - 2 * d.bulk Ko.bulk) (by omega))
                  have HG4 := Lib.hid hG
                  clear hF hG X1
                  go_wp2_with fail
                  go_end0
                  exact ⟨rfl, q, by rw [K.out, HB3.out]; exact HF4.out, by rw [K.out]; exact hgW.trans HG4.out⟩
theorem vis_any : ∀ m, KoVisOk m := by
  intro m
  induction m with
  | zero => intro d gb gv gf gs M Mb B base bd acc v fu w h; have := d.size_pos; omega
  | succ m ih => exact vis_step m ih
end Go.Proofs.YtpigpncbjckbcaaGreat
namespace Go.Proofs.YtpigpncbjckbcaaGreat
open Go.RowKit Go.Maps Go.WideMaps Go.ChangeMaps
set_option maxRecDepth 100000 in
set_option maxHeartbeats 2000000 in
theorem implFre_any (d : Tr Ko) (B : Nat) (w : World) (hin : Ko.E.In w B d) (hB : B ≤ w.heap.size) (hb : d.bulk Ko.bulk ≤ 1500000) : Calls Tryz.prog 106 #[Ko.val d] w (RetI (d.free [] []) w) := by
  obtain ⟨W, hW⟩ : ∃ W, W = w.alloc (.cells #[.int .i64 d.a.k, .int .i64 d.a.n, .slice d.a.sA d.a.s.length d.a.sC, .int .i64 d.a.d.k, .int .i64 d.a.d.n, .string d.a.d.t, .slice d.a.d.A d.a.d.l.length d.a.d.c, .slice d.A d.l.length d.c] 35) := ⟨_, rfl⟩
  have zW : W.heap.size = w.heap.size + 1 := by rw [hW]; simp
  have b1 : Below w.heap.size w W := by rw [hW]; exact (Below.refl _ _).alloc (Nat.le_refl _) _
  have X0 : Ko.Box W w.heap.size d := by rw [hW]; exact Ko.Box.new _ _ _
  have hmf : ∀ (fn : Fn) (first cap : Array Value) (w : World), (Instr.makeFunc fn first cap).run Tryz.prog w = .ok (.func fn first cap) w := fun _ _ _ _ => rfl
  have hmm := @run_makeMap Tryz.prog
  unfold Ko.val
  have X0q := X0
  obtain ⟨a0, a1, a2, a3, a4, a5, a6, a7⟩ := X0q
  go_enter Tryz.func106, Tryz.ntmps106
  go_wp2_with fail
  rw [← hW]
  clear hW a0 a1 a2 a3 a4 a5 a6 a7
  refine (nlNew_any W).mono ?_
  rintro e w1 ⟨rfl, z1, hb1', hNL⟩
  obtain ⟨W2, hW2⟩ : ∃ W2, W2 = w1.alloc (.cells #[.pointer (some ⟨W.heap.size + 1, 0, none⟩)] 211) := ⟨_, rfl⟩
  obtain ⟨W3, hW3⟩ : ∃ W3, W3 = W2.alloc (.map #[] 0) := ⟨_, rfl⟩
  obtain ⟨W4, hW4⟩ : ∃ W4, W4 = W3.alloc (.cells #[.map (some (w1.heap.size + 1))] 149) := ⟨_, rfl⟩
  obtain ⟨W5, hW5⟩ : ∃ W5, W5 = W4.alloc (.cells #[.nilFunc] 152) := ⟨_, rfl⟩
  obtain ⟨W6, hW6⟩ : ∃ W6, W6 = W5.setCell ⟨w1.heap.size + 1 + 1 + 1, 0, none⟩ (.func (.func 173) #[] #[.pointer (some ⟨w1.heap.size + 1 + 1, 0, none⟩), .pointer (some ⟨w1.heap.size, 0, none⟩), .pointer (some ⟨w1.heap.size + 1 + 1 + 1, 0, none⟩)]) := ⟨_, rfl⟩
  have z2 : W2.heap.size = w1.heap.size + 1 := by rw [hW2]; simp
  have z3 : W3.heap.size = w1.heap.size + 1 + 1 := by rw [hW3]; simp [z2]
  have z4 : W4.heap.size = w1.heap.size + 1 + 1 + 1 := by rw [hW4]; simp [z3]
  have z5 : W5.heap.size = w1.heap.size + 1 + 1 + 1 + 1 := by rw [hW5]; simp [z4]
  have z6 : W6.heap.size = w1.heap.size + 1 + 1 + 1 + 1 := by rw [hW6]; simp [z5]
  have B2 : Below w1.heap.size w1 W2 := by rw [hW2]; exact (Below.refl _ _).alloc (Nat.le_refl _) _
  have B3 : Below W2.heap.size W2 W3 := by rw [hW3]; exact (Below.refl _ _).alloc (Nat.le_refl _) _
  have B4 : Below W3.heap.size W3 W4 := by rw [hW4]; exact (Below.refl _ _).alloc (Nat.le_refl _) _
  have B5 : Below W4.heap.size W4 W6 := by rw [hW6]; exact ((by rw [hW5]; exact (Below.refl _ _).alloc (Nat.le_refl _) _ : Below W4.heap.size W4 W5)).setCell (by simp; omega) _
  have hc2 : CellN w1.heap.size (.pointer (some ⟨W.heap.size + 1, 0, none⟩)) W2 := by rw [hW2]; exact CellN.new _ _ _
  have hm3 : IMap W3 (.int .i64 0) (w1.heap.size + 1) 0 (fun k => .int .i64 (cntF [] k)) := by
    have h := IMap.new W2 (.int .i64 0)
    rw [← hW3, z2] at h
    exact h
  have hc4 : CellN (w1.heap.size + 1 + 1) (.map (some (w1.heap.size + 1))) W4 := by rw [hW4, ← z3]; exact CellN.new _ _ _
  have hc5 : CellN (w1.heap.size + 1 + 1 + 1) .nilFunc W5 := by rw [hW5, ← z4]; exact CellN.new _ _ _
  have hc6 : CellN (w1.heap.size + 1 + 1 + 1) (.func (.func 173) #[] #[.pointer (some ⟨w1.heap.size + 1 + 1, 0, none⟩), .pointer (some ⟨w1.heap.size, 0, none⟩), .pointer (some ⟨w1.heap.size + 1 + 1 + 1, 0, none⟩)]) W6 := by rw [hW6]; exact hc5.put _
  have kb : ∀ {a b : World}, Below a.heap.size a b → ∀ k, k < a.heap.size → b.heap[k]? = a.heap[k]? := fun h => h.block
  have B35 : Below W3.heap.size W3 W6 := B4.trans (B5.mono (by omega))
  have B25 : Below W2.heap.size W2 W6 := B3.trans (B35.mono (by omega))
  have B15 : Below w1.heap.size w1 W6 := B2.trans (B25.mono (by omega))
  have b25 : Below w.heap.size w W6 := (b1.trans (hb1'.mono (by omega))).trans (B15.mono (by omega))
  have hNl : NL (W.heap.size + 1) W.heap.size (w1.heap.size + 1 + 1 + 1 + 1) (.slice none 0 0) [] W6 := by
    have h := hNL (w1.heap.size + 1 + 1 + 1 + 1) (by omega)
    exact h.keep (by omega) fun k hk => kb B15 k (by
      rcases hk with rfl | rfl | hk
      · omega
      · omega
      · simp [Value.ownBlock] at hk)
  have hFS : FS (w1.heap.size + 1 + 1) w1.heap.size (w1.heap.size + 1 + 1 + 1) (W.heap.size + 1) W.heap.size (w1.heap.size + 1) w.heap.size (w1.heap.size + 1 + 1 + 1 + 1) (.slice none 0 0) [] 100000000 (cntF []) W6 :=
    ⟨⟨hNl, hc2.keep (by omega) (kb B25 _ hc2.lt), by omega, by omega, by omega, by omega, by omega, by omega, by omega⟩, hc4.keep (by omega) (kb B5 _ hc4.lt), hc6,
      ⟨0, by omega, hm3.keep (kb B35 _ hm3.lt)⟩, ⟨by omega, by omega, by omega⟩, ⟨by omega, by omega, by omega⟩, ⟨by omega, by omega, by omega, by omega, by omega, by omega, by omega, by omega, by omega⟩⟩
  have hin5 : Ko.E.In W6 w.heap.size d := Elem.In.below (Elem.In.more hin hB) b25
  have X6 : Ko.Box W6 w.heap.size d := Ko.Box.below (Ko.Box.below X0 hb1' (by omega)) B15 (by omega)
  have HFS := Lib.hid hFS
  have HI := Lib.hid hin5
  have HB5 := Lib.hid b25
  have HZ6 := Lib.hid z6
  have HZ1 := Lib.hid z1
  have HZW := Lib.hid zW
  have p5 := hc5.cell
  have f5 := hc5.fr
  have p6 := hc6.cell
  clear hNL hNl hc2 hm3 hc4 hc5 hc6 B2 B3 B4 B5 B35 B25 B15 kb hFS hin5 b25 X0 hb1' b1 z1 z2 z3 z4 z5 z6 zW
  go_upto_region 4 with fail
  rw [← hW2, ← hW3, ← hW4, ← hW5]
  clear hW2 hW3 hW4 hW5
  go_upto_region 5 with fail
  rw [← hW6]
  clear hW6 p5 f5
  obtain ⟨a0, a1, a2, a3, a4, a5, a6, a7⟩ := X6
  go_wp2_with fail
  clear a0 a1 a2 a3 a4 a5 a6 a7 p6
  refine (vis_any _ d (w1.heap.size + 1 + 1) w1.heap.size (w1.heap.size + 1 + 1 + 1) (W.heap.size + 1) W.heap.size (w1.heap.size + 1) w.heap.size (w1.heap.size + 1 + 1 + 1 + 1) [] [] (.slice none 0 0) 100000000 W6 (Nat.le_refl _) HI.out HFS.out (by omega) (by simp; omega) (by simp; omega)).mono ?_
  rintro e w3 ⟨rfl, v', hF3, hG⟩
  have hb3 : Below w.heap.size W6 w3 := HFS.out.below hG
  have z3 := hb3.size
  have q0 := hF3.ns.cell.cell
  have q1 := hF3.ns.nl.c0
  obtain ⟨A', c', rfl, ho⟩ := own_of_row hG.1
  have hz1 := HZ1.out
  have hzW := HZW.out
  have HO := Lib.hid (ho.wide (lo' := w.heap.size) (by omega) (Nat.le_refl _))
  have HB := Lib.hid (HB5.out.trans hb3)
  clear hG ho hF3 hb3 hz1 hzW
  go_wp2_with fail
  go_ret
  exact ⟨A', c', rfl, HO.out, HB.out⟩
set_option maxRecDepth 100000 in
set_option maxHeartbeats 2000000 in
theorem specFreV_any (d : Tr Ko) (B : Nat) (w : World) (hin : Ko.E.In w B d) (hB : B ≤ w.heap.size) (hb : d.bulk Ko.bulk ≤ 1500000) : Calls Tryz.prog 46 #[Ko.val d] w (RetI (d.free [] []) w) := by
  obtain ⟨W, hW⟩ : ∃ W, W = w.alloc (.cells #[.int .i64 d.a.k, .int .i64 d.a.n, .slice d.a.sA d.a.s.length d.a.sC, .int .i64 d.a.d.k, .int .i64 d.a.d.n, .string d.a.d.t, .slice d.a.d.A d.a.d.l.length d.a.d.c, .slice d.A d.l.length d.c] 35) := ⟨_, rfl⟩
  obtain ⟨W2, hW2⟩ : ∃ W2, W2 = W.alloc (.cells #[] 3) := ⟨_, rfl⟩
  have zW : W.heap.size = w.heap.size + 1 := by rw [hW]; simp
  have zW2 : W2.heap.size = w.heap.size + 2 := by rw [hW2]; simp [zW]
  have b1 : Below w.heap.size w W := by rw [hW]; exact (Below.refl _ _).alloc (Nat.le_refl _) _
  have b2 : Below w.heap.size w W2 := by rw [hW2]; exact b1.alloc (by omega) _
  have hin2 : Ko.E.In W2 w.heap.size d := Elem.In.below (Elem.In.more hin hB) b2
  have X0 : Ko.Box W w.heap.size d := by rw [hW]; exact Ko.Box.new _ _ _
  have r0 : W2.ownsRow (w.heap.size + 1) 3 1 (.slice (some ⟨w.heap.size + 1, 0, none⟩) 0 0) ([] : List Int).length (([] : List Int).map (Value.int .i64)) := by
    rw [hW2, ← zW]; exact World.ownsRow_made W #[] 0 (Nat.le_refl _) (by unfold maxLen; omega) (by simp)
  unfold Ko.val
  obtain ⟨a0, a1, a2, a3, a4, a5, a6, a7⟩ := X0
  go_enter Tryz.func46, Tryz.ntmps46
  go_wp2_with fail
  rw [← hW, ← hW2]
  clear hW hW2 a0 a1 a2 a3 a4 a5 a6 a7
  refine (specFre_any _ d w.heap.size (w.heap.size + 1) none 0 [] [] _ W2 (Nat.le_refl _) hin2 (by omega) (by omega) r0 (by simp; omega) (IIn.nil_ (by omega) (fun _ => rfl)) (by simp; omega) (by simp [iblk])).mono ?_
  rintro e w1 ⟨v', rfl, hG⟩
  have hb3 : Below w.heap.size W2 w1 := hG.below (by simp) (fun g hg => by simp [Value.ownBlock] at hg; omega) (by omega)
  obtain ⟨A', c', rfl, ho⟩ := own_of_row hG.1
  have HO := Lib.hid (ho.wide (lo' := w.heap.size) (by omega) (Nat.le_refl _))
  have HB := Lib.hid (b2.trans hb3)
  clear hG ho hb3
  go_wp2_with fail
  go_ret
  exact ⟨A', c', rfl, HO.out, HB.out⟩
theorem Ko.freeV_len (d : Tr Ko) : (d.free [] []).length ≤ 1 + d.bulk Ko.bulk := by
  have h := Tr.free_len d [] []
  simp only [List.length_nil] at h
  omega
end Go.Proofs.YtpigpncbjckbcaaGreat
