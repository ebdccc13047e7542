/-
  FreeVariables: the mathematics, and the model's walk (written by gen/kofree.py).
-/
import Derived.Test.YtbeikpbnidbjfaaKoX
import Derived.Test.YtbeikpbnidbjfaaRowA
import Derived.Deep.RegionHeld3
import Derived.Deep.DeepCutAuto
namespace Go.Proofs.Ytbeikpbnidbjfaa
open Go.RowKit

def Ko.isVar (a : Ko) : Bool := a.k == 2 || a.k == 4
/-- What a node adds to the free variables. -/
def Ko.freeN (a : Ko) (bd acc : List Int) : List Int := if (a.isVar && !bd.contains a.n) = true then addN acc a.n else acc
def Ko.freeX (a : Ko) (bd acc : List Int) : Bool := a.isVar && (!bd.contains a.n && !acc.contains a.n)
theorem Ko.freeN_yes {a : Ko} {bd acc : List Int} (h : a.freeX bd acc = true) : a.freeN bd acc = acc ++ [a.n] := by
  unfold Ko.freeX at h
  simp only [Bool.and_eq_true, Bool.not_eq_true'] at h
  unfold Ko.freeN
  rw [if_pos (by simp only [h.1, h.2.1]; rfl), addN_no h.2.2]
theorem Ko.freeN_no {a : Ko} {bd acc : List Int} (h : a.freeX bd acc = false) : a.freeN bd acc = acc := by
  unfold Ko.freeX at h
  unfold Ko.freeN
  split
  · rename_i hh
    simp only [Bool.and_eq_true, Bool.not_eq_true'] at hh
    rw [hh.1, hh.2] at h
    simp only [Bool.not_false, Bool.true_and, Bool.not_eq_false'] at h
    exact addN_yes h
  · rfl
theorem Ko.freeN_len (a : Ko) (bd acc : List Int) : (a.freeN bd acc).length ≤ acc.length + 1 := by
  unfold Ko.freeN
  split
  · exact addN_len _ _
  · omega
namespace Tr
mutual
/-- The free variables, behind what is known. -/
def free : Tr Ko → List Int → List Int → List Int | .mk a _ _ l, bd, acc => freeL l (bd ++ a.s) (a.freeN bd acc)
def freeL : List (Tr Ko) → List Int → List Int → List Int | [], _, acc => acc | d :: r, bd, acc => freeL r bd (free d bd acc)
end
theorem free_eq (d : Tr Ko) (bd acc : List Int) : free d bd acc = freeL d.l (bd ++ d.a.s) (d.a.freeN bd acc) := by cases d; rfl
theorem freeL_append (a b : List (Tr Ko)) (bd : List Int) : ∀ acc, freeL (a ++ b) bd acc = freeL b bd (freeL a bd acc) := by
  induction a with
  | nil => intro acc; rfl
  | cons d r ih => intro acc; simp only [List.cons_append, freeL, ih]
theorem freeL_take_succ (l : List (Tr Ko)) (j : Nat) (h : j < l.length) (bd acc : List Int) : freeL (l.take (j + 1)) bd acc = free l[j] bd (freeL (l.take j) bd acc) := by
  rw [List.take_succ_eq_append_getElem h, freeL_append]; rfl
mutual
theorem free_of_er : ∀ d e : Tr Ko, er Ko.er d = er Ko.er e → ∀ bd acc, free d bd acc = free e bd acc
  | .mk a _ _ l, .mk b _ _ m => fun h bd acc => by
    simp only [er, Tr.mk.injEq] at h
    have ha := h.1
    simp only [Ko.er, Ko.mk.injEq] at ha
    have e1 : a.freeN bd acc = b.freeN bd acc := by unfold Ko.freeN Ko.isVar; rw [ha.1, ha.2.1]
    simp only [free, e1, ha.2.2.2.2.1, freeL_of_er l m h.2.2.2]
theorem freeL_of_er : ∀ l m : List (Tr Ko), erL Ko.er l = erL Ko.er m → ∀ bd acc, freeL l bd acc = freeL m bd acc
  | [], [] => fun _ _ _ => rfl
  | [], _ :: _ => fun h _ _ => by simp [erL] at h
  | _ :: _, [] => fun h _ _ => by simp [erL] at h
  | d :: r, e :: t => fun h bd acc => by
    simp only [erL, List.cons.injEq] at h
    simp only [freeL, free_of_er d e h.1, freeL_of_er r t h.2]
end
mutual
theorem free_len : ∀ (d : Tr Ko) (bd acc : List Int), (free d bd acc).length ≤ acc.length + 1 + d.bulk Ko.bulk
  | .mk a _ _ l, bd, acc => by
    have h1 := a.freeN_len bd acc
    have h2 := freeL_len l (bd ++ a.s) (a.freeN bd acc)
    simp only [free, bulk]; omega
theorem freeL_len : ∀ (l : List (Tr Ko)) (bd acc : List Int), (freeL l bd acc).length ≤ acc.length + bulkL Ko.bulk l
  | [], bd, acc => by simp [freeL, bulkL]
  | d :: r, bd, acc => by
    have h1 := free_len d bd acc
    have h2 := freeL_len r bd (free d bd acc)
    simp only [freeL, bulkL]; omega
end
end Tr

set_option maxRecDepth 100000 in
theorem specNames_any (d : Tr Ko) (w : World) : Calls Try.prog 127 #[Ko.val d] w fun e w' => e = .returned (.bool d.a.isVar) ∧ Below w.heap.size w w' := by
  have b1 : Below w.heap.size w (w.alloc (.cells #[.int .i64 d.a.k, .int .i64 d.a.n, .slice d.a.sA d.a.s.length d.a.sC, .int .i64 d.a.d.k, .int .i64 d.a.d.n, .string d.a.d.t, .slice d.a.d.A d.a.d.l.length d.a.d.c, .slice d.A d.l.length d.c] 36)) := (Below.refl _ _).alloc (Nat.le_refl _) _
  unfold Ko.val
  cases h2 : (d.a.k == 2)
  · have HQ : Hid (d.a.isVar = (d.a.k == 4)) := by show _ = _; unfold Ko.isVar; rw [h2]; rfl
    go_enter Try.func127, Try.ntmps127
    go_wp2_with fail
    go_ret
    exact ⟨ret_bool HQ.out.symm, b1⟩
  · have HQ : Hid (d.a.isVar = true) := by show _ = _; unfold Ko.isVar; rw [h2]; rfl
    go_enter Try.func127, Try.ntmps127
    go_wp2_with fail
    go_ret
    exact ⟨ret_bool HQ.out.symm, b1⟩

def KoFreOk (m : Nat) : Prop := ∀ (d : Tr Ko) (B base : Nat) (Ab : Option Addr) (cb : Nat) (bl : List Int) (acc : List Int) (v : Value) (w : World), d.size ≤ m → Ko.E.In w B d → B ≤ base → base ≤ w.heap.size → w.ownsRow base 3 1 v acc.length (acc.map (Value.int .i64)) → acc.length + 1 + d.bulk Ko.bulk ≤ 4000000 →
    IIn w w.heap.size Ab cb bl → bl.length + d.bulk Ko.bulk ≤ 2000000 → (∀ b ∈ iblk Ab bl, v.ownBlock ≠ some b) →
    Calls Try.prog 69 #[Ko.val d, .slice Ab bl.length cb, v] w (RetN [] base (d.free bl acc) v w)

set_option maxRecDepth 100000 in
set_option maxHeartbeats 1500000 in
theorem specFre_step (m : Nat) (ih : KoFreOk m) : KoFreOk (m + 1) := by
  intro d B base Ab cb bl acc v w hm hin hB hbw hrow hacc hbl hblen hoff
  have hBw : B ≤ w.heap.size := by omega
  have hcap := (Ko.E_in hin).2.cap
  have hs := (Ko.E_in hin).1.s
  have hscap := hs.cap
  have hbcap := hbl.cap
  have hsq := Tr.size_eq d
  have hbq := Tr.bulk_eq Ko.bulk d
  have hkb : Ko.bulk d.a = d.a.s.length + d.a.d.bulk := rfl
  obtain ⟨i0, hi, hz0, hz1, hz2⟩ := info_parts infoI
  obtain ⟨acc0, hacc0⟩ : ∃ a, a = d.a.freeN bl acc := ⟨_, rfl⟩
  obtain ⟨b3, hb3e⟩ : ∃ x, x = bl ++ d.a.s := ⟨_, rfl⟩
  have HB3 := Lib.hid hb3e
  have HLB : Hid (b3.length = bl.length + d.a.s.length) := by show _ = _; rw [hb3e, List.length_append]
  have K : Hid (d.free bl acc = Tr.freeL d.l b3 acc0) := by rw [hacc0, hb3e]; exact Tr.free_eq _ _ _
  clear hb3e
  have hal : acc0.length ≤ acc.length + 1 := by rw [hacc0]; exact d.a.freeN_len _ _
  have Hacc := Lib.hid hacc0
  clear hacc0
  have hv : ∀ g, v.ownBlock = some g → B ≤ g := fun g hg => by have := (hrow.lt g hg).1; omega
  have hv2 : v.ownBlock ≠ some w.heap.size := fun e => by have := (hrow.lt _ e).2; omega
  obtain ⟨W, hW⟩ : ∃ W, W = w.alloc (.cells #[.int .i64 d.a.k, .int .i64 d.a.n, .slice d.a.sA d.a.s.length d.a.sC, .int .i64 d.a.d.k, .int .i64 d.a.d.n, .string d.a.d.t, .slice d.a.d.A d.a.d.l.length d.a.d.c, .slice d.A d.l.length d.c] 36) := ⟨_, rfl⟩
  have hgW : GrewN [] base acc v w v W := by rw [hW]; exact GrewN.alloc0 hrow _
  have zW : W.heap.size = w.heap.size + 1 := by rw [hW]; simp
  have X0 : Ko.Box W w.heap.size d := by rw [hW]; exact Ko.Box.new _ _ _
  have hblW : IIn W W.heap.size Ab cb bl := by rw [hW]; exact (hbl.alloc (Nat.le_refl _) _).more (by simp)
  have hsW : IIn W B d.a.sA d.a.sC d.a.s := by rw [hW]; exact hs.alloc hBw _
  have hrowW := hgW.1
  obtain ⟨Av, cv, ev⟩ := irow_len hrow
  have hovW : IIn W W.heap.size Av cv acc := by
    obtain ⟨A', c', e, ho⟩ := own_of_row hrowW
    rw [ev] at e
    injection e with e1 _ e2
    subst e1 e2
    exact ho.inn
  obtain ⟨X, hX⟩ : ∃ X, X = d.a.freeX bl acc := ⟨_, rfl⟩
  have HXX := Lib.hid hX
  clear hX
  have HX := Lib.hid X0
  unfold Ko.val
  subst ev
  obtain ⟨a0, a1, a2, a3, a4, a5, a6, a7⟩ := X0
  go_enter Try.func69, Try.ntmps69
  go_upto_region 1 with fail
  rw [← hW]
  clear hW
  go_cut [24] (fun b wx => b = .bool X ∧ Below W.heap.size W wx)
  case first =>
    cases hV : d.a.isVar
    · have HV := Lib.hid hV
      have e0 : X = false := by rw [HXX.out]; unfold Ko.freeX; rw [hV]; rfl
      have E0 := Lib.hid e0
      clear hV e0
      go_wp2_with (first
        | (go_at_call 127; refine (specNames_any d W).mono ?_; rintro e w1 ⟨rfl, hb1⟩; rw [HV.out]; have z1 := hb1.size; have X1 := HX.out.below hb1 (by omega); obtain ⟨a0, a1, a2, a3, a4, a5, a6, a7⟩ := X1)
        | (go_at_call 85; with_reducible refine (specHas_any Ab cb bl d.a.n _ _ (hblW.below hb1)).mono ?_; rintro e' w' ⟨rfl, hw⟩; obtain rfl := hw.symm; rw [HB.out])
        | (go_at_call 85; with_reducible refine (specHas_any Av cv acc d.a.n _ _ (hovW.below hb1)).mono ?_; rintro e' w' ⟨rfl, hw⟩; obtain rfl := hw.symm; rw [HC.out]))
      go_meet
      exact ⟨by rw [E0.out], hb1⟩
    · have HV := Lib.hid hV
      cases hb : bl.contains d.a.n
      · have HB := Lib.hid hb
        cases hc : acc.contains d.a.n
        · have HC := Lib.hid hc
          have e0 : X = true := by rw [HXX.out]; unfold Ko.freeX; rw [hV, hb, hc]; rfl
          have E0 := Lib.hid e0
          clear hV hb hc e0
          go_wp2_with (first
            | (go_at_call 127; refine (specNames_any d W).mono ?_; rintro e w1 ⟨rfl, hb1⟩; rw [HV.out]; have z1 := hb1.size; have X1 := HX.out.below hb1 (by omega); obtain ⟨a0, a1, a2, a3, a4, a5, a6, a7⟩ := X1)
            | (go_at_call 85; with_reducible refine (specHas_any Ab cb bl d.a.n _ _ (hblW.below hb1)).mono ?_; rintro e' w' ⟨rfl, hw⟩; obtain rfl := hw.symm; rw [HB.out])
            | (go_at_call 85; with_reducible refine (specHas_any Av cv acc d.a.n _ _ (hovW.below hb1)).mono ?_; rintro e' w' ⟨rfl, hw⟩; obtain rfl := hw.symm; rw [HC.out]))
          go_meet
          exact ⟨by rw [E0.out], hb1⟩
        · have HC := Lib.hid hc
          have e0 : X = false := by rw [HXX.out]; unfold Ko.freeX; rw [hV, hb, hc]; rfl
          have E0 := Lib.hid e0
          clear hV hb hc e0
          go_wp2_with (first
            | (go_at_call 127; refine (specNames_any d W).mono ?_; rintro e w1 ⟨rfl, hb1⟩; rw [HV.out]; have z1 := hb1.size; have X1 := HX.out.below hb1 (by omega); obtain ⟨a0, a1, a2, a3, a4, a5, a6, a7⟩ := X1)
            | (go_at_call 85; with_reducible refine (specHas_any Ab cb bl d.a.n _ _ (hblW.below hb1)).mono ?_; rintro e' w' ⟨rfl, hw⟩; obtain rfl := hw.symm; rw [HB.out])
            | (go_at_call 85; with_reducible refine (specHas_any Av cv acc d.a.n _ _ (hovW.below hb1)).mono ?_; rintro e' w' ⟨rfl, hw⟩; obtain rfl := hw.symm; rw [HC.out]))
          go_meet
          exact ⟨by rw [E0.out], hb1⟩
      · have HB := Lib.hid hb
        have e0 : X = false := by rw [HXX.out]; unfold Ko.freeX; rw [hV, hb]; rfl
        have E0 := Lib.hid e0
        clear hV hb e0
        go_wp2_with (first
          | (go_at_call 127; refine (specNames_any d W).mono ?_; rintro e w1 ⟨rfl, hb1⟩; rw [HV.out]; have z1 := hb1.size; have X1 := HX.out.below hb1 (by omega); obtain ⟨a0, a1, a2, a3, a4, a5, a6, a7⟩ := X1)
          | (go_at_call 85; with_reducible refine (specHas_any Ab cb bl d.a.n _ _ (hblW.below hb1)).mono ?_; rintro e' w' ⟨rfl, hw⟩; obtain rfl := hw.symm; rw [HB.out])
          | (go_at_call 85; with_reducible refine (specHas_any Av cv acc d.a.n _ _ (hovW.below hb1)).mono ?_; rintro e' w' ⟨rfl, hw⟩; obtain rfl := hw.symm; rw [HC.out]))
        go_meet
        exact ⟨by rw [E0.out], hb1⟩
  case rest =>
    obtain ⟨rfl, hb1⟩ := hcut
    obtain ⟨W0, rfl⟩ : ∃ W, W = wc := ⟨_, rfl⟩
    have z1 := hb1.size
    have X1 := HX.out.below hb1 (by omega)
    clear a0 a1 a2 a3 a4 a5 a6 a7
    obtain ⟨a0, a1, a2, a3, a4, a5, a6, a7⟩ := X1
    have hg0 := hgW.later hb1
    have hr0 := hg0.1
    have hb0 := (hblW.below hb1).more z1
    have hs0 := hsW.below (hb1.mono (by omega))
    cases hx : X
    · have h0 : acc0 = acc := by rw [Hacc.out]; exact Ko.freeN_no (by rw [← HXX.out, hx])
      obtain ⟨W1, rfl⟩ : ∃ W, W = W0 := ⟨_, rfl⟩
      have HG1 : Hid (GrewN [] base acc0 (.slice Av acc.length cv) w (.slice Av acc.length cv) W1) := by rw [h0]; exact hg0
      have hbl1 := hb0
      have hs1 := hs0
      clear hx h0 hg0
      have lt1 : w.heap.size < W1.heap.size := by omega
      go_upto_region 3 with fail
      go_cut [1] (fun q wx => ∃ v3, q = v3 ∧ (wx.ownsRow W1.heap.size 3 1 v3 b3.length (b3.map (Value.int .i64)) ∧ Below W1.heap.size W1 wx))
      case first =>
        obtain hA | ⟨a, hA⟩ : d.a.sA = none ∨ ∃ a, d.a.sA = some a := by cases d.a.sA <;> simp
        ·
          have hl0 : d.a.s = [] := by
            have h1 := hs.nil hA
            exact List.length_eq_zero_iff.1 (by omega)
          have hc0 : d.a.sC = 0 := hs.nil hA
          have el : d.a.s.length = 0 := by rw [hl0]; rfl
          rw [hA, hc0, el] at a2
          have HL0 := Lib.hid hl0
          have p2 := a2
          clear hA hc0 el hl0
          go_region_held3 (fun w' => w'.cell? ⟨w.heap.size, 2, none⟩ = some (.slice none 0 0)) (go_keep) (first | (go_at_call 84; refine (l2IntsR_any Ab cb bl W1.heap.size _ (by omega) ?_ ?_).mono ?_; exact hbl1.drew; (show W1.heap.size ≤ W1.heap.size; exact Nat.le_refl _); rintro e wa ⟨v2, rfl, hr2, hba⟩; have hba : Below W1.heap.size W1 wa := below_undrew hba; have hr2 : wa.ownsRow W1.heap.size 3 1 v2 bl.length (bl.map (Value.int .i64)) := hr2; obtain ⟨A2, c2, rfl⟩ := irow_len hr2; have a2 := (hba.cell (p := ⟨w.heap.size, 2, none⟩) lt1).trans a2) | (refine step_append_none _ rfl (.tmp 31) (.tmp 33) 22 rfl W1.heap.size 3 i0 1 Try.underlying22 hi (.slice A2 bl.length c2) bl.length (bl.map (Value.int .i64)) rfl hr2 rfl ?_; have HT3 : Hid (wa.ownsRow W1.heap.size 3 1 (.slice A2 bl.length c2) b3.length (b3.map (Value.int .i64)) ∧ Below W1.heap.size W1 wa) := ⟨by rw [HB3.out, HL0.out, List.append_nil]; exact hr2, hba⟩))
          all_goals (go_wp2_with fail; go_meet)
          all_goals exact ⟨_, rfl, HT3.out⟩
        ·
          have hnews : ∀ wa : World, Below W1.heap.size W1 wa → ∀ j u, (d.a.s.map (Value.int .i64))[j]? = some u → wa.cell? (a.add j) = some u := by
            intro wa hba j u hu
            have hne : d.a.s ≠ [] := by intro e; rw [e] at hu; simp at hu
            obtain ⟨b, o, e, _, _⟩ := hs.mem hne
            rw [hA] at e
            obtain rfl := Option.some.inj e
            have hs' := hs1.below (hba.mono (by omega))
            rw [hA] at hs'
            exact iall hs' j u hu
          rw [hA] at a2
          have p2 := a2
          clear hA
          go_region_held3 (fun w' => w'.cell? ⟨w.heap.size, 2, none⟩ = some (.slice (some a) d.a.s.length d.a.sC)) (go_keep) (first | (go_at_call 84; refine (l2IntsR_any Ab cb bl W1.heap.size _ (by omega) ?_ ?_).mono ?_; exact hbl1.drew; (show W1.heap.size ≤ W1.heap.size; exact Nat.le_refl _); rintro e wa ⟨v2, rfl, hr2, hba⟩; have hba : Below W1.heap.size W1 wa := below_undrew hba; have hr2 : wa.ownsRow W1.heap.size 3 1 v2 bl.length (bl.map (Value.int .i64)) := hr2; obtain ⟨A2, c2, rfl⟩ := irow_len hr2; have a2 := (hba.cell (p := ⟨w.heap.size, 2, none⟩) lt1).trans a2) | (refine step_append_at _ rfl (.tmp 31) (.tmp 33) 22 rfl W1.heap.size 3 i0 (.int .i64 0) 1 8 Try.underlying22 hi hz0 hz1 hz2 rfl (by decide) (.slice A2 bl.length c2) bl.length (bl.map (Value.int .i64)) rfl hr2 a d.a.s.length d.a.sC (d.a.s.map (Value.int .i64)) rfl (by simp) (hnews wa hba) (iallone d.a.s) (by unfold maxLen; omega) (by omega) hba.size ?_; intro v3 w3 hown3 hgr3 hat3; have HT3 : Hid (w3.ownsRow W1.heap.size 3 1 v3 b3.length (b3.map (Value.int .i64)) ∧ Below W1.heap.size W1 w3) := ⟨by rw [HB3.out]; simpa using hown3, hba.grown hgr3 hba.size (fun k hk => (hr2.lt k hk).1)⟩; have a2 := (HT3.out.2.cell (p := ⟨w.heap.size, 2, none⟩) lt1).trans p2; clear hown3 hgr3 hat3))
          all_goals (go_wp2_with fail; go_meet)
          all_goals exact ⟨_, rfl, HT3.out⟩
      case rest =>
        obtain ⟨v3, rfl, hr3, hb3⟩ := hcut
        obtain ⟨w3, rfl⟩ : ∃ W, W = wc := ⟨_, rfl⟩
        have z3 := hb3.size
        have y7 := (hb3.cell (p := ⟨w.heap.size, 7, none⟩) lt1).trans a7
        obtain ⟨A3, c3, rfl, ho3⟩ := own_of_row hr3
        have HI3 := Lib.hid ho3.inn
        have HG3 := Lib.hid (HG1.out.later hb3)
        have HO3 : Hid (∀ b ∈ iblk A3 b3, (Value.slice Av acc.length cv).ownBlock ≠ some b) := fun b hb e => by
          have h1 := ho3.lo_ b hb
          have h2 := (HG1.out.1.lt b e).2
          omega
        clear hr3 ho3 hb3 a0 a1 a2 a3 a4 a5 a6 a7
        go_wp2_with fail
        go_loopw [2, 38] (fun q i wr => ∃ j : Nat, j ≤ d.l.length ∧ i = .int .i64 j ∧ GrewN [] base (Tr.freeL (d.l.take j) b3 acc0) (.slice Av acc.length cv) w q wr ∧ IIn wr wr.heap.size A3 c3 b3 ∧ ∀ b ∈ iblk A3 b3, q.ownBlock ≠ some b) (fun _ i _ => d.l.length - (intOf i).toNat)
        case atStart => exact ⟨0, Nat.zero_le _, rfl, HG3.out, HI3.out, HO3.out⟩
        case round =>
          obtain ⟨j, hj, rfl, hG, hI, hO⟩ := hrel
          have hs2 := hG.2.1.size
          by_cases hlt : j < d.l.length
          · obtain ⟨b, o, hA, hblk, k0, k1, k2, k3, k4, k5, k6, k7, hix⟩ := Ko.at_ ((Ko.E_in hin).2.below (hG.below (by simp) hv hBw)) (i := j) (x := d.l[j]) (List.getElem?_eq_getElem hlt)
            have hsz := Tr.sizeL_mem (l := d.l) (List.getElem_mem hlt)
            have hwl := Tr.freeL_len (d.l.take j) b3 acc0
            have hbd := Tr.bulkL_drop Ko.bulk d.l j hlt
            have hG1 := hG.alloc (.cells #[.int .i64 d.l[j].a.k, .int .i64 d.l[j].a.n, .slice d.l[j].a.sA d.l[j].a.s.length d.l[j].a.sC, .int .i64 d.l[j].a.d.k, .int .i64 d.l[j].a.d.n, .string d.l[j].a.d.t, .slice d.l[j].a.d.A d.l[j].a.d.l.length d.l[j].a.d.c, .slice d.l[j].A d.l[j].l.length d.l[j].c] 36)
            have HG1 := Lib.hid hG1
            have HI1 := Lib.hid ((hI.alloc (Nat.le_refl _) (.cells #[.int .i64 d.l[j].a.k, .int .i64 d.l[j].a.n, .slice d.l[j].a.sA d.l[j].a.s.length d.l[j].a.sC, .int .i64 d.l[j].a.d.k, .int .i64 d.l[j].a.d.n, .string d.l[j].a.d.t, .slice d.l[j].a.d.A d.l[j].a.d.l.length d.l[j].a.d.c, .slice d.l[j].A d.l[j].l.length d.l[j].c] 36)).more (B' := (wr.alloc (.cells #[.int .i64 d.l[j].a.k, .int .i64 d.l[j].a.n, .slice d.l[j].a.sA d.l[j].a.s.length d.l[j].a.sC, .int .i64 d.l[j].a.d.k, .int .i64 d.l[j].a.d.n, .string d.l[j].a.d.t, .slice d.l[j].a.d.A d.l[j].a.d.l.length d.l[j].a.d.c, .slice d.l[j].A d.l[j].l.length d.l[j].c] 36)).heap.size) (by simp))
            have HO1 := Lib.hid hO
            clear hG hG1 hI hO
            rw [hA]
            go_wp2_with fail
            have hlb := HLB.out
            refine (ih d.l[j] B base A3 c3 b3 (Tr.freeL (d.l.take j) b3 acc0) _ _ (by omega) (Elem.In.alloc hix (by omega) _) hB (by simp; omega) HG1.out.1 (by omega) HI1.out (by omega) HO1.out).mono ?_
            clear hlb
            rintro e w1 ⟨v', rfl, hG2⟩
            have hG3 := HG1.out.trans hG2
            have z12 := hG2.2.1.size
            have hI2 : IIn w1 w1.heap.size A3 c3 b3 := (HI1.out.keep fun k hk => hG2.block (HI1.out.blk_lt k hk) (by simp) (HO1.out k hk)).more z12
            have hO2 : ∀ b ∈ iblk A3 b3, v'.ownBlock ≠ some b := fun k hk => hG2.off (HI1.out.blk_lt k hk) (HO1.out k hk)
            have HG3 := Lib.hid hG3
            have HI2 := Lib.hid hI2
            have HO2 := Lib.hid hO2
            clear hG3 hG2 hI2 hO2
            go_wp2_with fail
            refine ⟨⟨j + 1, by omega, by go_num, ?_, HI2.out, HO2.out⟩, by simp [intOf]; omega⟩
            rw [Tr.freeL_take_succ d.l j hlt]
            exact HG3.out
          · have hj' : j = d.l.length := by omega
            subst hj'
            rw [List.take_length] at hG
            have HG := Lib.hid hG
            clear hG
            go_wp2_with fail
            go_ret
            exact ⟨_, rfl, by rw [K.out]; exact HG.out⟩
    · have h0 : acc0 = acc ++ [d.a.n] := by rw [Hacc.out]; exact Ko.freeN_yes (by rw [← HXX.out, hx])
      have H0 := Lib.hid h0
      clear hx h0
      have hdr := hr0.alloc (.cells #[.int .i64 d.a.n] 3)
      go_upto_region 3 with (at_builtin; refine wpList_append_lies _ rfl (.tmp 25) (.tmp 28) 22 rfl base 3 i0 (.int .i64 0) 1 8 Try.underlying22 hi hz0 hz1 hz2 rfl (by decide) _ acc.length (acc.map (Value.int .i64)) rfl hdr ⟨W0.heap.size, 0, none⟩ 1 1 [.int .i64 d.a.n] rfl rfl (inews W0 d.a.n) (ione d.a.n) (by omega) (by unfold maxLen; omega) (by omega) (by simp; omega) (W0.heap.size + 1) ?c2 ?_)
      case c2 => simp
      intro g cap W1 hown' hgr hat hlt1
      have hS := (GrewN.snoc (F := []) hown' hgr (by
        rcases hat with e | rfl
        · exact .inl e.symm
        · exact .inr fun g' hg' => by have e' : W0.heap.size + 1 = g' := Option.some.inj hg'; omega))
      have HG1 : Hid (GrewN [] base acc0 (.slice Av acc.length cv) w (.slice (some ⟨g, 0, none⟩) (acc.length + 1) cap) W1) := by rw [H0.out]; exact hg0.trans hS
      have zz := hS.2.1.size
      have hX1 := (show Ko.Box W0 w.heap.size d from ⟨a0, a1, a2, a3, a4, a5, a6, a7⟩).keep (hS.block (b := w.heap.size) (by omega) (by simp) hv2)
      have hbl1 : IIn W1 W1.heap.size Ab cb bl := (hb0.keep fun k hk => hS.block (hb0.blk_lt k hk) (by simp) (hoff k hk)).more zz
      have hs1 : IIn W1 B d.a.sA d.a.sC d.a.s := hs0.below (hS.below (by simp) hv (by omega))
      clear a0 a1 a2 a3 a4 a5 a6 a7 hown' hgr hat hS hg0
      obtain ⟨a0, a1, a2, a3, a4, a5, a6, a7⟩ := hX1
      have lt1 : w.heap.size < W1.heap.size := by omega
      go_upto_region 3 with fail
      go_cut [1] (fun q wx => ∃ v3, q = v3 ∧ (wx.ownsRow W1.heap.size 3 1 v3 b3.length (b3.map (Value.int .i64)) ∧ Below W1.heap.size W1 wx))
      case first =>
        obtain hA | ⟨a, hA⟩ : d.a.sA = none ∨ ∃ a, d.a.sA = some a := by cases d.a.sA <;> simp
        ·
          have hl0 : d.a.s = [] := by
            have h1 := hs.nil hA
            exact List.length_eq_zero_iff.1 (by omega)
          have hc0 : d.a.sC = 0 := hs.nil hA
          have el : d.a.s.length = 0 := by rw [hl0]; rfl
          rw [hA, hc0, el] at a2
          have HL0 := Lib.hid hl0
          have p2 := a2
          clear hA hc0 el hl0
          go_region_held3 (fun w' => w'.cell? ⟨w.heap.size, 2, none⟩ = some (.slice none 0 0)) (go_keep) (first | (go_at_call 84; refine (l2IntsR_any Ab cb bl W1.heap.size _ (by omega) ?_ ?_).mono ?_; exact hbl1.drew; (show W1.heap.size ≤ W1.heap.size; exact Nat.le_refl _); rintro e wa ⟨v2, rfl, hr2, hba⟩; have hba : Below W1.heap.size W1 wa := below_undrew hba; have hr2 : wa.ownsRow W1.heap.size 3 1 v2 bl.length (bl.map (Value.int .i64)) := hr2; obtain ⟨A2, c2, rfl⟩ := irow_len hr2; have a2 := (hba.cell (p := ⟨w.heap.size, 2, none⟩) lt1).trans a2) | (refine step_append_none _ rfl (.tmp 31) (.tmp 33) 22 rfl W1.heap.size 3 i0 1 Try.underlying22 hi (.slice A2 bl.length c2) bl.length (bl.map (Value.int .i64)) rfl hr2 rfl ?_; have HT3 : Hid (wa.ownsRow W1.heap.size 3 1 (.slice A2 bl.length c2) b3.length (b3.map (Value.int .i64)) ∧ Below W1.heap.size W1 wa) := ⟨by rw [HB3.out, HL0.out, List.append_nil]; exact hr2, hba⟩))
          all_goals (go_wp2_with fail; go_meet)
          all_goals exact ⟨_, rfl, HT3.out⟩
        ·
          have hnews : ∀ wa : World, Below W1.heap.size W1 wa → ∀ j u, (d.a.s.map (Value.int .i64))[j]? = some u → wa.cell? (a.add j) = some u := by
            intro wa hba j u hu
            have hne : d.a.s ≠ [] := by intro e; rw [e] at hu; simp at hu
            obtain ⟨b, o, e, _, _⟩ := hs.mem hne
            rw [hA] at e
            obtain rfl := Option.some.inj e
            have hs' := hs1.below (hba.mono (by omega))
            rw [hA] at hs'
            exact iall hs' j u hu
          rw [hA] at a2
          have p2 := a2
          clear hA
          go_region_held3 (fun w' => w'.cell? ⟨w.heap.size, 2, none⟩ = some (.slice (some a) d.a.s.length d.a.sC)) (go_keep) (first | (go_at_call 84; refine (l2IntsR_any Ab cb bl W1.heap.size _ (by omega) ?_ ?_).mono ?_; exact hbl1.drew; (show W1.heap.size ≤ W1.heap.size; exact Nat.le_refl _); rintro e wa ⟨v2, rfl, hr2, hba⟩; have hba : Below W1.heap.size W1 wa := below_undrew hba; have hr2 : wa.ownsRow W1.heap.size 3 1 v2 bl.length (bl.map (Value.int .i64)) := hr2; obtain ⟨A2, c2, rfl⟩ := irow_len hr2; have a2 := (hba.cell (p := ⟨w.heap.size, 2, none⟩) lt1).trans a2) | (refine step_append_at _ rfl (.tmp 31) (.tmp 33) 22 rfl W1.heap.size 3 i0 (.int .i64 0) 1 8 Try.underlying22 hi hz0 hz1 hz2 rfl (by decide) (.slice A2 bl.length c2) bl.length (bl.map (Value.int .i64)) rfl hr2 a d.a.s.length d.a.sC (d.a.s.map (Value.int .i64)) rfl (by simp) (hnews wa hba) (iallone d.a.s) (by unfold maxLen; omega) (by omega) hba.size ?_; intro v3 w3 hown3 hgr3 hat3; have HT3 : Hid (w3.ownsRow W1.heap.size 3 1 v3 b3.length (b3.map (Value.int .i64)) ∧ Below W1.heap.size W1 w3) := ⟨by rw [HB3.out]; simpa using hown3, hba.grown hgr3 hba.size (fun k hk => (hr2.lt k hk).1)⟩; have a2 := (HT3.out.2.cell (p := ⟨w.heap.size, 2, none⟩) lt1).trans p2; clear hown3 hgr3 hat3))
          all_goals (go_wp2_with fail; go_meet)
          all_goals exact ⟨_, rfl, HT3.out⟩
      case rest =>
        obtain ⟨v3, rfl, hr3, hb3⟩ := hcut
        obtain ⟨w3, rfl⟩ : ∃ W, W = wc := ⟨_, rfl⟩
        have z3 := hb3.size
        have y7 := (hb3.cell (p := ⟨w.heap.size, 7, none⟩) lt1).trans a7
        obtain ⟨A3, c3, rfl, ho3⟩ := own_of_row hr3
        have HI3 := Lib.hid ho3.inn
        have HG3 := Lib.hid (HG1.out.later hb3)
        have HO3 : Hid (∀ b ∈ iblk A3 b3, (Value.slice (some ⟨g, 0, none⟩) (acc.length + 1) cap).ownBlock ≠ some b) := fun b hb e => by
          have h1 := ho3.lo_ b hb
          have h2 := (HG1.out.1.lt b e).2
          omega
        clear hr3 ho3 hb3 a0 a1 a2 a3 a4 a5 a6 a7
        go_wp2_with fail
        go_loopw [2, 38] (fun q i wr => ∃ j : Nat, j ≤ d.l.length ∧ i = .int .i64 j ∧ GrewN [] base (Tr.freeL (d.l.take j) b3 acc0) (.slice Av acc.length cv) w q wr ∧ IIn wr wr.heap.size A3 c3 b3 ∧ ∀ b ∈ iblk A3 b3, q.ownBlock ≠ some b) (fun _ i _ => d.l.length - (intOf i).toNat)
        case atStart => exact ⟨0, Nat.zero_le _, rfl, HG3.out, HI3.out, HO3.out⟩
        case round =>
          obtain ⟨j, hj, rfl, hG, hI, hO⟩ := hrel
          have hs2 := hG.2.1.size
          by_cases hlt : j < d.l.length
          · obtain ⟨b, o, hA, hblk, k0, k1, k2, k3, k4, k5, k6, k7, hix⟩ := Ko.at_ ((Ko.E_in hin).2.below (hG.below (by simp) hv hBw)) (i := j) (x := d.l[j]) (List.getElem?_eq_getElem hlt)
            have hsz := Tr.sizeL_mem (l := d.l) (List.getElem_mem hlt)
            have hwl := Tr.freeL_len (d.l.take j) b3 acc0
            have hbd := Tr.bulkL_drop Ko.bulk d.l j hlt
            have hG1 := hG.alloc (.cells #[.int .i64 d.l[j].a.k, .int .i64 d.l[j].a.n, .slice d.l[j].a.sA d.l[j].a.s.length d.l[j].a.sC, .int .i64 d.l[j].a.d.k, .int .i64 d.l[j].a.d.n, .string d.l[j].a.d.t, .slice d.l[j].a.d.A d.l[j].a.d.l.length d.l[j].a.d.c, .slice d.l[j].A d.l[j].l.length d.l[j].c] 36)
            have HG1 := Lib.hid hG1
            have HI1 := Lib.hid ((hI.alloc (Nat.le_refl _) (.cells #[.int .i64 d.l[j].a.k, .int .i64 d.l[j].a.n, .slice d.l[j].a.sA d.l[j].a.s.length d.l[j].a.sC, .int .i64 d.l[j].a.d.k, .int .i64 d.l[j].a.d.n, .string d.l[j].a.d.t, .slice d.l[j].a.d.A d.l[j].a.d.l.length d.l[j].a.d.c, .slice d.l[j].A d.l[j].l.length d.l[j].c] 36)).more (B' := (wr.alloc (.cells #[.int .i64 d.l[j].a.k, .int .i64 d.l[j].a.n, .slice d.l[j].a.sA d.l[j].a.s.length d.l[j].a.sC, .int .i64 d.l[j].a.d.k, .int .i64 d.l[j].a.d.n, .string d.l[j].a.d.t, .slice d.l[j].a.d.A d.l[j].a.d.l.length d.l[j].a.d.c, .slice d.l[j].A d.l[j].l.length d.l[j].c] 36)).heap.size) (by simp))
            have HO1 := Lib.hid hO
            clear hG hG1 hI hO
            rw [hA]
            go_wp2_with fail
            have hlb := HLB.out
            refine (ih d.l[j] B base A3 c3 b3 (Tr.freeL (d.l.take j) b3 acc0) _ _ (by omega) (Elem.In.alloc hix (by omega) _) hB (by simp; omega) HG1.out.1 (by omega) HI1.out (by omega) HO1.out).mono ?_
            clear hlb
            rintro e w1 ⟨v', rfl, hG2⟩
            have hG3 := HG1.out.trans hG2
            have z12 := hG2.2.1.size
            have hI2 : IIn w1 w1.heap.size A3 c3 b3 := (HI1.out.keep fun k hk => hG2.block (HI1.out.blk_lt k hk) (by simp) (HO1.out k hk)).more z12
            have hO2 : ∀ b ∈ iblk A3 b3, v'.ownBlock ≠ some b := fun k hk => hG2.off (HI1.out.blk_lt k hk) (HO1.out k hk)
            have HG3 := Lib.hid hG3
            have HI2 := Lib.hid hI2
            have HO2 := Lib.hid hO2
            clear hG3 hG2 hI2 hO2
            go_wp2_with fail
            refine ⟨⟨j + 1, by omega, by go_num, ?_, HI2.out, HO2.out⟩, by simp [intOf]; omega⟩
            rw [Tr.freeL_take_succ d.l j hlt]
            exact HG3.out
          · have hj' : j = d.l.length := by omega
            subst hj'
            rw [List.take_length] at hG
            have HG := Lib.hid hG
            clear hG
            go_wp2_with fail
            go_ret
            exact ⟨_, rfl, by rw [K.out]; exact HG.out⟩
theorem specFre_any : ∀ m, KoFreOk m := by
  intro m
  induction m with
  | zero => intro d B base Ab cb bl acc v w h; have := d.size_pos; omega
  | succ m ih => exact specFre_step m ih
end Go.Proofs.Ytbeikpbnidbjfaa
