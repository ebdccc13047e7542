/-
  Templates that fit variables: what the model asks and what the program asks are the same. Nothing of the walks.
-/
import Derived.Test.YtnldlbglgalbaabGreatIsEl
import Derived.Test.YtnldlbglgalbaabGreatGElT
import Derived.Test.YtnldlbglgalbaabGreatGSyn
import Derived.Test.YtnldlbglgalbaabGreatSCount
import Derived.Deep.DeepCutAuto
namespace Go.Proofs.YtnldlbglgalbaabGreat
open Go.RowKit

namespace S
/-- Whether the list begins with an ellipsis. -/
def headDots : List S → Bool | [] => false | x :: _ => x.isDots
mutual
/-- The model's: a variable that is still a list below so many ellipses; f gives the depth of a variable. -/
def drives (f : S → Option Int) : S → Int → Bool
  | .mk k n t sa sc s A c l, level => if k = 1 then (match f (.mk k n t sa sc s A c l) with | some e => decide (level < e) | none => false) else drivesL f l level
def drivesL (f : S → Option Int) : List S → Int → Bool
  | [], _ => false
  | x :: r, level => drives f x level || drivesL f r level
end
mutual
/-- The model's: whether a template fits. -/
def fitsM (f : S → Option Int) : S → Int → Bool
  | .mk k n t sa sc s A c l, level => if k = 1 then (!(S.mk k n t sa sc s A c l).isDots && (match f (.mk k n t sa sc s A c l) with | some e => decide (e ≤ level) | none => true)) else fitsML f l level
def fitsML (f : S → Option Int) : List S → Int → Bool
  | [], _ => true
  | [x], level => fitsM f x level
  | x :: y :: r, level => if y.isDots then (!x.isDots && drives f x level) && (fitsM f x (level + 1) && fitsML f r level) else fitsM f x level && fitsML f (y :: r) level
end
mutual
/-- The program's: each ellipsis is behind an item that is none. p: what is ahead is none or an ellipsis. -/
def follow : S → Bool
  | .mk _ _ _ _ _ _ _ _ l => followL true l
def followL : Bool → List S → Bool
  | _, [] => true
  | p, x :: r => !(x.isDots && p) && (follow x && followL x.isDots r)
end
mutual
/-- The program's: the greatest depth, and whether a template fits. -/
def fitsP (f : S → Option Int) : S → Int → Int × Bool
  | .mk k n t sa sc s A c l, around => match f (.mk k n t sa sc s A c l) with | some e => (e, decide (e ≤ around)) | none => fitsPL f l around 0
def fitsPL (f : S → Option Int) : List S → Int → Int → Int × Bool
  | [], _, g => (g, true)
  | x :: r, around, g =>
    let p := fitsP f x (if headDots r then around + 1 else around)
    if !p.2 || (headDots r && decide (p.1 ≤ around)) then (0, false) else fitsPL f r around (max g p.1)
end
theorem drives_eq (f : S → Option Int) (d : S) (level : Int) : drives f d level = if d.k = 1 then (match f d with | some e => decide (level < e) | none => false) else drivesL f d.l level := by cases d; rfl
theorem fitsM_eq (f : S → Option Int) (d : S) (level : Int) : fitsM f d level = if d.k = 1 then (!d.isDots && (match f d with | some e => decide (e ≤ level) | none => true)) else fitsML f d.l level := by cases d; rw [fitsM]; rfl
theorem follow_eq (d : S) : follow d = followL true d.l := by cases d; rw [follow]; rfl
theorem fitsP_eq (f : S → Option Int) (d : S) (around : Int) : fitsP f d around = match f d with | some e => (e, decide (e ≤ around)) | none => fitsPL f d.l around 0 := by cases d; rw [fitsP]; rfl
theorem isDots_k {d : S} (h : d.isDots = true) : d.k = 1 := by
  unfold isDots at h
  simp only [Bool.and_eq_true, decide_eq_true_eq] at h
  exact h.1
theorem valid_item {d x : S} (h : valid d = true) (hx : x ∈ d.l) : valid x = true := by
  cases d with
  | mk k n t sa sc s A c l =>
    simp only [valid, Bool.and_eq_true] at h
    have h2 := h.2
    clear h
    have hx' : x ∈ l := hx
    induction l with
    | nil => cases hx'
    | cons y r ih =>
      simp only [validL, Bool.and_eq_true] at h2
      rcases List.mem_cons.1 hx' with rfl | hr
      · exact h2.1
      · exact ih hr h2.2 hr
theorem valid_leaf {d : S} (h : valid d = true) (hk : d.k ≠ 0) : d.l = [] := by
  cases d with
  | mk k n t sa sc s A c l =>
    simp only [valid, sNodeOk, Bool.and_eq_true] at h
    have h4 := h.1.1
    have hk' : k ≠ 0 := hk
    unfold nodeOk at h4
    rw [if_neg hk'] at h4
    show l = []
    by_cases h1 : k = 1
    · rw [if_pos h1] at h4; simp only [Bool.and_eq_true, decide_eq_true_eq] at h4; exact List.length_eq_zero_iff.1 (by omega)
    · rw [if_neg h1] at h4
      by_cases h2 : k = 2
      · rw [if_pos h2] at h4; simp only [Bool.and_eq_true, decide_eq_true_eq] at h4; exact List.length_eq_zero_iff.1 (by omega)
      · rw [if_neg h2] at h4
        by_cases h3 : k = 3
        · rw [if_pos h3] at h4; simp only [Bool.and_eq_true, decide_eq_true_eq] at h4; exact List.length_eq_zero_iff.1 (by omega)
        · rw [if_neg h3] at h4
          by_cases h5 : k = 4
          · rw [if_pos h5] at h4; simp only [Bool.and_eq_true, decide_eq_true_eq] at h4; exact List.length_eq_zero_iff.1 (by omega)
          · rw [if_neg h5] at h4; cases h4

/-- What the two say of one node. -/
def Agree (f : S → Option Int) (d : S) : Prop := ∀ n : Int, 0 ≤ n → fitsM f d n = (!d.isDots && (follow d && (fitsP f d n).2)) ∧ (fitsM f d n = true → ∀ v : Int, 0 ≤ v → drives f d v = decide (v < (fitsP f d n).1))
theorem fitsML_dots (f : S → Option Int) {x : S} (hx : x.isDots = true) (r : List S) (n : Int) : fitsML f (x :: r) n = false := by
  have h1 : ∀ n, fitsM f x n = false := fun n => by rw [fitsM_eq, if_pos (isDots_k hx), hx]; rfl
  cases r with
  | nil => rw [fitsML]; exact h1 n
  | cons y r =>
    rw [fitsML]
    cases y.isDots
    · simp [h1]
    · simp [hx]
theorem followL_nodots {x : S} (hx : x.isDots = false) (p : Bool) (r : List S) : followL p (x :: r) = followL true (x :: r) := by
  rw [followL, followL, hx]; rfl
theorem fitsP_dots (f : S → Option Int) (hf : ∀ d e, f d = some e → 0 ≤ e ∧ d.k = 1 ∧ d.isDots = false) {x : S} (hx : x.isDots = true) (hv : valid x = true) (n : Int) : fitsP f x n = (0, true) := by
  rw [fitsP_eq]
  have h1 : f x = none := by
    cases h : f x with
    | none => rfl
    | some e => have := (hf x e h).2.2; rw [hx] at this; cases this
  rw [h1, valid_leaf hv (by rw [isDots_k hx]; decide)]
  rfl
theorem fits_list (f : S → Option Int) (hf : ∀ d e, f d = some e → 0 ≤ e ∧ d.k = 1 ∧ d.isDots = false) : ∀ (k : Nat) (l : List S), l.length ≤ k → (∀ x ∈ l, valid x = true ∧ Agree f x) → ∀ n : Int, 0 ≤ n → ∀ g : Int,
    fitsML f l n = (followL true l && (fitsPL f l n g).2) ∧ (fitsML f l n = true → ∀ v : Int, 0 ≤ v → decide (v < (fitsPL f l n g).1) = (decide (v < g) || drivesL f l v)) := by
  intro k
  induction k with
  | zero =>
    intro l hl _ n _ g
    obtain rfl := List.length_eq_zero_iff.1 (Nat.le_zero.1 hl)
    exact ⟨by simp [fitsML, followL, fitsPL], fun _ v _ => by rw [show fitsPL f [] n g = (g, true) from by rw [fitsPL]]; exact (Bool.or_false _).symm⟩
  | succ k ih =>
    intro l hl ha n hn g
    match l, hl, ha with
    | [], _, _ => exact ⟨by simp [fitsML, followL, fitsPL], fun _ v _ => by rw [show fitsPL f [] n g = (g, true) from by rw [fitsPL]]; exact (Bool.or_false _).symm⟩
    | [x], _, ha =>
      obtain ⟨hv, hx⟩ := ha x (by simp)
      obtain ⟨h1, h2⟩ := hx n hn
      have e1 : fitsPL f [x] n g = if (fitsP f x n).2 then (max g (fitsP f x n).1, true) else (0, false) := by
        simp only [fitsPL, headDots]
        cases h : (fitsP f x n).2 <;> simp [h]
      have e2 : fitsML f [x] n = fitsM f x n := by rw [fitsML]
      have e3 : followL true [x] = (!x.isDots && follow x) := by simp [followL]
      rw [e1, e2, e3]
      constructor
      · rw [h1]
        cases x.isDots <;> cases follow x <;> cases hp2 : (fitsP f x n).2 <;> simp [hp2]
      · intro h v hv0
        have h3 := h2 h v hv0
        rw [h1] at h
        simp only [Bool.and_eq_true] at h
        rw [if_pos h.2.2]
        simp only [drivesL, Bool.or_false]
        rw [h3, Bool.eq_iff_iff]
        simp only [Bool.or_eq_true, decide_eq_true_eq]
        omega
    | x :: y :: r, hl, ha =>
      obtain ⟨hv, hx⟩ := ha x (by simp)
      obtain ⟨hvy, hy⟩ := ha y (by simp)
      have har : ∀ z ∈ r, valid z = true ∧ Agree f z := fun z hz => ha z (by simp [hz])
      have hay : ∀ z ∈ y :: r, valid z = true ∧ Agree f z := fun z hz => ha z (by simp at hz ⊢; right; exact hz)
      simp only [List.length_cons] at hl
      cases hd : y.isDots
      · -- no ellipsis behind x
        obtain ⟨h1, h2⟩ := hx n hn
        have e1 : fitsPL f (x :: y :: r) n g = if (fitsP f x n).2 then fitsPL f (y :: r) n (max g (fitsP f x n).1) else (0, false) := by
          conv => lhs; rw [fitsPL]
          have hd2 : headDots (y :: r) = false := hd
          simp only [hd2]
          cases h : (fitsP f x n).2 <;> simp [h]
        have e2 : fitsML f (x :: y :: r) n = (fitsM f x n && fitsML f (y :: r) n) := by rw [fitsML, hd]; rfl
        obtain ⟨k1, k2⟩ := ih (y :: r) (by simp; omega) hay n hn (max g (fitsP f x n).1)
        have e3 : followL true (x :: y :: r) = (!x.isDots && (follow x && followL true (y :: r))) := by
          conv => lhs; rw [followL]
          rw [followL_nodots hd x.isDots]
          simp
        rw [e1, e2, e3]
        constructor
        · rw [h1, k1]
          cases x.isDots <;> cases follow x <;> cases hp2 : (fitsP f x n).2 <;> simp [hp2]
        · intro h v hv0
          simp only [Bool.and_eq_true] at h
          have h3 := h2 h.1 v hv0
          have k3 := k2 h.2 v hv0
          have h4 := h.1
          rw [h1] at h4
          simp only [Bool.and_eq_true] at h4
          rw [if_pos h4.2.2, k3]
          conv => rhs; rw [drivesL]
          rw [h3, Bool.eq_iff_iff]
          simp only [Bool.or_eq_true, decide_eq_true_eq]
          have : v < max g (fitsP f x n).1 ↔ v < g ∨ v < (fitsP f x n).1 := by omega
          rw [this]
          simp only [or_assoc]
      · -- an ellipsis behind x
        obtain ⟨h1, h2⟩ := hx (n + 1) (by omega)
        have ey := fitsP_dots f hf hd hvy
        have e1 : fitsPL f (x :: y :: r) n g = if (fitsP f x (n + 1)).2 && decide (n < (fitsP f x (n + 1)).1) then (if headDots r then (0, false) else fitsPL f r n (max (max g (fitsP f x (n + 1)).1) 0)) else (0, false) := by
          conv => lhs; rw [fitsPL]
          have hd2 : headDots (y :: r) = true := hd
          simp only [hd2, if_true]
          cases hp2 : (fitsP f x (n + 1)).2
          · simp [hp2]
          · by_cases hc : n < (fitsP f x (n + 1)).1
            · have hc' : ¬ ((fitsP f x (n + 1)).1 ≤ n) := by omega
              simp only [hc, hc', decide_true, decide_false, Bool.not_true, Bool.and_false, Bool.or_false, Bool.false_eq_true, if_false, Bool.and_true, if_true]
              conv => lhs; rw [fitsPL]
              simp only [ey]
              cases headDots r <;> simp [hn]
            · have hc' : (fitsP f x (n + 1)).1 ≤ n := by omega
              simp [hc, hc']
        have e2 : fitsML f (x :: y :: r) n = ((!x.isDots && drives f x n) && (fitsM f x (n + 1) && fitsML f r n)) := by rw [fitsML, hd]; rfl
        have fy : follow y = true := by rw [follow_eq, valid_leaf hvy (by rw [isDots_k hd]; decide), followL]
        have e3 : followL true (x :: y :: r) = (!x.isDots && (follow x && followL true r)) := by
          conv => lhs; rw [followL, followL]
          rw [fy, hd]
          cases x.isDots <;> simp
        obtain ⟨k1, k2⟩ := ih r (by omega) har n hn (max (max g (fitsP f x (n + 1)).1) 0)
        rw [e1, e2, e3]
        cases hh : headDots r
        · constructor
          · cases hm : fitsM f x (n + 1)
            · rw [hm] at h1
              cases hq : x.isDots
              · rw [hq] at h1
                cases hfo : follow x
                · simp
                · rw [hfo] at h1
                  have : (fitsP f x (n + 1)).2 = false := by simpa using h1.symm
                  simp [this]
              · simp
            · have h3 := h2 hm n hn
              rw [h3, k1]
              rw [hm] at h1
              have h4 := h1.symm
              simp only [Bool.and_eq_true, Bool.not_eq_true'] at h4
              rw [h4.1, h4.2.1, h4.2.2]
              cases decide (n < (fitsP f x (n + 1)).1) <;> simp
          · intro h v hv0
            simp only [Bool.and_eq_true, Bool.not_eq_true'] at h
            have h3 := h2 h.2.1
            have h4 := h.2.1
            rw [h1] at h4
            simp only [Bool.and_eq_true] at h4
            have h5 := h.1.2
            rw [h3 n hn] at h5
            rw [h4.2.2, h5]
            simp only [Bool.and_self, if_true, Bool.false_eq_true, if_false]
            rw [k2 h.2.2 v hv0]
            conv => rhs; rw [drivesL, drivesL]
            have dy : drives f y v = false := by
              rw [drives_eq, if_pos (isDots_k hd)]
              cases h : f y with
              | none => rfl
              | some e => have := (hf y e h).2.2; rw [hd] at this; cases this
            rw [dy, h3 v hv0, Bool.eq_iff_iff]
            simp only [Bool.or_eq_true, decide_eq_true_eq, Bool.false_or]
            have : v < max (max g (fitsP f x (n + 1)).1) 0 ↔ v < g ∨ v < (fitsP f x (n + 1)).1 := by omega
            rw [this]
            simp only [or_assoc]
        · have hr : fitsML f r n = false := by
            cases r with
            | nil => cases hh
            | cons z r => exact fitsML_dots f hh r n
          have hr2 : followL true r = false := by
            cases r with
            | nil => cases hh
            | cons z r =>
              have hz : z.isDots = true := hh
              rw [followL, hz]; rfl
          rw [hr, hr2]
          simp
theorem fits_agree (f : S → Option Int) (hf : ∀ d e, f d = some e → 0 ≤ e ∧ d.k = 1 ∧ d.isDots = false) : ∀ d : S, valid d = true → Agree f d := by
  intro d
  induction d using ind with
  | h d ih =>
    intro hv n hn
    obtain ⟨l1, l2⟩ := fits_list f hf d.l.length d.l (Nat.le_refl _) (fun x hx => ⟨valid_item hv hx, ih x hx (valid_item hv hx)⟩) n hn 0
    rw [fitsM_eq, fitsP_eq, follow_eq]
    by_cases hk : d.k = 1
    · have hl := valid_leaf hv (by rw [hk]; decide)
      rw [if_pos hk, hl]
      cases h : f d with
      | none =>
        simp only [fitsPL, followL, Bool.and_true]
        refine ⟨trivial, fun _ v hv0 => ?_⟩
        have h0 : ¬ v < 0 := by omega
        rw [drives_eq, if_pos hk, h]
        simp [h0]
      | some e =>
        obtain ⟨he0, _, hd⟩ := hf d e h
        simp only [followL, hd, Bool.true_and, Bool.not_false]
        refine ⟨trivial, fun _ v hv0 => ?_⟩
        rw [drives_eq, if_pos hk, h]
    · have hnone : f d = none := by
        cases h : f d with
        | none => rfl
        | some e => exact absurd (hf d e h).2.1 hk
      have hd : d.isDots = false := by
        cases h : d.isDots with
        | false => rfl
        | true => exact absurd (isDots_k h) hk
      rw [if_neg hk, hnone, hd]
      refine ⟨by simpa using l1, fun h v hv0 => ?_⟩
      rw [drives_eq, if_neg hk]
      have := l2 h v hv0
      have h0 : ¬ v < 0 := by omega
      simpa [h0] using this.symm
end S
end Go.Proofs.YtnldlbglgalbaabGreat

namespace Go.Proofs.YtnldlbglgalbaabGreat
open Go.RowKit

/-- The model's: whether this capture is that of an identifier. -/
def Ka.samM (d : S) (x : Tr Ka) : Bool := (x.a.N.t.toList == d.t.toList && x.a.N.s == d.s) && (!d.isDots && x.a.N.isI)
theorem Ka.name_size {l : List (Tr Ka)} {x : Tr Ka} (h : x ∈ l) (hb : Tr.bulkL Ka.bulk l ≤ 1500000) : x.a.N.size ≤ 2000000 := by
  have h1 := Tr.bulkL_mem (f := Ka.bulk) h
  rw [Tr.bulk_eq] at h1
  have h2 : Ka.bulk x.a = x.a.N.bulk + x.a.F.bulk := rfl
  have h3 := S.bulk_size x.a.N
  omega

set_option maxRecDepth 100000 in
set_option maxHeartbeats 4000000 in
theorem l4Find_any (A : Option Addr) (c : Nat) (l : List (Tr Ka)) (d : S) (B : Nat) (w : World) (hin : Ka.E.LIn w B A c l) (hd : d.In w B) (hB : B ≤ w.heap.size) (hbk : Tr.bulkL Ka.bulk l ≤ 1500000) :
    Calls Tryz.prog 70 #[.slice A l.length c, d.val] w fun e w' => e = .returned (.int .i64 (fidx (Ka.samM d) l)) ∧ Below w.heap.size w w' := by
  have hcap := hin.cap
  obtain ⟨W1, hW1⟩ : ∃ W1, W1 = w.alloc (.cells #[.int .i64 d.k, .int .i64 d.n, .string d.t, .slice d.sa d.s.length d.sc, .slice d.A d.l.length d.c] 43) := ⟨_, rfl⟩
  have z1 : W1.heap.size = w.heap.size + 1 := by rw [hW1]; simp
  have b0 : Below w.heap.size w W1 := by rw [hW1]; exact (Below.refl _ _).alloc (Nat.le_refl _) _
  have X0 : S.Box W1 w.heap.size d := by rw [hW1]; exact S.Box.new _ _ _
  unfold S.val
  go_enter Tryz.func70, Tryz.ntmps70
  go_upto_region 1 with fail
  rw [← hW1]
  clear hW1
  go_wp2_with fail
  go_loopw [9] (fun i wr => ∃ j : Nat, j ≤ l.length ∧ i = .int .i64 j ∧ (∀ x ∈ l.take j, Ka.samM d x = false) ∧ Below W1.heap.size W1 wr) (fun i _ => l.length - (intOf i).toNat)
  case atStart => exact ⟨0, Nat.zero_le _, rfl, by simp, Below.refl _ _⟩
  case round =>
    obtain ⟨j, hj, rfl, hn, hb⟩ := hrel
    have hs2 := hb.size
    have HN := Lib.hid hn
    clear hn
    have b1 := b0.trans (hb.mono (by omega))
    by_cases hlt : j < l.length
    · obtain ⟨b, o, hA, hblk, c0, c1, c2, c3, c4, c5, c6, c7, c8, c9, c10, c11, hix⟩ := Ka.at_ (hin.below (b1.mono hB)) (i := j) (x := l[j]) (List.getElem?_eq_getElem hlt)
      have hns := Ka.name_size (List.getElem_mem hlt) hbk
      have g3 : (j : Int) < (l.length : Int) := by omega
      rw [hA]
      clear hA
      obtain ⟨W2, hW2⟩ : ∃ W2, W2 = wr.alloc (.cells #[.int .i64 l[j].a.N.k, .int .i64 l[j].a.N.n, .string l[j].a.N.t, .slice l[j].a.N.sa l[j].a.N.s.length l[j].a.N.sc, .slice l[j].a.N.A l[j].a.N.l.length l[j].a.N.c, .int .i64 l[j].a.dep, .int .i64 l[j].a.F.k, .int .i64 l[j].a.F.n, .string l[j].a.F.t, .slice l[j].a.F.sa l[j].a.F.s.length l[j].a.F.sc, .slice l[j].a.F.A l[j].a.F.l.length l[j].a.F.c, .slice l[j].A l[j].l.length l[j].c] 82) := ⟨_, rfl⟩
      have bA : Below wr.heap.size wr W2 := by rw [hW2]; exact (Below.refl _ _).alloc (Nat.le_refl _) _
      have z2 : W2.heap.size = wr.heap.size + 1 := by rw [hW2]; simp
      have Y2 : Ka.Box W2 wr.heap.size l[j] := by rw [hW2]; exact Ka.Box.new _ _ _
      have X2 := (X0.below hb (by omega)).below bA (by omega)
      have b2 := b1.trans (bA.mono (by omega))
      have hbW := hb.trans (bA.mono hs2)
      have hN := (Ka.E_in (hix.below (bA.mono (by omega)))).1.N
      have hD := hd.below (b2.mono hB)
      have HM : Hid (Ka.samM d l[j] = ((l[j].a.N.t.toList == d.t.toList && l[j].a.N.s == d.s) && (!d.isDots && l[j].a.N.isI))) := rfl
      have hc1 := l2Same_any l[j].a.N d B W2 hN hD (by omega)
      unfold S.val at hc1
      go_upto_region 4 with fail
      rw [← hW2]
      clear hW2 c0 c1 c2 c3 c4 c5 c6 c7 c8 c9 c10 c11
      have X2q := X2
      obtain ⟨x0, x1, x2, x3, x4⟩ := X2q
      have Y2q := Y2
      obtain ⟨y0, y1, y2, y3, y4, y5, y6, y7, y8, y9, y10, y11⟩ := Y2q
      go_wp2_with fail
      clear x0 x1 x2 x3 x4 y0 y1 y2 y3 y4 y5 y6 y7 y8 y9 y10 y11
      cases q1 : (l[j].a.N.t.toList == d.t.toList && l[j].a.N.s == d.s)
      · rw [q1] at hc1
        have HQ : Hid (Ka.samM d l[j] = false) := by show _ = _; rw [HM.out, q1]; rfl
        clear q1
        (with_reducible refine hc1.mono ?_)
        clear hc1
        rintro e w3 ⟨rfl, hb3⟩
        have z3 := hb3.size
        have hbW3 := hbW.trans (hb3.mono (by omega))
        have X3 := X2.below hb3 (by omega)
        have Y3 := Y2.below hb3 (by omega)
        obtain ⟨x0, x1, x2, x3, x4⟩ := X3
        obtain ⟨y0, y1, y2, y3, y4, y5, y6, y7, y8, y9, y10, y11⟩ := Y3
        go_wp2_with fail
        go_roundw
        case rel => exact ⟨j + 1, by omega, by go_num, none_succ hlt HN.out HQ.out, hbW3⟩
        case measure => simp [intOf]; omega
      · rw [q1] at hc1
        have HQ1 := Lib.hid q1
        clear q1
        (with_reducible refine hc1.mono ?_)
        clear hc1
        rintro e w3 ⟨rfl, hb3⟩
        have z3 := hb3.size
        have hbW3 := hbW.trans (hb3.mono (by omega))
        have b3 := b2.trans (hb3.mono (by omega))
        have X3 := X2.below hb3 (by omega)
        have Y3 := Y2.below hb3 (by omega)
        have X3q := X3
        obtain ⟨x0, x1, x2, x3, x4⟩ := X3q
        have Y3q := Y3
        obtain ⟨y0, y1, y2, y3, y4, y5, y6, y7, y8, y9, y10, y11⟩ := Y3q
        have hc2 := specDots_any d w3
        unfold S.val at hc2
        go_wp2_with fail
        clear x0 x1 x2 x3 x4 y0 y1 y2 y3 y4 y5 y6 y7 y8 y9 y10 y11
        cases q2 : d.isDots
        · rw [q2] at hc2
          have HQ2 := Lib.hid q2
          clear q2
          (with_reducible refine hc2.mono ?_)
          clear hc2
          rintro e w4 ⟨rfl, hb4⟩
          have z4 := hb4.size
          have hbW4 := hbW3.trans (hb4.mono (by omega))
          have b4 := b3.trans (hb4.mono (by omega))
          have X4 := X3.below hb4 (by omega)
          have Y4 := Y3.below hb4 (by omega)
          have X4q := X4
          obtain ⟨x0, x1, x2, x3, x4⟩ := X4q
          have Y4q := Y4
          obtain ⟨y0, y1, y2, y3, y4, y5, y6, y7, y8, y9, y10, y11⟩ := Y4q
          have hN4 := (Ka.E_in (hix.below ((bA.trans ((hb3.trans (hb4.mono (by omega))).mono (by omega))).mono (by omega)))).1.N
          have hc3 := specIdent_any l[j].a.N B w4 hN4 (by omega) hns
          unfold S.val at hc3
          go_wp2_with fail
          clear x0 x1 x2 x3 x4 y0 y1 y2 y3 y4 y5 y6 y7 y8 y9 y10 y11
          cases q3 : l[j].a.N.isI
          · rw [q3] at hc3
            have HQ : Hid (Ka.samM d l[j] = false) := by show _ = _; rw [HM.out, HQ1.out, HQ2.out, q3]; rfl
            clear q3
            (with_reducible refine hc3.mono ?_)
            clear hc3
            rintro e w5 ⟨rfl, hb5⟩
            have z5 := hb5.size
            have hbW5 := hbW4.trans (hb5.mono (by omega))
            have X5 := X4.below hb5 (by omega)
            have Y5 := Y4.below hb5 (by omega)
            obtain ⟨x0, x1, x2, x3, x4⟩ := X5
            obtain ⟨y0, y1, y2, y3, y4, y5, y6, y7, y8, y9, y10, y11⟩ := Y5
            go_wp2_with fail
            go_roundw
            case rel => exact ⟨j + 1, by omega, by go_num, none_succ hlt HN.out HQ.out, hbW5⟩
            case measure => simp [intOf]; omega
          · rw [q3] at hc3
            have HQ : Hid (Ka.samM d l[j] = true) := by show _ = _; rw [HM.out, HQ1.out, HQ2.out, q3]; rfl
            clear q3
            (with_reducible refine hc3.mono ?_)
            clear hc3
            rintro e w5 ⟨rfl, hb5⟩
            have b5 := b4.trans (hb5.mono (by omega))
            go_wp2_with fail
            go_ret
            exact ⟨ret_int (fidx_take hlt HN.out HQ.out).symm, b5⟩
        · rw [q2] at hc2
          have HQ : Hid (Ka.samM d l[j] = false) := by show _ = _; rw [HM.out, q2]; simp
          clear q2
          (with_reducible refine hc2.mono ?_)
          clear hc2
          rintro e w4 ⟨rfl, hb4⟩
          have z4 := hb4.size
          have hbW4 := hbW3.trans (hb4.mono (by omega))
          have X4 := X3.below hb4 (by omega)
          have Y4 := Y3.below hb4 (by omega)
          obtain ⟨x0, x1, x2, x3, x4⟩ := X4
          obtain ⟨y0, y1, y2, y3, y4, y5, y6, y7, y8, y9, y10, y11⟩ := Y4
          go_wp2_with fail
          go_roundw
          case rel => exact ⟨j + 1, by omega, by go_num, none_succ hlt HN.out HQ.out, hbW4⟩
          case measure => simp [intOf]; omega
    · have hj' : j = l.length := by omega
      subst hj'
      have HF : Hid (fidx (Ka.samM d) l = -1) := fidx_none (by have := HN.out; rwa [List.take_length] at this)
      go_wp2_with fail
      go_ret
      exact ⟨ret_int HF.out.symm, b1⟩
end Go.Proofs.YtnldlbglgalbaabGreat

namespace Go.Proofs.YtnldlbglgalbaabGreat
open Go.RowKit

/-- The model's depth of a variable. -/
def Ka.mdep (l : List (Tr Ka)) (d : S) : Option Int := (l.find? (Ka.samM d)).map fun x => x.a.dep
namespace S
theorem drivesL_step {f : S → Option Int} {l : List S} {v : Int} {j : Nat} (h : j < l.length) (hn : drivesL f (l.take j) v = false) (hy : drives f l[j] v = false) : drivesL f (l.take (j + 1)) v = false := by
  have key : ∀ a b : List S, drivesL f (a ++ b) v = (drivesL f a v || drivesL f b v) := by
    intro a b
    induction a with
    | nil => simp [drivesL]
    | cons x r ih => simp only [List.cons_append, drivesL, ih, Bool.or_assoc]
  rw [List.take_succ_eq_append_getElem h, key, hn]
  simp [drivesL, hy]
theorem drivesL_yes {f : S → Option Int} {l : List S} {v : Int} {j : Nat} (h : j < l.length) (hy : drives f l[j] v = true) : drivesL f l v = true := by
  have key : ∀ a b : List S, drivesL f (a ++ b) v = (drivesL f a v || drivesL f b v) := by
    intro a b
    induction a with
    | nil => simp [drivesL]
    | cons x r ih => simp only [List.cons_append, drivesL, ih, Bool.or_assoc]
  conv => lhs; rw [← List.take_append_drop j l]
  rw [key, List.drop_eq_getElem_cons h]
  simp [drivesL, hy]
theorem fitsML_dotted {f : S → Option Int} {l : List S} {v : Int} {j : Nat} (h : j + 1 < l.length) (hy : l[j + 1].isDots = true) : fitsML f (l.drop j) v = ((!l[j].isDots && drives f l[j] v) && (fitsM f l[j] (v + 1) && fitsML f (l.drop (j + 2)) v)) := by
  rw [List.drop_eq_getElem_cons (show j < l.length by omega), List.drop_eq_getElem_cons h, fitsML, hy]
  rfl
theorem fitsML_plain {f : S → Option Int} {l : List S} {v : Int} {j : Nat} (h : j < l.length) (hy : ∀ h' : j + 1 < l.length, l[j + 1].isDots = false) : fitsML f (l.drop j) v = (fitsM f l[j] v && fitsML f (l.drop (j + 1)) v) := by
  rw [List.drop_eq_getElem_cons h]
  by_cases h' : j + 1 < l.length
  · rw [List.drop_eq_getElem_cons h', fitsML, hy h']
    rfl
  · rw [List.drop_eq_nil_of_le (show l.length ≤ j + 1 by omega), fitsML, fitsML]
    simp
end S

set_option maxRecDepth 100000 in
set_option maxHeartbeats 4000000 in
theorem l4Drives_any (A : Option Addr) (c : Nat) (l : List (Tr Ka)) (hbk : Tr.bulkL Ka.bulk l ≤ 1500000) : ∀ (m : Nat) (d : S) (B : Nat) (w : World) (v : Int), d.size ≤ m → Ka.E.LIn w B A c l → d.In w B → B ≤ w.heap.size →
    Calls Tryz.prog 100 #[.slice A l.length c, d.val, .int .i64 v] w fun e w' => e = .returned (.bool (S.drives (Ka.mdep l) d v)) ∧ Below w.heap.size w w' := by
  intro m
  induction m with
  | zero => intro d B w v h; have := d.size_pos; omega
  | succ m ih =>
  intro d B w v hm ha hd hB
  obtain ⟨W1, hW1⟩ : ∃ W1, W1 = w.alloc (.cells #[.int .i64 d.k, .int .i64 d.n, .string d.t, .slice d.sa d.s.length d.sc, .slice d.A d.l.length d.c] 43) := ⟨_, rfl⟩
  have z1 : W1.heap.size = w.heap.size + 1 := by rw [hW1]; simp
  have b0 : Below w.heap.size w W1 := by rw [hW1]; exact (Below.refl _ _).alloc (Nat.le_refl _) _
  have X0 : S.Box W1 w.heap.size d := by rw [hW1]; exact S.Box.new _ _ _
  have ha1 := ha.below (b0.mono hB)
  have hd1 := hd.below (b0.mono hB)
  have hcap := ha.cap
  have hcd := hd.cap
  unfold S.val
  by_cases hk : d.k = 1
  · have ek : (d.k == 1) = true := by simp [hk]
    have HF : Hid (S.drives (Ka.mdep l) d v = match Ka.mdep l d with | some e => decide (v < e) | none => false) := (S.drives_eq _ d v).trans (if_pos hk)
    clear hk
    have hc := l4Find_any A c l d B W1 ha1 hd1 (by omega) hbk
    unfold S.val at hc
    go_enter Tryz.func100, Tryz.ntmps100
    go_upto_region 1 with fail
    rw [← hW1]
    clear hW1
    obtain ⟨x0, x1, x2, x3, x4⟩ := X0
    go_wp2_with fail
    (with_reducible refine hc.mono ?_)
    clear hc
    rintro e w2 ⟨rfl, hb2⟩
    have b2 := b0.trans (hb2.mono (by omega))
    rcases fidx_find (Ka.samM d) l with ⟨h1, h2⟩ | ⟨j, hj, h1, h2⟩
    · have HG : Hid (Ka.mdep l d = none) := by show _ = _; unfold Ka.mdep; rw [h2]; rfl
      rw [h1]
      clear h1 h2
      go_wp2_with fail
      go_ret
      exact ⟨ret_bool (by rw [HF.out, HG.out]), b2⟩
    · have HG : Hid (Ka.mdep l d = some l[j].a.dep) := by show _ = _; unfold Ka.mdep; rw [h2]; rfl
      rw [h1]
      clear h1 h2
      obtain ⟨b, o, hA, hblk, c0, c1, c2, c3, c4, c5, c6, c7, c8, c9, c10, c11, hix⟩ := Ka.at_ (ha.below (b2.mono hB)) (i := j) (x := l[j]) (List.getElem?_eq_getElem hj)
      rw [hA]
      clear hA
      have g0 : (0 : Int) ≤ (j : Int) := by omega
      have g1 : (j : Int) < (l.length : Int) := by omega
      go_wp2_with fail
      go_ret
      exact ⟨ret_bool (by rw [HF.out, HG.out]), b2⟩
  · have ek : (d.k == 1) = false := by simpa using hk
    have HF : Hid (S.drives (Ka.mdep l) d v = S.drivesL (Ka.mdep l) d.l v) := (S.drives_eq _ d v).trans (if_neg hk)
    clear hk
    go_enter Tryz.func100, Tryz.ntmps100
    go_upto_region 1 with fail
    rw [← hW1]
    clear hW1
    have X0q := X0
    obtain ⟨x0, x1, x2, x3, x4⟩ := X0q
    go_wp2_with fail
    clear x0 x1 x2 x3 x4
    go_loopw [30] (fun i wr => ∃ j : Nat, j ≤ d.l.length ∧ i = .int .i64 j ∧ Hid (S.drivesL (Ka.mdep l) (d.l.take j) v = false) ∧ Below W1.heap.size W1 wr) (fun i _ => d.l.length - (intOf i).toNat)
    case atStart => exact ⟨0, Nat.zero_le _, rfl, by simp [Hid, S.drivesL], Below.refl _ _⟩
    case round =>
      obtain ⟨j, hj, rfl, HN, hb⟩ := hrel
      have hs2 := hb.size
      have b1 := b0.trans (hb.mono (by omega))
      by_cases hlt : j < d.l.length
      · obtain ⟨b, o, hA, hblk, c0, c1, c2, c3, c4, hix⟩ := (hd.below (b1.mono hB)).at_ (i := j) (x := d.l[j]) (List.getElem?_eq_getElem hlt)
        have hsz := S.size_item (d := d) (x := d.l[j]) (List.getElem_mem hlt)
        have g1 : (j : Int) < (d.l.length : Int) := by omega
        rw [hA]
        clear hA
        obtain ⟨W2, hW2⟩ : ∃ W2, W2 = wr.alloc (.cells #[.int .i64 d.l[j].k, .int .i64 d.l[j].n, .string d.l[j].t, .slice d.l[j].sa d.l[j].s.length d.l[j].sc, .slice d.l[j].A d.l[j].l.length d.l[j].c] 43) := ⟨_, rfl⟩
        have bA : Below wr.heap.size wr W2 := by rw [hW2]; exact (Below.refl _ _).alloc (Nat.le_refl _) _
        have z2 : W2.heap.size = wr.heap.size + 1 := by rw [hW2]; simp
        have Y2 : S.Box W2 wr.heap.size d.l[j] := by rw [hW2]; exact S.Box.new _ _ _
        have b2 := b1.trans (bA.mono (by omega))
        have hc := ih d.l[j] B W2 v (by omega) (ha.below (b2.mono hB)) (hix.below (bA.mono (by omega))) (by omega)
        unfold S.val at hc
        go_upto_region 7 with fail
        rw [← hW2]
        clear hW2 c0 c1 c2 c3 c4
        obtain ⟨y0, y1, y2, y3, y4⟩ := Y2
        go_wp2_with fail
        clear y0 y1 y2 y3 y4
        cases q : S.drives (Ka.mdep l) d.l[j] v
        · rw [q] at hc
          have HQ := Lib.hid q
          clear q
          (with_reducible refine hc.mono ?_)
          clear hc
          rintro e w3 ⟨rfl, hb3⟩
          go_wp2_with fail
          go_roundw
          case rel => exact ⟨j + 1, by omega, by go_num, S.drivesL_step hlt HN.out HQ.out, (hb.trans (bA.mono hs2)).trans (hb3.mono (by omega))⟩
          case measure => simp [intOf]; omega
        · rw [q] at hc
          have HQ := Lib.hid q
          clear q
          (with_reducible refine hc.mono ?_)
          clear hc
          rintro e w3 ⟨rfl, hb3⟩
          go_wp2_with fail
          go_ret
          exact ⟨ret_bool (by rw [HF.out, S.drivesL_yes hlt HQ.out]), b2.trans (hb3.mono (by omega))⟩
      · have hj' : j = d.l.length := by omega
        subst hj'
        rw [List.take_length] at HN
        go_wp2_with fail
        go_ret
        exact ⟨ret_bool (by rw [HF.out, HN.out]), b1⟩
end Go.Proofs.YtnldlbglgalbaabGreat

namespace Go.Proofs.YtnldlbglgalbaabGreat
open Go.RowKit

set_option maxRecDepth 100000 in
set_option maxHeartbeats 8000000 in
theorem l4Fits_any (A : Option Addr) (c : Nat) (l : List (Tr Ka)) (hbk : Tr.bulkL Ka.bulk l ≤ 1500000) : ∀ (m : Nat) (d : S) (B : Nat) (w : World) (v : Int), d.size ≤ m → 0 ≤ v → v + d.size ≤ 9000000 → Ka.E.LIn w B A c l → d.In w B → B ≤ w.heap.size →
    Calls Tryz.prog 73 #[.slice A l.length c, d.val, .int .i64 v] w fun e w' => e = .returned (.bool (S.fitsM (Ka.mdep l) d v)) ∧ Below w.heap.size w w' := by
  intro m
  induction m with
  | zero => intro d B w v h; have := d.size_pos; omega
  | succ m ih =>
  intro d B w v hm hv0 hv1 ha hd hB
  obtain ⟨W1, hW1⟩ : ∃ W1, W1 = w.alloc (.cells #[.int .i64 d.k, .int .i64 d.n, .string d.t, .slice d.sa d.s.length d.sc, .slice d.A d.l.length d.c] 43) := ⟨_, rfl⟩
  have z1 : W1.heap.size = w.heap.size + 1 := by rw [hW1]; simp
  have b0 : Below w.heap.size w W1 := by rw [hW1]; exact (Below.refl _ _).alloc (Nat.le_refl _) _
  have X0 : S.Box W1 w.heap.size d := by rw [hW1]; exact S.Box.new _ _ _
  have ha1 := ha.below (b0.mono hB)
  have hd1 := hd.below (b0.mono hB)
  have hcap := ha.cap
  have hcd := hd.cap
  unfold S.val
  by_cases hk : d.k = 1
  · have ek : (d.k == 1) = true := by simp [hk]
    have HF : Hid (S.fitsM (Ka.mdep l) d v = (!d.isDots && (match Ka.mdep l d with | some e => decide (e ≤ v) | none => true))) := (S.fitsM_eq _ d v).trans (if_pos hk)
    clear hk
    have hc := l4Find_any A c l d B W1 ha1 hd1 (by omega) hbk
    unfold S.val at hc
    go_enter Tryz.func73, Tryz.ntmps73
    go_upto_region 1 with fail
    rw [← hW1]
    clear hW1
    have X0q := X0
    obtain ⟨x0, x1, x2, x3, x4⟩ := X0q
    go_wp2_with fail
    clear x0 x1 x2 x3 x4
    (with_reducible refine hc.mono ?_)
    clear hc
    rintro e w2 ⟨rfl, hb2⟩
    have z2 := hb2.size
    have b2 := b0.trans (hb2.mono (by omega))
    have X2 := X0.below hb2 (by omega)
    obtain ⟨x0, x1, x2, x3, x4⟩ := X2
    have hc2 := specDots_any d w2
    unfold S.val at hc2
    rcases fidx_find (Ka.samM d) l with ⟨h1, h2⟩ | ⟨j, hj, h1, h2⟩
    · have HG : Hid (Ka.mdep l d = none) := by show _ = _; unfold Ka.mdep; rw [h2]; rfl
      rw [h1]
      clear h1 h2
      go_wp2_with fail
      cases q : d.isDots
      · rw [q] at hc2
        have HQ := Lib.hid q
        clear q
        (with_reducible refine hc2.mono ?_)
        rintro e w3 ⟨rfl, hb3⟩
        go_wp2_with fail
        go_ret
        exact ⟨ret_bool (by rw [HF.out, HG.out, HQ.out]; rfl), b2.trans (hb3.mono (by omega))⟩
      · rw [q] at hc2
        have HQ := Lib.hid q
        clear q
        (with_reducible refine hc2.mono ?_)
        rintro e w3 ⟨rfl, hb3⟩
        go_wp2_with fail
        go_ret
        exact ⟨ret_bool (by rw [HF.out, HQ.out]; rfl), b2.trans (hb3.mono (by omega))⟩
    · have HG : Hid (Ka.mdep l d = some l[j].a.dep) := by show _ = _; unfold Ka.mdep; rw [h2]; rfl
      rw [h1]
      clear h1 h2
      go_wp2_with fail
      cases q : d.isDots
      · rw [q] at hc2
        have HQ := Lib.hid q
        clear q
        (with_reducible refine hc2.mono ?_)
        rintro e w3 ⟨rfl, hb3⟩
        have b3 := b2.trans (hb3.mono (by omega))
        obtain ⟨b, o, hA, hblk, c0, c1, c2, c3, c4, c5, c6, c7, c8, c9, c10, c11, hix⟩ := Ka.at_ (ha.below (b3.mono hB)) (i := j) (x := l[j]) (List.getElem?_eq_getElem hj)
        rw [hA]
        clear hA
        have g0 : (0 : Int) ≤ (j : Int) := by omega
        have g1 : (j : Int) < (l.length : Int) := by omega
        have g2 : ¬ ((j : Int) < 0) := by omega
        go_wp2_with fail
        go_ret
        exact ⟨ret_bool (by rw [HF.out, HG.out, HQ.out]; rfl), b3⟩
      · rw [q] at hc2
        have HQ := Lib.hid q
        clear q
        (with_reducible refine hc2.mono ?_)
        rintro e w3 ⟨rfl, hb3⟩
        go_wp2_with fail
        go_ret
        exact ⟨ret_bool (by rw [HF.out, HQ.out]; rfl), b2.trans (hb3.mono (by omega))⟩
  · have ek : (d.k == 1) = false := by simpa using hk
    have HF : Hid (S.fitsM (Ka.mdep l) d v = S.fitsML (Ka.mdep l) d.l v) := (S.fitsM_eq _ d v).trans (if_neg hk)
    clear hk
    go_enter Tryz.func73, Tryz.ntmps73
    go_upto_region 1 with fail
    rw [← hW1]
    clear hW1
    have X0q := X0
    obtain ⟨x0, x1, x2, x3, x4⟩ := X0q
    go_wp2_with fail
    clear x0 x1 x2 x3 x4
    go_loopw [8] (fun i wr => ∃ j : Nat, j ≤ d.l.length ∧ i = .int .i64 j ∧ Hid (S.fitsML (Ka.mdep l) d.l v = S.fitsML (Ka.mdep l) (d.l.drop j) v) ∧ Below W1.heap.size W1 wr) (fun i _ => d.l.length - (intOf i).toNat)
    case atStart => exact ⟨0, Nat.zero_le _, rfl, by simp [Hid], Below.refl _ _⟩
    case round =>
      obtain ⟨j, hj, rfl, HN, hb⟩ := hrel
      have hs2 := hb.size
      have b1 := b0.trans (hb.mono (by omega))
      have X1 := X0.below hb (by omega)
      by_cases hlt : j < d.l.length
      · obtain ⟨b, o, hA, hblk, c0, c1, c2, c3, c4, hix⟩ := (hd.below (b1.mono hB)).at_ (i := j) (x := d.l[j]) (List.getElem?_eq_getElem hlt)
        have hsz := S.size_item (d := d) (x := d.l[j]) (List.getElem_mem hlt)
        have g1 : (j : Int) < (d.l.length : Int) := by omega
        have hA2 := Lib.hid hA
        have hlw : w.heap.size < wr.heap.size := by omega
        have X1q := X1
        obtain ⟨x0, x1, x2, x3, x4⟩ := X1q
        rw [hA] at x4
        clear hA
        obtain ⟨W2, hW2⟩ : ∃ W2, W2 = wr.alloc (.cells #[.int .i64 d.l[j].k, .int .i64 d.l[j].n, .string d.l[j].t, .slice d.l[j].sa d.l[j].s.length d.l[j].sc, .slice d.l[j].A d.l[j].l.length d.l[j].c] 43) := ⟨_, rfl⟩
        have hb2 : Below wr.heap.size wr W2 := by rw [hW2]; exact (Below.refl _ _).alloc (Nat.le_refl _) _
        have z2 : W2.heap.size = wr.heap.size + 1 := by rw [hW2]; simp
        have Y2 : S.Box W2 wr.heap.size d.l[j] := by rw [hW2]; exact S.Box.new _ _ _
        have X2 := X1.below hb2 (by omega)
        have b2 := b1.trans (hb2.mono (by omega))
        have hbl2 := hb.trans (hb2.mono hs2)
        go_upto_region 9 with fail
        rw [← hW2]
        clear hW2 c0 c1 c2 c3 c4 x0 x1 x2 x3 x4
        have X2q := X2
        obtain ⟨x0, x1, x2, x3, x4⟩ := X2q
        rw [hA2.out] at x4
        by_cases h1 : j + 1 < d.l.length
        · have g2 : (j : Int) + 1 < (d.l.length : Int) := by omega
          have g3 : (0 : Int) ≤ (j : Int) + 1 := by omega
          obtain ⟨b', o', hA', hblk', c0, c1, c2, c3, c4, hix'⟩ := (hd.below (b2.mono hB)).at_ (i := j + 1) (x := d.l[j + 1]) (List.getElem?_eq_getElem h1)
          rw [hA2.out] at hA'
          obtain ⟨rfl, rfl, _⟩ := Addr.mk.inj (Option.some.inj hA')
          clear hA' hix'
          have hc1 := specDots_any d.l[j + 1] W2
          unfold S.val at hc1
          go_wp2_with fail
          clear c0 c1 c2 c3 c4 x0 x1 x2 x3 x4
          cases q1 : d.l[j + 1].isDots
          · rw [q1] at hc1
            have HS : Hid (S.fitsML (Ka.mdep l) (d.l.drop j) v = (S.fitsM (Ka.mdep l) d.l[j] v && S.fitsML (Ka.mdep l) (d.l.drop (j + 1)) v)) := S.fitsML_plain hlt (fun _ => q1)
            clear q1
            (with_reducible refine hc1.mono ?_)
            clear hc1
            rintro e w3 ⟨rfl, hb3⟩
            have z3 := hb3.size
            have b3 := b2.trans (hb3.mono (by omega))
            have X3 := X2.below hb3 (by omega)
            have Y3 := Y2.below hb3 (by omega)
            have Xq := X3
            obtain ⟨x0, x1, x2, x3, x4⟩ := Xq
            have Yq := Y3
            obtain ⟨y0, y1, y2, y3, y4⟩ := Yq
            have hbl := hbl2.trans (hb3.mono (by omega))
            have bl := b3
            have hcf := ih d.l[j] B w3 v (by omega) (by omega) (by omega) (ha.below (b3.mono hB)) (hix.below ((hb2.trans (hb3.mono (by omega))).mono (by omega))) (by omega)
            unfold S.val at hcf
            go_wp2_with fail
            clear x0 x1 x2 x3 x4 y0 y1 y2 y3 y4
            cases q4 : S.fitsM (Ka.mdep l) d.l[j] (v)
            · rw [q4] at hcf
              have HQ := Lib.hid q4
              clear q4
              (with_reducible refine hcf.mono ?_)
              clear hcf
              rintro e w9 ⟨rfl, hb9⟩
              go_wp2_with fail
              go_ret
              exact ⟨ret_bool (by rw [HF.out, HN.out, HS.out, HQ.out]; simp), bl.trans (hb9.mono (by omega))⟩
            · rw [q4] at hcf
              have HQ := Lib.hid q4
              clear q4
              (with_reducible refine hcf.mono ?_)
              clear hcf
              rintro e w9 ⟨rfl, hb9⟩
              go_wp2_with fail
              go_roundw
              case rel => exact ⟨j + 1, by omega, by go_num, by show _ = _; rw [HN.out, HS.out, HQ.out]; simp, hbl.trans (hb9.mono (by omega))⟩
              case measure => simp [intOf]; omega
          · rw [q1] at hc1
            have HS : Hid (S.fitsML (Ka.mdep l) (d.l.drop j) v = ((!d.l[j].isDots && S.drives (Ka.mdep l) d.l[j] v) && (S.fitsM (Ka.mdep l) d.l[j] (v + 1) && S.fitsML (Ka.mdep l) (d.l.drop (j + 2)) v))) := S.fitsML_dotted h1 q1
            clear q1
            (with_reducible refine hc1.mono ?_)
            clear hc1
            rintro e w3 ⟨rfl, hb3⟩
            have z3 := hb3.size
            have b3 := b2.trans (hb3.mono (by omega))
            have X3 := X2.below hb3 (by omega)
            have Y3 := Y2.below hb3 (by omega)
            have Xq := X3
            obtain ⟨x0, x1, x2, x3, x4⟩ := Xq
            have Yq := Y3
            obtain ⟨y0, y1, y2, y3, y4⟩ := Yq
            have hbl3 := hbl2.trans (hb3.mono (by omega))
            have hc2 := specDots_any d.l[j] w3
            unfold S.val at hc2
            go_wp2_with fail
            clear x0 x1 x2 x3 x4 y0 y1 y2 y3 y4
            cases q2 : d.l[j].isDots
            · rw [q2] at hc2
              have HQ2 := Lib.hid q2
              clear q2
              (with_reducible refine hc2.mono ?_)
              clear hc2
              rintro e w4 ⟨rfl, hb4⟩
              have z4 := hb4.size
              have b4 := b3.trans (hb4.mono (by omega))
              have X4 := X3.below hb4 (by omega)
              have Y4 := Y3.below hb4 (by omega)
              have Xq := X4
              obtain ⟨x0, x1, x2, x3, x4⟩ := Xq
              have Yq := Y4
              obtain ⟨y0, y1, y2, y3, y4⟩ := Yq
              have hbl4 := hbl3.trans (hb4.mono (by omega))
              have hi4 := hix.below ((hb2.trans ((hb3.trans (hb4.mono (by omega))).mono (by omega))).mono (by omega : B ≤ wr.heap.size))
              have hc3 := l4Drives_any A c l hbk d.l[j].size d.l[j] B w4 v (Nat.le_refl _) (ha.below (b4.mono hB)) hi4 (by omega)
              unfold S.val at hc3
              go_wp2_with fail
              clear x0 x1 x2 x3 x4 y0 y1 y2 y3 y4
              cases q3 : S.drives (Ka.mdep l) d.l[j] v
              · rw [q3] at hc3
                have HQ3 := Lib.hid q3
                clear q3
                (with_reducible refine hc3.mono ?_)
                clear hc3
                rintro e w5 ⟨rfl, hb5⟩
                go_wp2_with fail
                go_ret
                exact ⟨ret_bool (by rw [HF.out, HN.out, HS.out, HQ3.out]; simp), b4.trans (hb5.mono (by omega))⟩
              · rw [q3] at hc3
                have HQ3 := Lib.hid q3
                clear q3
                (with_reducible refine hc3.mono ?_)
                clear hc3
                rintro e w5 ⟨rfl, hb5⟩
                have z5 := hb5.size
                have b5 := b4.trans (hb5.mono (by omega))
                have X5 := X4.below hb5 (by omega)
                have Y5 := Y4.below hb5 (by omega)
                have Xq := X5
                obtain ⟨x0, x1, x2, x3, x4⟩ := Xq
                have Yq := Y5
                obtain ⟨y0, y1, y2, y3, y4⟩ := Yq
                have hbl := hbl4.trans (hb5.mono (by omega))
                have bl := b5
                have hi5 := hi4.below (hb5.mono (by omega))
                have hcf := ih d.l[j] B w5 (v + 1) (by omega) (by omega) (by omega) (ha.below (b5.mono hB)) hi5 (by omega)
                unfold S.val at hcf
                have HT : Hid (S.fitsML (Ka.mdep l) (d.l.drop j) v = (S.fitsM (Ka.mdep l) d.l[j] (v + 1) && S.fitsML (Ka.mdep l) (d.l.drop (j + 2)) v)) := by show _ = _; rw [HS.out, HQ2.out, HQ3.out]; rfl
                go_wp2_with fail
                clear x0 x1 x2 x3 x4 y0 y1 y2 y3 y4
                cases q4 : S.fitsM (Ka.mdep l) d.l[j] (v + 1)
                · rw [q4] at hcf
                  have HQ := Lib.hid q4
                  clear q4
                  (with_reducible refine hcf.mono ?_)
                  clear hcf
                  rintro e w9 ⟨rfl, hb9⟩
                  go_wp2_with fail
                  go_ret
                  exact ⟨ret_bool (by rw [HF.out, HN.out, HT.out, HQ.out]; simp), bl.trans (hb9.mono (by omega))⟩
                · rw [q4] at hcf
                  have HQ := Lib.hid q4
                  clear q4
                  (with_reducible refine hcf.mono ?_)
                  clear hcf
                  rintro e w9 ⟨rfl, hb9⟩
                  go_wp2_with fail
                  go_roundw
                  case rel => exact ⟨j + 2, by omega, by go_num, by show _ = _; rw [HN.out, HT.out, HQ.out]; simp, hbl.trans (hb9.mono (by omega))⟩
                  case measure => simp [intOf]; omega
            · rw [q2] at hc2
              have HQ2 := Lib.hid q2
              clear q2
              (with_reducible refine hc2.mono ?_)
              clear hc2
              rintro e w4 ⟨rfl, hb4⟩
              go_wp2_with fail
              go_ret
              exact ⟨ret_bool (by rw [HF.out, HN.out, HS.out, HQ2.out]; simp), b3.trans (hb4.mono (by omega))⟩
        · have g2 : ¬ ((j : Int) + 1 < (d.l.length : Int)) := by omega
          have HS : Hid (S.fitsML (Ka.mdep l) (d.l.drop j) v = (S.fitsM (Ka.mdep l) d.l[j] v && S.fitsML (Ka.mdep l) (d.l.drop (j + 1)) v)) := S.fitsML_plain hlt (fun h => absurd h h1)
          have hcf := ih d.l[j] B W2 v (by omega) (by omega) (by omega) (ha.below (b2.mono hB)) (hix.below (hb2.mono (by omega))) (by omega)
          unfold S.val at hcf
          have hbl := hbl2
          have bl := b2
          have Y2q := Y2
          obtain ⟨y0, y1, y2, y3, y4⟩ := Y2q
          go_wp2_with fail
          clear x0 x1 x2 x3 x4 y0 y1 y2 y3 y4
          cases q4 : S.fitsM (Ka.mdep l) d.l[j] (v)
          · rw [q4] at hcf
            have HQ := Lib.hid q4
            clear q4
            (with_reducible refine hcf.mono ?_)
            clear hcf
            rintro e w9 ⟨rfl, hb9⟩
            go_wp2_with fail
            go_ret
            exact ⟨ret_bool (by rw [HF.out, HN.out, HS.out, HQ.out]; simp), bl.trans (hb9.mono (by omega))⟩
          · rw [q4] at hcf
            have HQ := Lib.hid q4
            clear q4
            (with_reducible refine hcf.mono ?_)
            clear hcf
            rintro e w9 ⟨rfl, hb9⟩
            go_wp2_with fail
            go_roundw
            case rel => exact ⟨j + 1, by omega, by go_num, by show _ = _; rw [HN.out, HS.out, HQ.out]; simp, hbl.trans (hb9.mono (by omega))⟩
            case measure => simp [intOf]; omega
      · have hj' : j = d.l.length := by omega
        subst hj'
        have HE : Hid (S.fitsML (Ka.mdep l) d.l v = true) := by show _ = _; rw [HN.out, List.drop_length, S.fitsML]
        obtain ⟨x0, x1, x2, x3, x4⟩ := X1
        go_wp2_with fail
        go_ret
        exact ⟨ret_bool (by rw [HF.out, HE.out]), b1⟩
end Go.Proofs.YtnldlbglgalbaabGreat

namespace Go.Proofs.YtnldlbglgalbaabGreat
open Go.RowKit

/-- A variable that may be asked for. -/
def Ka.okV (x : Tr Ka) : Bool := x.a.N.isI && decide (0 ≤ x.a.dep)
/-- What TemplateFits answers. -/
def Ka.tfits (l : List (Tr Ka)) (d : S) : Bool := l.all Ka.okV && (d.isS && S.fitsM (Ka.mdep l) d 0)
theorem all_take {α : Type} {p : α → Bool} {l : List α} {j : Nat} (h : j < l.length) (hn : ∀ x ∈ l.take j, p x = true) (hy : p l[j] = true) : ∀ x ∈ l.take (j + 1), p x = true := by
  intro x hx
  rw [List.take_succ_eq_append_getElem h] at hx
  rcases List.mem_append.1 hx with hx | hx
  · exact hn x hx
  · simp at hx; subst hx; exact hy
theorem all_no {α : Type} {p : α → Bool} {l : List α} {j : Nat} (h : j < l.length) (hy : p l[j] = false) : l.all p = false := by
  rw [List.all_eq_false]
  exact ⟨l[j], List.getElem_mem h, by simp [hy]⟩
theorem all_yes {α : Type} {p : α → Bool} {l : List α} (hn : ∀ x ∈ l, p x = true) : l.all p = true := List.all_eq_true.2 hn

set_option maxRecDepth 100000 in
set_option maxHeartbeats 4000000 in
theorem specTf_any (A : Option Addr) (c : Nat) (l : List (Tr Ka)) (d : S) (B : Nat) (w : World) (ha : Ka.E.LIn w B A c l) (hd : d.In w B) (hB : B ≤ w.heap.size) (hbk : Tr.bulkL Ka.bulk l ≤ 1500000) (hds : d.size ≤ 2000000) :
    Calls Tryz.prog 35 #[.slice A l.length c, d.val] w fun e w' => e = .returned (.bool (Ka.tfits l d)) ∧ Below w.heap.size w w' := by
  obtain ⟨W1, hW1⟩ : ∃ W1, W1 = w.alloc (.cells #[.int .i64 d.k, .int .i64 d.n, .string d.t, .slice d.sa d.s.length d.sc, .slice d.A d.l.length d.c] 43) := ⟨_, rfl⟩
  have z1 : W1.heap.size = w.heap.size + 1 := by rw [hW1]; simp
  have b0 : Below w.heap.size w W1 := by rw [hW1]; exact (Below.refl _ _).alloc (Nat.le_refl _) _
  have X0 : S.Box W1 w.heap.size d := by rw [hW1]; exact S.Box.new _ _ _
  have ha1 := ha.below (b0.mono hB)
  have hd1 := hd.below (b0.mono hB)
  have hcap := ha.cap
  have hcd := hd.cap
  unfold S.val
  go_enter Tryz.func35, Tryz.ntmps35
  go_upto_region 1 with fail
  rw [← hW1]
  clear hW1
  go_wp2_with fail
  go_loopw [9] (fun i wr => ∃ j : Nat, j ≤ l.length ∧ i = .int .i64 j ∧ Hid (∀ x ∈ l.take j, Ka.okV x = true) ∧ Below W1.heap.size W1 wr) (fun i _ => l.length - (intOf i).toNat)
  case atStart => exact ⟨0, Nat.zero_le _, rfl, by simp [Hid], Below.refl _ _⟩
  case round =>
    obtain ⟨j, hj, rfl, HN, hb⟩ := hrel
    have hs2 := hb.size
    have b1 := b0.trans (hb.mono (by omega))
    by_cases hlt : j < l.length
    · obtain ⟨b, o, hA, hblk, c0, c1, c2, c3, c4, c5, c6, c7, c8, c9, c10, c11, hix⟩ := Ka.at_ (ha.below (b1.mono hB)) (i := j) (x := l[j]) (List.getElem?_eq_getElem hlt)
      have hns := Ka.name_size (List.getElem_mem hlt) hbk
      have g3 : (j : Int) < (l.length : Int) := by omega
      rw [hA]
      clear hA
      obtain ⟨W2, hW2⟩ : ∃ W2, W2 = wr.alloc (.cells #[.int .i64 l[j].a.N.k, .int .i64 l[j].a.N.n, .string l[j].a.N.t, .slice l[j].a.N.sa l[j].a.N.s.length l[j].a.N.sc, .slice l[j].a.N.A l[j].a.N.l.length l[j].a.N.c, .int .i64 l[j].a.dep, .int .i64 l[j].a.F.k, .int .i64 l[j].a.F.n, .string l[j].a.F.t, .slice l[j].a.F.sa l[j].a.F.s.length l[j].a.F.sc, .slice l[j].a.F.A l[j].a.F.l.length l[j].a.F.c, .slice l[j].A l[j].l.length l[j].c] 82) := ⟨_, rfl⟩
      have bA : Below wr.heap.size wr W2 := by rw [hW2]; exact (Below.refl _ _).alloc (Nat.le_refl _) _
      have z2 : W2.heap.size = wr.heap.size + 1 := by rw [hW2]; simp
      have Y2 : Ka.Box W2 wr.heap.size l[j] := by rw [hW2]; exact Ka.Box.new _ _ _
      have b2 := b1.trans (bA.mono (by omega))
      have hbW := hb.trans (bA.mono hs2)
      have hN := (Ka.E_in (hix.below (bA.mono (by omega)))).1.N
      have HM : Hid (Ka.okV l[j] = (l[j].a.N.isI && decide (0 ≤ l[j].a.dep))) := rfl
      have hc1 := specIdent_any l[j].a.N B W2 hN (by omega) hns
      unfold S.val at hc1
      go_upto_region 4 with fail
      rw [← hW2]
      clear hW2 c0 c1 c2 c3 c4 c5 c6 c7 c8 c9 c10 c11
      have Y2q := Y2
      obtain ⟨y0, y1, y2, y3, y4, y5, y6, y7, y8, y9, y10, y11⟩ := Y2q
      go_wp2_with fail
      clear y0 y1 y2 y3 y4 y5 y6 y7 y8 y9 y10 y11
      cases q1 : l[j].a.N.isI
      · rw [q1] at hc1
        have HQ : Hid (Ka.okV l[j] = false) := by show _ = _; rw [HM.out, q1]; rfl
        clear q1
        (with_reducible refine hc1.mono ?_)
        clear hc1
        rintro e w3 ⟨rfl, hb3⟩
        obtain ⟨y0, y1, y2, y3, y4, y5, y6, y7, y8, y9, y10, y11⟩ := Y2.below hb3 (by omega)
        go_wp2_with fail
        go_ret
        exact ⟨ret_bool (by unfold Ka.tfits; rw [all_no hlt HQ.out]; rfl), b2.trans (hb3.mono (by omega))⟩
      · rw [q1] at hc1
        have HQ1 := Lib.hid q1
        clear q1
        (with_reducible refine hc1.mono ?_)
        clear hc1
        rintro e w3 ⟨rfl, hb3⟩
        have b3 := b2.trans (hb3.mono (by omega))
        obtain ⟨y0, y1, y2, y3, y4, y5, y6, y7, y8, y9, y10, y11⟩ := Y2.below hb3 (by omega)
        by_cases h0 : l[j].a.dep < 0
        · have HQ : Hid (Ka.okV l[j] = false) := by show _ = _; rw [HM.out, HQ1.out, decide_eq_false (by omega : ¬ 0 ≤ l[j].a.dep)]; rfl
          go_wp2_with fail
          go_ret
          exact ⟨ret_bool (by unfold Ka.tfits; rw [all_no hlt HQ.out]; rfl), b3⟩
        · have HQ : Hid (Ka.okV l[j] = true) := by show _ = _; rw [HM.out, HQ1.out, decide_eq_true (by omega : 0 ≤ l[j].a.dep)]; rfl
          go_wp2_with fail
          go_roundw
          case rel => exact ⟨j + 1, by omega, by go_num, all_take hlt HN.out HQ.out, hbW.trans (hb3.mono (by omega))⟩
          case measure => simp [intOf]; omega
    · have hj' : j = l.length := by omega
      subst hj'
      have HA : Hid (l.all Ka.okV = true) := all_yes (by have := HN.out; rwa [List.take_length] at this)
      have HF : Hid (Ka.tfits l d = (d.isS && S.fitsM (Ka.mdep l) d 0)) := by show _ = _; unfold Ka.tfits; rw [HA.out]; rfl
      have X1 := X0.below hb (by omega)
      have hd2 := hd.below (b1.mono hB)
      have hc := specIsS_any d B wr hd2 (by omega) hds
      unfold S.val at hc
      have X1q := X1
      obtain ⟨x0, x1, x2, x3, x4⟩ := X1q
      go_wp2_with fail
      clear x0 x1 x2 x3 x4
      cases q1 : d.isS
      · rw [q1] at hc
        have HQ := Lib.hid q1
        clear q1
        (with_reducible refine hc.mono ?_)
        clear hc
        rintro e w2 ⟨rfl, hb2⟩
        go_wp2_with fail
        go_ret
        exact ⟨ret_bool (by rw [HF.out, HQ.out]; rfl), b1.trans (hb2.mono (by omega))⟩
      · rw [q1] at hc
        have HQ := Lib.hid q1
        clear q1
        (with_reducible refine hc.mono ?_)
        clear hc
        rintro e w2 ⟨rfl, hb2⟩
        have z2 := hb2.size
        have b2 := b1.trans (hb2.mono (by omega))
        obtain ⟨x0, x1, x2, x3, x4⟩ := X1.below hb2 (by omega)
        have hc2 := l4Fits_any A c l hbk d.size d B w2 0 (Nat.le_refl _) (by omega) (by omega) (ha.below (b2.mono hB)) (hd.below (b2.mono hB)) (by omega)
        unfold S.val at hc2
        obtain ⟨V, hV⟩ : ∃ V, V = S.fitsM (Ka.mdep l) d 0 := ⟨_, rfl⟩
        rw [← hV] at hc2
        have HV := Lib.hid hV
        clear hV
        go_wp2_with fail
        (with_reducible refine hc2.mono ?_)
        clear hc2
        rintro e w3 ⟨rfl, hb3⟩
        go_wp2_with fail
        go_ret
        exact ⟨ret_bool (by rw [HF.out, HQ.out, HV.out]; rfl), b2.trans (hb3.mono (by omega))⟩
end Go.Proofs.YtnldlbglgalbaabGreat
