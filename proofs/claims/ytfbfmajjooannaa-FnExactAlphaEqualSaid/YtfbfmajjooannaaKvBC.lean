/-
  Terms that are the same up to the names of their binders: with indices into the binders on the way, and with the binders numbered anew. Nothing of the program.
-/
import Derived.Test.YtfbfmajjooannaaKoFree
import Derived.Test.YtfbfmajjooannaaKvVal
import Derived.Test.YtfbfmajjooannaaInts
namespace Go.Proofs.Ytfbfmajjooannaa
open Go.RowKit

/-- The last place of n, or -1. -/
def lookL : List Int → Int → Int
  | [], _ => -1
  | x :: r, n => if 0 ≤ lookL r n then lookL r n + 1 else if x = n then 0 else -1
theorem lookL_ge (l : List Int) (n : Int) : -1 ≤ lookL l n := by
  induction l with
  | nil => simp [lookL]
  | cons x r ih => unfold lookL; split <;> (try split) <;> omega
theorem lookL_mem (l : List Int) (n : Int) : 0 ≤ lookL l n ↔ n ∈ l := by
  induction l with
  | nil => simp [lookL]
  | cons x r ih =>
    unfold lookL
    rw [List.mem_cons, ← ih]
    split
    · next h => constructor
                · exact fun _ => .inr h
                · intro _; omega
    · next h =>
      split
      · next h2 => simp [h2]
      · next h2 => constructor
                   · intro h3; omega
                   · rintro (h3 | h3)
                     · exact absurd h3.symm h2
                     · exact absurd h3 h
/-- Where the images are the same and all differ, so are the places. -/
theorem lookL_same {f g : Int → Int} : ∀ {xs ys : List Int}, xs.map f = ys.map g → (xs.map f).Nodup → ∀ {n m : Int}, n ∈ xs → m ∈ ys → (lookL xs n = lookL ys m ↔ f n = g m) := by
  intro xs
  induction xs with
  | nil => intro ys _ _ n m hn; simp at hn
  | cons x r ih =>
    intro ys hm hd n m hn hy
    cases ys with
    | nil => simp at hy
    | cons y t =>
      simp only [List.map_cons, List.cons.injEq] at hm
      simp only [List.map_cons, List.nodup_cons] at hd
      have k1 := lookL_mem r n
      have k2 := lookL_mem t m
      have j1 := lookL_ge r n
      have j2 := lookL_ge t m
      by_cases h1 : n ∈ r
      · by_cases h2 : m ∈ t
        · have := ih hm.2 hd.2 h1 h2
          unfold lookL
          rw [if_pos (k1.2 h1), if_pos (k2.2 h2), ← this]
          omega
        · have hmy : m = y := by rcases List.mem_cons.1 hy with h | h; exact h; exact absurd h h2
          have a1 := k1.2 h1
          have a2 : ¬ 0 ≤ lookL t m := fun h => h2 (k2.1 h)
          unfold lookL
          rw [if_pos a1, if_neg a2, if_pos hmy.symm]
          constructor
          · intro h; omega
          · intro h
            have : f n ∈ r.map f := List.mem_map.2 ⟨n, h1, rfl⟩
            rw [h, hmy, ← hm.1] at this
            exact absurd this hd.1
      · have hnx : n = x := by rcases List.mem_cons.1 hn with h | h; exact h; exact absurd h h1
        have a1 : ¬ 0 ≤ lookL r n := fun h => h1 (k1.1 h)
        by_cases h2 : m ∈ t
        · have a2 := k2.2 h2
          unfold lookL
          rw [if_neg a1, if_pos hnx.symm, if_pos a2]
          constructor
          · intro h; omega
          · intro h
            have : g m ∈ t.map g := List.mem_map.2 ⟨m, h2, rfl⟩
            rw [← h, hnx, ← hm.2] at this
            exact absurd this hd.1
        · have hmy : m = y := by rcases List.mem_cons.1 hy with h | h; exact h; exact absurd h h2
          have a2 : ¬ 0 ≤ lookL t m := fun h => h2 (k2.1 h)
          unfold lookL
          rw [if_neg a1, if_pos hnx.symm, if_neg a2, if_pos hmy.symm, hnx, hmy, hm.1]
          simp

/-- o, o + 1, .. -/
def seqI (o : Int) : Nat → List Int | 0 => [] | n + 1 => o :: seqI (o + 1) n
theorem seqI_append (m : Nat) : ∀ (o : Int) (n : Nat), seqI o (m + n) = seqI o m ++ seqI (o + m) n := by
  induction m with
  | zero => intro o n; simp [seqI]
  | succ m ih => intro o n; rw [show m + 1 + n = (m + n) + 1 by omega]; simp only [seqI, ih, List.cons_append]; rw [show o + 1 + (m : Int) = o + ((m + 1 : Nat) : Int) by omega]
theorem seqI_length (n : Nat) : ∀ o : Int, (seqI o n).length = n := by
  induction n with
  | zero => intro o; rfl
  | succ n ih => intro o; simp [seqI, ih]
theorem seqI_mem {n : Nat} : ∀ {o x : Int}, x ∈ seqI o n → o ≤ x ∧ x < o + n := by
  induction n with
  | zero => intro o x h; simp [seqI] at h
  | succ n ih =>
    intro o x h
    rcases List.mem_cons.1 h with h | h
    · omega
    · have := ih h; omega
theorem seqI_nodup (n : Nat) : ∀ o : Int, (seqI o n).Nodup := by
  induction n with
  | zero => intro o; simp [seqI]
  | succ n ih => intro o; exact List.nodup_cons.2 ⟨fun h => by have := seqI_mem h; omega, ih _⟩

def Ko.ren (f : Int → Int) (a : Ko) : Ko := ⟨a.k, if a.isVar then f a.n else a.n, none, 0, a.s.map f, a.d⟩
/-- What the two nodes' numbers ask. -/
def Ko.alphaN (a b : Ko) (xs ys : List Int) : Bool := if a.isVar then decide (lookL xs a.n = lookL ys b.n) && (decide (0 ≤ lookL xs a.n) || decide (a.n = b.n)) else decide (a.n = b.n)
namespace Tr
mutual
def ren (f : Int → Int) : Tr Ko → Tr Ko | .mk a _ _ l => .mk (a.ren f) none 0 (renL f l)
def renL (f : Int → Int) : List (Tr Ko) → List (Tr Ko) | [] => [] | d :: r => ren f d :: renL f r
end
mutual
def binders : Tr Ko → List Int | .mk a _ _ l => a.s ++ bindersL l
def bindersL : List (Tr Ko) → List Int | [] => [] | d :: r => binders d ++ bindersL r
end
mutual
def alphaB : Tr Ko → Tr Ko → List Int → List Int → Bool
  | .mk a _ _ l, .mk b _ _ m, xs, ys => (decide (a.k = b.k) && (decide (a.s.length = b.s.length) && (decide (l.length = m.length) && D.eqB a.d b.d))) && (a.alphaN b xs ys && alphaL l m (xs ++ a.s) (ys ++ b.s))
def alphaL : List (Tr Ko) → List (Tr Ko) → List Int → List Int → Bool
  | [], [], _, _ => true
  | [], _ :: _, _, _ => false
  | _ :: _, [], _, _ => false
  | d :: r, e :: t, xs, ys => alphaB d e xs ys && alphaL r t xs ys
end
mutual
/-- Each variable is bound on the way, or stays as it is and is small. -/
def known (f : Int → Int) : Tr Ko → List Int → Prop
  | .mk a _ _ l, xs => (a.isVar = true → a.n ∈ xs ∨ (f a.n = a.n ∧ a.n < 100000)) ∧ knownL f l (xs ++ a.s)
def knownL (f : Int → Int) : List (Tr Ko) → List Int → Prop | [], _ => True | d :: r, xs => known f d xs ∧ knownL f r xs
end
mutual
theorem alphaB_len : ∀ (d e : Tr Ko) (xs ys : List Int), alphaB d e xs ys = true → (binders d).length = (binders e).length
  | .mk a _ _ l, .mk b _ _ m => fun xs ys h => by
    simp only [alphaB, Bool.and_eq_true, decide_eq_true_eq] at h
    simp only [binders, List.length_append, h.1.2.1, alphaL_len l m _ _ h.2.2]
theorem alphaL_len : ∀ (l m : List (Tr Ko)) (xs ys : List Int), alphaL l m xs ys = true → (bindersL l).length = (bindersL m).length
  | [], [] => fun _ _ _ => rfl
  | [], _ :: _ => fun _ _ h => by simp [alphaL] at h
  | _ :: _, [] => fun _ _ h => by simp [alphaL] at h
  | d :: r, e :: t => fun xs ys h => by
    simp only [alphaL, Bool.and_eq_true] at h
    simp only [bindersL, List.length_append, alphaB_len d e _ _ h.1, alphaL_len r t _ _ h.2]
end
end Tr
theorem alphaN_ren {f g : Int → Int} {a b : Ko} {xs ys : List Int} (hk : a.k = b.k) (hm : xs.map f = ys.map g) (hd : (xs.map f).Nodup) (hb : ∀ x ∈ xs.map f, 100000 ≤ x)
    (ha : a.isVar = true → a.n ∈ xs ∨ (f a.n = a.n ∧ a.n < 100000)) (hbk : b.isVar = true → b.n ∈ ys ∨ (g b.n = b.n ∧ b.n < 100000)) :
    a.alphaN b xs ys = ((if a.isVar then f a.n else a.n) == (if b.isVar then g b.n else b.n)) := by
  have hv : b.isVar = a.isVar := by unfold Ko.isVar; rw [hk]
  unfold Ko.alphaN
  rw [hv]
  rw [hv] at hbk
  cases ea : a.isVar
  · rw [Bool.eq_iff_iff]; simp
  · have h1 := ha ea
    have h2 := hbk ea
    have k1 := lookL_mem xs a.n
    have k2 := lookL_mem ys b.n
    have j1 := lookL_ge xs a.n
    have j2 := lookL_ge ys b.n
    have b1 : a.n ∈ xs → 100000 ≤ f a.n := fun h => hb _ (List.mem_map.2 ⟨_, h, rfl⟩)
    have b2 : b.n ∈ ys → 100000 ≤ g b.n := fun h => hb _ (by rw [hm]; exact List.mem_map.2 ⟨_, h, rfl⟩)
    rw [Bool.eq_iff_iff]
    simp only [if_true, Bool.and_eq_true, Bool.or_eq_true, decide_eq_true_eq, beq_iff_eq]
    by_cases p1 : a.n ∈ xs
    · have a1 := k1.2 p1
      by_cases p2 : b.n ∈ ys
      · rw [lookL_same hm hd p1 p2]
        exact ⟨fun h => h.1, fun h => ⟨h, .inl a1⟩⟩
      · have a2 : ¬ 0 ≤ lookL ys b.n := fun h => p2 (k2.1 h)
        have h2 := h2.resolve_left p2
        have := b1 p1
        constructor
        · intro h; omega
        · intro h; omega
    · have a1 : ¬ 0 ≤ lookL xs a.n := fun h => p1 (k1.1 h)
      have h1 := h1.resolve_left p1
      by_cases p2 : b.n ∈ ys
      · have a2 := k2.2 p2
        have := b2 p2
        constructor
        · intro h; omega
        · intro h; omega
      · have a2 : ¬ 0 ≤ lookL ys b.n := fun h => p2 (k2.1 h)
        have h2 := h2.resolve_left p2
        constructor
        · rintro ⟨_, h | h⟩
          · exact absurd h a1
          · omega
        · intro h
          exact ⟨by omega, .inr (by omega)⟩

namespace Tr
theorem eqL_samelen (f : Ko → Ko → Bool) : ∀ (l m : List (Tr Ko)), eqL f l m = true → l.length = m.length
  | [], [] => fun _ => rfl
  | [], _ :: _ => fun h => by simp [eqL] at h
  | _ :: _, [] => fun h => by simp [eqL] at h
  | _ :: r, _ :: t => fun h => by
    simp only [eqL, Bool.and_eq_true] at h
    simp only [List.length_cons, eqL_samelen f r t h.2]
theorem renL_length (f : Int → Int) : ∀ l : List (Tr Ko), (renL f l).length = l.length
  | [] => rfl
  | _ :: r => by simp only [renL, List.length_cons, renL_length f r]
mutual
/-- The model's comparison is that of the renumbered ones. -/
theorem alphaB_ren (f g : Int → Int) : ∀ (d e : Tr Ko) (xs ys : List Int) (o : Int), 100000 ≤ o → xs.map f = ys.map g → (xs.map f).Nodup → (∀ x ∈ xs.map f, 100000 ≤ x ∧ x < o) →
    (binders d).map f = seqI o (binders d).length → (binders e).map g = seqI o (binders e).length → known f d xs → known g e ys → alphaB d e xs ys = eqB Ko.eqB (ren f d) (ren g e)
  | .mk a _ _ l, .mk b _ _ m => fun xs ys o ho hm hd hb hfd hge hkd hke => by
    simp only [known] at hkd hke
    simp only [binders, List.map_append, List.length_append, seqI_append] at hfd hge
    have hf1 := (List.append_inj hfd (by simp [seqI_length]))
    have hg1 := (List.append_inj hge (by simp [seqI_length]))
    simp only [alphaB, ren, eqB, Ko.eqB, Ko.ren]
    by_cases hk : a.k = b.k
    · have hN := alphaN_ren (a := a) (b := b) hk hm hd (fun x hx => (hb x hx).1) hkd.1 hke.1
      rw [hN]
      by_cases hs : a.s.length = b.s.length
      · have hss : a.s.map f = b.s.map g := by rw [hf1.1, hg1.1, hs]
        have hm2 : (xs ++ a.s).map f = (ys ++ b.s).map g := by simp only [List.map_append, hm, hss]
        have hd2 : ((xs ++ a.s).map f).Nodup := by
          rw [List.map_append, hf1.1]
          exact List.nodup_append.2 ⟨hd, seqI_nodup _ _, fun x hx y hy e => by have := (hb x hx).2; have := (seqI_mem hy).1; omega⟩
        have hb2 : ∀ x ∈ (xs ++ a.s).map f, 100000 ≤ x ∧ x < o + a.s.length := by
          intro x hx
          rw [List.map_append, hf1.1] at hx
          rcases List.mem_append.1 hx with h | h
          · have := hb x h; omega
          · have := seqI_mem h; omega
        have hL := alphaL_ren f g l m (xs ++ a.s) (ys ++ b.s) (o + a.s.length) (by omega) hm2 hd2 hb2 hf1.2 (by rw [hs]; exact hg1.2) hkd.2 hke.2
        rw [hL, hss]
        by_cases hl : l.length = m.length
        · simp [hk, hs, hl, Bool.and_assoc, Bool.and_comm, Bool.and_left_comm]
        · have : eqL Ko.eqB (renL f l) (renL g m) = false := by
            cases h : eqL Ko.eqB (renL f l) (renL g m) with
            | false => rfl
            | true => have := eqL_samelen _ _ _ h; rw [renL_length, renL_length] at this; exact absurd this hl
          have e2 : eqL (fun x y : Ko => x.k == y.k && (x.n == y.n && (x.s == y.s && D.eqB x.d y.d))) (renL f l) (renL g m) = false := this
          simp [this, e2]
      · have : (a.s.map f == b.s.map g) = false := by
          rw [beq_eq_false_iff_ne]
          intro h
          have := congrArg List.length h
          simp at this
          exact hs this
        simp [hs, this]
    · have : (a.k == b.k) = false := by rw [beq_eq_false_iff_ne]; exact hk
      simp [hk, this]
theorem alphaL_ren (f g : Int → Int) : ∀ (l m : List (Tr Ko)) (xs ys : List Int) (o : Int), 100000 ≤ o → xs.map f = ys.map g → (xs.map f).Nodup → (∀ x ∈ xs.map f, 100000 ≤ x ∧ x < o) →
    (bindersL l).map f = seqI o (bindersL l).length → (bindersL m).map g = seqI o (bindersL m).length → knownL f l xs → knownL g m ys → alphaL l m xs ys = eqL Ko.eqB (renL f l) (renL g m)
  | [], [] => fun _ _ _ _ _ _ _ _ _ _ _ => rfl
  | [], _ :: _ => fun _ _ _ _ _ _ _ _ _ _ _ => rfl
  | _ :: _, [] => fun _ _ _ _ _ _ _ _ _ _ _ => rfl
  | d :: r, e :: t => fun xs ys o ho hm hd hb hfd hge hkd hke => by
    simp only [knownL] at hkd hke
    simp only [bindersL, List.map_append, List.length_append, seqI_append] at hfd hge
    have hf1 := (List.append_inj hfd (by simp [seqI_length]))
    have hg1 := (List.append_inj hge (by simp [seqI_length]))
    simp only [alphaL, renL, eqL]
    rw [← alphaB_ren f g d e xs ys o ho hm hd hb hf1.1 hg1.1 hkd.1 hke.1]
    cases h : alphaB d e xs ys with
    | false => rfl
    | true =>
      have hlen := alphaB_len d e xs ys h
      rw [Bool.true_and, Bool.true_and]
      exact alphaL_ren f g r t xs ys (o + (binders d).length) (by omega) hm hd (fun x hx => by have := hb x hx; omega) hf1.2 (by rw [hlen]; exact hg1.2) hkd.2 hke.2
end
end Tr
end Go.Proofs.Ytfbfmajjooannaa

namespace Go.Proofs.Ytfbfmajjooannaa
open Go.RowKit

/-- A number's number: its place behind o, or itself. -/
def numF : Int → List Int → Int → Int | _, [], n => n | o, x :: r, n => if n = x then o else numF (o + 1) r n
theorem numF_out {n : Int} : ∀ {B : List Int} {o : Int}, n ∉ B → numF o B n = n := by
  intro B
  induction B with
  | nil => intro o _; rfl
  | cons x r ih =>
    intro o h
    simp only [List.mem_cons, not_or] at h
    unfold numF
    rw [if_neg h.1, ih h.2]
theorem numF_map : ∀ {B : List Int} {o : Int}, B.Nodup → B.map (numF o B) = seqI o B.length := by
  intro B
  induction B with
  | nil => intro o _; rfl
  | cons x r ih =>
    intro o h
    have hc := List.nodup_cons.1 h
    rw [List.map_cons, List.length_cons, seqI]
    have e1 : numF o (x :: r) x = o := by unfold numF; rw [if_pos rfl]
    have e2 : r.map (numF o (x :: r)) = r.map (numF (o + 1) r) := List.map_congr_left fun y hy => by
      have : y ≠ x := fun e => hc.1 (e ▸ hy)
      rw [show numF o (x :: r) y = if y = x then o else numF (o + 1) r y from rfl, if_neg this]
    rw [e1, e2, ih hc.2]
theorem uniqK_out {l : List Int} : ∀ {known : List Int}, uniqK known l = true → l.Nodup ∧ ∀ x ∈ l, x ∉ known ∧ 0 ≤ x ∧ x < 100000 := by
  induction l with
  | nil => intro _ _; exact ⟨List.nodup_nil, by simp⟩
  | cons n r ih =>
    intro known h
    simp only [uniqK, Bool.and_eq_true] at h
    have h2 := ih h.2
    have hr : 0 ≤ n ∧ n ≤ 99999 := of_decide_eq_true h.1.1
    have hk : n ∉ known := by
      intro hc
      have := h.1.2
      rw [List.contains_iff_mem.2 hc] at this
      simp at this
    refine ⟨List.nodup_cons.2 ⟨fun hn => (h2.2 n hn).1 (by simp), h2.1⟩, fun x hx => ?_⟩
    rcases List.mem_cons.1 hx with rfl | hx
    · exact ⟨hk, by omega, by omega⟩
    · have := h2.2 x hx
      exact ⟨fun hc => this.1 (by simp [hc]), this.2.1, this.2.2⟩
namespace Tr
mutual
theorem walk_binders : ∀ (d : Tr Ko) (s : List Int), walk Ko.bound d s = s ++ binders d
  | .mk a _ _ l => fun s => by simp only [walk, binders, Ko.bound, walkL_binders l, List.append_assoc]
theorem walkL_binders : ∀ (l : List (Tr Ko)) (s : List Int), walkL Ko.bound l s = s ++ bindersL l
  | [] => fun s => by simp only [walkL, bindersL, List.append_nil]
  | d :: r => fun s => by simp only [walkL, bindersL, walk_binders d, walkL_binders r, List.append_assoc]
end
theorem mem_addN {acc : List Int} {n x : Int} : x ∈ addN acc n ↔ x ∈ acc ∨ x = n := by
  unfold addN
  split
  · next h => exact ⟨.inl, fun h2 => h2.elim id fun e => e ▸ List.contains_iff_mem.1 h⟩
  · simp
theorem freeN_sub {a : Ko} {bd acc : List Int} {x : Int} (h : x ∈ acc) : x ∈ a.freeN bd acc := by
  unfold Ko.freeN
  split
  · exact mem_addN.2 (.inl h)
  · exact h
mutual
theorem free_sub : ∀ (d : Tr Ko) (bd acc : List Int) (x : Int), x ∈ acc → x ∈ free d bd acc
  | .mk _ _ _ l => fun bd acc x h => by rw [free]; exact freeL_sub l _ _ x (freeN_sub h)
theorem freeL_sub : ∀ (l : List (Tr Ko)) (bd acc : List Int) (x : Int), x ∈ acc → x ∈ freeL l bd acc
  | [] => fun _ _ _ h => h
  | d :: r => fun bd acc x h => by rw [freeL]; exact freeL_sub r _ _ x (free_sub d _ _ x h)
end
mutual
theorem known_free (f : Int → Int) : ∀ (d : Tr Ko) (bd acc : List Int), (∀ n ∈ free d bd acc, f n = n ∧ n < 100000) → known f d bd
  | .mk a _ _ l => fun bd acc h => by
    rw [free] at h
    rw [known]
    refine ⟨fun hv => ?_, knownL_free f l _ _ h⟩
    by_cases hm : a.n ∈ bd
    · exact .inl hm
    · refine .inr (h _ (freeL_sub l _ _ _ ?_))
      have hc : bd.contains a.n = false := by
        cases e : bd.contains a.n with
        | false => rfl
        | true => exact absurd (List.contains_iff_mem.1 e) hm
      unfold Ko.freeN
      rw [if_pos (by rw [hv, hc]; rfl)]
      exact mem_addN.2 (.inr rfl)
theorem knownL_free (f : Int → Int) : ∀ (l : List (Tr Ko)) (bd acc : List Int), (∀ n ∈ freeL l bd acc, f n = n ∧ n < 100000) → knownL f l bd
  | [] => fun _ _ _ => by rw [knownL]; trivial
  | d :: r => fun bd acc h => by
    rw [freeL] at h
    rw [knownL]
    exact ⟨known_free f d bd acc fun n hn => h n (freeL_sub r _ _ _ hn), knownL_free f r bd _ h⟩
end
theorem valid_out {d : Tr Ko} (h : d.validB = true) : (binders d).map (numF 100000 (binders d)) = seqI 100000 (binders d).length ∧ known (numF 100000 (binders d)) d [] := by
  unfold validB binds at h
  simp only [Bool.and_eq_true, walk_binders, List.nil_append] at h
  have h1 := uniqK_out h.2.1
  have h2 := uniqK_out h.2.2.2
  exact ⟨numF_map h2.1, known_free _ d [] [] fun n hn => ⟨numF_out fun hc => (h2.2 n hc).1 hn, (h1.2 n hn).2.2⟩⟩
/-- Of two valid terms: the model's answer is that of the renumbered ones. -/
theorem alpha_valid {d e : Tr Ko} (hd : d.validB = true) (he : e.validB = true) : alphaB d e [] [] = eqB Ko.eqB (ren (numF 100000 (binders d)) d) (ren (numF 100000 (binders e)) e) := by
  have h1 := valid_out hd
  have h2 := valid_out he
  exact alphaB_ren _ _ d e [] [] 100000 (by omega) rfl (by simp) (by simp) h1.1 h2.1 h1.2 h2.2
/-- AlphaEqual's answer. -/
def alpha (d e : Tr Ko) : Bool := d.validB && (e.validB && alphaB d e [] [])
theorem alpha_eq (d e : Tr Ko) : alpha d e = (d.validB && (e.validB && eqB Ko.eqB (ren (numF 100000 (binders d)) d) (ren (numF 100000 (binders e)) e))) := by
  unfold alpha
  cases hd : d.validB
  · rfl
  · cases he : e.validB
    · rfl
    · rw [alpha_valid hd he]
end Tr
end Go.Proofs.Ytfbfmajjooannaa

namespace Go.Proofs.Ytfbfmajjooannaa
open Go.RowKit

theorem lookL_no {l : List Int} {n : Int} (h : n ∉ l) : lookL l n = -1 := by
  have := lookL_mem l n
  have := lookL_ge l n
  have : ¬ 0 ≤ lookL l n := fun h2 => h ((lookL_mem l n).1 h2)
  omega
theorem lookL_at : ∀ {l : List Int} {n : Int} {i : Nat} (hi : i < l.length), l[i] = n → n ∉ l.drop (i + 1) → lookL l n = i := by
  intro l
  induction l with
  | nil => intro n i hi; simp at hi
  | cons x r ih =>
    intro n i hi he hd
    unfold lookL
    cases i with
    | zero =>
      simp only [List.getElem_cons_zero] at he
      simp only [Nat.zero_add, List.drop_succ_cons, List.drop_zero] at hd
      rw [lookL_no hd, if_neg (by omega), if_pos he]
      rfl
    | succ i =>
      simp only [List.length_cons] at hi
      have h := ih (n := n) (i := i) (by omega) (by simpa using he) (by simpa using hd)
      rw [h, if_pos (by omega)]
      omega

set_option maxHeartbeats 400000 in
theorem look_any (A : Option Addr) (c : Nat) (l : List Int) (n : Int) (B : Nat) (w : World) (hin : IIn w B A c l) (hB : B ≤ w.heap.size) :
    Calls Try.prog 107 #[.slice A l.length c, .int .i64 n] w fun e w' => e = .returned (.int .i64 (lookL l n)) ∧ Below w.heap.size w w' := by
  have hcap := hin.cap
  go_enter Try.func107, Try.ntmps107
  go_wp2_with fail
  go_loopw [5] (fun i wr => ∃ j : Nat, j ≤ l.length ∧ i = .int .i64 ((j : Int) - 1) ∧ Hid (n ∉ l.drop j) ∧ Below w.heap.size w wr) (fun i _ => (intOf i + 1).toNat)
  case atStart => exact ⟨l.length, Nat.le_refl _, by first | rfl | go_num, by show ¬ _; simp, Below.refl _ _⟩
  case round =>
    obtain ⟨j, hj, rfl, HD, hb⟩ := hrel
    cases j with
    | zero =>
      have HF : Hid (lookL l n = -1) := lookL_no (by simpa using HD.out)
      have g1 : ¬ ((0 : Nat) : Int) - 1 ≥ 0 := by omega
      go_wp2_with fail
      go_ret
      exact ⟨by rw [HF.out]; rfl, hb⟩
    | succ i =>
      have hlt : i < l.length := by omega
      have e1 : ((i + 1 : Nat) : Int) - 1 = (i : Int) := by omega
      rw [e1]
      obtain ⟨b, o, rfl, hblk, c0⟩ := (hin.below (hb.mono hB)).at_ hlt
      have g1 : (i : Int) ≥ 0 := by omega
      have g2 : (i : Int) < (l.length : Int) := by omega
      by_cases hq : l[i] = n
      · have hq1 : (l[i] == n) = true := by simpa using hq
        have HF : Hid (lookL l n = i) := lookL_at hlt hq HD.out
        clear hq
        go_wp2_with fail
        go_ret
        exact ⟨by rw [HF.out]; rfl, hb⟩
      · have hq1 : (l[i] == n) = false := by simpa using hq
        have HN : Hid (n ∉ l.drop i) := by
          show ¬ _
          rw [List.drop_eq_getElem_cons hlt]
          simp only [List.mem_cons, not_or]
          exact ⟨fun e => hq e.symm, HD.out⟩
        clear hq
        go_wp2_with fail
        refine ⟨⟨i, by omega, by go_num, HN, hb⟩, by simp [intOf]⟩
end Go.Proofs.Ytfbfmajjooannaa
