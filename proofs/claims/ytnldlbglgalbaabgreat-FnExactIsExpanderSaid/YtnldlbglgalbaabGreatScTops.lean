/-
  Sets of scopes: the model's exported functions, and the program's HasScope and IsSubset.
-/
import Derived.Test.YtnldlbglgalbaabGreatScSets
import Derived.Test.YtnldlbglgalbaabGreatShelf
import Derived.Lib.Slices
import Derived.Deep.RegionLaw
import Derived.Shelf.SlicesE.DeleteFunc
namespace Go.Proofs.YtnldlbglgalbaabGreat
open Go.RowKit

def withL (n : Int) (l : List Int) : List Int := if isSetI l = true ∧ kindI n ≠ 0 then putL n l else l
def flipL (n : Int) (l : List Int) : List Int := if isSetI l = true ∧ kindI n ≠ 0 then (if l.contains n then cutL n l else putL n l) else l
def dropL (l : List Int) : List Int := if isSetI l = true then nousesL l else l
def subTop (a b : List Int) : Bool := isSetI a && (isSetI b && subL a b)

theorem igetD {w : World} {B : Nat} {b o c : Nat} {l : List Int} (h : IIn w B (some ⟨b, o, none⟩) c l) : ∀ j, j < l.length → w.cell? ⟨b, o + j, none⟩ = some (.int .i64 (l.getD j 0)) := by
  intro j hj
  obtain ⟨b', o', e, _, hc⟩ := h.at_ hj
  obtain ⟨rfl, rfl, _⟩ := Addr.mk.inj (Option.some.inj e)
  rw [hc]
  simp [hj]
theorem specHasB_any (A : Option Addr) (c : Nat) (l : List Int) (n : Int) (B : Nat) (w : World) (hin : IIn w B A c l) :
    Calls Tryz.prog 146 #[.slice A l.length c, .int .i64 n] w fun e w' => e = .returned (.bool (l.contains n)) ∧ Below w.heap.size w w' :=
  (specHas_any A c l n B w hin).mono fun e w' ⟨h1, h2⟩ => ⟨h1, by rw [h2]; exact Below.refl _ _⟩
end Go.Proofs.YtnldlbglgalbaabGreat

namespace Go.Proofs.YtnldlbglgalbaabGreat
open Go.RowKit

theorem set_sorted {l : List Int} (h : isSetI l = true) : l.Pairwise (· < ·) := (setFrom_pairwise l 0 h).1
theorem set_range {l : List Int} (h : isSetI l = true) {x : Int} (hx : x ∈ l) : 1 ≤ x ∧ x ≤ 99999 := by
  have := (setFrom_pairwise l 0 h).2 x hx
  omega
theorem set_le {l : List Int} (h : isSetI l = true) : l.Pairwise (· ≤ ·) := (set_sorted h).imp (fun h => Int.le_of_lt h)
theorem set_kind {l : List Int} (h : isSetI l = true) {x : Int} (hx : x ∈ l) : kindI x ≠ 0 := fun e => kindI_zero.1 e (set_range h hx)

theorem putL_mem (n : Int) : ∀ l : List Int, l.Pairwise (· < ·) → n ∈ l → putL n l = l := by
  intro l
  induction l with
  | nil => intro _ h; cases h
  | cons x r ih =>
    intro hp hm
    obtain ⟨h1, h2⟩ := List.pairwise_cons.1 hp
    rcases List.mem_cons.1 hm with rfl | hm
    · rw [putL, if_pos (by omega), if_neg (by omega)]
    · have := h1 n hm
      rw [putL, if_neg (by omega), ih h2 hm]
theorem putL_new (n : Int) : ∀ l : List Int, l.Pairwise (· < ·) → n ∉ l → putL n l = l.take (l.countP (· < n)) ++ n :: l.drop (l.countP (· < n)) := by
  intro l
  induction l with
  | nil => intro _ _; rfl
  | cons x r ih =>
    intro hp hm
    obtain ⟨h1, h2⟩ := List.pairwise_cons.1 hp
    have hx : n ≠ x := fun e => hm (by simp [e])
    by_cases hle : n ≤ x
    · have hz : (x :: r).countP (· < n) = 0 := by
        rw [List.countP_eq_zero]
        intro y hy
        rcases List.mem_cons.1 hy with rfl | hy
        · simp; omega
        · have := h1 y hy
          simp; omega
      rw [hz, putL, if_pos hle, if_pos (by omega)]
      rfl
    · have hc : (x :: r).countP (· < n) = r.countP (· < n) + 1 := by
        rw [List.countP_cons_of_pos]
        simp; omega
      rw [hc, putL, if_neg hle, ih h2 (fun h => hm (by simp [h]))]
      simp
theorem putL_length (n : Int) : ∀ l : List Int, (putL n l).length ≤ l.length + 1 := by
  intro l
  induction l with
  | nil => simp [putL]
  | cons x r ih =>
    rw [putL]
    split
    · split <;> simp
    · simp; omega
theorem withL_length (n : Int) (l : List Int) : (withL n l).length ≤ l.length + 1 := by
  unfold withL
  split
  · exact putL_length n l
  · omega
theorem flipL_length (n : Int) (l : List Int) : (flipL n l).length ≤ l.length + 1 := by
  unfold flipL
  split
  · split
    · have := List.length_filter_le (fun x => !(x == n)) l
      unfold cutL
      omega
    · exact putL_length n l
  · omega
theorem dropL_length (l : List Int) : (dropL l).length ≤ l.length := by
  unfold dropL
  split
  · exact List.length_filter_le _ _
  · omega

theorem cutL_none (n : Int) : ∀ l : List Int, n ∉ l → cutL n l = l := by
  intro l h
  unfold cutL
  rw [List.filter_eq_self]
  intro x hx
  simp
  rintro rfl
  exact h hx
theorem cutL_at (n : Int) (k : Nat) : ∀ l : List Int, l.Pairwise (· < ·) → l[k]? = some n → cutL n l = l.take k ++ l.drop (k + 1) := by
  induction k with
  | zero =>
    intro l hp hk
    cases l with
    | nil => simp at hk
    | cons x r =>
      simp at hk
      subst hk
      obtain ⟨h1, _⟩ := List.pairwise_cons.1 hp
      have hn : x ∉ r := fun h => by have := h1 x h; omega
      show cutL x (x :: r) = [] ++ r
      unfold cutL
      rw [List.filter_cons_of_neg (by simp)]
      exact cutL_none x r hn
  | succ k ih =>
    intro l hp hk
    cases l with
    | nil => simp at hk
    | cons x r =>
      simp at hk
      obtain ⟨h1, h2⟩ := List.pairwise_cons.1 hp
      have hlt := h1 n (List.mem_of_getElem? hk)
      have := ih r h2 hk
      unfold cutL at this ⊢
      rw [List.filter_cons_of_pos (by simp; omega), this]
      simp
theorem idx_spec (l : List Int) (n : Int) (h : n ∈ l) : ∃ k : Nat, Lib.idxOf l n = k ∧ l[k]? = some n ∧ k < l.length := by
  obtain ⟨k, hk, hkn, hmin⟩ : ∃ k, k < l.length ∧ l.getD k 0 = n ∧ ∀ j, j < k → l.getD j 0 ≠ n := by
    induction l with
    | nil => cases h
    | cons x r ih =>
      by_cases hx : x = n
      · exact ⟨0, by simp, by simp [hx], fun j hj => absurd hj (Nat.not_lt_zero _)⟩
      · have hr : n ∈ r := by
          rcases List.mem_cons.1 h with rfl | h
          · exact absurd rfl hx
          · exact h
        obtain ⟨k, h1, h2, h3⟩ := ih hr
        refine ⟨k + 1, by simp; omega, by simpa using h2, fun j hj => ?_⟩
        cases j with
        | zero => simpa using hx
        | succ j => simpa using h3 j (by omega)
  refine ⟨k, ?_, ?_, hk⟩
  · have := Lib.idxOf_hit l l.length k n hk (Nat.le_refl _) hkn hmin
    rwa [List.take_length] at this
  · rw [List.getElem?_eq_getElem hk]
    simp [hk] at hkn
    rw [hkn]
end Go.Proofs.YtnldlbglgalbaabGreat

namespace Go.Proofs.YtnldlbglgalbaabGreat
open Go.RowKit

/-- A row of ints by its place. -/
structure IR where
  A : Option Addr
  c : Nat
  l : List Int
def IR.val (r : IR) : Value := .slice r.A r.l.length r.c
def catR (rs : List IR) : List Int := rs.flatMap IR.l
theorem catR_append (a b : List IR) : catR (a ++ b) = catR a ++ catR b := by simp [catR]
theorem catR_le (rs : List IR) (j : Nat) : (catR (rs.take j)).length ≤ (catR rs).length := by
  have : catR rs = catR (rs.take j) ++ catR (rs.drop j) := by rw [← catR_append, List.take_append_drop]
  rw [this, List.length_append]
  omega

end Go.Proofs.YtnldlbglgalbaabGreat

namespace Go.Proofs.YtnldlbglgalbaabGreat
open Go.RowKit

theorem IIn.takes {w : World} {B : Nat} {A : Option Addr} {c : Nat} {l : List Int} (h : IIn w B A c l) (k : Nat) : IIn w B A c (l.take k) := by
  refine ⟨⟨by rw [List.length_take]; have := h.cap; omega, h.cap.2⟩, h.nil, fun hne => ?_⟩
  obtain ⟨b, o, e, hb, hc⟩ := h.mem (by rintro rfl; simp at hne)
  refine ⟨b, o, e, hb, fun j u hu => hc j u ?_⟩
  rw [List.getElem?_take] at hu
  split at hu
  · exact hu
  · cases hu
theorem IIn.drops {w : World} {B : Nat} {A : Option Addr} {c : Nat} {l : List Int} (h : IIn w B A c l) (k : Nat) : IIn w B (if c = k then A else Option.map (fun x => x.add k) A) (c - k) (l.drop k) := by
  have hcap := h.cap
  refine ⟨⟨by rw [List.length_drop]; omega, by omega⟩, fun e => ?_, fun hne => ?_⟩
  · have : A = none := by
      split at e
      · exact e
      · simpa using e
    rw [h.nil this, Nat.zero_sub]
  · have hlt : k < l.length := by
      rcases Nat.lt_or_ge k l.length with h1 | h1
      · exact h1
      · rw [List.drop_eq_nil_of_le h1] at hne; exact absurd rfl hne
    obtain ⟨b, o, rfl, hb, hc⟩ := h.mem (by rintro rfl; simp at hlt)
    have e : (⟨b, o, none⟩ : Addr).add k = ⟨b, o + k, none⟩ := by unfold Addr.add; split <;> simp_all
    refine ⟨b, o + k, by rw [if_neg (by omega), Option.map_some, e], hb, fun j u hu => ?_⟩
    rw [Nat.add_assoc]
    rw [List.getElem?_drop] at hu
    exact hc (k + j) u hu
end Go.Proofs.YtnldlbglgalbaabGreat

namespace Go.Proofs.YtnldlbglgalbaabGreat
open Go.RowKit Go.Lib Go.Sort Go.Shelf

end Go.Proofs.YtnldlbglgalbaabGreat
