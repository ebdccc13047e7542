/-
  Numerals of numbers up to MaxNumber: read and written. Nothing of the program.
-/
import Derived.Lib.ItoaNum
import Derived.Lib.AtoiAll
namespace Go.Proofs.YtikjipkhebedfaaDoor
open Go

def isD (b : UInt8) : Bool := decide (48 ≤ b.toNat ∧ b.toNat ≤ 57)
/-- What digits spell. -/
def dval (l : List UInt8) : Nat := l.foldl (fun a b => 10 * a + (b.toNat - 48)) 0
theorem dval_snoc (l : List UInt8) (b : UInt8) : dval (l ++ [b]) = 10 * dval l + (b.toNat - 48) := by unfold dval; rw [List.foldl_append]; rfl
theorem dig_toNat {d : Nat} (h : d < 10) : (UInt8.ofNat (48 + d)).toNat = 48 + d := by rw [UInt8.toNat_ofNat', Nat.mod_eq_of_lt (by omega)]
theorem isD_dig {d : Nat} (h : d < 10) : isD (UInt8.ofNat (48 + d)) = true := by unfold isD; rw [dig_toNat h]; simp; omega

theorem decDigits_rec (u : Nat) : Lib.decDigits u = if u < 10 then [UInt8.ofNat (48 + u)] else Lib.decDigits (u / 10) ++ [UInt8.ofNat (48 + u % 10)] := by
  rw [Lib.decDigits]; split <;> rfl
theorem dec_all : ∀ (m u : Nat), u < m → (Lib.decDigits u).all isD = true ∧ dval (Lib.decDigits u) = u ∧ Lib.decDigits u ≠ []
  | 0, u, h => by omega
  | m + 1, u, h => by
    rw [decDigits_rec]
    by_cases hu : u < 10
    · rw [if_pos hu]
      refine ⟨by simp only [List.all_cons, List.all_nil, isD_dig hu, Bool.and_true], ?_, List.cons_ne_nil _ _⟩
      show 10 * 0 + ((UInt8.ofNat (48 + u)).toNat - 48) = u
      rw [dig_toNat hu]; omega
    · rw [if_neg hu]
      obtain ⟨h1, h2, h3⟩ := dec_all m (u / 10) (by omega)
      have hd : u % 10 < 10 := Nat.mod_lt _ (by omega)
      refine ⟨by rw [List.all_append, h1, List.all_cons, List.all_nil, isD_dig hd]; rfl, ?_, by simp⟩
      rw [dval_snoc, h2, dig_toNat hd]; omega
theorem dec_D (u : Nat) : (Lib.decDigits u).all isD = true := (dec_all (u + 1) u (Nat.lt_succ_self u)).1
theorem dec_val (u : Nat) : dval (Lib.decDigits u) = u := (dec_all (u + 1) u (Nat.lt_succ_self u)).2.1
theorem dec_ne (u : Nat) : Lib.decDigits u ≠ [] := (dec_all (u + 1) u (Nat.lt_succ_self u)).2.2
theorem dec_len : ∀ (k u : Nat), u < 10 ^ (k + 1) → (Lib.decDigits u).length ≤ k + 1
  | 0, u, h => by
    rw [decDigits_rec, if_pos (by simpa using h)]; simp
  | k + 1, u, h => by
    rw [decDigits_rec]
    split
    · simp
    · rw [List.length_append]
      have := dec_len k (u / 10) (by rw [Nat.pow_succ] at h; omega)
      simp; omega
theorem fold_lt : ∀ (l : List UInt8) (acc : Nat), l.all isD = true → l.foldl (fun a b => 10 * a + (b.toNat - 48)) acc < (acc + 1) * 10 ^ l.length
  | [], acc, _ => by simp
  | c :: r, acc, h => by
    simp only [List.all_cons, Bool.and_eq_true] at h
    have hc := h.1
    unfold isD at hc
    simp only [decide_eq_true_eq] at hc
    have h1 := fold_lt r (10 * acc + (c.toNat - 48)) h.2
    have h2 : (10 * acc + (c.toNat - 48) + 1) * 10 ^ r.length ≤ (10 * (acc + 1)) * 10 ^ r.length := Nat.mul_le_mul_right _ (by omega)
    have h3 : (10 * (acc + 1)) * 10 ^ r.length = (acc + 1) * 10 ^ (c :: r).length := by rw [List.length_cons, Nat.pow_succ, Nat.mul_comm 10, Nat.mul_assoc, Nat.mul_comm 10]
    rw [List.foldl_cons]
    omega
theorem dval_lt (l : List UInt8) (h : l.all isD = true) : dval l < 10 ^ l.length := by
  have := fold_lt l 0 h
  rw [Nat.zero_add, Nat.one_mul] at this
  exact this
theorem dval_take {l : List UInt8} {j : Nat} (h : j < l.length) : dval (l.take (j + 1)) = 10 * dval (l.take j) + (l[j].toNat - 48) := by
  rw [List.take_succ_eq_append_getElem h, dval_snoc]

/-- The number that a text spells, if the text is its numeral and it is at most MaxNumber. -/
def magOf (l : List UInt8) : List UInt8 := if l.head? = some 45 then l.tail else l
def numOf (l : List UInt8) : Int := if l.head? = some 45 then -(dval l.tail : Int) else dval l
def readB (l : List UInt8) : Bool := decide (1 ≤ (magOf l).length ∧ (magOf l).length ≤ 9) && ((magOf l).all isD && (Lib.itoa (numOf l) == l))
def readN (l : List UInt8) : Int := if readB l then numOf l else 0

theorem dec_head (u : Nat) : (Lib.decDigits u).head? ≠ some 45 := by
  intro h
  have h1 := dec_D u
  cases hd : Lib.decDigits u with
  | nil => exact dec_ne u hd
  | cons b r =>
    rw [hd] at h h1
    simp only [List.head?_cons, Option.some.injEq] at h
    subst h
    simp [isD] at h1
/-- What a small number's numeral is. -/
theorem read_itoa {n : Int} (h0 : -999999999 ≤ n) (h1 : n ≤ 999999999) : readB (Lib.itoa n) = true ∧ numOf (Lib.itoa n) = n := by
  have key : ∀ u : Nat, u ≤ 999999999 → 1 ≤ (Lib.decDigits u).length ∧ (Lib.decDigits u).length ≤ 9 := fun u hu => by
    have := dec_len 8 u (by omega)
    have hn := dec_ne u
    have : (Lib.decDigits u).length ≠ 0 := by rwa [Ne, List.length_eq_zero_iff]
    omega
  have hnum : numOf (Lib.itoa n) = n := by
    unfold numOf Lib.itoa
    by_cases hn : n < 0
    · rw [if_pos hn]; simp [dec_val]; omega
    · rw [if_neg hn, if_neg (dec_head _), dec_val]; omega
  refine ⟨?_, hnum⟩
  unfold readB
  rw [hnum]
  have hm : magOf (Lib.itoa n) = Lib.decDigits n.natAbs := by
    unfold magOf Lib.itoa
    by_cases hn : n < 0
    · rw [if_pos hn]; simp
    · rw [if_neg hn, if_neg (dec_head _)]; congr 1; omega
  rw [hm, dec_D]
  have := key n.natAbs (by omega)
  simp [this]
theorem read_bound {l : List UInt8} (h : readB l = true) : -999999999 ≤ numOf l ∧ numOf l ≤ 999999999 ∧ Lib.itoa (numOf l) = l := by
  unfold readB at h
  simp only [Bool.and_eq_true, decide_eq_true_eq, beq_iff_eq] at h
  obtain ⟨⟨h1, h2⟩, h3, h4⟩ := h
  have h5 := dval_lt _ h3
  have h6 : 10 ^ (magOf l).length ≤ 10 ^ 9 := Nat.pow_le_pow_right (by omega) h2
  have h7 : dval (magOf l) < 1000000000 := Nat.lt_of_lt_of_le h5 h6
  unfold magOf at h7
  refine ⟨?_, ?_, h4⟩ <;> (unfold numOf; split at h7 <;> rename_i hh <;> simp only [hh, if_true, if_false, reduceCtorEq] <;> omega)
/-- The library's parse of a small number's numeral. -/
theorem parse_digits : ∀ (l : List UInt8) (acc : Nat), l.all isD = true → (acc + 1) * 10 ^ l.length ≤ 1844674407370955162 → Lib.parseUint10 acc l = .ok (l.foldl (fun a b => 10 * a + (b.toNat - 48)) acc)
  | [], acc, _, _ => rfl
  | c :: r, acc, h, hb => by
    simp only [List.all_cons, Bool.and_eq_true] at h
    have hc := h.1
    unfold isD at hc
    simp only [decide_eq_true_eq] at hc
    simp only [List.length_cons, Nat.pow_succ] at hb
    have hp : 1 ≤ 10 ^ r.length := Nat.one_le_pow _ _ (by omega)
    have e : (acc + 1) * (10 ^ r.length * 10) = ((acc + 1) * 10) * 10 ^ r.length := by rw [Nat.mul_comm (10 ^ r.length) 10, Nat.mul_assoc]
    rw [e] at hb
    have hle : (acc + 1) * 10 ≤ ((acc + 1) * 10) * 10 ^ r.length := Nat.le_mul_of_pos_right _ (by omega)
    have hstep : (acc * 10 + (c.toNat - 48) + 1) * 10 ^ r.length ≤ ((acc + 1) * 10) * 10 ^ r.length := Nat.mul_le_mul_right _ (by omega)
    rw [Lib.parseUint10, if_pos hc, if_neg (by omega), if_neg (by omega), parse_digits r _ h.2 (by omega), List.foldl_cons, Nat.mul_comm 10 acc]
theorem atoi_read {l : List UInt8} (h : readB l = true) : Lib.atoiAll l = .ok (numOf l) := by
  have hb := read_bound h
  unfold readB at h
  simp only [Bool.and_eq_true, decide_eq_true_eq, beq_iff_eq] at h
  obtain ⟨⟨h1, h2⟩, h3, h4⟩ := h
  have h6 : 10 ^ (magOf l).length ≤ 10 ^ 9 := Nat.pow_le_pow_right (by omega) h2
  have hmag : Lib.parseMag (magOf l) = .ok (dval (magOf l)) := by
    unfold Lib.parseMag
    rw [if_neg (by intro e; rw [e] at h1; simp at h1)]
    exact parse_digits _ 0 h3 (by omega)
  have h5 := dval_lt _ h3
  cases l with
  | nil => simp [magOf] at h1
  | cons c r =>
    by_cases hc : c = 45
    · subst hc
      have e : magOf (45 :: r) = r := by simp [magOf]
      have e2 : numOf (45 :: r) = -(dval r : Int) := by simp [numOf]
      rw [e] at hmag h5 h6
      rw [e2]
      unfold Lib.atoiAll
      simp [hmag]
      omega
    · have e : magOf (c :: r) = c :: r := by simp [magOf, hc]
      have e2 : numOf (c :: r) = (dval (c :: r) : Int) := by simp [numOf, hc]
      rw [e] at hmag h5 h6 h3
      rw [e2]
      have hd : isD c = true := by simp only [List.all_cons, Bool.and_eq_true] at h3; exact h3.1
      unfold isD at hd
      simp only [decide_eq_true_eq] at hd
      have n1 : ¬ (c.toNat = 43 ∨ c.toNat = 45) := by omega
      have n2 : ¬ c.toNat = 45 := by omega
      have h7 : dval (c :: r) < 1000000000 := Nat.lt_of_lt_of_le h5 h6
      have n3 : ¬ (¬ c.toNat = 45 ∧ 9223372036854775808 ≤ dval (c :: r)) := by omega
      have n4 : ¬ (c.toNat = 45 ∧ 9223372036854775808 < dval (c :: r)) := by omega
      unfold Lib.atoiAll
      simp only [if_neg n1, hmag, if_neg n3, if_neg n4, if_neg n2]
end Go.Proofs.YtikjipkhebedfaaDoor
