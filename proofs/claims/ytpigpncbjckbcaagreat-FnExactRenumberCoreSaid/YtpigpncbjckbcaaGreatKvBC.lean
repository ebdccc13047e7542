/-
  Terms that are the same up to the names of their binders: with indices into the binders on the way, and with the binders numbered anew. Nothing of the program.
-/
import Derived.Test.YtpigpncbjckbcaaGreatKoFree
import Derived.Test.YtpigpncbjckbcaaGreatKvVal
import Derived.Test.YtpigpncbjckbcaaGreatInts
namespace Go.Proofs.YtpigpncbjckbcaaGreat
open Go.RowKit
def lookL : List Int → Int → Int
  | [], _ => -1
  | x :: r, n => if 0 ≤ lookL r n then lookL r n + 1 else if x = n then 0 else -1
theorem lookL_ge (l : List Int) (n : Int) : -1 ≤ lookL l n := by
  induction l with
  | nil => simp [lookL]
  | cons x r ih => unfold lookL; split <;> (try split) <;> omega
theorem lookL_mem (l : List Int) (n : Int) : 0 ≤ lookL l n ↔ n ∈ l := by
  induction l with
  | nil => simp [lookL]
  | cons x r ih =>
    unfold lookL
    rw [List.mem_cons, ← ih]
    split
    · next h => constructor
                · exact fun _ => .inr h
                · intro _; omega
    · next h =>
      split
      · next h2 => simp [h2]
      · next h2 => constructor
                   · intro h3; omega
                   · rintro (h3 | h3)
                     · exact absurd h3.symm h2
                     · exact absurd h3 h
def Ko.ren (f : Int → Int) (a : Ko) : Ko := ⟨a.k, if a.isVar then f a.n else a.n, none, 0, a.s.map f, a.d⟩
namespace Tr
mutual
def ren (f : Int → Int) : Tr Ko → Tr Ko | .mk a _ _ l => .mk (a.ren f) none 0 (renL f l)
def renL (f : Int → Int) : List (Tr Ko) → List (Tr Ko) | [] => [] | d :: r => ren f d :: renL f r
end
mutual
def binders : Tr Ko → List Int | .mk a _ _ l => a.s ++ bindersL l
def bindersL : List (Tr Ko) → List Int | [] => [] | d :: r => binders d ++ bindersL r
end
mutual
def known (f : Int → Int) : Tr Ko → List Int → Prop
  | .mk a _ _ l, xs => (a.isVar = true → a.n ∈ xs ∨ (f a.n = a.n ∧ a.n < 100000)) ∧ knownL f l (xs ++ a.s)
def knownL (f : Int → Int) : List (Tr Ko) → List Int → Prop | [], _ => True | d :: r, xs => known f d xs ∧ knownL f r xs
end
end Tr
namespace Tr
end Tr
end Go.Proofs.YtpigpncbjckbcaaGreat
namespace Go.Proofs.YtpigpncbjckbcaaGreat
open Go.RowKit
def numF : Int → List Int → Int → Int | _, [], n => n | o, x :: r, n => if n = x then o else numF (o + 1) r n
theorem numF_out {n : Int} : ∀ {B : List Int} {o : Int}, n ∉ B → numF o B n = n := by
  intro B
  induction B with
  | nil => intro o _; rfl
  | cons x r ih =>
    intro o h
    simp only [List.mem_cons, not_or] at h
    unfold numF
    rw [if_neg h.1, ih h.2]
theorem uniqK_out {l : List Int} : ∀ {known : List Int}, uniqK known l = true → l.Nodup ∧ ∀ x ∈ l, x ∉ known ∧ 0 ≤ x ∧ x < 100000 := by
  induction l with
  | nil => intro _ _; exact ⟨List.nodup_nil, by simp⟩
  | cons n r ih =>
    intro known h
    simp only [uniqK, Bool.and_eq_true] at h
    have h2 := ih h.2
    have hr : 0 ≤ n ∧ n ≤ 99999 := of_decide_eq_true h.1.1
    have hk : n ∉ known := by
      intro hc
      have := h.1.2
      rw [List.contains_iff_mem.2 hc] at this
      simp at this
    refine ⟨List.nodup_cons.2 ⟨fun hn => (h2.2 n hn).1 (by simp), h2.1⟩, fun x hx => ?_⟩
    rcases List.mem_cons.1 hx with rfl | hx
    · exact ⟨hk, by omega, by omega⟩
    · have := h2.2 x hx
      exact ⟨fun hc => this.1 (by simp [hc]), this.2.1, this.2.2⟩
namespace Tr
mutual
theorem walk_binders : ∀ (d : Tr Ko) (s : List Int), walk Ko.bound d s = s ++ binders d
  | .mk a _ _ l => fun s => by simp only [walk, binders, Ko.bound, walkL_binders l, List.append_assoc]
theorem walkL_binders : ∀ (l : List (Tr Ko)) (s : List Int), walkL Ko.bound l s = s ++ bindersL l
  | [] => fun s => by simp only [walkL, bindersL, List.append_nil]
  | d :: r => fun s => by simp only [walkL, bindersL, walk_binders d, walkL_binders r, List.append_assoc]
end
end Tr
end Go.Proofs.YtpigpncbjckbcaaGreat
namespace Go.Proofs.YtpigpncbjckbcaaGreat
open Go.RowKit
theorem lookL_no {l : List Int} {n : Int} (h : n ∉ l) : lookL l n = -1 := by
  have := lookL_mem l n
  have := lookL_ge l n
  have : ¬ 0 ≤ lookL l n := fun h2 => h ((lookL_mem l n).1 h2)
  omega
theorem lookL_at : ∀ {l : List Int} {n : Int} {i : Nat} (hi : i < l.length), l[i] = n → n ∉ l.drop (i + 1) → lookL l n = i := by
  intro l
  induction l with
  | nil => intro n i hi; simp at hi
  | cons x r ih =>
    intro n i hi he hd
    unfold lookL
    cases i with
    | zero =>
      simp only [List.getElem_cons_zero] at he
      simp only [Nat.zero_add, List.drop_succ_cons, List.drop_zero] at hd
      rw [lookL_no hd, if_neg (by omega), if_pos he]
      rfl
    | succ i =>
      simp only [List.length_cons] at hi
      have h := ih (n := n) (i := i) (by omega) (by simpa using he) (by simpa using hd)
      rw [h, if_pos (by omega)]
      omega
set_option maxHeartbeats 400000 in
theorem look_any (A : Option Addr) (c : Nat) (l : List Int) (n : Int) (B : Nat) (w : World) (hin : IIn w B A c l) (hB : B ≤ w.heap.size) :
    Calls Tryz.prog 100 #[.slice A l.length c, .int .i64 n] w fun e w' => e = .returned (.int .i64 (lookL l n)) ∧ Below w.heap.size w w' := by
  have hcap := hin.cap
  go_enter Tryz.func100, Tryz.ntmps100
  go_wp2_with fail
  go_loopw [5] (fun i wr => ∃ j : Nat, j ≤ l.length ∧ i = .int .i64 ((j : Int) - 1) ∧ Hid (n ∉ l.drop j) ∧ Below w.heap.size w wr) (fun i _ => (intOf i + 1).toNat)
  case atStart => exact ⟨l.length, Nat.le_refl _, by first | rfl | go_num, by show ¬ _; simp, Below.refl _ _⟩
  case round =>
    obtain ⟨j, hj, rfl, HD, hb⟩ := hrel
    cases j with
    | zero =>
      have HF : Hid (lookL l n = -1) := lookL_no (by simpa using HD.out)
      have g1 : ¬ ((0 : Nat) : Int) - 1 ≥ 0 := by omega
      go_wp2_with fail
      go_ret
      exact ⟨by rw [HF.out]; rfl, hb⟩
    | succ i =>
      have hlt : i < l.length := by omega
      have e1 : ((i + 1 : Nat) : Int) - 1 = (i : Int) := by omega
      rw [e1]
      obtain ⟨b, o, rfl, hblk, c0⟩ := (hin.below (hb.mono hB)).at_ hlt
      have g1 : (i : Int) ≥ 0 := by omega
      have g2 : (i : Int) < (l.length : Int) := by omega
      by_cases hq : l[i] = n
      · have hq1 : (l[i] == n) = true := by simpa using hq
        have HF : Hid (lookL l n = i) := lookL_at hlt hq HD.out
        clear hq
        go_wp2_with fail
        go_ret
        exact ⟨by rw [HF.out]; rfl, hb⟩
      · have hq1 : (l[i] == n) = false := by simpa using hq
        have HN : Hid (n ∉ l.drop i) := by
          show ¬ _
          rw [List.drop_eq_getElem_cons hlt]
          simp only [List.mem_cons, not_or]
          exact ⟨fun e => hq e.symm, HD.out⟩
        clear hq
        go_wp2_with fail
        refine ⟨⟨i, by omega, by go_num, HN, hb⟩, by simp [intOf]⟩
end Go.Proofs.YtpigpncbjckbcaaGreat
