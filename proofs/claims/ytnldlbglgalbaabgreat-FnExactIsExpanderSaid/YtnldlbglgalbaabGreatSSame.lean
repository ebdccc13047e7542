/-
  The same identifier: the model's and the program's SameIdentifier.
-/
import Derived.Test.YtnldlbglgalbaabGreatSIdent
import Derived.Test.YtnldlbglgalbaabGreatSEqi
import Derived.Lib.Bytealg
namespace Go.Proofs.YtnldlbglgalbaabGreat
open Go.RowKit

theorem toList_inj {a b : ByteArray} (h : (a.toList == b.toList) = true) : a = b := by
  have h1 : a.toList = b.toList := by simpa using h
  rw [ByteArray.toList_eq, ByteArray.toList_eq] at h1
  exact ByteArray.ext (Array.ext' h1)
namespace S
def sameI (d e : S) : Bool := d.isI && (e.isI && (d.t.toList == e.t.toList && d.s == e.s))
theorem t_of_er {d e : S} (h : er d = er e) : d.t = e.t := by cases d; cases e; simp only [er, S.mk.injEq] at h; exact h.2.2.1
theorem s_of_er {d e : S} (h : er d = er e) : d.s = e.s := by cases d; cases e; simp only [er, S.mk.injEq] at h; exact h.2.2.2.2.2.1
theorem sameI_both {d e d2 e2 : S} (h1 : d.er = d2.er) (h2 : e.er = e2.er) : sameI d e = sameI d2 e2 := by
  unfold sameI
  rw [isI_of_er h1, isI_of_er h2, t_of_er h1, t_of_er h2, s_of_er h1, s_of_er h2]
theorem er_of_eqB : ∀ d e : S, eqB d e = true → er d = er e := by
  intro d
  induction d using ind with
  | h d ih =>
    cases d with
    | mk k n t sa sc s A c l =>
      intro e h
      cases e with
      | mk k' n' t' sa' sc' s' A' c' l' =>
        have key : ∀ (a : List S), (∀ x ∈ a, x ∈ l) → ∀ b, eqL a b = true → erL a = erL b := by
          intro a
          induction a with
          | nil => intro _ b hb; cases b with
            | nil => rfl
            | cons _ _ => simp [eqL] at hb
          | cons x r ih2 =>
            intro hs b hb
            cases b with
            | nil => simp [eqL] at hb
            | cons y q =>
              simp only [eqL, Bool.and_eq_true] at hb
              simp only [erL, ih x (hs x (by simp)) y hb.1, ih2 (fun z hz => hs z (by simp [hz])) q hb.2]
        simp only [eqB, Bool.and_eq_true] at h
        obtain ⟨h1, h2, h3, h4, h5⟩ := h
        have e1 : k = k' := by simpa using h1
        have e2 : n = n' := by simpa using h2
        have e3 := toList_inj h3
        have e4 : s = s' := by simpa using h4
        simp only [er, e1, e2, e3, e4, key l (fun _ h => h) l' h5]
theorem isI_parts {d : S} (h : isI d = true) : d.k = 1 ∧ d.n = 0 ∧ d.l = [] := by
  cases d with
  | mk k n t sa sc s A c l =>
    unfold isI isS at h
    simp only [Bool.and_eq_true, decide_eq_true_eq] at h
    obtain ⟨h1, _, _, h3⟩ := h
    have hk : k = 1 := h1
    subst hk
    simp only [valid, sNodeOk, Bool.and_eq_true] at h3
    have h4 := h3.1.1
    unfold nodeOk at h4
    rw [if_neg (by decide), if_pos rfl] at h4
    simp only [Bool.and_eq_true, decide_eq_true_eq] at h4
    exact ⟨rfl, h4.1, List.length_eq_zero_iff.1 h4.2.2⟩
theorem sameI_eq {d e : S} (hd : isI d = true) : sameI d e = eqB d e := by
  rw [Bool.eq_iff_iff]
  constructor
  · intro h
    unfold sameI at h
    simp only [Bool.and_eq_true] at h
    obtain ⟨_, he, ht, hs⟩ := h
    obtain ⟨a1, a2, a3⟩ := isI_parts hd
    obtain ⟨b1, b2, b3⟩ := isI_parts he
    cases d
    cases e
    simp only [k, n, l, t, s] at a1 a2 a3 b1 b2 b3 ht hs
    subst a1 a2 a3 b1 b2 b3
    simp only [eqB, Bool.and_eq_true]
    exact ⟨rfl, rfl, ht, hs, rfl⟩
  · intro h
    have he := er_of_eqB d e h
    unfold sameI
    rw [← isI_of_er he, hd, t_of_er he, s_of_er he]
    simp
end S

set_option maxRecDepth 100000 in
set_option maxHeartbeats 800000 in
theorem l2Same_any (d e : S) (B : Nat) (w : World) (hin : d.In w B) (hin' : e.In w B) (hB : B ≤ w.heap.size) :
    Calls Tryz.prog 98 #[d.val, e.val] w fun x w' => x = .returned (.bool (d.t.toList == e.t.toList && d.s == e.s)) ∧ Below w.heap.size w w' := by
  have hsc := hin.scopes
  have hsc' := hin'.scopes
  have bn : Below w.heap.size w ((w.alloc (.cells #[.int .i64 d.k, .int .i64 d.n, .string d.t, .slice d.sa d.s.length d.sc, .slice d.A d.l.length d.c] 43)).alloc (.cells #[.int .i64 e.k, .int .i64 e.n, .string e.t, .slice e.sa e.s.length e.sc, .slice e.A e.l.length e.c] 43)) := ((Below.refl _ _).alloc (Nat.le_refl _) _).alloc (by simp) _
  unfold S.val
  cases ht : (d.t.toList == e.t.toList)
  · have Ht := Lib.hid ht
    go_enter Tryz.func98, Tryz.ntmps98
    go_wp2_with fail
    go_ret
    exact ⟨rfl, bn⟩
  · have Ht := Lib.hid ht
    go_enter Tryz.func98, Tryz.ntmps98
    go_wp2_with fail
    refine (sameInts_any d.sa d.sc d.s e.sa e.sc e.s B _ (hsc.below (bn.mono hB)) (hsc'.below (bn.mono hB)) (by simp; omega)).mono ?_
    rintro x w1 ⟨rfl, hb1⟩
    go_wp2_with fail
    go_ret
    exact ⟨ret_bool (by simp), bn.trans (hb1.mono (by simp; omega))⟩

end Go.Proofs.YtnldlbglgalbaabGreat
