/-
  Valid lists of bindings: the model's l3Clash and AreBindings.
-/
import Derived.Test.YtikjipkhebedfaaIsBd
import Derived.Test.YtikjipkhebedfaaBindL
import Derived.Test.YtikjipkhebedfaaSEqs
import Derived.Deep.RegionLaw
namespace Go.Proofs.Ytikjipkhebedfaa
open Go.RowKit

namespace Bd
/-- Whether a binding with this text and these scopes is there. -/
def clash (l : List Bd) (b : Bd) : Bool := l.any fun x => x.t.toList == b.t.toList && x.s == b.s
/-- Each is valid, and clashes with none before it. -/
def goodL : List Bd → List Bd → Bool | _, [] => true | p, b :: r => isB b && (!clash p b && goodL (p ++ [b]) r)
def areB (l : List Bd) : Bool := goodL [] l && decide (l.length ≤ 1000)
theorem goodL_append (a b : List Bd) : ∀ p, goodL p (a ++ b) = (goodL p a && goodL (p ++ a) b) := by
  induction a with
  | nil => intro p; simp [goodL]
  | cons x r ih => intro p; simp only [List.cons_append, goodL, ih, List.append_assoc, List.singleton_append, Bool.and_assoc, List.nil_append]
theorem goodL_step {l : List Bd} {j : Nat} (h : j < l.length) : goodL [] (l.take (j + 1)) = (goodL [] (l.take j) && (isB l[j] && !clash (l.take j) l[j])) := by
  rw [List.take_succ_eq_append_getElem h, goodL_append]
  simp [goodL]
theorem goodL_no {l : List Bd} {j : Nat} (h : j < l.length) (hb : (isB l[j] && !clash (l.take j) l[j]) = false) : goodL [] l = false := by
  rw [← List.take_append_drop (j + 1) l, goodL_append, goodL_step h, hb]
  simp
theorem clash_er {a b : List Bd} {x y : Bd} (h : erL a = erL b) (hx : er x = er y) : clash a x = clash b y := by
  have e : ∀ l : List Bd, ∀ z : Bd, clash l z = clash (erL l) (er z) := by
    intro l z
    induction l with
    | nil => rfl
    | cons q r ih => simp only [clash, erL, List.map_cons, List.any_cons] at ih ⊢; rw [ih]; rfl
  rw [e a x, e b y, h, hx]
theorem goodL_er : ∀ (a b p q : List Bd), erL a = erL b → erL p = erL q → goodL p a = goodL q b
  | [], [], _, _, _, _ => rfl
  | [], _ :: _, _, _, h, _ => by simp [erL] at h
  | _ :: _, [], _, _, h, _ => by simp [erL] at h
  | x :: r, y :: s, p, q, h, hp => by
    have hh : er x = er y ∧ erL r = erL s := by simpa [erL] using h
    simp only [goodL, isB_of_er hh.1, clash_er hp hh.1]
    rw [goodL_er r s (p ++ [x]) (q ++ [y]) hh.2 (by rw [erL_append, erL_append, hp]; simp [erL, hh.1])]
theorem areB_er {a b : List Bd} (h : erL a = erL b) : areB a = areB b := by
  unfold areB
  rw [goodL_er a b [] [] h rfl, ← erL_length a, h, erL_length]
theorem clash_step {l : List Bd} {j : Nat} (h : j < l.length) (b : Bd) : clash (l.take (j + 1)) b = (clash (l.take j) b || (l[j].t.toList == b.t.toList && l[j].s == b.s)) := by
  unfold clash
  rw [List.take_succ_eq_append_getElem h, List.any_append]
  simp
theorem clash_yes {l : List Bd} {j : Nat} (h : j < l.length) {b : Bd} (he : (l[j].t.toList == b.t.toList && l[j].s == b.s) = true) : clash l b = true := by
  unfold clash
  rw [List.any_eq_true]
  exact ⟨l[j], List.getElem_mem h, he⟩
/-- The head of a row. -/
theorem lin_take {w : World} {B : Nat} {A : Option Addr} {c : Nat} {l : List Bd} (h : E.LIn w B A c l) {j : Nat} (hj : j ≤ l.length) : E.LIn w B A c (l.take j) := by
  refine ⟨⟨by rw [List.length_take]; have := h.cap; omega, h.cap.2⟩, h.nil, fun hne => ?_, fun x hx => h.all x (List.mem_of_mem_take hx)⟩
  obtain ⟨b, o, e, hb, hc⟩ := h.mem (by rintro rfl; simp at hne)
  refine ⟨b, o, e, hb, fun i u hu => hc i u ?_⟩
  have e2 : E.cellsL l = E.cellsL (l.take j) ++ E.cellsL (l.drop j) := by rw [← Elem.cellsL_append, List.take_append_drop]
  rw [e2, List.getElem?_append_left (List.getElem?_eq_some_iff.1 hu).1]
  exact hu
end Bd

set_option maxRecDepth 100000 in
set_option maxHeartbeats 1000000 in
theorem clash_any (A : Option Addr) (c : Nat) (l : List Bd) (b0 : Bd) (B : Nat) (w : World) (hin : Bd.E.LIn w B A c l) (hb0 : b0.In w B) (hB : B ≤ w.heap.size) :
    Calls Try.prog 124 #[.slice A l.length c, b0.val] w fun e w' => e = .returned (.bool (Bd.clash l b0)) ∧ Below w.heap.size w w' := by
  have hcap := hin.cap
  obtain ⟨W1, hW1⟩ : ∃ W1, W1 = w.alloc (.cells #[.string b0.t, .slice b0.sa b0.s.length b0.sc, .int .i64 b0.k, .int .i64 b0.n] 43) := ⟨_, rfl⟩
  have z1 : W1.heap.size = w.heap.size + 1 := by rw [hW1]; simp
  have B1 : Below w.heap.size w W1 := by rw [hW1]; exact (Below.refl _ _).alloc (Nat.le_refl _) _
  have x0 : Bd.Box W1 w.heap.size b0 := by rw [hW1]; exact Bd.Box.new w b0 _
  unfold Bd.val
  go_enter Try.func124, Try.ntmps124
  go_wp2_with fail
  rw [← hW1]
  clear hW1
  go_loopw [9] (fun i wr => ∃ j : Nat, j ≤ l.length ∧ i = .int .i64 j ∧ Hid (Bd.clash (l.take j) b0 = false) ∧ Bd.Box wr w.heap.size b0 ∧ w.heap.size < wr.heap.size ∧ Below w.heap.size w wr) (fun i _ => l.length - (intOf i).toNat)
  case atStart => exact ⟨0, Nat.zero_le _, rfl, by simp [Hid, Bd.clash], x0, by omega, B1⟩
  case round =>
    obtain ⟨j, hj, rfl, HN, hx, hsz, hb⟩ := hrel
    by_cases hlt : j < l.length
    · obtain ⟨b, o, rfl, hblk, c0, c1, c2, c3, hix⟩ := Bd.at_ (hin.below (hb.mono hB)) (i := j) (x := l[j]) (List.getElem?_eq_getElem hlt)
      have g2 : (j : Int) < (l.length : Int) := by omega
      have HS := Lib.hid (Bd.clash_step hlt b0)
      have bA : Below wr.heap.size wr (wr.alloc (.cells #[.string l[j].t, .slice l[j].sa l[j].s.length l[j].sc, .int .i64 l[j].k, .int .i64 l[j].n] 43)) := (Below.refl _ _).alloc (Nat.le_refl _) _
      have y0 := Bd.Box.new wr l[j] 43
      have xA := hx.below (w' := wr.alloc (.cells #[.string l[j].t, .slice l[j].sa l[j].s.length l[j].sc, .int .i64 l[j].k, .int .i64 l[j].n] 43)) bA hsz
      obtain ⟨a0, a1, a2, a3⟩ := xA
      obtain ⟨d0, d1, d2, d3⟩ := y0
      cases ht : (l[j].t.toList == b0.t.toList)
      · have HN2 : Hid (Bd.clash (l.take (j + 1)) b0 = false) := by show _ = _; rw [HS.out, HN.out, ht]; rfl
        have hxA := hx.below (w' := wr.alloc (.cells #[.string l[j].t, .slice l[j].sa l[j].s.length l[j].sc, .int .i64 l[j].k, .int .i64 l[j].n] 43)) bA hsz
        go_wp2_with fail
        refine ⟨⟨j + 1, by omega, by go_num, HN2, hxA, by simp; omega, hb.trans (bA.mono (by omega))⟩, by simp [intOf]; omega⟩
      · have HT := Lib.hid ht
        go_wp2_with fail
        refine (sameInts_any _ _ _ _ _ _ B _ (hix.2.below (bA.mono (by omega))) ((hb0.2.below (hb.mono hB)).below (bA.mono (by omega))) (by simp; omega)).mono ?_
        rintro e w1 ⟨rfl, hb1⟩
        have hb2 : Below wr.heap.size wr w1 := bA.trans (hb1.mono (by simp))
        have hx1 := hx.below hb2 hsz
        have zz := hb2.size
        have hb3 := hb.trans (hb2.mono (by omega))
        clear a0 a1 a2 a3 d0 d1 d2 d3 c0 c1 c2 c3 hb1 hb2 bA hx
        cases hs : (l[j].s == b0.s)
        · have HN2 : Hid (Bd.clash (l.take (j + 1)) b0 = false) := by show _ = _; rw [HS.out, HN.out, HT.out, hs]; rfl
          clear hs
          go_wp2_with fail
          refine ⟨⟨j + 1, by omega, by go_num, HN2, hx1, by omega, hb3⟩, by simp [intOf]; omega⟩
        · have HY := Lib.hid (Bd.clash_yes hlt (b := b0) (by rw [HT.out, hs]; rfl))
          clear hs
          go_wp2_with fail
          go_ret
          exact ⟨ret_bool HY.out.symm, hb3⟩
    · have hj' : j = l.length := by omega
      subst hj'
      have HF : Hid (Bd.clash l b0 = false) := by have := HN.out; rwa [List.take_length] at this
      go_wp2_with fail
      go_ret
      exact ⟨ret_bool HF.out.symm, hb⟩

set_option maxRecDepth 100000 in
set_option maxHeartbeats 2000000 in
theorem specAreB_any (A : Option Addr) (c : Nat) (l : List Bd) (B : Nat) (w : World) (hin : Bd.E.LIn w B A c l) (hB : B ≤ w.heap.size) :
    Calls Try.prog 71 #[.slice A l.length c] w fun e w' => e = .returned (.bool (Bd.areB l)) ∧ Below w.heap.size w w' := by
  have hcap := hin.cap
  have K : Hid (Bd.areB l = (Bd.goodL [] l && decide (l.length ≤ 1000))) := rfl
  go_enter Try.func71, Try.ntmps71
  go_wp2_with fail
  go_loopw [3, 7] (fun _ i wr => ∃ j : Nat, j ≤ l.length ∧ i = .int .i64 j ∧ Hid (Bd.goodL [] (l.take j) = true) ∧ Below w.heap.size w wr) (fun _ i _ => l.length - (intOf i).toNat)
  case atStart => exact ⟨0, Nat.zero_le _, rfl, by simp [Hid, Bd.goodL], Below.refl _ _⟩
  case round =>
    obtain ⟨j, hj, rfl, HG, hb⟩ := hrel
    have hz := hb.size
    by_cases hlt : j < l.length
    · obtain ⟨b, o, rfl, hblk, c0, c1, c2, c3, hix⟩ := Bd.at_ (hin.below (hb.mono hB)) (i := j) (x := l[j]) (List.getElem?_eq_getElem hlt)
      have g1 : (0 : Int) ≤ (j : Int) := by omega
      have g2 : (j : Int) < (l.length : Int) := by omega
      have g3 : (j : Int) ≤ (c : Int) := by omega
      have HS := Lib.hid (Bd.goodL_step hlt)
      obtain ⟨W2, hW2⟩ : ∃ W2, W2 = wr.alloc (.cells #[.string l[j].t, .slice l[j].sa l[j].s.length l[j].sc, .int .i64 l[j].k, .int .i64 l[j].n] 43) := ⟨_, rfl⟩
      have bA : Below wr.heap.size wr W2 := by rw [hW2]; exact (Below.refl _ _).alloc (Nat.le_refl _) _
      have z2 : W2.heap.size = wr.heap.size + 1 := by rw [hW2]; simp
      have y0 : Bd.Box W2 wr.heap.size l[j] := by rw [hW2]; exact Bd.Box.new wr l[j] _
      obtain ⟨d0, d1, d2, d3⟩ := y0
      have lt2 : wr.heap.size < W2.heap.size := by omega
      have hi2 := hix.below (bA.mono (by omega))
      have hl2 := (Bd.lin_take (hin.below (hb.mono hB)) (j := j) (by omega)).below (bA.mono (by omega))
      have hlj : (l.take j).length = j := by rw [List.length_take]; omega
      have hcl := fun w' => clash_any (some ⟨b, o, none⟩) c (l.take j) l[j] B w'
      rw [hlj] at hcl
      cases hA : Bd.isB l[j]
      · have HA := Lib.hid hA
        have HN := Lib.hid (Bd.goodL_no hlt (by rw [hA]; rfl))
        clear hA hlj
        go_wp2_with fail
        rw [← hW2]
        clear hW2
        first | go_region_law (first | (go_simp; go_at_call 72; refine (specIsB_any l[j] B _ ?_ ?_).mono ?_; exact hi2.drew; (show B ≤ W2.heap.size); omega; rintro e w1 ⟨rfl, hb1⟩; have hb1 : Below W2.heap.size W2 w1 := below_undrew hb1; rw [HA.out]; have zz1 := hb1.size; have lt3 : wr.heap.size < w1.heap.size := (by omega); have d0 := (hb1.cell (p := ⟨wr.heap.size, 0, none⟩) lt2).trans d0; have d1 := (hb1.cell (p := ⟨wr.heap.size, 1, none⟩) lt2).trans d1; have d2 := (hb1.cell (p := ⟨wr.heap.size, 2, none⟩) lt2).trans d2; have d3 := (hb1.cell (p := ⟨wr.heap.size, 3, none⟩) lt2).trans d3)) | fail
        all_goals go_wp2_with fail
        all_goals go_ret
        all_goals exact ⟨ret_bool (by rw [K.out, HN.out]; rfl), (hb.trans (bA.mono hz)).trans (hb1.mono (by omega))⟩
      · have HA := Lib.hid hA
        clear hA hlj
        cases hC : Bd.clash (l.take j) l[j]
        · have HC := Lib.hid hC
          have HG2 : Hid (Bd.goodL [] (l.take (j + 1)) = true) := by show _ = _; rw [HS.out, HG.out, HA.out, hC]; rfl
          clear hC
          go_wp2_with fail
          rw [← hW2]
          clear hW2
          first | go_region_law (first | (go_simp; go_at_call 72; refine (specIsB_any l[j] B _ ?_ ?_).mono ?_; exact hi2.drew; (show B ≤ W2.heap.size); omega; rintro e w1 ⟨rfl, hb1⟩; have hb1 : Below W2.heap.size W2 w1 := below_undrew hb1; rw [HA.out]; have zz1 := hb1.size; have lt3 : wr.heap.size < w1.heap.size := (by omega); have d0 := (hb1.cell (p := ⟨wr.heap.size, 0, none⟩) lt2).trans d0; have d1 := (hb1.cell (p := ⟨wr.heap.size, 1, none⟩) lt2).trans d1; have d2 := (hb1.cell (p := ⟨wr.heap.size, 2, none⟩) lt2).trans d2; have d3 := (hb1.cell (p := ⟨wr.heap.size, 3, none⟩) lt2).trans d3) | (go_simp; go_at_call 124; refine (hcl _ ?_ ?_ ?_).mono ?_; exact hl2.below (hb1.mono (by omega)); exact hi2.below (hb1.mono (by omega)); omega; rintro e w3 ⟨rfl, hb3⟩; rw [HC.out]; have d0 := (hb3.cell (p := ⟨wr.heap.size, 0, none⟩) lt3).trans d0; have d1 := (hb3.cell (p := ⟨wr.heap.size, 1, none⟩) lt3).trans d1; have d2 := (hb3.cell (p := ⟨wr.heap.size, 2, none⟩) lt3).trans d2; have d3 := (hb3.cell (p := ⟨wr.heap.size, 3, none⟩) lt3).trans d3)) | fail
          all_goals go_wp2_with fail
          all_goals refine ⟨⟨j + 1, by omega, by go_num, HG2, ((hb.trans (bA.mono hz)).trans (hb1.mono (by omega))).trans (hb3.mono (by omega))⟩, by simp [intOf]; omega⟩
        · have HC := Lib.hid hC
          have HN := Lib.hid (Bd.goodL_no hlt (by rw [HA.out, hC]; rfl))
          clear hC
          go_wp2_with fail
          rw [← hW2]
          clear hW2
          first | go_region_law (first | (go_simp; go_at_call 72; refine (specIsB_any l[j] B _ ?_ ?_).mono ?_; exact hi2.drew; (show B ≤ W2.heap.size); omega; rintro e w1 ⟨rfl, hb1⟩; have hb1 : Below W2.heap.size W2 w1 := below_undrew hb1; rw [HA.out]; have zz1 := hb1.size; have lt3 : wr.heap.size < w1.heap.size := (by omega); have d0 := (hb1.cell (p := ⟨wr.heap.size, 0, none⟩) lt2).trans d0; have d1 := (hb1.cell (p := ⟨wr.heap.size, 1, none⟩) lt2).trans d1; have d2 := (hb1.cell (p := ⟨wr.heap.size, 2, none⟩) lt2).trans d2; have d3 := (hb1.cell (p := ⟨wr.heap.size, 3, none⟩) lt2).trans d3) | (go_simp; go_at_call 124; refine (hcl _ ?_ ?_ ?_).mono ?_; exact hl2.below (hb1.mono (by omega)); exact hi2.below (hb1.mono (by omega)); omega; rintro e w3 ⟨rfl, hb3⟩; rw [HC.out]; have d0 := (hb3.cell (p := ⟨wr.heap.size, 0, none⟩) lt3).trans d0; have d1 := (hb3.cell (p := ⟨wr.heap.size, 1, none⟩) lt3).trans d1; have d2 := (hb3.cell (p := ⟨wr.heap.size, 2, none⟩) lt3).trans d2; have d3 := (hb3.cell (p := ⟨wr.heap.size, 3, none⟩) lt3).trans d3)) | fail
          all_goals go_wp2_with fail
          all_goals go_ret
          all_goals exact ⟨ret_bool (by rw [K.out, HN.out]; rfl), ((hb.trans (bA.mono hz)).trans (hb1.mono (by omega))).trans (hb3.mono (by omega))⟩
    · have hj' : j = l.length := by omega
      subst hj'
      have HF : Hid (Bd.areB l = decide (l.length ≤ 1000)) := by show _ = _; have := HG.out; rw [List.take_length] at this; rw [K.out, this]; rfl
      go_wp2_with fail
      go_ret
      exact ⟨ret_bool (by rw [HF.out, Bool.eq_iff_iff]; simp only [decide_eq_true_eq]; omega), hb⟩
end Go.Proofs.Ytikjipkhebedfaa
