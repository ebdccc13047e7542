/-
  IdentifiersIn, the model's and the program's, and the law, walked.
-/
import Derived.Test.YtiopophoioiafaaSIds
import Derived.Test.YtiopophoioiafaaSynL
import Derived.Deep.RegionHeld3
namespace Go.Proofs.Ytiopophoioiafaa
open Go.RowKit

namespace S
/-- IdentifiersIn's answer. -/
def idE (d : S) : List (ByteArray × List Int) := if isS d = true then idA d [] else []
theorem idE_of_er {d e : S} (h : er d = er e) : idE d = idE e := by unfold idE; rw [isS_of_er h, ← idA_er d, h, idA_er]
def wI : List (ByteArray × List Int) → Nat | [] => 0 | p :: r => 1 + (p.1.size + p.2.length) + wI r
theorem wI_append (a b : List (ByteArray × List Int)) : wI (a ++ b) = wI a + wI b := by
  induction a with
  | nil => simp [wI]
  | cons x r ih => simp only [List.cons_append, wI, ih]; omega
theorem idA_wI (d : S) : ∀ acc, wI (idA d acc) ≤ wI acc + (bulk d + size d) := by
  induction d using ind with
  | h d ih =>
    cases d with
    | mk k n t sa sc s A c l =>
      have key : ∀ (a : List S), (∀ x ∈ a, x ∈ l) → ∀ acc, wI (idLA a acc) ≤ wI acc + (bulkL a + sizeL a) := by
        intro a
        induction a with
        | nil => intro _ acc; simp [idLA]
        | cons x r ih2 =>
          intro hs acc
          have h1 := ih x (hs x (by simp)) acc
          have h2 := ih2 (fun y hy => hs y (by simp [hy])) (idA x acc)
          simp only [idLA, sizeL, bulkL]
          omega
      intro acc
      have hi : wI (if k = 1 ∧ hasI acc t s = false then acc ++ [(t, s)] else acc) ≤ wI acc + 1 + (t.size + s.length) := by
        split
        · rw [wI_append]; simp only [wI]; omega
        · omega
      have h := key l (fun _ h => h) (if k = 1 ∧ hasI acc t s = false then acc ++ [(t, s)] else acc)
      simp only [idA, size, bulk]
      omega
theorem blksL_E (l : List S) : blksL l = E.blksL l := by
  induction l with
  | nil => rfl
  | cons x r ih =>
    have e : E.blksL (x :: r) = E.blks x ++ E.blksL r := by simp [Elem.blksL]
    rw [e, ← ih]; rfl
theorem cellsL_E (l : List S) : cellsL l = E.cellsL l := rfl
theorem itm_own {lo hi : Nat} {w : World} {A : Option Addr} {c : Nat} {l : List S} (h : E.LOwn lo hi w A c l) : (itm A c l).Own lo hi w := by
  have hcap := h.inn.cap
  have hb : blks (itm A c l) = E.lblks A l := by
    simp only [itm, blks, iblk, Elem.lblks, Elem.lblk, blksL_E]
    simp
  refine ⟨⟨⟨hcap.1, hcap.2, Nat.zero_le _⟩, IIn.nil_ (Nat.zero_le _) (fun _ => rfl), h.inn.mem, InL_iff.2 h.inn.all⟩, ?_, ?_, ?_⟩
  · rw [hb]; exact h.lo_
  · rw [hb]; exact h.nd
  · rw [hb]; exact h.fr
theorem eqL_of_map {l l' : List S} (h : l.map er = l'.map er) : eqL l l' = true := by
  have e : er (itm none 0 l) = er (itm none 0 l') := by simp only [itm, er, erL_map, h]
  have := eqB_of_er e
  simp only [itm, eqB, Bool.and_eq_true] at this
  exact this.2.2.2.2
theorem ids_bounds {l : List S} {p : List (ByteArray × List Int)} (h : l.map er = p.map idS) : sizeL l = p.length ∧ bulkL l = wI p ∧ wtL l ≤ 3 * wI p := by
  induction l generalizing p with
  | nil => cases p with
    | nil => exact ⟨rfl, rfl, Nat.zero_le _⟩
    | cons _ _ => simp at h
  | cons x r ih =>
    cases p with
    | nil => simp at h
    | cons y q =>
      simp only [List.map_cons, List.cons.injEq] at h
      obtain ⟨h1, h2, h3⟩ := ih h.2
      obtain ⟨e1, e2, e3, e4, e5⟩ := er_idS h.1
      cases x with
      | mk k n t sa sc s A c l =>
        simp only [S.t, S.s, S.k, S.n, S.l] at e1 e2 e3 e4 e5
        subst e1 e2 e3 e4 e5
        simp only [sizeL, size, bulkL, bulk, wtL, wt, wI, List.length_cons, h1, h2]
        refine ⟨by omega, by omega, by omega⟩
theorem id_bounds {l : List S} {a : S} (h : l.map er = (idE a).map idS) (hb : a.bulk ≤ 1048576) : sizeL l ≤ 2000000 ∧ bulkL l ≤ 2000000 ∧ wtL l ≤ 90000000 := by
  obtain ⟨h1, h2, h3⟩ := ids_bounds h
  have hw : wI (idE a) ≤ 1060000 ∧ (idE a).length ≤ 2000000 := by
    unfold idE
    split
    · rename_i hi
      have h4 := idA_wI a []
      have h5 := idA_len a []
      unfold isS at hi
      simp only [Bool.and_eq_true, decide_eq_true_eq] at hi
      simp only [wI, List.length_nil] at h4 h5
      omega
    · simp [wI]
  omega
end S
/-- Returned: identifiers of the call's own. -/
def RetIL (p : List (ByteArray × List Int)) (w : World) (e : Ending) (w' : World) : Prop := ∃ (A : Option Addr) (c : Nat) (l : List S), e = .returned (.slice A l.length c) ∧ l.map S.er = p.map S.idS ∧ (S.itm A c l).Own w.heap.size w'.heap.size w' ∧ Below w.heap.size w w'
theorem SRow.out {base : Nat} {acc : List (ByteArray × List Int)} {v : Value} {w : World} (h : SRow base acc v w) : ∃ A c l, v = .slice A l.length c ∧ l.map S.er = acc.map S.idS ∧ (S.itm A c l).Own base w.heap.size w := by
  obtain ⟨ds, h1, h2, h3, h4⟩ := h
  obtain ⟨A, c, e, hL⟩ := SRow.lin h1 h2 h3
  exact ⟨A, c, ds, e, h4, S.itm_own hL⟩

set_option maxHeartbeats 800000 in
theorem specIdsIn_any (d : S) (B : Nat) (w : World) (hin : d.In w B) (hB : B ≤ w.heap.size) (hs : d.size ≤ 2000000) (hbk : d.bulk ≤ 2000000) : Calls Try.prog 49 #[d.val] w (RetIL d.idE w) := by
  have bA : Below w.heap.size w (w.alloc (.cells #[.int .i64 d.k, .int .i64 d.n, .string d.t, .slice d.sa d.s.length d.sc, .slice d.A d.l.length d.c] 52)) := (Below.refl _ _).alloc (Nat.le_refl _) _
  have x0 := S.Box.new w d 52
  unfold S.val
  cases hq : d.isS
  · have he : d.idE = [] := by unfold S.idE; rw [hq]; rfl
    have HE := Lib.hid he
    have HQ := Lib.hid hq
    clear he hq
    go_enter Try.func49, Try.ntmps49
    go_wp2_with fail
    refine (specIsS_any d B _ (hin.below (bA.mono hB)) (by simp; omega) hs).mono ?_
    rintro e w1 ⟨rfl, hb1⟩
    rw [HQ.out]
    have b1 := bA.trans (hb1.mono (by simp))
    clear hb1 bA x0
    go_wp2_with fail
    go_ret
    exact ⟨none, 0, [], rfl, by rw [HE.out]; rfl, S.itm_own (Elem.LOwn.nil_ (by omega) (by simp)), b1⟩
  · have he : d.idE = d.idA [] := by unfold S.idE; rw [hq]; rfl
    have HV := Lib.hid (S.valid_of_isS hq)
    have HE := Lib.hid he
    have HQ := Lib.hid hq
    clear he hq
    go_enter Try.func49, Try.ntmps49
    go_wp2_with fail
    refine (specIsS_any d B _ (hin.below (bA.mono hB)) (by simp; omega) hs).mono ?_
    rintro e w1 ⟨rfl, hb1⟩
    rw [HQ.out]
    have z1 := hb1.size
    simp only [World.size_alloc] at z1
    obtain ⟨a0, a1, a2, a3, a4⟩ := x0.below hb1 (by simp)
    have b1 := bA.trans (hb1.mono (by simp))
    have i1 := hin.below (b1.mono hB)
    clear hb1 bA x0
    have r0 : SRow w1.heap.size [] (.slice (some ⟨w1.heap.size, 0, none⟩) 0 0) (w1.alloc (.cells #[] 52)) := ⟨[], World.ownsRow_made w1 #[] 0 (Nat.le_refl _) (by unfold maxLen; omega) (by simp), Elem.OwnL.nil_, by simp [Elem.blksL], rfl⟩
    have rn : SRow w1.heap.size [] (.slice none 0 0) w1 := ⟨[], World.ownsRow_nil _ _ _ _, Elem.OwnL.nil_, by simp [Elem.blksL], rfl⟩
    go_wp2_with fail
    refine (l2Ids_any 2000000 d B w1.heap.size [] _ _ hs (Nat.le_refl _) hbk HV.out (i1.below ((Below.refl _ _).alloc (by omega) _)) (by simp; omega) (by omega) (by simp) r0 (by simp; omega)).mono ?_
    rintro e w2 ⟨v', rfl, h1, h2, h3⟩
    have z2 := h2.size
    simp only [World.size_alloc] at z2
    have b2 : Below w1.heap.size w1 w2 := ((Below.refl _ _).alloc (Nat.le_refl _) _).trans (h2.below (fun k hk => by simp [Value.ownBlock] at hk; omega) (by simp))
    obtain ⟨A', c', l', rfl, hm, ho⟩ := h1.out
    have HM := Lib.hid hm
    clear h1 h2 h3 r0 rn hm
    go_wp2_with fail
    go_ret
    exact ⟨A', c', l', rfl, by rw [HE.out]; exact HM.out, ho.wide (by omega) (Nat.le_refl _), b1.trans (b2.mono (by omega))⟩

set_option maxHeartbeats 800000 in
theorem implIdsIn_any (d : S) (B : Nat) (w : World) (hin : d.In w B) (hB : B ≤ w.heap.size) (hs : d.size ≤ 2000000) (hbk : d.bulk ≤ 2000000) : Calls Try.prog 50 #[d.val] w (RetIL d.idE w) := by
  have bA : Below w.heap.size w (w.alloc (.cells #[.int .i64 d.k, .int .i64 d.n, .string d.t, .slice d.sa d.s.length d.sc, .slice d.A d.l.length d.c] 52)) := (Below.refl _ _).alloc (Nat.le_refl _) _
  have x0 := S.Box.new w d 52
  unfold S.val
  cases hq : d.isS
  · have he : d.idE = [] := by unfold S.idE; rw [hq]; rfl
    have HE := Lib.hid he
    have HQ := Lib.hid hq
    clear he hq
    go_enter Try.func50, Try.ntmps50
    go_wp2_with fail
    refine (implIsS_any d B _ (hin.below (bA.mono hB)) (by simp; omega)).mono ?_
    rintro e w1 ⟨rfl, hb1⟩
    rw [HQ.out]
    have b1 := bA.trans (hb1.mono (by simp))
    clear hb1 bA x0
    go_wp2_with fail
    go_ret
    exact ⟨none, 0, [], rfl, by rw [HE.out]; rfl, S.itm_own (Elem.LOwn.nil_ (by omega) (by simp)), b1⟩
  · have he : d.idE = d.idA [] := by unfold S.idE; rw [hq]; rfl
    have HV := Lib.hid (S.valid_of_isS hq)
    have HE := Lib.hid he
    have HQ := Lib.hid hq
    clear he hq
    go_enter Try.func50, Try.ntmps50
    go_wp2_with fail
    refine (implIsS_any d B _ (hin.below (bA.mono hB)) (by simp; omega)).mono ?_
    rintro e w1 ⟨rfl, hb1⟩
    rw [HQ.out]
    have z1 := hb1.size
    simp only [World.size_alloc] at z1
    obtain ⟨a0, a1, a2, a3, a4⟩ := x0.below hb1 (by simp)
    have b1 := bA.trans (hb1.mono (by simp))
    have i1 := hin.below (b1.mono hB)
    clear hb1 bA x0
    have r0 : SRow w1.heap.size [] (.slice (some ⟨w1.heap.size, 0, none⟩) 0 0) (w1.alloc (.cells #[] 52)) := ⟨[], World.ownsRow_made w1 #[] 0 (Nat.le_refl _) (by unfold maxLen; omega) (by simp), Elem.OwnL.nil_, by simp [Elem.blksL], rfl⟩
    have rn : SRow w1.heap.size [] (.slice none 0 0) w1 := ⟨[], World.ownsRow_nil _ _ _ _, Elem.OwnL.nil_, by simp [Elem.blksL], rfl⟩
    go_wp2_with fail
    refine (addIds_any 2000000 d B w1.heap.size [] _ _ hs (Nat.le_refl _) hbk HV.out i1 (by omega) (by omega) (Nat.le_refl _) rn (by simp; omega)).mono ?_
    rintro e w2 ⟨v', rfl, h1, h2, h3⟩
    have z2 := h2.size
    have b2 : Below w1.heap.size w1 w2 := h2.below (fun k hk => by simp [Value.ownBlock] at hk) (Nat.le_refl _)
    obtain ⟨A', c', l', rfl, hm, ho⟩ := h1.out
    have HM := Lib.hid hm
    clear h1 h2 h3 r0 rn hm
    go_wp2_with fail
    go_ret
    exact ⟨A', c', l', rfl, by rw [HE.out]; exact HM.out, ho.wide (by omega) (Nat.le_refl _), b1.trans (b2.mono (by omega))⟩

set_option maxRecDepth 100000 in
set_option maxHeartbeats 2000000 in
theorem law_ids (a : S) (w : World) (h_a : a.In w w.heap.size) : Calls Try.prog 9 #[a.val] w fun e w' => e = .returned (.bool true) ∧ Below w.heap.size w w' := by
  unfold S.val
  by_cases hz_a : (a.bulk : Int) ≤ 1048576
  · have hs_a : a.size ≤ 1048577 := by have := S.bulk_size a; omega
    have hs_a : a.size ≤ 2000000 := by omega
    have hk_a : a.bulk ≤ 1048576 := by omega
    have hb_a : a.bulk ≤ 2000000 := by omega
    have b0 : Below w.heap.size w w := Below.refl _ _
    have i_a := h_a
    go_enter Try.func9, Try.ntmps9
    go_wp2_with fail
    obtain ⟨w1, hw1⟩ : ∃ W, W = w.alloc (.cells #[.int .i64 a.k, .int .i64 a.n, .string a.t, .slice a.sa a.s.length a.sc, .slice a.A a.l.length a.c] 48) := ⟨_, rfl⟩
    rw [← hw1]
    have hb1 : Below w.heap.size w w1 := by rw [hw1]; exact (Below.refl _ _).alloc (Nat.le_refl _) _
    have z1 : w.heap.size + 1 ≤ w1.heap.size := by rw [hw1]; simp
    have y1 : w1.heap.size ≤ w.heap.size + 1 := by rw [hw1]; simp
    have a_a : S.Box w1 w.heap.size a := by rw [hw1]; exact S.Box.new _ _ _
    clear hw1
    have b1 := b0.trans (hb1.mono (by omega))
    have i_a := h_a.below b1
    clear hb1
    refine (ssz_any 2000000 a w.heap.size _ 1048576 hs_a (by omega) (by omega) i_a (by omega)).mono ?_
    rintro e w2 ⟨rfl, hb2⟩
    have z2 := hb2.size
    have a_a := a_a.below hb2 (by omega)
    have b2 := b1.trans (hb2.mono (by omega))
    have i_a := h_a.below b2
    clear hb2
    rw [szR_yes (by omega)]
    have n1_a : ¬ (1048576 - (a.bulk : Int) < 0) := by omega
    have a_aq := a_a
    obtain ⟨a_a_0, a_a_1, a_a_2, a_a_3, a_a_4⟩ := a_aq
    have a_alt : w.heap.size < w2.heap.size := (by omega)
    go_wp2_with fail
    clear a_a_0 a_a_1 a_a_2 a_a_3 a_a_4 a_alt
    refine (sto_any 2000000 a w.heap.size _ hb_a hs_a (by omega) i_a (by omega)).mono ?_
    rintro e w3 ⟨d1_a, rfl, hed1_a, od1_a, hb3⟩
    have z3 := hb3.size
    have a_a := a_a.below hb3 (by omega)
    have b3 := b2.trans (hb3.mono (by omega))
    have i_a := h_a.below b3
    clear hb3
    have Qd1_a := Lib.hid hed1_a
    obtain ⟨sd1_a, kd1_a, td1_a⟩ := S.bounds_of Qd1_a.out (by rw [S.size_er]; omega) (by rw [S.bulk_er]; omega)
    clear hed1_a
    have a_aq := a_a
    obtain ⟨a_a_0, a_a_1, a_a_2, a_a_3, a_a_4⟩ := a_aq
    have a_alt : w.heap.size < w3.heap.size := (by omega)
    go_wp2_with fail
    clear a_a_0 a_a_1 a_a_2 a_a_3 a_a_4 a_alt
    refine (specIdsIn_any d1_a w3.heap.size _ (od1_a.inn.more (by omega)) (by omega) sd1_a (by omega)).mono ?_
    rintro e w4 ⟨vvA, vvc, vv, rfl, hevv, ovv, hb4⟩
    have z4 := hb4.size
    have a_a := a_a.below hb4 (by omega)
    have od1_a := od1_a.below (hb4.mono (by omega))
    have b4 := b3.trans (hb4.mono (by omega))
    have i_a := h_a.below b4
    clear hb4
    rw [S.idE_of_er Qd1_a.out] at hevv
    have Qvv := Lib.hid hevv
    obtain ⟨svv, kvv, tvv⟩ := S.id_bounds hevv hk_a
    clear hevv
    clear od1_a
    have a_aq := a_a
    obtain ⟨a_a_0, a_a_1, a_a_2, a_a_3, a_a_4⟩ := a_aq
    have a_alt : w.heap.size < w4.heap.size := (by omega)
    go_wp2_with fail
    clear a_a_0 a_a_1 a_a_2 a_a_3 a_a_4 a_alt
    refine (sto_any 2000000 a w.heap.size _ hb_a hs_a (by omega) i_a (by omega)).mono ?_
    rintro e w5 ⟨x_a, rfl, hex_a, ox_a, hb5⟩
    have z5 := hb5.size
    have a_a := a_a.below hb5 (by omega)
    have ovv := ovv.below (hb5.mono (by omega))
    have b5 := b4.trans (hb5.mono (by omega))
    have i_a := h_a.below b5
    clear hb5
    have Qx_a := Lib.hid hex_a
    obtain ⟨sx_a, kx_a, tx_a⟩ := S.bounds_of Qx_a.out (by rw [S.size_er]; omega) (by rw [S.bulk_er]; omega)
    clear hex_a
    simp only [S.val]
    have a_aq := a_a
    obtain ⟨a_a_0, a_a_1, a_a_2, a_a_3, a_a_4⟩ := a_aq
    have a_alt : w.heap.size < w5.heap.size := (by omega)
    go_wp2_with fail
    clear a_a_0 a_a_1 a_a_2 a_a_3 a_a_4 a_alt
    obtain ⟨w6, hw6⟩ : ∃ W, W = w5.alloc (.cells #[.int .i64 x_a.k, .int .i64 x_a.n, .string x_a.t, .slice x_a.sa x_a.s.length x_a.sc, .slice x_a.A x_a.l.length x_a.c] 52) := ⟨_, rfl⟩
    rw [← hw6]
    have hb6 : Below w5.heap.size w5 w6 := by rw [hw6]; exact (Below.refl _ _).alloc (Nat.le_refl _) _
    have z6 : w5.heap.size + 1 ≤ w6.heap.size := by rw [hw6]; simp
    have y6 : w6.heap.size ≤ w5.heap.size + 1 := by rw [hw6]; simp
    have xb_a : S.Box w6 w5.heap.size x_a := by rw [hw6]; exact S.Box.new _ _ _
    clear hw6
    have a_a := a_a.below hb6 (by omega)
    have ovv := ovv.below (hb6.mono (by omega))
    have ox_a := ox_a.below (hb6.mono (by omega))
    have b6 := b5.trans (hb6.mono (by omega))
    have i_a := h_a.below b6
    clear hb6
    refine (implIdsIn_any x_a w6.heap.size _ (ox_a.inn.more (by omega)) (by omega) sx_a (by omega)).mono ?_
    rintro e w7 ⟨gvA, gvc, gv, rfl, hegv, ogv, hb7⟩
    have z7 := hb7.size
    have a_a := a_a.below hb7 (by omega)
    have xb_a := xb_a.below hb7 (by omega)
    have ovv := ovv.below (hb7.mono (by omega))
    have ox_a := ox_a.below (hb7.mono (by omega))
    have b7 := b6.trans (hb7.mono (by omega))
    have i_a := h_a.below b7
    clear hb7
    rw [S.idE_of_er Qx_a.out] at hegv
    have Qgv := Lib.hid hegv
    obtain ⟨sgv, kgv, tgv⟩ := S.id_bounds hegv hk_a
    clear hegv
    have a_aq := a_a
    obtain ⟨a_a_0, a_a_1, a_a_2, a_a_3, a_a_4⟩ := a_aq
    have a_alt : w.heap.size < w7.heap.size := (by omega)
    have xb_aq := xb_a
    obtain ⟨xb_a_0, xb_a_1, xb_a_2, xb_a_3, xb_a_4⟩ := xb_aq
    have xb_alt : w5.heap.size < w7.heap.size := (by omega)
    go_wp2_with fail
    clear a_a_0 a_a_1 a_a_2 a_a_3 a_a_4 a_alt
    clear xb_a_0 xb_a_1 xb_a_2 xb_a_3 xb_a_4 xb_alt
    refine (seqL_all 2000000 0 0 ⟨#[]⟩ none 0 [] gvA gvc gv 0 0 ⟨#[]⟩ none 0 [] vvA vvc vv w7.heap.size _ (by omega) (ogv.inn.more (by omega)) (ovv.inn.more (by omega)) (by omega)).mono ?_
    rintro e w8 ⟨rfl, hb8⟩
    have z8 := hb8.size
    have a_a := a_a.below hb8 (by omega)
    have xb_a := xb_a.below hb8 (by omega)
    have ovv := ovv.below (hb8.mono (by omega))
    have ox_a := ox_a.below (hb8.mono (by omega))
    have ogv := ogv.below (hb8.mono (by omega))
    have b8 := b7.trans (hb8.mono (by omega))
    have i_a := h_a.below b8
    clear hb8
    have Eqgv : S.eqL gv vv = true := S.eqL_of_map (Qgv.out.trans Qvv.out.symm)
    rw [Eqgv]
    clear Eqgv
    have a_aq := a_a
    obtain ⟨a_a_0, a_a_1, a_a_2, a_a_3, a_a_4⟩ := a_aq
    have a_alt : w.heap.size < w8.heap.size := (by omega)
    have xb_aq := xb_a
    obtain ⟨xb_a_0, xb_a_1, xb_a_2, xb_a_3, xb_a_4⟩ := xb_aq
    have xb_alt : w5.heap.size < w8.heap.size := (by omega)
    go_wp2_with fail
    clear a_a_0 a_a_1 a_a_2 a_a_3 a_a_4 a_alt
    clear xb_a_0 xb_a_1 xb_a_2 xb_a_3 xb_a_4 xb_alt
    have a_aq := a_a
    obtain ⟨a_a_0, a_a_1, a_a_2, a_a_3, a_a_4⟩ := a_aq
    have a_alt : w.heap.size < w8.heap.size := (by omega)
    have xb_aq := xb_a
    obtain ⟨xb_a_0, xb_a_1, xb_a_2, xb_a_3, xb_a_4⟩ := xb_aq
    have xb_alt : w5.heap.size < w8.heap.size := (by omega)
    have tok0 : True := trivial
    have tok1 : True := trivial
    go_region_held3 (fun w' => w'.cell? ⟨w.heap.size, 0, none⟩ = some (.int .i64 a.k) ∧ w'.cell? ⟨w.heap.size, 1, none⟩ = some (.int .i64 a.n) ∧ w'.cell? ⟨w.heap.size, 2, none⟩ = some (.string a.t) ∧ w'.cell? ⟨w.heap.size, 3, none⟩ = some (.slice a.sa a.s.length a.sc) ∧ w'.cell? ⟨w.heap.size, 4, none⟩ = some (.slice a.A a.l.length a.c) ∧ w'.cell? ⟨w5.heap.size, 0, none⟩ = some (.int .i64 x_a.k) ∧ w'.cell? ⟨w5.heap.size, 1, none⟩ = some (.int .i64 x_a.n) ∧ w'.cell? ⟨w5.heap.size, 2, none⟩ = some (.string x_a.t) ∧ w'.cell? ⟨w5.heap.size, 3, none⟩ = some (.slice x_a.sa x_a.s.length x_a.sc) ∧ w'.cell? ⟨w5.heap.size, 4, none⟩ = some (.slice x_a.A x_a.l.length x_a.c)) (go_keep)
      (first
        | (go_at_call 40; have _t := tok0; refine (sto_any 2000000 a w.heap.size _ hb_a hs_a ?_ ?_ ?_).mono ?_; omega; exact i_a.drew; (show w.heap.size ≤ w8.heap.size); omega; rintro e w9 ⟨y_a, rfl, hey_a, oy_a, hb9⟩; have hb9 : Below w8.heap.size w8 w9 := below_undrew hb9; have z9 : w8.heap.size ≤ w9.heap.size := hb9.size; clear tok0; have Qy_a := Lib.hid hey_a; clear hey_a; have a_a := a_a.below hb9 (by omega); have xb_a := xb_a.below hb9 (by omega); have ovv := ovv.below (hb9.mono (by omega)); have ox_a := ox_a.below (hb9.mono (by omega)); have ogv := ogv.below (hb9.mono (by omega)); have b9 := b8.trans (hb9.mono (by omega)); have i_a := h_a.below b9; clear hb9; have a_aq := a_a; obtain ⟨a_a_0, a_a_1, a_a_2, a_a_3, a_a_4⟩ := a_aq; have a_alt : w.heap.size < w9.heap.size := (by omega); have xb_aq := xb_a; obtain ⟨xb_a_0, xb_a_1, xb_a_2, xb_a_3, xb_a_4⟩ := xb_aq; have xb_alt : w5.heap.size < w9.heap.size := (by omega))
        | (go_at_call 42; have _t := tok1; refine (seq_all 2000000 x_a y_a w9.heap.size _ ?_ ?_ ?_ ?_).mono ?_; omega; exact ox_a.inn.more (by omega); exact oy_a.inn.more (by omega); omega; rintro e w10 ⟨rfl, hb10⟩; have z10 : w9.heap.size ≤ w10.heap.size := hb10.size; clear tok1; have a_a := a_a.below hb10 (by omega); have xb_a := xb_a.below hb10 (by omega); have ovv := ovv.below (hb10.mono (by omega)); have ox_a := ox_a.below (hb10.mono (by omega)); have ogv := ogv.below (hb10.mono (by omega)); have b10 := b9.trans (hb10.mono (by omega)); have i_a := h_a.below b10; clear hb10; have a_aq := a_a; obtain ⟨a_a_0, a_a_1, a_a_2, a_a_3, a_a_4⟩ := a_aq; have a_alt : w.heap.size < w10.heap.size := (by omega); have xb_aq := xb_a; obtain ⟨xb_a_0, xb_a_1, xb_a_2, xb_a_3, xb_a_4⟩ := xb_aq; have xb_alt : w5.heap.size < w10.heap.size := (by omega)))
    clear a_a_0 a_a_1 a_a_2 a_a_3 a_a_4 a_alt
    clear xb_a_0 xb_a_1 xb_a_2 xb_a_3 xb_a_4 xb_alt
    have Ey_a : S.eqB x_a y_a = true := S.eqB_of_er (Qx_a.out.trans Qy_a.out.symm)
    rw [Ey_a]
    clear Ey_a oy_a
    have a_aq := a_a
    obtain ⟨a_a_0, a_a_1, a_a_2, a_a_3, a_a_4⟩ := a_aq
    have a_alt : w.heap.size < w10.heap.size := (by omega)
    have xb_aq := xb_a
    obtain ⟨xb_a_0, xb_a_1, xb_a_2, xb_a_3, xb_a_4⟩ := xb_aq
    have xb_alt : w5.heap.size < w10.heap.size := (by omega)
    go_wp2_with fail
    clear a_a_0 a_a_1 a_a_2 a_a_3 a_a_4 a_alt
    clear xb_a_0 xb_a_1 xb_a_2 xb_a_3 xb_a_4 xb_alt
    refine (markSyn_any x_a w4.heap.size w5.heap.size _ 1 (by omega) (by omega) (by omega) (by omega) (by omega) ox_a (by omega)).mono ?_
    rintro e w11 ⟨rfl, x_am, hc11⟩
    have z11 := hc11.size
    have hl11 : ∀ k ∈ S.blks x_a, w4.heap.size ≤ k ∧ k < w5.heap.size := fun k hk => ⟨ox_a.lo_ _ hk, ox_a.inn.blk_lt _ hk⟩
    have a_a := a_a.chg hc11 (by omega) (fun hm => by have := hl11 _ hm; omega)
    have xb_a := xb_a.chg hc11 (by omega) (fun hm => by have := hl11 _ hm; omega)
    have ovv := ovv.keepB (w' := w11) (fun k hk => hc11.block k (by have := ovv.inn.blk_lt _ hk; omega) (fun hm => by have := hl11 _ hm; have := ovv.inn.blk_lt _ hk; have := ovv.lo_ _ hk; omega))
    have ogv := ogv.keepB (w' := w11) (fun k hk => hc11.block k (by have := ogv.inn.blk_lt _ hk; omega) (fun hm => by have := hl11 _ hm; have := ogv.inn.blk_lt _ hk; have := ogv.lo_ _ hk; omega))
    have b11 : Below w.heap.size w w11 := b10.trans (hc11.below (fun k hk => by have := hl11 _ hk; omega) (by omega))
    have i_a := h_a.below b11
    have ox_a := x_am
    clear hc11 hl11 x_am
    have n2_a : ¬ (1 + (x_a.s.length : Int) + (S.wtL x_a.l : Int) < 0) := by omega
    clear ox_a
    have a_aq := a_a
    obtain ⟨a_a_0, a_a_1, a_a_2, a_a_3, a_a_4⟩ := a_aq
    have a_alt : w.heap.size < w11.heap.size := (by omega)
    have xb_aq := xb_a
    obtain ⟨xb_a_0, xb_a_1, xb_a_2, xb_a_3, xb_a_4⟩ := xb_aq
    have xb_alt : w5.heap.size < w11.heap.size := (by omega)
    go_wp2_with fail
    clear a_a_0 a_a_1 a_a_2 a_a_3 a_a_4 a_alt
    clear xb_a_0 xb_a_1 xb_a_2 xb_a_3 xb_a_4 xb_alt
    refine (seqL_all 2000000 0 0 ⟨#[]⟩ none 0 [] gvA gvc gv 0 0 ⟨#[]⟩ none 0 [] vvA vvc vv w11.heap.size _ (by omega) (ogv.inn.more (by omega)) (ovv.inn.more (by omega)) (by omega)).mono ?_
    rintro e w12 ⟨rfl, hb12⟩
    have z12 := hb12.size
    have a_a := a_a.below hb12 (by omega)
    have xb_a := xb_a.below hb12 (by omega)
    have ovv := ovv.below (hb12.mono (by omega))
    have ogv := ogv.below (hb12.mono (by omega))
    have b12 := b11.trans (hb12.mono (by omega))
    have i_a := h_a.below b12
    clear hb12
    have Eqgv : S.eqL gv vv = true := S.eqL_of_map (Qgv.out.trans Qvv.out.symm)
    rw [Eqgv]
    clear Eqgv
    have a_aq := a_a
    obtain ⟨a_a_0, a_a_1, a_a_2, a_a_3, a_a_4⟩ := a_aq
    have a_alt : w.heap.size < w12.heap.size := (by omega)
    have xb_aq := xb_a
    obtain ⟨xb_a_0, xb_a_1, xb_a_2, xb_a_3, xb_a_4⟩ := xb_aq
    have xb_alt : w5.heap.size < w12.heap.size := (by omega)
    go_wp2_with fail
    clear a_a_0 a_a_1 a_a_2 a_a_3 a_a_4 a_alt
    clear xb_a_0 xb_a_1 xb_a_2 xb_a_3 xb_a_4 xb_alt
    refine (smark_any 2000000 gvA gvc gv w6.heap.size w7.heap.size _ 1 (by omega) (by omega) (by omega) (by omega) (by omega) ogv (by omega)).mono ?_
    rintro e w13 ⟨rfl, gvm, hc13⟩
    have z13 := hc13.size
    have hl13 : ∀ k ∈ S.blks (S.itm gvA gvc gv), w6.heap.size ≤ k ∧ k < w7.heap.size := fun k hk => ⟨ogv.lo_ _ hk, ogv.inn.blk_lt _ hk⟩
    have a_a := a_a.chg hc13 (by omega) (fun hm => by have := hl13 _ hm; omega)
    have xb_a := xb_a.chg hc13 (by omega) (fun hm => by have := hl13 _ hm; omega)
    have ovv := ovv.keepB (w' := w13) (fun k hk => hc13.block k (by have := ovv.inn.blk_lt _ hk; omega) (fun hm => by have := hl13 _ hm; have := ovv.inn.blk_lt _ hk; have := ovv.lo_ _ hk; omega))
    have b13 : Below w.heap.size w w13 := b12.trans (hc13.below (fun k hk => by have := hl13 _ hk; omega) (by omega))
    have i_a := h_a.below b13
    have ogv := gvm
    clear hc13 hl13 gvm
    have a_aq := a_a
    obtain ⟨a_a_0, a_a_1, a_a_2, a_a_3, a_a_4⟩ := a_aq
    have a_alt : w.heap.size < w13.heap.size := (by omega)
    have xb_aq := xb_a
    obtain ⟨xb_a_0, xb_a_1, xb_a_2, xb_a_3, xb_a_4⟩ := xb_aq
    have xb_alt : w5.heap.size < w13.heap.size := (by omega)
    go_wp2_with fail
    clear a_a_0 a_a_1 a_a_2 a_a_3 a_a_4 a_alt
    clear xb_a_0 xb_a_1 xb_a_2 xb_a_3 xb_a_4 xb_alt
    refine (sheld_any 2000000 gvA gvc gv w7.heap.size _ 1 (by omega) (by omega) (by omega) (by omega) (by omega) ogv.inn (by omega)).mono ?_
    rintro e w14 ⟨rfl, hb14⟩
    have z14 := hb14.size
    have a_a := a_a.below hb14 (by omega)
    have xb_a := xb_a.below hb14 (by omega)
    have ovv := ovv.below (hb14.mono (by omega))
    have ogv := ogv.below (hb14.mono (by omega))
    have b14 := b13.trans (hb14.mono (by omega))
    have i_a := h_a.below b14
    clear hb14
    have n3 : ¬ (1 + (S.wtL gv : Int) < 0) := by omega
    have a_aq := a_a
    obtain ⟨a_a_0, a_a_1, a_a_2, a_a_3, a_a_4⟩ := a_aq
    have a_alt : w.heap.size < w14.heap.size := (by omega)
    have xb_aq := xb_a
    obtain ⟨xb_a_0, xb_a_1, xb_a_2, xb_a_3, xb_a_4⟩ := xb_aq
    have xb_alt : w5.heap.size < w14.heap.size := (by omega)
    go_wp2_with fail
    clear a_a_0 a_a_1 a_a_2 a_a_3 a_a_4 a_alt
    clear xb_a_0 xb_a_1 xb_a_2 xb_a_3 xb_a_4 xb_alt
    refine (sto_any 2000000 a w.heap.size _ hb_a hs_a (by omega) i_a (by omega)).mono ?_
    rintro e w15 ⟨d4_a, rfl, hed4_a, od4_a, hb15⟩
    have z15 := hb15.size
    have a_a := a_a.below hb15 (by omega)
    have xb_a := xb_a.below hb15 (by omega)
    have ovv := ovv.below (hb15.mono (by omega))
    have ogv := ogv.below (hb15.mono (by omega))
    have b15 := b14.trans (hb15.mono (by omega))
    have i_a := h_a.below b15
    clear hb15
    have Qd4_a := Lib.hid hed4_a
    obtain ⟨sd4_a, kd4_a, td4_a⟩ := S.bounds_of Qd4_a.out (by rw [S.size_er]; omega) (by rw [S.bulk_er]; omega)
    clear hed4_a
    have a_aq := a_a
    obtain ⟨a_a_0, a_a_1, a_a_2, a_a_3, a_a_4⟩ := a_aq
    have a_alt : w.heap.size < w15.heap.size := (by omega)
    have xb_aq := xb_a
    obtain ⟨xb_a_0, xb_a_1, xb_a_2, xb_a_3, xb_a_4⟩ := xb_aq
    have xb_alt : w5.heap.size < w15.heap.size := (by omega)
    go_wp2_with fail
    clear a_a_0 a_a_1 a_a_2 a_a_3 a_a_4 a_alt
    clear xb_a_0 xb_a_1 xb_a_2 xb_a_3 xb_a_4 xb_alt
    refine (implIdsIn_any d4_a w15.heap.size _ (od4_a.inn.more (by omega)) (by omega) sd4_a (by omega)).mono ?_
    rintro e w16 ⟨hvA, hvc, hv, rfl, hehv, ohv, hb16⟩
    have z16 := hb16.size
    have a_a := a_a.below hb16 (by omega)
    have xb_a := xb_a.below hb16 (by omega)
    have ovv := ovv.below (hb16.mono (by omega))
    have ogv := ogv.below (hb16.mono (by omega))
    have od4_a := od4_a.below (hb16.mono (by omega))
    have b16 := b15.trans (hb16.mono (by omega))
    have i_a := h_a.below b16
    clear hb16
    rw [S.idE_of_er Qd4_a.out] at hehv
    have Qhv := Lib.hid hehv
    obtain ⟨shv, khv, thv⟩ := S.id_bounds hehv hk_a
    clear hehv
    clear od4_a
    have a_aq := a_a
    obtain ⟨a_a_0, a_a_1, a_a_2, a_a_3, a_a_4⟩ := a_aq
    have a_alt : w.heap.size < w16.heap.size := (by omega)
    have xb_aq := xb_a
    obtain ⟨xb_a_0, xb_a_1, xb_a_2, xb_a_3, xb_a_4⟩ := xb_aq
    have xb_alt : w5.heap.size < w16.heap.size := (by omega)
    go_wp2_with fail
    clear a_a_0 a_a_1 a_a_2 a_a_3 a_a_4 a_alt
    clear xb_a_0 xb_a_1 xb_a_2 xb_a_3 xb_a_4 xb_alt
    refine (seqL_all 2000000 0 0 ⟨#[]⟩ none 0 [] hvA hvc hv 0 0 ⟨#[]⟩ none 0 [] vvA vvc vv w16.heap.size _ (by omega) (ohv.inn.more (by omega)) (ovv.inn.more (by omega)) (by omega)).mono ?_
    rintro e w17 ⟨rfl, hb17⟩
    have z17 := hb17.size
    have a_a := a_a.below hb17 (by omega)
    have xb_a := xb_a.below hb17 (by omega)
    have ovv := ovv.below (hb17.mono (by omega))
    have ogv := ogv.below (hb17.mono (by omega))
    have ohv := ohv.below (hb17.mono (by omega))
    have b17 := b16.trans (hb17.mono (by omega))
    have i_a := h_a.below b17
    clear hb17
    have Eqhv : S.eqL hv vv = true := S.eqL_of_map (Qhv.out.trans Qvv.out.symm)
    rw [Eqhv]
    clear Eqhv
    have a_aq := a_a
    obtain ⟨a_a_0, a_a_1, a_a_2, a_a_3, a_a_4⟩ := a_aq
    have a_alt : w.heap.size < w17.heap.size := (by omega)
    have xb_aq := xb_a
    obtain ⟨xb_a_0, xb_a_1, xb_a_2, xb_a_3, xb_a_4⟩ := xb_aq
    have xb_alt : w5.heap.size < w17.heap.size := (by omega)
    go_wp2_with fail
    clear a_a_0 a_a_1 a_a_2 a_a_3 a_a_4 a_alt
    clear xb_a_0 xb_a_1 xb_a_2 xb_a_3 xb_a_4 xb_alt
    refine (sheld_any 2000000 gvA gvc gv w7.heap.size _ 1 (by omega) (by omega) (by omega) (by omega) (by omega) ogv.inn (by omega)).mono ?_
    rintro e w18 ⟨rfl, hb18⟩
    have z18 := hb18.size
    have a_a := a_a.below hb18 (by omega)
    have xb_a := xb_a.below hb18 (by omega)
    have ovv := ovv.below (hb18.mono (by omega))
    have ogv := ogv.below (hb18.mono (by omega))
    have ohv := ohv.below (hb18.mono (by omega))
    have b18 := b17.trans (hb18.mono (by omega))
    have i_a := h_a.below b18
    clear hb18
    have a_aq := a_a
    obtain ⟨a_a_0, a_a_1, a_a_2, a_a_3, a_a_4⟩ := a_aq
    have a_alt : w.heap.size < w18.heap.size := (by omega)
    have xb_aq := xb_a
    obtain ⟨xb_a_0, xb_a_1, xb_a_2, xb_a_3, xb_a_4⟩ := xb_aq
    have xb_alt : w5.heap.size < w18.heap.size := (by omega)
    go_wp2_with fail
    clear a_a_0 a_a_1 a_a_2 a_a_3 a_a_4 a_alt
    clear xb_a_0 xb_a_1 xb_a_2 xb_a_3 xb_a_4 xb_alt
    go_ret
    exact ⟨rfl, b18⟩
  · have b0 : Below w.heap.size w w := Below.refl _ _
    have i_a := h_a
    go_enter Try.func9, Try.ntmps9
    go_wp2_with fail
    obtain ⟨w1, hw1⟩ : ∃ W, W = w.alloc (.cells #[.int .i64 a.k, .int .i64 a.n, .string a.t, .slice a.sa a.s.length a.sc, .slice a.A a.l.length a.c] 48) := ⟨_, rfl⟩
    rw [← hw1]
    have hb1 : Below w.heap.size w w1 := by rw [hw1]; exact (Below.refl _ _).alloc (Nat.le_refl _) _
    have z1 : w.heap.size + 1 ≤ w1.heap.size := by rw [hw1]; simp
    have y1 : w1.heap.size ≤ w.heap.size + 1 := by rw [hw1]; simp
    have a_a : S.Box w1 w.heap.size a := by rw [hw1]; exact S.Box.new _ _ _
    clear hw1
    have b1 := b0.trans (hb1.mono (by omega))
    have i_a := h_a.below b1
    clear hb1
    refine (ssz_any (a.size + 1) a w.heap.size _ 1048576 (by omega) (by omega) (by omega) i_a (by omega)).mono ?_
    rintro e w2 ⟨rfl, hb2⟩
    have z2 := hb2.size
    have a_a := a_a.below hb2 (by omega)
    have b2 := b1.trans (hb2.mono (by omega))
    have i_a := h_a.below b2
    clear hb2
    rw [szR_no (by omega)]
    have a_aq := a_a
    obtain ⟨a_a_0, a_a_1, a_a_2, a_a_3, a_a_4⟩ := a_aq
    have a_alt : w.heap.size < w2.heap.size := (by omega)
    go_wp2_with fail
    clear a_a_0 a_a_1 a_a_2 a_a_3 a_a_4 a_alt
    go_ret
    exact ⟨rfl, b2⟩
end Go.Proofs.Ytiopophoioiafaa
