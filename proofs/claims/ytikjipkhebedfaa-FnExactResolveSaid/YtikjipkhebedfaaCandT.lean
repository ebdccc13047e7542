/-
  Candidates: the program's and the model's.
-/
import Derived.Test.YtikjipkhebedfaaCand
import Derived.Test.YtikjipkhebedfaaCpM
import Derived.Test.YtikjipkhebedfaaSSame
namespace Go.Proofs.Ytikjipkhebedfaa
open Go.RowKit
namespace Bd
/-- The bindings that a list has for an identifier. -/
def candL (l : List Bd) (d : S) : List Bd := if areB l && d.isI then erL (l.filter (fitM d)) else []
theorem goodL_all : ∀ (l p : List Bd), goodL p l = true → ∀ b ∈ l, isB b = true
  | [], _, _ => by simp
  | x :: r, p, h => by
    simp only [goodL, Bool.and_eq_true] at h
    intro b hb
    rcases List.mem_cons.1 hb with rfl | hb
    · exact h.1
    · exact goodL_all r _ h.2.2 b hb
theorem areB_all {l : List Bd} (h : areB l = true) : ∀ b ∈ l, isB b = true := by
  simp only [areB, Bool.and_eq_true] at h
  exact goodL_all l [] h.1
theorem areB_len {l : List Bd} (h : areB l = true) : l.length ≤ 1000 := by
  simp only [areB, Bool.and_eq_true, decide_eq_true_eq] at h
  exact h.2
theorem isB_set {b : Bd} (h : isB b = true) : isSetI b.s = true := by
  simp only [isB, Bool.and_eq_true] at h
  exact h.2.1
end Bd
theorem S.isI_set {d : S} (h : d.isI = true) : isSetI d.s = true := by
  simp only [S.isI, S.isS, Bool.and_eq_true] at h
  obtain ⟨_, _, _, hv⟩ := h
  obtain ⟨k, n, t, sa, sc, s, A, c, l⟩ := d
  simp only [S.valid, Bool.and_eq_true, sNodeOk] at hv
  exact hv.1.2.1
theorem S.bulk_sc (d : S) : d.s.length ≤ d.bulk := by
  obtain ⟨k, n, t, sa, sc, s, A, c, l⟩ := d
  simp only [S.bulk, S.s]; omega
namespace Bd
theorem fit_eq {d : S} {b : Bd} (hb : isB b = true) (hd : d.isI = true) : fitI d b = fitM d b := by
  unfold fitI fitM subTop
  rw [isB_set hb, S.isI_set hd, Bool.true_and, Bool.true_and]
theorem filter_fit {l : List Bd} {d : S} (hl : areB l = true) (hd : d.isI = true) : l.filter (fitI d) = l.filter (fitM d) :=
  List.filter_congr fun b hb => fit_eq (areB_all hl b hb) hd
theorem bulkL_filter (p : Bd → Bool) : ∀ l : List Bd, bulkL (l.filter p) ≤ bulkL l
  | [] => Nat.le_refl _
  | b :: r => by
    have := bulkL_filter p r
    rw [List.filter_cons]
    split <;> simp only [bulkL] <;> omega
theorem fitM_er {d e : S} {a b : Bd} (hd : S.er d = S.er e) (h : er a = er b) : fitM d a = fitM e b := by
  obtain ⟨h1, h2, _, _⟩ := fields_of_er h
  unfold fitM
  rw [h1, h2, S.t_of_er hd, S.s_of_er hd]
theorem filter_er {d e : S} (hd : S.er d = S.er e) : ∀ (l m : List Bd), erL l = erL m → erL (l.filter (fitM d)) = erL (m.filter (fitM e))
  | [], [], _ => rfl
  | [], _ :: _, h => by simp [erL] at h
  | _ :: _, [], h => by simp [erL] at h
  | a :: r, b :: q, h => by
    simp only [erL, List.map_cons, List.cons.injEq] at h
    have := filter_er hd r q h.2
    rw [List.filter_cons, List.filter_cons, fitM_er hd h.1]
    cases fitM e b
    · simpa using this
    · simp only [if_true, erL, List.map_cons, h.1]
      exact congrArg _ this
theorem candL_er {l m : List Bd} {d e : S} (hl : erL l = erL m) (hd : S.er d = S.er e) : candL l d = candL m e := by
  unfold candL; rw [areB_er hl, S.isI_of_er hd, filter_er hd l m hl]
theorem candL_bulk {x a : List Bd} {d : S} {n : Nat} (h : erL x = candL a d) (hn : bulkL a ≤ n) : bulkL x ≤ n := by
  have e : bulkL (erL x) = bulkL x := bulkL_er x
  rw [← e, h]
  unfold candL
  split
  · rw [bulkL_er]; exact Nat.le_trans (bulkL_filter _ _) hn
  · exact Nat.zero_le _
end Bd

set_option maxRecDepth 100000 in
set_option maxHeartbeats 2000000 in
theorem implCandT_any (A : Option Addr) (c : Nat) (l : List Bd) (d : S) (B : Nat) (w : World) (hbk : Bd.bulkL l ≤ 2000000) (hs : d.s.length ≤ 2000000) (hsz : d.size ≤ 2000000) (hin : Bd.E.LIn w B A c l) (hd : d.In w B) (hB : B ≤ w.heap.size) :
    Calls Try.prog 34 #[.slice A l.length c, d.val] w (RetBL (Bd.candL l d) w) := by
  have hcap := hin.cap
  have hll := Bd.bulkL_len l
  have KN : Hid (∀ b, (Bd.areB l && d.isI) = b → b = false → Bd.candL l d = []) := by intro b h1 h2; unfold Bd.candL; rw [h1, h2]; rfl
  have KY : Hid (∀ b, (Bd.areB l && d.isI) = b → b = true → Bd.candL l d = Bd.erL (l.filter (Bd.fitM d))) := by intro b h1 h2; unfold Bd.candL; rw [h1, h2]; rfl
  obtain ⟨W1, hW1⟩ : ∃ W1, W1 = w.alloc (.cells #[.int .i64 d.k, .int .i64 d.n, .string d.t, .slice d.sa d.s.length d.sc, .slice d.A d.l.length d.c] 57) := ⟨_, rfl⟩
  have z1 : w.heap.size + 1 ≤ W1.heap.size := by rw [hW1]; simp
  have B1 : Below w.heap.size w W1 := by rw [hW1]; exact (Below.refl _ _).alloc (Nat.le_refl _) _
  have x0 : S.Box W1 w.heap.size d := by rw [hW1]; exact S.Box.new w d _
  have hc1 := implAreB_any A c l B W1 (hin.below (B1.mono hB)) (by omega)
  have hc2 := fun w' (h : d.In w' B) (hz : B ≤ w'.heap.size) => implIdent_any d B w' h hz
  have hc3 := fun w' (h1 : Bd.E.LIn w' B A c l) (h2 : d.In w' B) (hz : B ≤ w'.heap.size) => candI_any A c l d B w' h1 h2 hz hs (by omega)
  unfold S.val at hc2 hc3 ⊢
  go_enter Try.func34, Try.ntmps34
  go_wp2_with fail
  rw [← hW1]
  clear hW1
  refine hc1.mono ?_
  rintro e w1 ⟨rfl, hb1⟩
  have zz1 := hb1.size
  have x1 := S.Box.below x0 hb1 (by omega)
  have b1 := B1.trans (hb1.mono (by omega))
  have hd1 := hd.below (b1.mono hB)
  have hin1 := hin.below (b1.mono hB)
  clear hc1 x0
  cases hq : Bd.areB l
  · have HQ := Lib.hid hq
    clear hq
    go_wp2_with fail
    go_ret
    exact ⟨none, 0, [], rfl, (KN.out false (by rw [HQ.out]; rfl) rfl).symm, Elem.LOwn.nil_ (by omega) (fun _ => rfl), b1⟩
  · have HQ := Lib.hid hq
    clear hq
    obtain ⟨f0, f1, f2, f3, f4⟩ := x1
    go_wp2_with fail
    refine (hc2 w1 hd1 (by omega)).mono ?_
    rintro e w2 ⟨rfl, hb2⟩
    have zz2 := hb2.size
    have x2 := S.Box.below (⟨f0, f1, f2, f3, f4⟩ : S.Box w1 w.heap.size d) hb2 (by omega)
    have b2 := b1.trans (hb2.mono (by omega))
    have hd2 := hd.below (b2.mono hB)
    have hin2 := hin.below (b2.mono hB)
    clear hc2 f0 f1 f2 f3 f4
    cases hp : d.isI
    · have HP := Lib.hid hp
      clear hp
      go_wp2_with fail
      go_ret
      exact ⟨none, 0, [], rfl, (KN.out false (by rw [HQ.out, HP.out]; rfl) rfl).symm, Elem.LOwn.nil_ (by omega) (fun _ => rfl), b2⟩
    · have HP := Lib.hid hp
      clear hp
      obtain ⟨f0, f1, f2, f3, f4⟩ := x2
      go_wp2_with fail
      refine (hc3 w2 hin2 hd2 (by omega)).mono ?_
      rintro e w3 ⟨A3, c3, rfl, hin3, hb3⟩
      have zz3 := hb3.size
      have b3 := b2.trans (hb3.mono (by omega))
      have e3 : l.filter (Bd.fitI d) = l.filter (Bd.fitM d) := Bd.filter_fit HQ.out HP.out
      have hk3 : Bd.bulkL (l.filter (Bd.fitI d)) ≤ 2000000 := Nat.le_trans (Bd.bulkL_filter _ _) hbk
      have hc4 := copyBL_any A3 c3 (l.filter (Bd.fitI d)) _ w3 hk3 hin3 (Nat.le_refl _)
      have HE3 := Lib.hid e3
      clear hc3 f0 f1 f2 f3 f4 e3
      go_wp2_with fail
      refine hc4.mono ?_
      rintro e w4 h4
      obtain ⟨A4, c4, l4, rfl, he4, ho4, hb4⟩ := h4.toBL
      have zz4 := hb4.size
      have hfin : Bd.erL l4 = Bd.candL l d := by rw [KY.out true (by rw [HQ.out, HP.out]; rfl) rfl, ← HE3.out]; exact he4
      have HF := Lib.hid hfin
      clear hfin he4 h4 hc4
      go_wp2_with fail
      go_ret
      exact ⟨A4, c4, l4, rfl, HF.out, ho4.wide (by omega) (Nat.le_refl _), b3.trans (hb4.mono (by omega))⟩

set_option maxRecDepth 100000 in
set_option maxHeartbeats 2000000 in
theorem specCandT_any (A : Option Addr) (c : Nat) (l : List Bd) (d : S) (B : Nat) (w : World) (hbk : Bd.bulkL l ≤ 2000000) (hs : d.s.length ≤ 2000000) (hsz : d.size ≤ 2000000) (hin : Bd.E.LIn w B A c l) (hd : d.In w B) (hB : B ≤ w.heap.size) :
    Calls Try.prog 32 #[.slice A l.length c, d.val] w (RetBL (Bd.candL l d) w) := by
  have hcap := hin.cap
  have hll := Bd.bulkL_len l
  have KN : Hid (∀ b, (Bd.areB l && d.isI) = b → b = false → Bd.candL l d = []) := by intro b h1 h2; unfold Bd.candL; rw [h1, h2]; rfl
  have KY : Hid (∀ b, (Bd.areB l && d.isI) = b → b = true → Bd.candL l d = Bd.erL (l.filter (Bd.fitM d))) := by intro b h1 h2; unfold Bd.candL; rw [h1, h2]; rfl
  obtain ⟨W1, hW1⟩ : ∃ W1, W1 = w.alloc (.cells #[.int .i64 d.k, .int .i64 d.n, .string d.t, .slice d.sa d.s.length d.sc, .slice d.A d.l.length d.c] 57) := ⟨_, rfl⟩
  have z1 : w.heap.size + 1 ≤ W1.heap.size := by rw [hW1]; simp
  have B1 : Below w.heap.size w W1 := by rw [hW1]; exact (Below.refl _ _).alloc (Nat.le_refl _) _
  have x0 : S.Box W1 w.heap.size d := by rw [hW1]; exact S.Box.new w d _
  have hc1 := specAreB_any A c l B W1 (hin.below (B1.mono hB)) (by omega)
  have hc2 := fun w' (h : d.In w' B) (hz : B ≤ w'.heap.size) => specIdent_any d B w' h hz hsz
  have hc3 := fun w' (h1 : Bd.E.LIn w' B A c l) (h2 : d.In w' B) (hz : B ≤ w'.heap.size) => candM_any A c l d B w' h1 h2 hz hs (by omega)
  unfold S.val at hc2 hc3 ⊢
  go_enter Try.func32, Try.ntmps32
  go_wp2_with fail
  rw [← hW1]
  clear hW1
  refine hc1.mono ?_
  rintro e w1 ⟨rfl, hb1⟩
  have zz1 := hb1.size
  have x1 := S.Box.below x0 hb1 (by omega)
  have b1 := B1.trans (hb1.mono (by omega))
  have hd1 := hd.below (b1.mono hB)
  have hin1 := hin.below (b1.mono hB)
  clear hc1 x0
  cases hq : Bd.areB l
  · have HQ := Lib.hid hq
    clear hq
    go_wp2_with fail
    go_ret
    exact ⟨none, 0, [], rfl, (KN.out false (by rw [HQ.out]; rfl) rfl).symm, Elem.LOwn.nil_ (by omega) (fun _ => rfl), b1⟩
  · have HQ := Lib.hid hq
    clear hq
    obtain ⟨f0, f1, f2, f3, f4⟩ := x1
    go_wp2_with fail
    refine (hc2 w1 hd1 (by omega)).mono ?_
    rintro e w2 ⟨rfl, hb2⟩
    have zz2 := hb2.size
    have x2 := S.Box.below (⟨f0, f1, f2, f3, f4⟩ : S.Box w1 w.heap.size d) hb2 (by omega)
    have b2 := b1.trans (hb2.mono (by omega))
    have hd2 := hd.below (b2.mono hB)
    have hin2 := hin.below (b2.mono hB)
    clear hc2 f0 f1 f2 f3 f4
    cases hp : d.isI
    · have HP := Lib.hid hp
      clear hp
      go_wp2_with fail
      go_ret
      exact ⟨none, 0, [], rfl, (KN.out false (by rw [HQ.out, HP.out]; rfl) rfl).symm, Elem.LOwn.nil_ (by omega) (fun _ => rfl), b2⟩
    · have HP := Lib.hid hp
      clear hp
      obtain ⟨f0, f1, f2, f3, f4⟩ := x2
      go_wp2_with fail
      refine (hc3 w2 hin2 hd2 (by omega)).mono ?_
      rintro e w3 ⟨A3, c3, rfl, hin3, hb3⟩
      have zz3 := hb3.size
      have b3 := b2.trans (hb3.mono (by omega))
      have e3 : l.filter (Bd.fitM d) = l.filter (Bd.fitM d) := rfl
      have hk3 : Bd.bulkL (l.filter (Bd.fitM d)) ≤ 2000000 := Nat.le_trans (Bd.bulkL_filter _ _) hbk
      have hc4 := l3Copy_any A3 c3 (l.filter (Bd.fitM d)) _ w3 hk3 hin3 (Nat.le_refl _)
      have HE3 := Lib.hid e3
      clear hc3 f0 f1 f2 f3 f4 e3
      go_wp2_with fail
      refine hc4.mono ?_
      rintro e w4 h4
      obtain ⟨A4, c4, l4, rfl, he4, ho4, hb4⟩ := h4.toBL
      have zz4 := hb4.size
      have hfin : Bd.erL l4 = Bd.candL l d := by rw [KY.out true (by rw [HQ.out, HP.out]; rfl) rfl]; exact he4
      have HF := Lib.hid hfin
      clear hfin he4 h4 hc4
      go_wp2_with fail
      go_ret
      exact ⟨A4, c4, l4, rfl, HF.out, ho4.wide (by omega) (Nat.le_refl _), b3.trans (hb4.mono (by omega))⟩
theorem specCandT_c (A : Option Addr) (c : Nat) (l : List Bd) (d : S) {l0 : List Bd} {d0 : S} (B : Nat) (w : World) (hl : Bd.erL l = Bd.erL l0) (hde : S.er d = S.er d0) {Y : List Bd} (hY : Y = Bd.candL l0 d0) (hbk : Bd.bulkL l0 ≤ 2000000) (hs : d.bulk ≤ 2000000) (hsz : d.size ≤ 2000000) (hin : Bd.E.LIn w B A c l) (hd : d.In w B) (hB : B ≤ w.heap.size) :
    Calls Try.prog 32 #[.slice A l.length c, d.val] w fun e w' => ∃ (A' : Option Addr) (c' : Nat) (ds : List Bd), e = .returned (.slice A' ds.length c') ∧ Bd.erL ds = Y ∧ Bd.E.LOwn w.heap.size w'.heap.size w' A' c' ds ∧ Below w.heap.size w w' := by
  rw [hY, ← Bd.candL_er hl hde]
  exact specCandT_any A c l d B w (by rw [← Bd.bulkL_er, hl, Bd.bulkL_er]; exact hbk) (Nat.le_trans (S.bulk_sc d) hs) hsz hin hd hB
theorem implCandT_c (A : Option Addr) (c : Nat) (l : List Bd) (d : S) {l0 : List Bd} {d0 : S} (B : Nat) (w : World) (hl : Bd.erL l = Bd.erL l0) (hde : S.er d = S.er d0) {Y : List Bd} (hY : Y = Bd.candL l0 d0) (hbk : Bd.bulkL l0 ≤ 2000000) (hs : d.bulk ≤ 2000000) (hsz : d.size ≤ 2000000) (hin : Bd.E.LIn w B A c l) (hd : d.In w B) (hB : B ≤ w.heap.size) :
    Calls Try.prog 34 #[.slice A l.length c, d.val] w fun e w' => ∃ (A' : Option Addr) (c' : Nat) (ds : List Bd), e = .returned (.slice A' ds.length c') ∧ Bd.erL ds = Y ∧ Bd.E.LOwn w.heap.size w'.heap.size w' A' c' ds ∧ Below w.heap.size w w' := by
  rw [hY, ← Bd.candL_er hl hde]
  exact implCandT_any A c l d B w (by rw [← Bd.bulkL_er, hl, Bd.bulkL_er]; exact hbk) (Nat.le_trans (S.bulk_sc d) hs) hsz hin hd hB
end Go.Proofs.Ytikjipkhebedfaa
