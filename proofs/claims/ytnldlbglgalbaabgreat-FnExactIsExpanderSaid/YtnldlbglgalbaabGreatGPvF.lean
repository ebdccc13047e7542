/-
  A list without its first item (written by gen/pvh.py).
-/
import Derived.Test.YtnldlbglgalbaabGreatGPvE
import Derived.Test.YtnldlbglgalbaabGreatSBase
import Derived.Test.YtnldlbglgalbaabGreatTfProg
import Derived.Test.YtnldlbglgalbaabGreatGPvD
import Derived.Test.YtnldlbglgalbaabGreatShelf
import Derived.Laws.AppendOwn
import Derived.Test.YtnldlbglgalbaabGreatSFits
import Derived.Deep.DeepCutAuto
import Derived.Test.YtnldlbglgalbaabGreatRul
import Derived.Deep.RegionHeld3
import Derived.Test.YtnldlbglgalbaabGreatGPvC
namespace Go.Proofs.YtnldlbglgalbaabGreat
open Go.RowKit
namespace S
/-- A list of all items but the first. -/
def behind (A : Option Addr) (d : S) : S := .mk 0 0 ⟨#[]⟩ none 0 [] A (d.c - 1) d.l.tail
theorem behind_in0 {w : World} {B : Nat} {d : S} {A : Option Addr} (hc : d.c ≤ maxLen) (ht : d.l.tail = []) : (behind A d).In w B := by
  unfold behind S.In
  rw [ht]
  exact ⟨⟨Nat.zero_le _, by omega, by show 0 ≤ _; omega⟩, IIn.nil_ (by omega) (by simp), fun h => absurd rfl h, trivial⟩
theorem cellsL_tail (x : S) (r : List S) : cellsL (x :: r) = x.cells ++ cellsL r := by simp [cellsL]
theorem behind_in {w : World} {B : Nat} {d : S} (h : d.In w B) (hne : d.l ≠ []) {b o : Nat} (hA : d.A = some ⟨b, o, none⟩) : (behind (some ⟨b, o + 5, none⟩) d).In w B := by
  obtain ⟨k, n, t, sa, sc, s, A, c, l⟩ := d
  unfold S.In at h
  obtain ⟨⟨h1, h2, h3⟩, _, h5, h6⟩ := h
  have hne : l ≠ [] := hne
  obtain ⟨b', o', e, hb, hc⟩ := h5 hne
  have hA : A = some ⟨b, o, none⟩ := hA
  rw [hA] at e
  simp only [Option.some.injEq, Addr.mk.injEq, and_true] at e
  obtain ⟨rfl, rfl⟩ := e
  cases l with
  | nil => exact absurd rfl hne
  | cons x r =>
    unfold behind S.In
    refine ⟨⟨by simp only [List.length_cons] at h1; show r.length ≤ c - 1; omega, by show c - 1 ≤ _; omega, by show 0 ≤ _; omega⟩, IIn.nil_ (by omega) (by simp), fun _ => ⟨b, o + 5, rfl, hb, fun j u hu => ?_⟩, ?_⟩
    · have hl : (x.cells).length = 5 := rfl
      have := hc (5 + j) u (by rw [cellsL_tail, List.getElem?_append_right (by omega), hl, Nat.add_sub_cancel_left]; exact hu)
      rw [show o + 5 + j = o + (5 + j) from by omega]
      exact this
    · exact (InL_iff.2 fun y hy => InL_iff.1 h6 y (by simp [show y ∈ r from hy]))
end S

set_option maxRecDepth 100000 in
set_option maxHeartbeats 2000000 in
theorem ibehind_any (d : S) (B : Nat) (w : World) (hd : d.In w B) (hB : B ≤ w.heap.size) (hne : d.l ≠ []) : Calls Tryz.prog 77 #[d.val] w fun e w' => ∃ A1, e = .returned (S.behind A1 d).val ∧ (S.behind A1 d).In w B ∧ Below w.heap.size w w' := by
  obtain ⟨k, n, t, sa, sc, s, A, c, l⟩ := d
  have hne : l ≠ [] := hne
  have hin := hd
  unfold S.In at hin
  obtain ⟨⟨h1, h2, h3⟩, _, h5, _⟩ := hin
  obtain ⟨b, o, rfl, hb, hc⟩ := h5 hne
  have HI := Lib.hid (S.behind_in hd hne rfl)
  have HI0 : Hid (∀ A1 c', c' ≤ maxLen → l.length = 1 → (S.behind A1 (.mk k n t sa sc s (some ⟨b, o, none⟩) c' l)).In w B) := fun A1 c' hc' h => S.behind_in0 hc' (by show l.tail = []; exact List.length_eq_zero_iff.1 (by rw [List.length_tail]; omega))
  clear hc h5 hd
  have hl1 : 1 ≤ l.length := List.length_pos_iff.2 hne
  have hc1 : 1 ≤ c := by omega
  have hcm : c ≤ 9223372036854775807 := by unfold maxLen at h2; omega
  have g1 : (1 : Int) ≤ (l.length : Int) := by omega
  have g2 : (l.length : Int) ≤ (c : Int) := by omega
  have g3 : l.length ≤ c := h1
  have HT : Hid (l.tail.length = l.length - 1) := List.length_tail
  simp only [S.val, S.k, S.n, S.t, S.sa, S.sc, S.s, S.A, S.l, S.c]
  clear hne h1 h2 h3
  go_enter Tryz.func77, Tryz.ntmps77
  go_wp2_with fail
  all_goals first
    | (refine bodyPost_ret (v := .agg #[.int .i64 0, .int .i64 0, .string ⟨#[]⟩, .slice none 0 0, .slice (some ⟨b, o + 5, none⟩) (l.length - 1) (c - 1)]) (by simp [results, Tryz.results77, go_sem]) rfl ⟨some ⟨b, o + 5, none⟩, by simp [S.behind, S.val, S.k, S.n, S.t, S.sa, S.sc, S.s, S.A, S.l, S.c], HI.out, ((Below.refl _ _).alloc (Nat.le_refl _) _).alloc (by simp) _⟩; done)
    | (refine bodyPost_ret (v := .agg #[.int .i64 0, .int .i64 0, .string ⟨#[]⟩, .slice none 0 0, .slice (some ⟨b, o, none⟩) (l.length - 1) 0]) (by simp [results, Tryz.results77, go_sem]) rfl ⟨some ⟨b, o, none⟩, by simp [S.behind, S.val, S.k, S.n, S.t, S.sa, S.sc, S.s, S.A, S.l, S.c], HI0.out _ _ (by unfold maxLen; omega) (by omega), ((Below.refl _ _).alloc (Nat.le_refl _) _).alloc (by simp) _⟩; done)

set_option maxRecDepth 100000 in
set_option maxHeartbeats 2000000 in
theorem sbehind_any (d : S) (B : Nat) (w : World) (hd : d.In w B) (hB : B ≤ w.heap.size) (hne : d.l ≠ []) : Calls Tryz.prog 34 #[d.val] w fun e w' => ∃ A1, e = .returned (S.behind A1 d).val ∧ (S.behind A1 d).In w B ∧ Below w.heap.size w w' := by
  obtain ⟨k, n, t, sa, sc, s, A, c, l⟩ := d
  have hne : l ≠ [] := hne
  have hin := hd
  unfold S.In at hin
  obtain ⟨⟨h1, h2, h3⟩, _, h5, _⟩ := hin
  obtain ⟨b, o, rfl, hb, hc⟩ := h5 hne
  have HI := Lib.hid (S.behind_in hd hne rfl)
  have HI0 : Hid (∀ A1 c', c' ≤ maxLen → l.length = 1 → (S.behind A1 (.mk k n t sa sc s (some ⟨b, o, none⟩) c' l)).In w B) := fun A1 c' hc' h => S.behind_in0 hc' (by show l.tail = []; exact List.length_eq_zero_iff.1 (by rw [List.length_tail]; omega))
  clear hc h5 hd
  have hl1 : 1 ≤ l.length := List.length_pos_iff.2 hne
  have hc1 : 1 ≤ c := by omega
  have hcm : c ≤ 9223372036854775807 := by unfold maxLen at h2; omega
  have g1 : (1 : Int) ≤ (l.length : Int) := by omega
  have g2 : (l.length : Int) ≤ (c : Int) := by omega
  have g3 : l.length ≤ c := h1
  have HT : Hid (l.tail.length = l.length - 1) := List.length_tail
  simp only [S.val, S.k, S.n, S.t, S.sa, S.sc, S.s, S.A, S.l, S.c]
  clear hne h1 h2 h3
  go_enter Tryz.func34, Tryz.ntmps34
  go_wp2_with fail
  all_goals first
    | (refine bodyPost_ret (v := .agg #[.int .i64 0, .int .i64 0, .string ⟨#[]⟩, .slice none 0 0, .slice (some ⟨b, o + 5, none⟩) (l.length - 1) (c - 1)]) (by simp [results, Tryz.results34, go_sem]) rfl ⟨some ⟨b, o + 5, none⟩, by simp [S.behind, S.val, S.k, S.n, S.t, S.sa, S.sc, S.s, S.A, S.l, S.c], HI.out, ((Below.refl _ _).alloc (Nat.le_refl _) _).alloc (by simp) _⟩; done)
    | (refine bodyPost_ret (v := .agg #[.int .i64 0, .int .i64 0, .string ⟨#[]⟩, .slice none 0 0, .slice (some ⟨b, o, none⟩) (l.length - 1) 0]) (by simp [results, Tryz.results34, go_sem]) rfl ⟨some ⟨b, o, none⟩, by simp [S.behind, S.val, S.k, S.n, S.t, S.sa, S.sc, S.s, S.A, S.l, S.c], HI0.out _ _ (by unfold maxLen; omega) (by omega), ((Below.refl _ _).alloc (Nat.le_refl _) _).alloc (by simp) _⟩; done)
end Go.Proofs.YtnldlbglgalbaabGreat

namespace Go.Proofs.YtnldlbglgalbaabGreat
open Go.RowKit
namespace S
theorem behind_er (A : Option Addr) (p : S) : er (behind A p) = er (behind none p) := by unfold behind; simp [er]
theorem okV_behind (g : S → Bool) (A : Option Addr) (p : S) : okV g (behind A p) = (okDots p.l.tail && okVL g p.l.tail) := by
  rw [okV_eq, if_neg (by show ¬ (0 : Int) = 1; omega), if_pos (show (behind A p).k = 0 from rfl)]
  rfl
theorem varsV_behind (g : S → Bool) (A : Option Addr) (p : S) : varsV g (behind A p) = varsVL g p.l.tail := by
  rw [varsV_eq, if_neg (by show ¬ (0 : Int) = 1; omega), if_pos (show (behind A p).k = 0 from rfl)]
  rfl
theorem patOk_behind (lits : List S) (A : Option Addr) (p : S) : patOk lits (behind A p) = patOk lits (behind none p) := by
  unfold patOk
  rw [isS_of_er (behind_er A p), okV_behind, varsV_behind, okV_behind, varsV_behind]
theorem behind_size (A : Option Addr) {p : S} (h : p.l ≠ []) : (behind A p).size ≤ p.size ∧ (behind A p).bulk ≤ p.bulk := by
  obtain ⟨k, n, t, sa, sc, s, A, c, l⟩ := p
  have h : l ≠ [] := h
  cases l with
  | nil => exact absurd rfl h
  | cons x r =>
    refine ⟨?_, ?_⟩
    · rw [size_eq, size_eq]
      show 1 + sizeL r ≤ 1 + sizeL (x :: r)
      rw [sizeL]
      omega
    · show (0 : Nat) + (0 + bulkL r) ≤ t.size + (s.length + bulkL (x :: r))
      rw [bulkL]
      omega
/-- Whether a pattern and a template are a clause. -/
def clause (lits : List S) (p t : S) : Bool := match p.l with
  | [] => false
  | x :: _ => decide (x.k = 1) && (!x.isDots && (patOk lits (behind none p) && Ka.tfits ((varsV (litP lits) (behind none p)).map kaOf) t))
end S
theorem Ka.tfits_of_er {l l' : List (Tr Ka)} (h : Tr.erL Ka.er l = Tr.erL Ka.er l') (t : S) : Ka.tfits l t = Ka.tfits l' t := by
  have e1 : ∀ x : Tr Ka, Ka.okV x = Ka.okV (x.er Ka.er) := by
    intro x
    obtain ⟨a, A, c, l⟩ := x
    unfold Ka.okV
    show (a.N.isI && _) = (a.N.er.isI && _)
    rw [S.isI_of_er (S.er_er a.N)]
    rfl
  have e2 : ∀ (d : S) (x : Tr Ka), Ka.samM d x = Ka.samM d (x.er Ka.er) := by
    intro d x
    obtain ⟨a, A, c, l⟩ := x
    unfold Ka.samM
    show ((a.N.t.toList == d.t.toList && a.N.s == d.s) && (!d.isDots && a.N.isI)) = ((a.N.er.t.toList == d.t.toList && a.N.er.s == d.s) && (!d.isDots && a.N.er.isI))
    rw [S.isI_of_er (S.er_er a.N), S.t_of_er (S.er_er a.N)]
    cases a.N
    rfl
  have key : ∀ m : List (Tr Ka), Ka.tfits m t = Ka.tfits (Tr.erL Ka.er m) t := by
    intro m
    have h1 : m.all Ka.okV = (Tr.erL Ka.er m).all Ka.okV := by
      rw [Tr.erL_map, List.all_map]
      congr 1
      funext x
      exact e1 x
    have h2 : Ka.mdep m = Ka.mdep (Tr.erL Ka.er m) := by
      funext d
      unfold Ka.mdep
      rw [Tr.erL_map, List.find?_map, show (Ka.samM d ∘ Tr.er Ka.er) = Ka.samM d from by funext x; exact (e2 d x).symm]
      cases m.find? (Ka.samM d) with
      | none => rfl
      | some x => obtain ⟨a, A, c, l⟩ := x; rfl
    unfold Ka.tfits
    rw [h1, h2]
  rw [key l, key l', h]

theorem kaOf_erL {l : List (Tr Ka)} {V : List (S × Int)} (h : Tr.erL Ka.er l = V.map S.kaOf) : Tr.erL Ka.er l = Tr.erL Ka.er (V.map S.kaOf) := by
  rw [← h, Tr.erL_map, Tr.erL_map, List.map_map]
  apply List.map_congr_left
  intro x hx
  have hm : x.er Ka.er ∈ V.map S.kaOf := by rw [← h, Tr.erL_map]; exact List.mem_map.2 ⟨x, hx, rfl⟩
  obtain ⟨y, _, hy⟩ := List.mem_map.1 hm
  have h1 := (S.kaOf_of_er hy.symm).1
  show x.er Ka.er = (x.er Ka.er).er Ka.er
  rw [← hy]
  unfold S.kaOf
  rw [Tr.er]
  have e1 : Ka.er ⟨y.1, y.2, zeroS⟩ = ⟨y.1, y.2, zeroS⟩ := by
    unfold Ka.er
    rw [← h1, S.er_er]
    rfl
  rw [e1]
  rfl

set_option maxRecDepth 100000 in
set_option maxHeartbeats 8000000 in
theorem isClause_any (lits : List S) (LA : Option Addr) (Lc : Nat) (hls : ∀ x ∈ lits, x.size ≤ 2000000) (p t : S) (B : Nat) (w : World) (hs : p.size ≤ 2000000) (hbk : p.bulk ≤ 2000000) (hts : t.size ≤ 2000000) (hL : S.Row w B LA Lc lits) (hp : p.In w B) (ht : t.In w B) (hB : B ≤ w.heap.size) :
    Calls Tryz.prog 38 #[.slice LA lits.length Lc, p.val, t.val] w fun e w' => e = .returned (.bool (S.clause lits p t)) ∧ Below w.heap.size w w' := by
  have HM : Hid (S.clause lits p t = match p.l with | [] => false | x :: _ => decide (x.k = 1) && (!x.isDots && (S.patOk lits (S.behind none p) && Ka.tfits ((S.varsV (S.litP lits) (S.behind none p)).map S.kaOf) t))) := rfl
  obtain ⟨OK, hOK⟩ : ∃ z, z = S.clause lits p t := ⟨_, rfl⟩
  rw [← hOK] at HM ⊢
  clear hOK
  obtain ⟨W1, hW1⟩ : ∃ W, W = w.alloc (.cells #[.int .i64 p.k, .int .i64 p.n, .string p.t, .slice p.sa p.s.length p.sc, .slice p.A p.l.length p.c] 43) := ⟨_, rfl⟩
  have b1 : Below w.heap.size w W1 := by rw [hW1]; exact (Below.refl _ _).alloc (Nat.le_refl _) _
  have z1 : W1.heap.size = w.heap.size + 1 := by rw [hW1]; simp
  have X1 : S.Box W1 w.heap.size p := by rw [hW1]; exact S.Box.new _ _ _
  obtain ⟨W2, hW2⟩ : ∃ W, W = W1.alloc (.cells #[.int .i64 t.k, .int .i64 t.n, .string t.t, .slice t.sa t.s.length t.sc, .slice t.A t.l.length t.c] 43) := ⟨_, rfl⟩
  have b2 : Below W1.heap.size W1 W2 := by rw [hW2]; exact (Below.refl _ _).alloc (Nat.le_refl _) _
  have z2 : W2.heap.size = w.heap.size + 2 := by rw [hW2]; simp [z1]
  have X2 := X1.below b2 (by omega)
  have Y2 : S.Box W2 (w.heap.size + 1) t := by rw [hW2, ← z1]; exact S.Box.new _ _ _
  have bw := b1.trans (b2.mono (by omega))
  clear X1
  by_cases h0 : p.l = []
  · have HQ : Hid (OK = false) := by show _ = _; rw [HM.out, h0]
    have E0 : Hid (p.l.length = 0) := by show _ = _; rw [h0]; rfl
    clear h0
    unfold S.val
    go_enter Tryz.func38, Tryz.ntmps38
    go_upto_region 1 with fail
    rw [← hW1, ← hW2]
    clear hW1 hW2
    obtain ⟨x0, x1, x2, x3, x4⟩ := X2
    have e0 := E0.out
    go_wp2_with fail
    go_ret
    exact ⟨ret_bool HQ.out.symm, bw⟩
  · have hl0 : 0 < p.l.length := List.length_pos_iff.2 h0
    obtain ⟨x, hx⟩ : ∃ x, p.l[0]? = some x := ⟨_, List.getElem?_eq_getElem hl0⟩
    have HM2 : Hid (OK = (decide (x.k = 1) && (!x.isDots && (S.patOk lits (S.behind none p) && Ka.tfits ((S.varsV (S.litP lits) (S.behind none p)).map S.kaOf) t)))) := by
      show _ = _
      rw [HM.out]
      cases hpl : p.l with
      | nil => exact absurd hpl h0
      | cons y r => rw [hpl] at hx; simp at hx; subst hx; rfl
    have hp2 := hp.below (bw.mono hB)
    obtain ⟨b, o, hA, hblk, c0, c1, c2, c3, c4, hix⟩ := hp2.at_ (i := 0) (x := x) hx
    simp only [Nat.zero_mul, Nat.add_zero] at c0 c1 c2 c3 c4
    have HA := Lib.hid hA
    clear hA
    have e0 : ((p.l.length : Int) == 0) = false := by simp; omega
    have g0 : (0 : Int) < (p.l.length : Int) := by omega
    have hpl := Lib.hid h0
    have hsz := S.behind_size none h0
    clear hx
    by_cases h1 : x.k = 1
    · have e1 : (x.k != 1) = false := by simp [h1]
      have HM3 : Hid (OK = (!x.isDots && (S.patOk lits (S.behind none p) && Ka.tfits ((S.varsV (S.litP lits) (S.behind none p)).map S.kaOf) t))) := by show _ = _; rw [HM2.out, decide_eq_true h1, Bool.true_and]
      have hc1 := implDots_any x W2
      clear h1 h0
      unfold S.val at hc1 ⊢
      go_enter Tryz.func38, Tryz.ntmps38
      go_upto_region 1 with fail
      rw [← hW1, ← hW2]
      clear hW1 hW2
      have X2q := X2
      obtain ⟨x0, x1, x2, x3, x4⟩ := X2q
      rw [HA.out] at x4
      go_wp2_with fail
      clear x0 x1 x2 x3 x4 c0 c1 c2 c3 c4
      cases q1 : x.isDots
      · rw [q1] at hc1
        have HM4 : Hid (OK = (S.patOk lits (S.behind none p) && Ka.tfits ((S.varsV (S.litP lits) (S.behind none p)).map S.kaOf) t)) := by show _ = _; rw [HM3.out, q1]; rfl
        clear q1
        (with_reducible refine hc1.mono ?_)
        clear hc1
        rintro e w3 ⟨rfl, hb3⟩
        have z3 := hb3.size
        have b3 := bw.trans (hb3.mono (by omega))
        have X3 := X2.below hb3 (by omega)
        have Y3 := Y2.below hb3 (by omega)
        have X3q := X3
        obtain ⟨x0, x1, x2, x3, x4⟩ := X3q
        have hc2 := ibehind_any p B w3 (hp.below (b3.mono hB)) (by omega) hpl.out
        unfold S.val at hc2
        go_wp2_with fail
        clear x0 x1 x2 x3 x4
        (with_reducible refine hc2.mono ?_)
        clear hc2
        rintro e w4 ⟨A1, rfl, hin, hb4⟩
        have z4 := hb4.size
        have b4 := b3.trans (hb4.mono (by omega))
        have Y4 := Y3.below hb4 (by omega)
        have hsz1 := S.behind_size A1 hpl.out
        have hc3 := patVars_any lits LA Lc hls (S.behind A1 p) B w4 (by omega) (by omega) (hL.below (b4.mono hB)) (hin.below (hb4.mono (by omega))) (by omega)
        rw [S.patOk_behind, S.varsV_behind] at hc3
        rw [S.varsV_behind] at HM4
        obtain ⟨PO, hPO⟩ : ∃ z, z = S.patOk lits (S.behind none p) := ⟨_, rfl⟩
        obtain ⟨VV, hVV⟩ : ∃ z, z = S.varsVL (S.litP lits) p.l.tail := ⟨_, rfl⟩
        have hfew : VV.length ≤ 2000000 := by
          have := (S.varsV_few (S.litP lits) (S.behind none p)).1
          rw [S.varsV_behind, ← hVV] at this
          omega
        rw [← hPO] at HM4 hc3
        rw [← hVV] at HM4 hc3
        clear hPO hVV hin hsz hsz1
        unfold S.val at hc3
        go_wp2_with fail
        (with_reducible refine hc3.mono ?_)
        clear hc3
        rintro e w5 ⟨A5, c5, l5, rfl, hb5, her, hown⟩
        have z5 := hb5.size
        have b5 := b4.trans (hb5.mono (by omega))
        have Y5 := Y4.below hb5 (by omega)
        cases PO
        · have HQ : Hid (OK = false) := by show _ = _; rw [HM4.out]; rfl
          clear her hown
          obtain ⟨y0, y1, y2, y3, y4⟩ := Y5
          go_wp2_with fail
          go_ret
          exact ⟨ret_bool HQ.out.symm, b5⟩
        · have her2 : Tr.erL Ka.er l5 = VV.map S.kaOf := by simpa using her
          have HQ : Hid (OK = Ka.tfits l5 t) := by show _ = _; rw [HM4.out, Ka.tfits_of_er (kaOf_erL her2)]; rfl
          have hl5 : l5.length ≤ 2000000 := by
            have h1 := congrArg List.length her2
            rw [Tr.erL_length, List.length_map] at h1
            omega
          have hc6 := implTf_any A5 c5 l5 t w5.heap.size w5 hown.inn ((ht.below (b5.mono hB)).more (by omega)) (Nat.le_refl _) hl5 hts
          obtain ⟨TF, hTF⟩ : ∃ z, z = Ka.tfits l5 t := ⟨_, rfl⟩
          rw [← hTF] at hc6 HQ
          clear hTF her her2 hown hl5
          unfold S.val at hc6
          obtain ⟨y0, y1, y2, y3, y4⟩ := Y5
          go_wp2_with fail
          clear y0 y1 y2 y3 y4
          (with_reducible refine hc6.mono ?_)
          clear hc6
          rintro e w6 ⟨rfl, hb6⟩
          go_wp2_with fail
          go_ret
          exact ⟨ret_bool HQ.out.symm, b5.trans (hb6.mono (by omega))⟩
      · rw [q1] at hc1
        have HQ : Hid (OK = false) := by show _ = _; rw [HM3.out, q1]; rfl
        clear q1
        (with_reducible refine hc1.mono ?_)
        clear hc1
        rintro e w3 ⟨rfl, hb3⟩
        go_wp2_with fail
        go_ret
        exact ⟨ret_bool HQ.out.symm, bw.trans (hb3.mono (by omega))⟩
    · have e1 : (x.k != 1) = true := by simpa using h1
      have HQ : Hid (OK = false) := by show _ = _; rw [HM2.out, decide_eq_false h1]; rfl
      clear h1 h0
      unfold S.val
      go_enter Tryz.func38, Tryz.ntmps38
      go_upto_region 1 with fail
      rw [← hW1, ← hW2]
      clear hW1 hW2
      obtain ⟨x0, x1, x2, x3, x4⟩ := X2
      rw [HA.out] at x4
      go_wp2_with fail
      go_ret
      exact ⟨ret_bool HQ.out.symm, bw⟩
end Go.Proofs.YtnldlbglgalbaabGreat

namespace Go.Proofs.YtnldlbglgalbaabGreat
open Go.RowKit
/-- A row that has grown, as a list that can be read. -/
theorem Elem.LIn.of_owns {α : Type} {E : Elem α} {w : World} {base : Nat} {t : TypeId} {v : Value} {ds : List α} (h : w.ownsRow base t E.n v ds.length (E.cellsL ds)) (ha : ∀ x ∈ ds, E.In w w.heap.size x) :
    ∃ A c, v = .slice A ds.length c ∧ E.LIn w w.heap.size A c ds ∧ ∀ b o, A = some ⟨b, o, none⟩ → base ≤ b := by
  rcases h.2 with ⟨rfl, h0⟩ | ⟨g, cap, cur, rfl, hb, hg, hn, hc, hs, ht⟩
  · have : ds = [] := List.length_eq_zero_iff.1 h0
    subst this
    exact ⟨none, 0, rfl, ⟨⟨Nat.le_refl _, by omega⟩, fun _ => rfl, fun h => absurd rfl h, ha⟩, fun b o h => by cases h⟩
  · refine ⟨some ⟨g, 0, none⟩, cap, rfl, ⟨⟨hn, hc⟩, by simp, fun _ => ⟨g, 0, rfl, (Array.getElem?_eq_some_iff.1 hg).1, fun j u hu => ?_⟩, ha⟩, fun b o h => by cases h; exact hb⟩
    rw [cell_of_row w g (0 + j) cur _ (0, 0) hg, Nat.zero_add]
    have h1 : (cur.toList.take (ds.length * E.n))[j]? = some u := by rw [ht]; exact hu
    rw [List.getElem?_take] at h1
    split at h1
    · simpa using h1
    · cases h1
set_option maxRecDepth 100000 in
theorem infoSy : (Tryz.prog.info? 43).map (fun i => (i.zero, i.size, i.bytes)) = some (some (.agg #[.int .i64 0, .int .i64 0, .string ⟨#[]⟩, .slice none 0 0, .slice none 0 0]), 5, 80) := by kernel_rfl
/-- A row of syntax objects by its place. -/
structure SR where
  A : Option Addr
  c : Nat
  l : List S
def SR.val (r : SR) : Value := .slice r.A r.l.length r.c
def catS (rs : List SR) : List S := rs.flatMap SR.l
theorem catS_append (a b : List SR) : catS (a ++ b) = catS a ++ catS b := by simp [catS]
theorem catS_le (rs : List SR) (j : Nat) : (catS (rs.take j)).length ≤ (catS rs).length := by
  have : catS rs = catS (rs.take j) ++ catS (rs.drop j) := by rw [← catS_append, List.take_append_drop]
  rw [this, List.length_append]
  omega

set_option maxHeartbeats 800000 in
theorem growNilS_any (n : Nat) (hn : n ≤ 8000000) (w : World) : Calls Tryz.prog 101 #[.slice none 0 0, .int .i64 n] w fun e w' => ∃ v, e = .returned v ∧ w'.ownsRow w.heap.size 43 5 v 0 [] ∧ Below w.heap.size w w' := by
  rcases Nat.eq_zero_or_pos n with rfl | hpos
  · refine (Tryz.slices_Grow_room none 0 0 0 w (Nat.le_refl _) (by omega) (by omega) (Nat.le_refl _)).mono ?_
    rintro e w' ⟨rfl, rfl⟩
    exact ⟨_, rfl, World.ownsRow_nil _ _ _ _, Below.refl _ _⟩
  · obtain ⟨i0, hi, hz0, hz1, hz2⟩ := info_parts infoSy
    refine (Tryz.slices_Grow_grow i0 _ hi hz0 (by omega) none 0 0 n [] w (Nat.le_refl _) (by omega) (by rw [hz2]; omega) (by omega) (by simp) (fun _ => rfl) (fun _ h => by cases h)).mono ?_
    rintro e w' ⟨rfl, rfl⟩
    have hge := grownCap_ge w (0 + n) 0 43
    have hle := grownCap_le_maxLen w (0 + n) 0 43 (by unfold maxLen; omega)
    refine ⟨_, rfl, ?_, ?_⟩
    · refine World.ownsRow_made w.drew _ _ (Nat.le_refl _) hle ?_
      simp only [Array.size_append, size_zeroCells]
      simp [Value.cells]
      rw [Nat.zero_add] at hge
      omega
    · exact (show Below w.heap.size w w.drew from ⟨rfl, rfl, rfl, Nat.le_refl _, fun _ _ => rfl⟩).alloc (Nat.le_refl _) _

set_option maxRecDepth 100000 in
set_option maxHeartbeats 1600000 in
theorem concatS_any (g cap : Nat) (rs : List SR) (B : Nat) (w : World) (hlen : rs.length ≤ 4) (hcap : rs.length ≤ cap ∧ cap ≤ 9223372036854775807) (hg : g < w.heap.size) (hcells : ∀ j r, rs[j]? = some r → w.cell? ⟨g, j, none⟩ = some r.val) (hin : ∀ r ∈ rs, S.E.LIn w B r.A r.c r.l) (hB : B ≤ w.heap.size) (hsum : (catS rs).length ≤ 8000000) :
    Calls Tryz.prog 74 #[.slice (some ⟨g, 0, none⟩) rs.length cap] w fun e w' => ∃ A c, e = .returned (.slice A (catS rs).length c) ∧ S.E.LIn w' w'.heap.size A c (catS rs) ∧ (∀ b o, A = some ⟨b, o, none⟩ → w.heap.size ≤ b) ∧ Below w.heap.size w w' := by
  obtain ⟨i0, hi, hz0, hz1, hz2⟩ := info_parts infoSy
  have HC := Lib.hid hcells
  clear hcells
  have hall : ∀ x ∈ catS rs, S.E.In w B x := by
    intro x hx
    unfold catS at hx
    obtain ⟨r, hr, hxr⟩ := List.mem_flatMap.1 hx
    exact (hin r hr).all x hxr
  go_enter Tryz.func74, Tryz.ntmps74
  go_wp2_with fail
  go_loopw [3, 11] (fun s i wr => ∃ j : Nat, j ≤ rs.length ∧ i = .int .i64 j ∧ s = .int .i64 ((catS (rs.take j)).length : Nat) ∧ wr = w) (fun _ i _ => rs.length - (intOf i).toNat)
  case atStart => exact ⟨0, Nat.zero_le _, rfl, by simp [catS], rfl⟩
  case round =>
    obtain ⟨j, hj, rfl, rfl, hw⟩ := hrel
    obtain rfl := hw.symm
    by_cases hlt : j < rs.length
    · obtain ⟨r, hr⟩ : ∃ r, rs[j]? = some r := ⟨_, List.getElem?_eq_getElem hlt⟩
      obtain ⟨A, c, l⟩ := r
      have c0 := HC.out j _ hr
      simp only [SR.val] at c0
      have Hr := Lib.hid hr
      have Hi := hin ⟨A, c, l⟩ (List.mem_of_getElem? hr)
      clear hr
      have HT : Hid (catS (rs.take (j + 1)) = catS (rs.take j) ++ l) := by
        show _ = _
        rw [List.take_add_one, Hr.out, catS_append]
        simp [catS]
      have hle := catS_le rs (j + 1)
      rw [HT.out, List.length_append] at hle
      have g0 := Hi.cap
      simp only at g0
      have hn : ¬ (((catS (rs.take j)).length : Int) + (l.length : Int) < 0) := by omega
      go_wp2_with fail
      refine ⟨⟨j + 1, by omega, by go_num, by rw [HT.out, List.length_append]; go_num, by first | rfl | trivial⟩, by simp [intOf]; omega⟩
    · have hj' : j = rs.length := by omega
      subst hj'
      rw [List.take_length]
      go_wp2_with fail
      refine (growNilS_any (catS rs).length hsum _).mono ?_
      rintro e w1 ⟨v, rfl, hown, hb1⟩
      have z1 := hb1.size
      go_wp2_with fail
      go_loopw [6, 27] (fun v i wr => ∃ (j : Nat) (ds : List S), j ≤ rs.length ∧ i = .int .i64 j ∧ Hid (ds = catS (rs.take j)) ∧ ds.length ≤ 8000000 ∧ wr.ownsRow w.heap.size 43 5 v ds.length (S.E.cellsL ds) ∧ Below w.heap.size w wr) (fun _ i _ => rs.length - (intOf i).toNat)
      case atStart => exact ⟨0, [], Nat.zero_le _, rfl, by simp [catS, Hid], by simp, hown, hb1⟩
      case round =>
        obtain ⟨j, ds, hj, rfl, HE, hdl, hown, hb⟩ := hrel
        have hs2 := hb.size
        by_cases hlt : j < rs.length
        · obtain ⟨r, hr⟩ : ∃ r, rs[j]? = some r := ⟨_, List.getElem?_eq_getElem hlt⟩
          obtain ⟨A, c, l⟩ := r
          have c0 : _ = _ := (hb.cell (p := ⟨g, j, none⟩) hg).trans (HC.out j _ hr)
          simp only [SR.val] at c0
          have Hr := Lib.hid hr
          have Hi := hin ⟨A, c, l⟩ (List.mem_of_getElem? hr)
          clear hr
          have HT : Hid (ds ++ l = catS (rs.take (j + 1))) := by
            show _ = _
            rw [List.take_add_one, Hr.out, catS_append, HE.out]
            simp [catS]
          have hle := catS_le rs (j + 1)
          rw [← HT.out, List.length_append] at hle
          have hir := Hi.below (hb.mono hB)
          have g0 := hir.cap
          simp only at hir g0
          by_cases hn : A = none
          · obtain rfl := hn
            obtain rfl := hir.nil rfl
            have hl : l = [] := by
              cases l with
              | nil => rfl
              | cons _ _ => simp at g0
            subst hl
            rw [List.append_nil] at HT
            go_wp2_with (at_builtin; refine wpList_append_own_none rfl _ _ 27 rfl w.heap.size 43 i0 5 Tryz.underlying27 hi _ ds.length (S.E.cellsL ds) rfl hown rfl ?_)
            exact ⟨⟨j + 1, ds, by omega, by go_num, HT, hdl, hown, hb⟩, by simp [intOf]; omega⟩
          · obtain ⟨a, rfl⟩ := Option.ne_none_iff_exists'.1 hn
            have hnews : ∀ j u, (S.E.cellsL l)[j]? = some u → wr.cell? (a.add j) = some u := by
              intro j u hu
              have hne : l ≠ [] := by rintro rfl; simp [Elem.cellsL] at hu
              obtain ⟨b3, o3, e, _, h3⟩ := hir.mem hne
              obtain rfl := Option.some.inj e
              have e4 : (⟨b3, o3, none⟩ : Addr).add j = ⟨b3, o3 + j, none⟩ := by unfold Addr.add; split <;> simp_all
              rw [e4]
              exact h3 j u hu
            have hll : (S.E.cellsL l).length = l.length * 5 := by rw [Elem.cellsL_length, show S.E.n = 5 from rfl]; omega
            go_wp2_with (at_builtin; refine wpList_append_own _ rfl _ _ 27 rfl w.heap.size 43 i0 _ 5 80 Tryz.underlying27 hi hz0 hz1 hz2 rfl (by decide) _ ds.length (S.E.cellsL ds) rfl hown a l.length c (S.E.cellsL l) rfl hll hnews (Elem.cellsL_one' l) (by unfold maxLen; omega) (by omega) (by omega) ?_)
            intro v' w2 hown' hgr _
            have hown2 : w2.ownsRow w.heap.size 43 5 v' (ds ++ l).length (S.E.cellsL (ds ++ l)) := by rw [List.length_append, Elem.cellsL_append]; exact hown'
            have hb2 : Below w.heap.size w w2 := hb.grown hgr hs2 (fun k hk => (hown.lt k hk).1)
            clear hown' hgr hnews hown
            go_wp2_with fail
            exact ⟨⟨j + 1, ds ++ l, by omega, by go_num, HT, by rw [List.length_append]; omega, hown2, hb2⟩, by simp [intOf]; omega⟩
        · have hj' : j = rs.length := by omega
          subst hj'
          have HQ : Hid (catS rs = ds) := by
            show _ = _
            have := HE.out
            rw [List.take_length] at this
            exact this.symm
          obtain ⟨A', c', rfl, ho, hob⟩ := Elem.LIn.of_owns (E := S.E) hown (fun x hx => S.E.more (Elem.below_ (hall x (by rw [HQ.out]; exact hx)) (hb.mono hB)) (by omega))
          clear hown
          go_wp2_with fail
          go_ret
          exact ⟨A', c', by rw [HQ.out]; rfl, by rw [HQ.out]; exact ho, hob, hb⟩
end Go.Proofs.YtnldlbglgalbaabGreat

namespace Go.Proofs.YtnldlbglgalbaabGreat
open Go.RowKit
namespace S
/-- Whether all of them are syntax objects, with so many nodes together. -/
def fewL : List S → Int → Bool
  | [], _ => true
  | x :: r, L => decide (SFit x L 40) && fewL r (L - x.size)
end S
theorem cat2s (A A' : Option Addr) (c c' : Nat) (l l' : List S) (B : Nat) (W : World) (H : Nat) (hH : W.heap.size = H) (hll : l.length + l'.length ≤ 8000000) (hin : S.E.LIn W B A c l) (hin' : S.E.LIn W B A' c' l') (hB : B ≤ H) :
    Calls Tryz.prog 74 #[.slice (some ⟨H, 0, none⟩) 2 2] (W.alloc (.cells #[.slice A l.length c, .slice A' l'.length c'] 27)) (fun e w' => ∃ A2 c2, e = .returned (.slice A2 (l ++ l').length c2) ∧ S.E.LIn w' w'.heap.size A2 c2 (l ++ l') ∧ (∀ b o, A2 = some ⟨b, o, none⟩ → H < b) ∧ Below W.heap.size W w') := by
  subst hH
  obtain ⟨W2, hW2⟩ : ∃ W2, W2 = W.alloc (.cells #[.slice A l.length c, .slice A' l'.length c'] 27) := ⟨_, rfl⟩
  have hb : Below W.heap.size W W2 := by rw [hW2]; exact (Below.refl _ _).alloc (Nat.le_refl _) _
  have hz2 : W2.heap.size = W.heap.size + 1 := by rw [hW2]; simp
  have ho : W2.heap[W.heap.size]? = some (.cells #[.slice A l.length c, .slice A' l'.length c'] 27 (0, 0)) := by
    rw [hW2]; exact heap_alloc_new _ _
  rw [← hW2]
  clear hW2
  have e3 : catS [⟨A, c, l⟩, ⟨A', c', l'⟩] = l ++ l' := by simp [catS]
  have hc := concatS_any W.heap.size 2 [⟨A, c, l⟩, ⟨A', c', l'⟩] B W2 (by simp) (by simp) (by omega)
    (fun j r hr => by
      rw [cell_of_row _ _ _ _ _ _ ho]
      match j, hr with
      | 0, hr => simp at hr; subst hr; simp [SR.val]
      | 1, hr => simp at hr; subst hr; simp [SR.val]
      | j + 2, hr => simp at hr)
    (fun r hr => by
      simp at hr
      rcases hr with rfl | rfl
      · exact hin.below (hb.mono hB)
      · exact hin'.below (hb.mono hB))
    (by omega) (by rw [e3, List.length_append]; omega)
  rw [e3] at hc
  refine hc.mono ?_
  rintro e w' ⟨A6, c6, rfl, hown, hbb, hb'⟩
  exact ⟨A6, c6, rfl, hown, fun b o h => by have := hbb b o h; omega, hb.trans (hb'.mono (by omega))⟩

set_option maxRecDepth 100000 in
set_option maxHeartbeats 4000000 in
theorem fewN_any (PA TA : Option Addr) (Pc Tc : Nat) (ps ts : List S) (B : Nat) (w : World) (hp : S.E.LIn w B PA Pc ps) (ht : S.E.LIn w B TA Tc ts) (hB : B ≤ w.heap.size) (hll : ps.length + ts.length ≤ 8000000) :
    Calls Tryz.prog 37 #[.slice PA ps.length Pc, .slice TA ts.length Tc] w fun e w' => e = .returned (.bool (S.fewL (ps ++ ts) 2000)) ∧ Below w.heap.size w w' := by
  obtain ⟨OK, hOK⟩ : ∃ z, z = S.fewL (ps ++ ts) 2000 := ⟨_, rfl⟩
  rw [← hOK]
  have HK := Lib.hid hOK
  clear hOK
  obtain ⟨W1, hW1⟩ : ∃ W1, W1 = w.alloc (.cells #[.int .i64 2000] 3) := ⟨_, rfl⟩
  have b1 : Below w.heap.size w W1 := by rw [hW1]; exact (Below.refl _ _).alloc (Nat.le_refl _) _
  have z1 : W1.heap.size = w.heap.size + 1 := by rw [hW1]; simp
  have X1 : D.Blk W1 w.heap.size 3 #[.int .i64 2000] := by rw [hW1]; exact D.Blk.new _ _ _
  have hc := cat2s PA TA Pc Tc ps ts B W1 W1.heap.size rfl hll (hp.below (b1.mono hB)) (ht.below (b1.mono hB)) (by omega)
  have hall : ∀ x ∈ ps ++ ts, S.E.In w B x := by
    intro x hx
    rcases List.mem_append.1 hx with hx | hx
    · exact hp.all x hx
    · exact ht.all x hx
  obtain ⟨l, hl⟩ : ∃ l, l = ps ++ ts := ⟨_, rfl⟩
  have hl8 : l.length ≤ 8000000 := by rw [hl, List.length_append]; omega
  rw [← hl] at hc HK hall
  clear hl hp ht
  rw [z1] at hc
  go_enter Tryz.func37, Tryz.ntmps37
  go_upto_region 2 with fail
  rw [← hW1]
  clear hW1
  go_wp2_with fail
  (with_reducible refine hc.mono ?_)
  clear hc
  rintro e w2 ⟨A, c, rfl, hin, hAb, hb2⟩
  have z2 := hb2.size
  have b2 := b1.trans (hb2.mono (by omega))
  have hcap := hin.cap
  have X2 : D.Blk w2 w.heap.size 3 #[.int .i64 2000] := X1.below hb2 (by omega)
  have k2 : w2.cell? ⟨w.heap.size, 0, none⟩ = some (.int .i64 2000) := X2.cell 0
  have f2 : w2.frozen? ⟨w.heap.size, 0, none⟩ = false := X2.frozen 0
  clear X1 X2
  obtain ⟨g, hg⟩ : ∃ g, g = w.heap.size := ⟨_, rfl⟩
  rw [← hg] at k2 f2 z1 ⊢
  have hg1 : w.heap.size ≤ g := by omega
  have hg2 : g ≤ w.heap.size := by omega
  clear hg
  go_wp2_with fail
  go_loopw [13] (fun i wr => ∃ (j : Nat) (L : Int), j ≤ l.length ∧ i = .int .i64 j ∧ Hid (S.fewL (l.drop j) L = OK) ∧ 0 ≤ L ∧ L ≤ 2000 ∧ wr.cell? ⟨g, 0, none⟩ = some (.int .i64 L) ∧ wr.frozen? ⟨g, 0, none⟩ = false ∧ Below w.heap.size w wr ∧ g < wr.heap.size ∧ Hid (∀ b o, A = some ⟨b, o, none⟩ → l ≠ [] → b < wr.heap.size ∧ ∀ q u, (S.E.cellsL l)[q]? = some u → wr.cell? ⟨b, o + q, none⟩ = some u)) (fun i _ => l.length - (intOf i).toNat)
  case atStart =>
    refine ⟨0, 2000, Nat.zero_le _, rfl, HK.out.symm, by omega, by omega, k2, f2, b2, by omega, fun b o hA hne => ?_⟩
    obtain ⟨b', o', e, hlt, hcs⟩ := hin.mem hne
    rw [hA] at e
    simp only [Option.some.injEq, Addr.mk.injEq, and_true] at e
    obtain ⟨rfl, rfl⟩ := e
    exact ⟨hlt, hcs⟩
  case round =>
    obtain ⟨j, L, hj, rfl, HF, hL0, hL1, k, f, hb, hgs, HR⟩ := hrel
    have hs2 := hb.size
    by_cases hlt : j < l.length
    · have hin' : S.E.LIn wr wr.heap.size A c l := ⟨hin.cap, hin.nil, fun hne => by
          obtain ⟨b, o, e, _⟩ := hin.mem hne
          exact ⟨b, o, e, HR.out b o e hne⟩, fun x hx => S.E.more (Elem.below_ (hall x hx) (hb.mono hB)) (by omega)⟩
      have hne : l ≠ [] := by rintro rfl; simp at hlt
      obtain ⟨b, o, hA, hblk, c0, c1, c2, c3, c4, _⟩ := S.atE hin' (i := j) (x := l[j]) (List.getElem?_eq_getElem hlt)
      have hgb := hAb b o hA
      have hixB : S.In w B l[j] := hall _ (List.getElem_mem hlt)
      have HS : Hid (OK = (decide (SFit l[j] L 40) && S.fewL (l.drop (j + 1)) (L - l[j].size))) := by show _ = _; rw [← HF.out, List.drop_eq_getElem_cons hlt, S.fewL]
      have HA := Lib.hid hA
      have g3 : (j : Int) < (l.length : Int) := by omega
      rw [hA]
      clear hA hin'
      obtain ⟨W4, hW4⟩ : ∃ W4, W4 = wr.alloc (.cells #[.int .i64 l[j].k, .int .i64 l[j].n, .string l[j].t, .slice l[j].sa l[j].s.length l[j].sc, .slice l[j].A l[j].l.length l[j].c] 43) := ⟨_, rfl⟩
      have bA : Below wr.heap.size wr W4 := by rw [hW4]; exact (Below.refl _ _).alloc (Nat.le_refl _) _
      have z4 : W4.heap.size = wr.heap.size + 1 := by rw [hW4]; simp
      have Y4 : S.Box W4 wr.heap.size l[j] := by rw [hW4]; exact S.Box.new _ _ _
      have hb4 := hb.trans (bA.mono hs2)
      have k4 := (bA.cell (p := ⟨g, 0, none⟩) hgs).trans k
      have f4 := (bA.frozen (p := ⟨g, 0, none⟩) hgs).trans f
      have hcf := fits_any l[j].size l[j] B g W4 L 40 (Nat.le_refl _) hL0 (by omega) (by omega) (by omega) (hixB.below (hb4.mono hB)) (by omega) (by omega) k4 f4
      go_upto_region 5 with fail
      rw [← hW4]
      clear hW4 c0 c1 c2 c3 c4 k f
      obtain ⟨y0, y1, y2, y3, y4⟩ := Y4
      unfold S.val at hcf
      obtain ⟨SF, hSF⟩ : ∃ z, z = decide (SFit l[j] L 40) := ⟨_, rfl⟩
      rw [← hSF] at hcf HS
      have HSF := Lib.hid hSF
      clear hSF
      go_wp2_with fail
      clear y0 y1 y2 y3 y4
      (with_reducible refine hcf.mono ?_)
      clear hcf
      rintro e w5 ⟨rfl, v, ⟨k5, f5, hch⟩, hv⟩
      have z5 := hch.size
      have hb5 : Below w.heap.size w w5 := hb4.trans (hch.below (B := w.heap.size) (by simp; omega) (by omega))
      have HR2 : Hid (∀ b o, A = some ⟨b, o, none⟩ → l ≠ [] → b < w5.heap.size ∧ ∀ q u, (S.E.cellsL l)[q]? = some u → w5.cell? ⟨b, o + q, none⟩ = some u) := by
        intro b' o' hA' _
        have h1 := HR.out b' o' hA' hne
        have h2 := hAb b' o' hA'
        refine ⟨by omega, fun q u hu => ?_⟩
        rw [World.cell?_of_block (a := ⟨b', o' + q, none⟩) (hch.block b' (by omega) (by simp; omega)), bA.cell (p := ⟨b', o' + q, none⟩) h1.1]
        exact h1.2 q u hu
      cases SF
      · have HQ : Hid (OK = false) := by show _ = _; rw [HS.out]; rfl
        clear hv hch
        go_wp2_with fail
        go_ret
        exact ⟨ret_bool HQ.out.symm, hb5⟩
      · have hfit : SFit l[j] L 40 := by have := HSF.out; simpa using this
        have hvv := hv hfit
        have hsz := hfit.1
        subst hvv
        have HF2 : Hid (S.fewL (l.drop (j + 1)) (L - l[j].size) = OK) := by show _ = _; rw [HS.out]; rfl
        clear hv hch hfit
        go_wp2_with fail
        exact ⟨⟨j + 1, _, by omega, by go_num, HF2, by omega, by omega, k5, f5, hb5, by omega, by have h := HR2; rw [HA.out] at h; exact h⟩, by simp [intOf]; omega⟩
    · have hj' : j = l.length := by omega
      subst hj'
      have HQ : Hid (OK = true) := by show _ = _; rw [← HF.out, List.drop_length]; rfl
      go_wp2_with fail
      go_ret
      exact ⟨ret_bool HQ.out.symm, hb⟩
end Go.Proofs.YtnldlbglgalbaabGreat

namespace Go.Proofs.YtnldlbglgalbaabGreat
open Go.RowKit
namespace Ru
/-- Whether all of them are clauses. -/
def clauses (lits : List S) : List S → List S → Bool
  | p :: ps, t :: ts => S.clause lits p t && clauses lits ps ts
  | _, _ => true
def okI (x : Ru) : Bool := (decide (x.l1.length = x.l2.length) && (decide (x.l1.length ≠ 0) && decide (x.l1.length ≤ 12))) && (S.fewL (x.l1 ++ x.l2) 2000 && clauses x.l0 x.l1 x.l2)
theorem clauses_step {lits l m : List S} {j : Nat} (h : j < l.length) (h' : j < m.length) : clauses lits (l.drop j) (m.drop j) = (S.clause lits l[j] m[j] && clauses lits (l.drop (j + 1)) (m.drop (j + 1))) := by
  rw [List.drop_eq_getElem_cons h, List.drop_eq_getElem_cons h', clauses]
end Ru
set_option maxRecDepth 100000 in
set_option maxHeartbeats 8000000 in
theorem implRules_any (x : Ru) (B : Nat) (w : World) (hin : x.In w B) (hB : B ≤ w.heap.size) (hz0 : ∀ y ∈ x.l0, y.size ≤ 2000000) (hz1 : ∀ y ∈ x.l1, y.size ≤ 2000000 ∧ y.bulk ≤ 2000000) (hz2 : ∀ y ∈ x.l2, y.size ≤ 2000000) :
    Calls Tryz.prog 9 #[x.val] w fun e w' => e = .returned (.bool (Ru.okI x)) ∧ Below w.heap.size w w' := by
  have HM : Hid (Ru.okI x = ((decide (x.l1.length = x.l2.length) && (decide (x.l1.length ≠ 0) && decide (x.l1.length ≤ 12))) && (S.fewL (x.l1 ++ x.l2) 2000 && Ru.clauses x.l0 x.l1 x.l2))) := rfl
  obtain ⟨OK, hOK⟩ : ∃ z, z = Ru.okI x := ⟨_, rfl⟩
  rw [← hOK] at HM ⊢
  clear hOK
  have hR0 := S.Row.of_itm hin.a
  have hR1 := S.Row.of_itm hin.b
  have hR2 := S.Row.of_itm hin.c
  have p0 := hR0.cap
  have p1 := hR1.cap
  have p2 := hR2.cap
  obtain ⟨W1, hW1⟩ : ∃ W1, W1 = w.alloc (.cells #[.slice x.A0 x.l0.length x.c0, .slice x.A1 x.l1.length x.c1, .slice x.A2 x.l2.length x.c2] 29) := ⟨_, rfl⟩
  have b1 : Below w.heap.size w W1 := by rw [hW1]; exact (Below.refl _ _).alloc (Nat.le_refl _) _
  have z1 : W1.heap.size = w.heap.size + 1 := by rw [hW1]; simp
  have X1 : Ru.Box W1 w.heap.size x := by rw [hW1]; exact Ru.Box.new _ _ _
  unfold Ru.val
  by_cases h1 : x.l1.length = x.l2.length
  · by_cases h2 : x.l1.length = 0
    · have HQ : Hid (OK = false) := by show _ = _; rw [HM.out, decide_eq_false (p := x.l1.length ≠ 0) (by simpa using h2)]; simp
      have E1 : Hid (((x.l1.length : Int) != (x.l2.length : Int)) = false) := by show _ = _; simp [h1]
      have E2 : Hid (((x.l1.length : Int) == 0) = true) := by show _ = _; simp [h2]
      clear h1 h2
      go_enter Tryz.func9, Tryz.ntmps9
      go_upto_region 1 with fail
      rw [← hW1]
      clear hW1
      have e1 := E1.out
      have e2 := E2.out
      obtain ⟨x0, x1, x2⟩ := X1
      go_wp2_with fail
      go_ret
      exact ⟨ret_bool HQ.out.symm, b1⟩
    · by_cases h3 : x.l1.length ≤ 12
      · have HM2 : Hid (OK = (S.fewL (x.l1 ++ x.l2) 2000 && Ru.clauses x.l0 x.l1 x.l2)) := by show _ = _; rw [HM.out, decide_eq_true h1, decide_eq_true (p := x.l1.length ≠ 0) h2, decide_eq_true h3]; rfl
        have E1 : Hid (((x.l1.length : Int) != (x.l2.length : Int)) = false) := by show _ = _; simp [h1]
        have E2 : Hid (((x.l1.length : Int) == 0) = false) := by show _ = _; simpa using h2
        have l12 : x.l1.length ≤ x.l2.length := by omega
        have n1 : x.l1 ≠ [] := by intro e; rw [e] at h2; exact h2 rfl
        have n2 : x.l2 ≠ [] := by intro e; rw [e] at h1; exact h2 h1
        have hL1 := hR1.2 n1
        have hL2 := hR2.2 n2
        have g3 : ¬ (12 : Int) < (x.l1.length : Int) := by omega
        have hl8 : x.l1.length + x.l2.length ≤ 8000000 := by omega
        clear h1 h2
        go_enter Tryz.func9, Tryz.ntmps9
        go_upto_region 1 with fail
        rw [← hW1]
        clear hW1
        have e1 := E1.out
        have e2 := E2.out
        have X1q := X1
        obtain ⟨x0, x1, x2⟩ := X1q
        have hc1 := fewN_any x.A1 x.A2 x.c1 x.c2 x.l1 x.l2 B W1 (hL1.below (b1.mono hB)) (hL2.below (b1.mono hB)) (by omega) hl8
        obtain ⟨FW, hFW⟩ : ∃ z, z = S.fewL (x.l1 ++ x.l2) 2000 := ⟨_, rfl⟩
        rw [← hFW] at HM2 hc1
        clear hFW
        go_wp2_with fail
        clear x0 x1 x2
        (with_reducible refine hc1.mono ?_)
        clear hc1
        rintro e w2 ⟨rfl, hb2⟩
        have z2 := hb2.size
        have b2 := b1.trans (hb2.mono (by omega))
        have X2 := X1.below hb2 (by omega)
        have X2q := X2
        obtain ⟨x0, x1, x2⟩ := X2q
        cases FW
        · have HQ : Hid (OK = false) := by show _ = _; rw [HM2.out]; rfl
          go_wp2_with fail
          go_ret
          exact ⟨ret_bool HQ.out.symm, b2⟩
        · have HQ : Hid (OK = Ru.clauses x.l0 x.l1 x.l2) := by show _ = _; rw [HM2.out]; rfl
          go_wp2_with fail
          clear x0 x1 x2
          go_loopw [33] (fun i wr => ∃ j : Nat, j ≤ x.l1.length ∧ i = .int .i64 j ∧ Hid (Ru.clauses x.l0 (x.l1.drop j) (x.l2.drop j) = OK) ∧ Below w2.heap.size w2 wr) (fun i _ => x.l1.length - (intOf i).toNat)
          case atStart => exact ⟨0, Nat.zero_le _, rfl, HQ.out.symm, Below.refl _ _⟩
          case round =>
            obtain ⟨j, hj, rfl, HF, hb⟩ := hrel
            have hs2 := hb.size
            have bw := b2.trans (hb.mono (by omega))
            by_cases hlt : j < x.l1.length
            · have hlt2 : j < x.l2.length := by omega
              obtain ⟨pb, po, hpA, hpblk, c0, c1, c2, c3, c4, hpi⟩ := S.atE (hL1.below (bw.mono hB)) (i := j) (x := x.l1[j]) (List.getElem?_eq_getElem hlt)
              obtain ⟨tb, tq, htA, htblk, d0, d1, d2, d3, d4, hti⟩ := S.atE (hL2.below (bw.mono hB)) (i := j) (x := x.l2[j]) (List.getElem?_eq_getElem hlt2)
              have HS : Hid (OK = (S.clause x.l0 x.l1[j] x.l2[j] && Ru.clauses x.l0 (x.l1.drop (j + 1)) (x.l2.drop (j + 1)))) := by show _ = _; rw [← HF.out, Ru.clauses_step hlt hlt2]
              have hp9 := hz1 _ (List.getElem_mem hlt)
              have ht9 := hz2 _ (List.getElem_mem hlt2)
              obtain ⟨P, hP⟩ : ∃ P, P = x.l1[j] := ⟨_, rfl⟩
              obtain ⟨Q, hQ⟩ : ∃ Q, Q = x.l2[j] := ⟨_, rfl⟩
              rw [← hP] at c0 c1 c2 c3 c4 hpi hp9 HS
              rw [← hQ] at d0 d1 d2 d3 d4 hti ht9 HS
              clear hP hQ
              have g1 : (j : Int) < (x.l1.length : Int) := by omega
              have g2 : (j : Int) < (x.l2.length : Int) := by omega
              have HPA := Lib.hid hpA
              have HTA := Lib.hid htA
              clear hpA htA
              obtain ⟨W4, hW4⟩ : ∃ W4, W4 = wr.alloc (.cells #[.int .i64 P.k, .int .i64 P.n, .string P.t, .slice P.sa P.s.length P.sc, .slice P.A P.l.length P.c] 43) := ⟨_, rfl⟩
              have bA : Below wr.heap.size wr W4 := by rw [hW4]; exact (Below.refl _ _).alloc (Nat.le_refl _) _
              have z4 : W4.heap.size = wr.heap.size + 1 := by rw [hW4]; simp
              have Y4 : S.Box W4 wr.heap.size P := by rw [hW4]; exact S.Box.new _ _ _
              have hb4 := hb.trans (bA.mono hs2)
              have bw4 := b2.trans (hb4.mono (by omega))
              have rt0 := (bA.cell (p := ⟨tb, tq + j * 5, none⟩) (show tb < _ by omega)).trans d0
              have rt1 := (bA.cell (p := ⟨tb, tq + j * 5 + 1, none⟩) (show tb < _ by omega)).trans d1
              have rt2 := (bA.cell (p := ⟨tb, tq + j * 5 + 2, none⟩) (show tb < _ by omega)).trans d2
              have rt3 := (bA.cell (p := ⟨tb, tq + j * 5 + 3, none⟩) (show tb < _ by omega)).trans d3
              have rt4 := (bA.cell (p := ⟨tb, tq + j * 5 + 4, none⟩) (show tb < _ by omega)).trans d4
              clear d0 d1 d2 d3 d4
              have X4 := X2.below hb4 (by omega)
              rw [HPA.out]
              go_upto_region 8 with fail
              rw [← hW4]
              clear hW4 c0 c1 c2 c3 c4
              obtain ⟨rk0, rk1, rk2⟩ := X4
              rw [HTA.out] at rk2
              obtain ⟨ry0, ry1, ry2, ry3, ry4⟩ := Y4
              have lx : w.heap.size < W4.heap.size := by omega
              have ly : wr.heap.size < W4.heap.size := by omega
              have lt_ : tb < W4.heap.size := by omega
              have hcc := isClause_any x.l0 x.A0 x.c0 hz0 P Q B W4.drew hp9.1 hp9.2 ht9 ((hR0.below (bw4.mono hB)).below (show Below B W4 W4.drew from ⟨rfl, rfl, rfl, Nat.le_refl _, fun _ _ => rfl⟩)) (hpi.below (bA.mono (by omega))).drew (hti.below (bA.mono (by omega))).drew (show B ≤ W4.heap.size by omega)
              unfold S.val at hcc
              obtain ⟨CL, hCL⟩ : ∃ z, z = S.clause x.l0 P Q := ⟨_, rfl⟩
              rw [← hCL] at hcc HS
              clear hCL
              have k0 := rk0
              have k2 := rk2
              have y0 := ry0
              have y1 := ry1
              have y2 := ry2
              have y3 := ry3
              have y4 := ry4
              have t0 := rt0
              have t1 := rt1
              have t2 := rt2
              have t3 := rt3
              have t4 := rt4
              have tok0 : True := trivial
              go_region_held3 (fun w' => w'.cell? ⟨w.heap.size, 0, none⟩ = some (.slice x.A0 x.l0.length x.c0) ∧ w'.cell? ⟨w.heap.size, 2, none⟩ = some (.slice (some ⟨tb, tq, none⟩) x.l2.length x.c2) ∧ w'.cell? ⟨wr.heap.size, 0, none⟩ = some (.int .i64 P.k) ∧ w'.cell? ⟨wr.heap.size, 1, none⟩ = some (.int .i64 P.n) ∧ w'.cell? ⟨wr.heap.size, 2, none⟩ = some (.string P.t) ∧ w'.cell? ⟨wr.heap.size, 3, none⟩ = some (.slice P.sa P.s.length P.sc) ∧ w'.cell? ⟨wr.heap.size, 4, none⟩ = some (.slice P.A P.l.length P.c) ∧ w'.cell? ⟨tb, tq + j * 5, none⟩ = some (.int .i64 Q.k) ∧ w'.cell? ⟨tb, tq + j * 5 + 1, none⟩ = some (.int .i64 Q.n) ∧ w'.cell? ⟨tb, tq + j * 5 + 2, none⟩ = some (.string Q.t) ∧ w'.cell? ⟨tb, tq + j * 5 + 3, none⟩ = some (.slice Q.sa Q.s.length Q.sc) ∧ w'.cell? ⟨tb, tq + j * 5 + 4, none⟩ = some (.slice Q.A Q.l.length Q.c)) (go_keep) (first
                | (go_at_call 38; have _t := tok0; (with_reducible refine hcc.mono ?_); rintro e w5 ⟨rfl, hk5⟩; clear tok0; have hh5 : Below W4.heap.size W4 w5 := below_undrew hk5; have y5 := hh5.size; have k0 := (hh5.cell (p := ⟨w.heap.size, 0, none⟩) lx).trans rk0; have k2 := (hh5.cell (p := ⟨w.heap.size, 2, none⟩) lx).trans rk2; have y0 := (hh5.cell (p := ⟨wr.heap.size, 0, none⟩) ly).trans ry0; have y1 := (hh5.cell (p := ⟨wr.heap.size, 1, none⟩) ly).trans ry1; have y2 := (hh5.cell (p := ⟨wr.heap.size, 2, none⟩) ly).trans ry2; have y3 := (hh5.cell (p := ⟨wr.heap.size, 3, none⟩) ly).trans ry3; have y4 := (hh5.cell (p := ⟨wr.heap.size, 4, none⟩) ly).trans ry4; have t0 := (hh5.cell (p := ⟨tb, tq + j * 5, none⟩) lt_).trans rt0; have t1 := (hh5.cell (p := ⟨tb, tq + j * 5 + 1, none⟩) lt_).trans rt1; have t2 := (hh5.cell (p := ⟨tb, tq + j * 5 + 2, none⟩) lt_).trans rt2; have t3 := (hh5.cell (p := ⟨tb, tq + j * 5 + 3, none⟩) lt_).trans rt3; have t4 := (hh5.cell (p := ⟨tb, tq + j * 5 + 4, none⟩) lt_).trans rt4)
                | fail)
              all_goals have hb5 := hb4.trans (hh5.mono (by omega))
              all_goals have bw5 := bw4.trans (hh5.mono (by omega))
              all_goals cases CL
              all_goals go_wp2_with fail
              all_goals first
                | (go_ret; exact ⟨ret_bool (by rw [HS.out]; rfl), bw5⟩)
                | exact ⟨⟨j + 1, by omega, by go_num, (by show _ = _; rw [HS.out]; rfl), hb5⟩, by simp [intOf]; omega⟩
            · have hj' : j = x.l1.length := by omega
              have HT : Hid (OK = true) := by show _ = _; rw [← HF.out, List.drop_eq_nil_of_le (by omega : x.l1.length ≤ j), Ru.clauses]; intro _ _ _ _ e; cases e
              go_wp2_with fail
              go_ret
              exact ⟨ret_bool HT.out.symm, bw⟩
      · have HQ : Hid (OK = false) := by show _ = _; rw [HM.out, decide_eq_false h3]; simp
        have E1 : Hid (((x.l1.length : Int) != (x.l2.length : Int)) = false) := by show _ = _; simp [h1]
        have E2 : Hid (((x.l1.length : Int) == 0) = false) := by show _ = _; simpa using h2
        have g3 : (12 : Int) < (x.l1.length : Int) := by omega
        clear h1 h2 h3
        go_enter Tryz.func9, Tryz.ntmps9
        go_upto_region 1 with fail
        rw [← hW1]
        clear hW1
        have e1 := E1.out
        have e2 := E2.out
        obtain ⟨x0, x1, x2⟩ := X1
        go_wp2_with fail
        go_ret
        exact ⟨ret_bool HQ.out.symm, b1⟩
  · have HQ : Hid (OK = false) := by show _ = _; rw [HM.out, decide_eq_false h1]; rfl
    have E1 : Hid (((x.l1.length : Int) != (x.l2.length : Int)) = true) := by show _ = _; simp; omega
    clear h1
    go_enter Tryz.func9, Tryz.ntmps9
    go_upto_region 1 with fail
    rw [← hW1]
    clear hW1
    have e1 := E1.out
    obtain ⟨x0, x1, x2⟩ := X1
    go_wp2_with fail
    go_ret
    exact ⟨ret_bool HQ.out.symm, b1⟩
end Go.Proofs.YtnldlbglgalbaabGreat

namespace Go.Proofs.YtnldlbglgalbaabGreat
open Go.RowKit
namespace S
theorem fewL_eq : ∀ (l : List S) (L : Int), 0 ≤ L → fewL l L = ((l.all fun x => decide (x.depth ≤ 40) && x.valid) && decide ((sizeL l : Int) ≤ L))
  | [], L, h => by simp [fewL, sizeL, h]
  | x :: r, L, h => by
    rw [fewL, sizeL, List.all_cons]
    by_cases hx : SFit x L 40
    · have h1 := hx.1
      have h2 : x.depth ≤ 40 := by have := hx.2.1; omega
      have h3 := hx.2.2
      rw [decide_eq_true hx, fewL_eq r (L - x.size) (by omega), decide_eq_true h2, h3]
      simp only [Bool.true_and]
      congr 1
      apply decide_eq_decide.2
      omega
    · rw [decide_eq_false hx, Bool.false_and]
      symm
      rw [Bool.and_eq_false_iff]
      by_cases h1 : (x.size : Int) ≤ L
      · left
        rw [Bool.and_eq_false_iff]
        left
        cases hv : x.valid with
        | false => simp
        | true =>
          rw [Bool.and_true, decide_eq_false_iff_not]
          intro hd
          exact hx ⟨h1, by omega, hv⟩
      · right
        rw [decide_eq_false_iff_not]
        omega
theorem isS_of {x : S} (h1 : x.size ≤ 2000) (h2 : (decide (x.depth ≤ 40) && x.valid) = true) : x.isS = true := by
  unfold isS
  rw [decide_eq_true h1, h2]
  rfl
theorem isS_parts {x : S} (h : x.isS = true) : x.size ≤ 2000 ∧ (decide (x.depth ≤ 40) && x.valid) = true := by
  unfold isS at h
  simp only [Bool.and_eq_true, decide_eq_true_eq] at h ⊢
  exact h
theorem behind_isS {p : S} (h : p.isS = true) (hne : p.l ≠ []) : (behind none p).isS = true := by
  obtain ⟨h1, h2⟩ := isS_parts h
  obtain ⟨k, n, t, sa, sc, s, A, c, l⟩ := p
  have hne : l ≠ [] := hne
  cases l with
  | nil => exact absurd rfl hne
  | cons x r =>
    simp only [Bool.and_eq_true, decide_eq_true_eq, valid, validL] at h2
    refine isS_of ?_ ?_
    · have := (behind_size none (p := .mk k n t sa sc s A c (x :: r)) hne).1
      omega
    · simp only [behind, depth, valid, Bool.and_eq_true, decide_eq_true_eq]
      refine ⟨?_, by simp [sNodeOk, nodeOk, isSetI, setFrom], ?_⟩
      · show depthL r + 1 ≤ 40
        have h9 : depthL (x :: r) + 1 ≤ 40 := h2.1
        rw [depthL] at h9
        omega
      · exact h2.2.2.2
/-- The model's: whether a pattern and a template are a clause. -/
def clauseM (lits : List S) (p t : S) : Bool := p.isS && (decide (p.k = 0) && (match p.l with
  | [] => false
  | x :: _ => decide (x.k = 1) && (!x.isDots && (match varsM (litM lits) (behind none p) 0 [] with
    | none => false
    | some V => Ka.tfits (V.map kaOf) t))))
theorem clause_eq {lits : List S} (hl : areLits lits = true) {p t : S} (hp : p.isS = true) : clauseM lits p t = clause lits p t := by
  unfold clauseM clause
  rw [hp, Bool.true_and]
  cases hpl : p.l with
  | nil => simp
  | cons x r =>
    have hne : p.l ≠ [] := by rw [hpl]; simp
    have hk : p.k = 0 := by
      by_cases h : p.k = 0
      · exact h
      · exact absurd (valid_leaf (valid_of_isS hp) h) hne
    rw [decide_eq_true hk, Bool.true_and, pat_eq hl (behind_isS hp hne)]
    cases patOk lits (behind none p) <;> simp
end S
namespace Ru
/-- The model's: all of them are clauses. -/
def clausesM (lits : List S) : List S → List S → Bool
  | p :: ps, t :: ts => S.clauseM lits p t && clausesM lits ps ts
  | _, _ => true
def okM (x : Ru) : Bool := S.areLits x.l0 && ((decide (x.l1.length = x.l2.length) && decide (1 ≤ x.l1.length ∧ x.l1.length ≤ 12)) && (clausesM x.l0 x.l1 x.l2 && decide (S.sizeL (x.l1 ++ x.l2) ≤ 2000)))
theorem clauses_isS (lits : List S) : ∀ (l m : List S), l.length = m.length → clausesM lits l m = true → (∀ p ∈ l, p.isS = true) ∧ ∀ t ∈ m, t.isS = true
  | [], [], _, _ => by simp
  | [], _ :: _, h, _ => by simp at h
  | _ :: _, [], h, _ => by simp at h
  | p :: ps, t :: ts, h, hc => by
    rw [clausesM, Bool.and_eq_true] at hc
    obtain ⟨i1, i2⟩ := clauses_isS lits ps ts (by simpa using h) hc.2
    have hc1 := hc.1
    unfold S.clauseM at hc1
    simp only [Bool.and_eq_true, decide_eq_true_eq] at hc1
    have ht : t.isS = true := by
      have h2 := hc1.2.2
      cases hpl : p.l with
      | nil => rw [hpl] at h2; simp at h2
      | cons x r =>
        rw [hpl] at h2
        simp only [Bool.and_eq_true] at h2
        have h3 := h2.2.2
        cases hv : S.varsM (S.litM lits) (S.behind none p) 0 [] with
        | none => rw [hv] at h3; simp at h3
        | some V =>
          rw [hv] at h3
          unfold Ka.tfits at h3
          simp only [Bool.and_eq_true] at h3
          exact h3.2.1
    exact ⟨fun q hq => by rcases List.mem_cons.1 hq with rfl | hq; exact hc1.1; exact i1 q hq, fun q hq => by rcases List.mem_cons.1 hq with rfl | hq; exact ht; exact i2 q hq⟩
theorem clauses_eq {lits : List S} (hl : S.areLits lits = true) : ∀ (l m : List S), (∀ p ∈ l, p.isS = true) → clausesM lits l m = clauses lits l m
  | [], [], _ => rfl
  | [], _ :: _, _ => rfl
  | _ :: _, [], _ => rfl
  | p :: ps, t :: ts, h => by
    rw [clausesM, clauses, S.clause_eq hl (h p (by simp)), clauses_eq hl ps ts fun q hq => h q (by simp [hq])]
theorem ok_eq (x : Ru) : okM x = okI x := by
  unfold okM okI
  by_cases h1 : x.l1.length = x.l2.length
  · by_cases h2 : 1 ≤ x.l1.length ∧ x.l1.length ≤ 12
    · have h3 : x.l1.length ≠ 0 := by omega
      rw [decide_eq_true h1, decide_eq_true h2, decide_eq_true h3, decide_eq_true h2.2]
      simp only [Bool.true_and, Bool.and_true]
      rw [S.fewL_eq _ _ (by omega)]
      cases hl : S.areLits x.l0
      · have hc : clauses x.l0 x.l1 x.l2 = false := by
          cases e1 : x.l1 with
          | nil => rw [e1] at h3; simp at h3
          | cons p ps =>
            cases e2 : x.l2 with
            | nil => rw [e1, e2] at h1; simp at h1
            | cons t ts =>
              rw [clauses]
              unfold S.clause S.patOk
              rw [hl]
              cases p.l <;> simp
        rw [hc]
        simp
      · rw [Bool.true_and]
        by_cases hs : S.sizeL (x.l1 ++ x.l2) ≤ 2000
        · have hs2 : ((S.sizeL (x.l1 ++ x.l2) : Nat) : Int) ≤ 2000 := by omega
          rw [decide_eq_true hs, decide_eq_true hs2, Bool.and_true, Bool.and_true]
          cases ha : ((x.l1 ++ x.l2).all fun x => decide (x.depth ≤ 40) && x.valid)
          · rw [Bool.false_and]
            cases hc : clausesM x.l0 x.l1 x.l2 with
            | false => rfl
            | true =>
              exfalso
              obtain ⟨i1, i2⟩ := clauses_isS x.l0 x.l1 x.l2 h1 hc
              have : ((x.l1 ++ x.l2).all fun x => decide (x.depth ≤ 40) && x.valid) = true := by
                rw [List.all_eq_true]
                intro y hy
                rcases List.mem_append.1 hy with hy | hy
                · exact (S.isS_parts (i1 y hy)).2
                · exact (S.isS_parts (i2 y hy)).2
              rw [ha] at this
              cases this
          · rw [Bool.true_and]
            refine clauses_eq hl _ _ fun p hp => S.isS_of ?_ ?_
            · have := S.sizeL_mem (List.mem_append.2 (.inl hp) : p ∈ x.l1 ++ x.l2)
              omega
            · exact List.all_eq_true.1 ha p (List.mem_append.2 (.inl hp))
        · have hs2 : ¬ ((S.sizeL (x.l1 ++ x.l2) : Nat) : Int) ≤ 2000 := by omega
          rw [decide_eq_false hs, decide_eq_false hs2]
          simp
    · rw [decide_eq_false h2]
      by_cases h3 : x.l1.length = 0
      · simp [h3]
      · have h4 : ¬ x.l1.length ≤ 12 := by omega
        simp [h4]
  · rw [decide_eq_false h1]
    simp
end Ru
end Go.Proofs.YtnldlbglgalbaabGreat

namespace Go.Proofs.YtnldlbglgalbaabGreat
open Go.RowKit
namespace S
/-- The names' weight. -/
def wV : List (S × Int) → Nat | [] => 0 | y :: r => 1 + y.1.bulk + wV r
theorem wV_append (a b : List (S × Int)) : wV (a ++ b) = wV a + wV b := by
  induction a with
  | nil => simp [wV]
  | cons y r ih => simp only [List.cons_append, wV, ih]; omega
theorem bulk_erS (d : S) : d.er.bulk = d.bulk := by
  induction d using ind with
  | h d ih =>
    obtain ⟨k, n, t, sa, sc, s, A, c, l⟩ := d
    have hL : ∀ r : List S, (∀ x ∈ r, x.er.bulk = x.bulk) → bulkL (erL r) = bulkL r := by
      intro r
      induction r with
      | nil => intro _; rfl
      | cons x r ih2 =>
        intro h
        rw [erL, bulkL, bulkL, h x (by simp), ih2 fun y hy => h y (by simp [hy])]
    show t.size + (s.length + bulkL (erL l)) = t.size + (s.length + bulkL l)
    rw [hL l ih]
theorem varsM_w (f : S → Bool) : ∀ (d : S) (v : Int) (out V : List (S × Int)), varsM f d v out = some V → wV V ≤ wV out + (1 + d.bulk) ∧ V.length ≤ out.length + d.size := by
  have hL : ∀ l : List S, (∀ x ∈ l, ∀ (v : Int) (out V : List (S × Int)), varsM f x v out = some V → wV V ≤ wV out + (1 + x.bulk) ∧ V.length ≤ out.length + x.size) → ∀ (v : Int) (out V : List (S × Int)), varsML f l v out = some V → wV V ≤ wV out + bulkL l ∧ V.length ≤ out.length + sizeL l := by
    intro l
    induction l with
    | nil => intro _ v out V h; rw [varsML] at h; cases h; simp [bulkL, sizeL]
    | cons x r ih =>
      intro ha v out V h
      have i := ih fun y hy => ha y (by simp [hy])
      rw [varsML] at h
      rw [bulkL, sizeL]
      split at h
      · have := i v out V h; omega
      · split at h
        · cases h
        · rename_i o ho
          have h1 := ha x (by simp) _ _ _ ho
          have h2 := i v o V h
          omega
  intro d
  induction d using ind with
  | h d ih =>
    intro v out V h
    have hs := size_eq d
    rw [varsM_eq] at h
    split at h
    · split at h
      · cases h; omega
      · split at h
        · cases h
        · cases h
          rw [wV_append, List.length_append]
          show wV out + (1 + d.er.bulk + 0) ≤ _ ∧ _
          rw [bulk_erS]
          simp only [List.length_cons, List.length_nil]
          omega
    · split at h
      · have h1 := hL d.l ih v out V h
        have h2 : bulkL d.l ≤ d.bulk := by
          obtain ⟨k, n, t, sa, sc, s, A, c, l⟩ := d
          show bulkL l ≤ t.size + (s.length + bulkL l)
          omega
        omega
      · cases h
theorem bulk_kaOf {l : List (Tr Ka)} {V : List (S × Int)} (h : Tr.erL Ka.er l = V.map kaOf) : Tr.bulkL Ka.bulk l = wV V := by
  induction l generalizing V with
  | nil =>
    cases V with
    | nil => rfl
    | cons y r => simp [Tr.erL] at h
  | cons x r ih =>
    cases V with
    | nil => simp [Tr.erL] at h
    | cons y s =>
      rw [Tr.erL, List.map_cons] at h
      injection h with h1 h2
      rw [Tr.bulkL, wV, ih h2]
      obtain ⟨a, A, c, l⟩ := x
      unfold kaOf at h1
      rw [Tr.er] at h1
      injection h1 with e1 _ _ e4
      have hl : l = [] := by
        cases l with
        | nil => rfl
        | cons z q => rw [Tr.erL] at e4; cases e4
      subst hl
      have n1 : a.N.er = y.1 := congrArg Ka.N e1
      have n2 : a.F.er = zeroS := congrArg Ka.F e1
      rw [Tr.bulk]
      have b1 : a.N.bulk = y.1.bulk := by rw [← n1, bulk_erS]
      have b2 : a.F.bulk = 0 := by rw [← bulk_erS, n2]; rfl
      show 1 + (Ka.bulk a + 0) + wV s = _
      unfold Ka.bulk
      omega
end S
end Go.Proofs.YtnldlbglgalbaabGreat

namespace Go.Proofs.YtnldlbglgalbaabGreat
open Go.RowKit
namespace S
/-- The index of the ellipsis, or -1. -/
def atOf (a : List S) : Int := if repOf a < 0 then -1 else repOf a + 1
end S
set_option maxRecDepth 100000 in
set_option maxHeartbeats 4000000 in
theorem l4At_any (A : Option Addr) (c : Nat) (l : List S) (B : Nat) (w : World) (hin : S.Row w B A c l) (hB : B ≤ w.heap.size) (hll : l.length ≤ 2000000) :
    Calls Tryz.prog 72 #[.slice A l.length c] w fun e w' => e = .returned (.tuple #[.int .i64 (if S.okDots l then S.atOf l else -1), .bool (S.okDots l)]) ∧ Below w.heap.size w w' := by
  have hcap := hin.cap
  obtain ⟨OK, hOK⟩ : ∃ z, z = S.okDots l := ⟨_, rfl⟩
  obtain ⟨R, hR⟩ : ∃ z, z = (if S.okDots l then S.atOf l else -1) := ⟨_, rfl⟩
  rw [← hR, ← hOK]
  have HK := Lib.hid hOK
  have HR := Lib.hid hR
  clear hOK hR
  go_enter Tryz.func72, Tryz.ntmps72
  go_wp2_with fail
  go_loopw [4, 9] (fun a i wr => ∃ (j : Nat) (z : Int), j ≤ l.length ∧ i = .int .i64 j ∧ a = .int .i64 z ∧ Hid (z = S.atOf (l.take j)) ∧ Hid (S.okDots (l.take j) = true) ∧ Below w.heap.size w wr) (fun _ i _ => l.length - (intOf i).toNat)
  case atStart => exact ⟨0, -1, Nat.zero_le _, rfl, rfl, by rfl, by rfl, Below.refl _ _⟩
  case round =>
    obtain ⟨j, z, hj, rfl, rfl, HZ, HO, hb⟩ := hrel
    have hs2 := hb.size
    by_cases hlt : j < l.length
    · obtain ⟨b, o, hA, hblk, c0, c1, c2, c3, c4, hix⟩ := S.atE ((hin.below (hb.mono hB)).2 (by rintro rfl; simp at hlt)) (i := j) (x := l[j]) (List.getElem?_eq_getElem hlt)
      have g1 : (j : Int) < (l.length : Int) := by omega
      rw [hA]
      clear hA
      have HT : Hid (l.take (j + 1) = l.take j ++ [l[j]]) := List.take_succ_eq_append_getElem hlt
      have HL : Hid ((l.take j).length = j) := by show _ = _; rw [List.length_take]; omega
      obtain ⟨W2, hW2⟩ : ∃ W2, W2 = wr.alloc (.cells #[.int .i64 l[j].k, .int .i64 l[j].n, .string l[j].t, .slice l[j].sa l[j].s.length l[j].sc, .slice l[j].A l[j].l.length l[j].c] 43) := ⟨_, rfl⟩
      have bA : Below wr.heap.size wr W2 := by rw [hW2]; exact (Below.refl _ _).alloc (Nat.le_refl _) _
      have z2 : W2.heap.size = wr.heap.size + 1 := by rw [hW2]; simp
      have Y2 : S.Box W2 wr.heap.size l[j] := by rw [hW2]; exact S.Box.new _ _ _
      have b2 := hb.trans (bA.mono hs2)
      have hc1 := specDots_any l[j] W2
      unfold S.val at hc1
      go_upto_region 5 with fail
      rw [← hW2]
      clear hW2 c0 c1 c2 c3 c4
      obtain ⟨y0, y1, y2, y3, y4⟩ := Y2
      go_wp2_with fail
      clear y0 y1 y2 y3 y4
      cases q1 : l[j].isDots
      · rw [q1] at hc1
        have HZ2 : Hid (z = S.atOf (l.take (j + 1))) := by show _ = _; rw [HZ.out]; unfold S.atOf; rw [HT.out, S.rep_snoc HO.out q1]
        have HO2 : Hid (S.okDots (l.take (j + 1)) = true) := by show _ = _; rw [HT.out]; exact S.okDots_snoc HO.out q1
        clear q1
        (with_reducible refine hc1.mono ?_)
        clear hc1
        rintro e w3 ⟨rfl, hb3⟩
        have b3 := b2.trans (hb3.mono (by omega))
        go_wp2_with fail
        exact ⟨⟨j + 1, z, by omega, by go_num, rfl, HZ2, HO2, b3⟩, by simp [intOf]; omega⟩
      · rw [q1] at hc1
        have HQ1 := Lib.hid q1
        clear q1
        (with_reducible refine hc1.mono ?_)
        clear hc1
        rintro e w3 ⟨rfl, hb3⟩
        have b3 := b2.trans (hb3.mono (by omega))
        by_cases h0 : j = 0
        · have HF : Hid (OK = false) := by show _ = _; rw [HK.out, S.okDots_badL hlt HQ1.out (.inl h0)]
          have HF2 : Hid (R = -1) := by show _ = _; rw [HR.out, ← HK.out, HF.out]; rfl
          have g2 : ((j : Int) == 0) = true := by simp [h0]
          clear h0
          go_wp2_with fail
          go_ret2
          exact ⟨by rw [HF.out, HF2.out]; rfl, b3⟩
        · have g2 : ((j : Int) == 0) = false := by simp [h0]
          by_cases hz : 0 ≤ z
          · have hr : 0 ≤ S.repOf (l.take j) := by
              have := HZ.out
              unfold S.atOf at this
              split at this <;> omega
            have HF : Hid (OK = false) := by show _ = _; rw [HK.out, S.okDots_badL hlt HQ1.out (.inr hr)]
            have HF2 : Hid (R = -1) := by show _ = _; rw [HR.out, ← HK.out, HF.out]; rfl
            clear hr
            go_wp2_with fail
            go_ret2
            exact ⟨by rw [HF.out, HF2.out]; rfl, b3⟩
          · have hr : S.repOf (l.take j) < 0 := by
              have := HZ.out
              unfold S.atOf at this
              split at this <;> omega
            have hne : l.take j ≠ [] := by intro e; have := HL.out; rw [e] at this; simp at this; omega
            have HZ2 : Hid ((j : Int) = S.atOf (l.take (j + 1))) := by
              show _ = _
              unfold S.atOf
              rw [HT.out, S.rep_dots HO.out HQ1.out hne hr, HL.out, if_neg (by omega)]
              omega
            have HO2 : Hid (S.okDots (l.take (j + 1)) = true) := by show _ = _; rw [HT.out]; exact S.okDots_dots HO.out HQ1.out hne hr
            have H0 := Lib.hid h0
            clear hr hne h0
            go_wp2_with fail
            exact ⟨⟨j + 1, (j : Int), by omega, by go_num, rfl, HZ2, HO2, b3⟩, by simp [intOf]; omega⟩
    · have hj' : j = l.length := by omega
      subst hj'
      have HO2 : Hid (S.okDots l = true) := by have := HO.out; rwa [List.take_length] at this
      have HF : Hid (OK = true) := by show _ = _; rw [HK.out, HO2.out]
      have HF2 : Hid (R = z) := by show _ = _; rw [HR.out, HO2.out, HZ.out, List.take_length]; rfl
      go_wp2_with fail
      go_ret2
      exact ⟨by rw [HF.out, HF2.out]; rfl, hb⟩
end Go.Proofs.YtnldlbglgalbaabGreat
