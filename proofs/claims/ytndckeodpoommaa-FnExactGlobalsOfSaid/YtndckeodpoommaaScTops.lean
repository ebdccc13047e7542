/-
  Sets of scopes: the model's exported functions, and the program's HasScope and IsSubset.
-/
import Derived.Test.YtndckeodpoommaaScSets
import Derived.Test.YtndckeodpoommaaShelf
import Derived.Lib.Slices
import Derived.Deep.RegionLaw
import Derived.Shelf.SlicesE.DeleteFunc
namespace Go.Proofs.Ytndckeodpoommaa
open Go.RowKit

def withL (n : Int) (l : List Int) : List Int := if isSetI l = true ∧ kindI n ≠ 0 then putL n l else l
def flipL (n : Int) (l : List Int) : List Int := if isSetI l = true ∧ kindI n ≠ 0 then (if l.contains n then cutL n l else putL n l) else l
def dropL (l : List Int) : List Int := if isSetI l = true then nousesL l else l
def subTop (a b : List Int) : Bool := isSetI a && (isSetI b && subL a b)

theorem igetD {w : World} {B : Nat} {b o c : Nat} {l : List Int} (h : IIn w B (some ⟨b, o, none⟩) c l) : ∀ j, j < l.length → w.cell? ⟨b, o + j, none⟩ = some (.int .i64 (l.getD j 0)) := by
  intro j hj
  obtain ⟨b', o', e, _, hc⟩ := h.at_ hj
  obtain ⟨rfl, rfl, _⟩ := Addr.mk.inj (Option.some.inj e)
  rw [hc]
  simp [hj]
theorem specHasB_any (A : Option Addr) (c : Nat) (l : List Int) (n : Int) (B : Nat) (w : World) (hin : IIn w B A c l) :
    Calls Try.prog 95 #[.slice A l.length c, .int .i64 n] w fun e w' => e = .returned (.bool (l.contains n)) ∧ Below w.heap.size w w' :=
  (specHas_any A c l n B w hin).mono fun e w' ⟨h1, h2⟩ => ⟨h1, by rw [h2]; exact Below.refl _ _⟩
end Go.Proofs.Ytndckeodpoommaa

namespace Go.Proofs.Ytndckeodpoommaa
open Go.RowKit

theorem set_sorted {l : List Int} (h : isSetI l = true) : l.Pairwise (· < ·) := (setFrom_pairwise l 0 h).1
theorem set_range {l : List Int} (h : isSetI l = true) {x : Int} (hx : x ∈ l) : 1 ≤ x ∧ x ≤ 99999 := by
  have := (setFrom_pairwise l 0 h).2 x hx
  omega
theorem set_le {l : List Int} (h : isSetI l = true) : l.Pairwise (· ≤ ·) := (set_sorted h).imp (fun h => Int.le_of_lt h)
theorem set_kind {l : List Int} (h : isSetI l = true) {x : Int} (hx : x ∈ l) : kindI x ≠ 0 := fun e => kindI_zero.1 e (set_range h hx)

theorem putL_mem (n : Int) : ∀ l : List Int, l.Pairwise (· < ·) → n ∈ l → putL n l = l := by
  intro l
  induction l with
  | nil => intro _ h; cases h
  | cons x r ih =>
    intro hp hm
    obtain ⟨h1, h2⟩ := List.pairwise_cons.1 hp
    rcases List.mem_cons.1 hm with rfl | hm
    · rw [putL, if_pos (by omega), if_neg (by omega)]
    · have := h1 n hm
      rw [putL, if_neg (by omega), ih h2 hm]
theorem putL_new (n : Int) : ∀ l : List Int, l.Pairwise (· < ·) → n ∉ l → putL n l = l.take (l.countP (· < n)) ++ n :: l.drop (l.countP (· < n)) := by
  intro l
  induction l with
  | nil => intro _ _; rfl
  | cons x r ih =>
    intro hp hm
    obtain ⟨h1, h2⟩ := List.pairwise_cons.1 hp
    have hx : n ≠ x := fun e => hm (by simp [e])
    by_cases hle : n ≤ x
    · have hz : (x :: r).countP (· < n) = 0 := by
        rw [List.countP_eq_zero]
        intro y hy
        rcases List.mem_cons.1 hy with rfl | hy
        · simp; omega
        · have := h1 y hy
          simp; omega
      rw [hz, putL, if_pos hle, if_pos (by omega)]
      rfl
    · have hc : (x :: r).countP (· < n) = r.countP (· < n) + 1 := by
        rw [List.countP_cons_of_pos]
        simp; omega
      rw [hc, putL, if_neg hle, ih h2 (fun h => hm (by simp [h]))]
      simp
theorem putL_length (n : Int) : ∀ l : List Int, (putL n l).length ≤ l.length + 1 := by
  intro l
  induction l with
  | nil => simp [putL]
  | cons x r ih =>
    rw [putL]
    split
    · split <;> simp
    · simp; omega
theorem withL_length (n : Int) (l : List Int) : (withL n l).length ≤ l.length + 1 := by
  unfold withL
  split
  · exact putL_length n l
  · omega
theorem flipL_length (n : Int) (l : List Int) : (flipL n l).length ≤ l.length + 1 := by
  unfold flipL
  split
  · split
    · have := List.length_filter_le (fun x => !(x == n)) l
      unfold cutL
      omega
    · exact putL_length n l
  · omega
theorem dropL_length (l : List Int) : (dropL l).length ≤ l.length := by
  unfold dropL
  split
  · exact List.length_filter_le _ _
  · omega

theorem cutL_none (n : Int) : ∀ l : List Int, n ∉ l → cutL n l = l := by
  intro l h
  unfold cutL
  rw [List.filter_eq_self]
  intro x hx
  simp
  rintro rfl
  exact h hx
theorem cutL_at (n : Int) (k : Nat) : ∀ l : List Int, l.Pairwise (· < ·) → l[k]? = some n → cutL n l = l.take k ++ l.drop (k + 1) := by
  induction k with
  | zero =>
    intro l hp hk
    cases l with
    | nil => simp at hk
    | cons x r =>
      simp at hk
      subst hk
      obtain ⟨h1, _⟩ := List.pairwise_cons.1 hp
      have hn : x ∉ r := fun h => by have := h1 x h; omega
      show cutL x (x :: r) = [] ++ r
      unfold cutL
      rw [List.filter_cons_of_neg (by simp)]
      exact cutL_none x r hn
  | succ k ih =>
    intro l hp hk
    cases l with
    | nil => simp at hk
    | cons x r =>
      simp at hk
      obtain ⟨h1, h2⟩ := List.pairwise_cons.1 hp
      have hlt := h1 n (List.mem_of_getElem? hk)
      have := ih r h2 hk
      unfold cutL at this ⊢
      rw [List.filter_cons_of_pos (by simp; omega), this]
      simp
theorem idx_spec (l : List Int) (n : Int) (h : n ∈ l) : ∃ k : Nat, Lib.idxOf l n = k ∧ l[k]? = some n ∧ k < l.length := by
  obtain ⟨k, hk, hkn, hmin⟩ : ∃ k, k < l.length ∧ l.getD k 0 = n ∧ ∀ j, j < k → l.getD j 0 ≠ n := by
    induction l with
    | nil => cases h
    | cons x r ih =>
      by_cases hx : x = n
      · exact ⟨0, by simp, by simp [hx], fun j hj => absurd hj (Nat.not_lt_zero _)⟩
      · have hr : n ∈ r := by
          rcases List.mem_cons.1 h with rfl | h
          · exact absurd rfl hx
          · exact h
        obtain ⟨k, h1, h2, h3⟩ := ih hr
        refine ⟨k + 1, by simp; omega, by simpa using h2, fun j hj => ?_⟩
        cases j with
        | zero => simpa using hx
        | succ j => simpa using h3 j (by omega)
  refine ⟨k, ?_, ?_, hk⟩
  · have := Lib.idxOf_hit l l.length k n hk (Nat.le_refl _) hkn hmin
    rwa [List.take_length] at this
  · rw [List.getElem?_eq_getElem hk]
    simp [hk] at hkn
    rw [hkn]
end Go.Proofs.Ytndckeodpoommaa

namespace Go.Proofs.Ytndckeodpoommaa
open Go.RowKit

/-- A row of ints by its place. -/
structure IR where
  A : Option Addr
  c : Nat
  l : List Int
def IR.val (r : IR) : Value := .slice r.A r.l.length r.c
def catR (rs : List IR) : List Int := rs.flatMap IR.l
theorem catR_append (a b : List IR) : catR (a ++ b) = catR a ++ catR b := by simp [catR]
theorem catR_le (rs : List IR) (j : Nat) : (catR (rs.take j)).length ≤ (catR rs).length := by
  have : catR rs = catR (rs.take j) ++ catR (rs.drop j) := by rw [← catR_append, List.take_append_drop]
  rw [this, List.length_append]
  omega

set_option maxHeartbeats 800000 in
theorem growNil_any (n : Nat) (hn : n ≤ 8000000) (w : World) : Calls Try.prog 106 #[.slice none 0 0, .int .i64 n] w fun e w' => ∃ v, e = .returned v ∧ w'.ownsRow w.heap.size 3 1 v 0 [] ∧ Below w.heap.size w w' := by
  rcases Nat.eq_zero_or_pos n with rfl | hpos
  · refine (Try.slices_Grow_room none 0 0 0 w (Nat.le_refl _) (by omega) (by omega) (Nat.le_refl _)).mono ?_
    rintro e w' ⟨rfl, rfl⟩
    exact ⟨_, rfl, World.ownsRow_nil _ _ _ _, Below.refl _ _⟩
  · obtain ⟨i0, hi, hz0, hz1, hz2⟩ := info_parts infoI
    refine (Try.slices_Grow_grow i0 _ hi hz0 (by omega) none 0 0 n [] w (Nat.le_refl _) (by omega) (by rw [hz2]; omega) (by omega) (by simp) (fun _ => rfl) (fun _ h => by cases h)).mono ?_
    rintro e w' ⟨rfl, rfl⟩
    have hge := grownCap_ge w (0 + n) 0 3
    have hle := grownCap_le_maxLen w (0 + n) 0 3 (by unfold maxLen; omega)
    refine ⟨_, rfl, ?_, ?_⟩
    · refine World.ownsRow_made w.drew _ _ (Nat.le_refl _) hle ?_
      simp only [Array.size_append, size_zeroCells]
      simp [Value.cells]
      rw [Nat.zero_add] at hge
      omega
    · exact (show Below w.heap.size w w.drew from ⟨rfl, rfl, rfl, Nat.le_refl _, fun _ _ => rfl⟩).alloc (Nat.le_refl _) _

set_option maxRecDepth 100000 in
set_option maxHeartbeats 1600000 in
theorem concat_any (g cap : Nat) (rs : List IR) (B : Nat) (w : World) (hlen : rs.length ≤ 4) (hcap : rs.length ≤ cap ∧ cap ≤ 9223372036854775807) (hg : g < w.heap.size) (hcells : ∀ j r, rs[j]? = some r → w.cell? ⟨g, j, none⟩ = some r.val) (hin : ∀ r ∈ rs, IIn w B r.A r.c r.l) (hB : B ≤ w.heap.size) (hsum : (catR rs).length ≤ 8000000) :
    Calls Try.prog 65 #[.slice (some ⟨g, 0, none⟩) rs.length cap] w (RetI (catR rs) w) := by
  obtain ⟨i0, hi, hz0, hz1, hz2⟩ := info_parts infoI
  have HC := Lib.hid hcells
  clear hcells
  go_enter Try.func65, Try.ntmps65
  go_wp2_with fail
  go_loopw [3, 11] (fun s i wr => ∃ j : Nat, j ≤ rs.length ∧ i = .int .i64 j ∧ s = .int .i64 ((catR (rs.take j)).length : Nat) ∧ wr = w) (fun _ i _ => rs.length - (intOf i).toNat)
  case atStart => exact ⟨0, Nat.zero_le _, rfl, by simp [catR], rfl⟩
  case round =>
    obtain ⟨j, hj, rfl, rfl, hw⟩ := hrel
    obtain rfl := hw.symm
    by_cases hlt : j < rs.length
    · obtain ⟨r, hr⟩ : ∃ r, rs[j]? = some r := ⟨_, List.getElem?_eq_getElem hlt⟩
      obtain ⟨A, c, l⟩ := r
      have c0 := HC.out j _ hr
      simp only [IR.val] at c0
      have Hr := Lib.hid hr
      have Hi := hin ⟨A, c, l⟩ (List.mem_of_getElem? hr)
      clear hr
      have HT : Hid (catR (rs.take (j + 1)) = catR (rs.take j) ++ l) := by
        show _ = _
        rw [List.take_add_one, Hr.out, catR_append]
        simp [catR]
      have hle := catR_le rs (j + 1)
      rw [HT.out, List.length_append] at hle
      have g0 := Hi.cap
      simp only at g0
      have hn : ¬ (((catR (rs.take j)).length : Int) + (l.length : Int) < 0) := by omega
      go_wp2_with fail
      refine ⟨⟨j + 1, by omega, by go_num, by rw [HT.out, List.length_append]; go_num, by first | rfl | trivial⟩, by simp [intOf]; omega⟩
    · have hj' : j = rs.length := by omega
      subst hj'
      rw [List.take_length]
      go_wp2_with fail
      refine (growNil_any (catR rs).length hsum _).mono ?_
      rintro e w1 ⟨v, rfl, hown, hb1⟩
      have z1 := hb1.size
      go_wp2_with fail
      go_loopw [6, 27] (fun v i wr => ∃ (j : Nat) (ds : List Int), j ≤ rs.length ∧ i = .int .i64 j ∧ Hid (ds = catR (rs.take j)) ∧ ds.length ≤ 8000000 ∧ wr.ownsRow w.heap.size 3 1 v ds.length (ds.map (Value.int .i64)) ∧ Below w.heap.size w wr) (fun _ i _ => rs.length - (intOf i).toNat)
      case atStart => exact ⟨0, [], Nat.zero_le _, rfl, by simp [catR, Hid], by simp, hown, hb1⟩
      case round =>
        obtain ⟨j, ds, hj, rfl, HE, hdl, hown, hb⟩ := hrel
        have hs2 := hb.size
        by_cases hlt : j < rs.length
        · obtain ⟨r, hr⟩ : ∃ r, rs[j]? = some r := ⟨_, List.getElem?_eq_getElem hlt⟩
          obtain ⟨A, c, l⟩ := r
          have c0 : _ = _ := (hb.cell (p := ⟨g, j, none⟩) hg).trans (HC.out j _ hr)
          simp only [IR.val] at c0
          have Hr := Lib.hid hr
          have Hi := hin ⟨A, c, l⟩ (List.mem_of_getElem? hr)
          clear hr
          have HT : Hid (ds ++ l = catR (rs.take (j + 1))) := by
            show _ = _
            rw [List.take_add_one, Hr.out, catR_append, HE.out]
            simp [catR]
          have hle := catR_le rs (j + 1)
          rw [← HT.out, List.length_append] at hle
          have hir := Hi.below (hb.mono hB)
          have g0 := hir.cap
          simp only at hir g0
          by_cases hn : A = none
          · obtain rfl := hn
            obtain rfl := hir.nil rfl
            have hl : l = [] := by
              cases l with
              | nil => rfl
              | cons _ _ => simp at g0
            subst hl
            rw [List.append_nil] at HT
            go_wp2_with (at_builtin; refine wpList_append_own_none rfl _ _ 28 rfl w.heap.size 3 i0 1 Try.underlying28 hi _ ds.length (ds.map (Value.int .i64)) rfl hown rfl ?_)
            exact ⟨⟨j + 1, ds, by omega, by go_num, HT, hdl, hown, hb⟩, by simp [intOf]; omega⟩
          · obtain ⟨a, rfl⟩ := Option.ne_none_iff_exists'.1 hn
            have hnews : ∀ j u, (l.map (Value.int .i64))[j]? = some u → wr.cell? (a.add j) = some u := by
              intro j u hu
              have hne : l ≠ [] := by rintro rfl; simp at hu
              obtain ⟨b, o, e, _, _⟩ := hir.mem hne
              obtain rfl := Option.some.inj e
              exact iall hir j u hu
            go_wp2_with (at_builtin; refine wpList_append_own _ rfl _ _ 28 rfl w.heap.size 3 i0 (.int .i64 0) 1 8 Try.underlying28 hi hz0 hz1 hz2 rfl (by decide) _ ds.length (ds.map (Value.int .i64)) rfl hown a l.length c (l.map (Value.int .i64)) rfl (by simp) hnews (iallone l) (by unfold maxLen; omega) (by omega) (by omega) ?_)
            intro v' w2 hown' hgr _
            have hown2 : w2.ownsRow w.heap.size 3 1 v' (ds ++ l).length ((ds ++ l).map (Value.int .i64)) := by simpa using hown'
            have hb2 : Below w.heap.size w w2 := hb.grown hgr hs2 (fun k hk => (hown.lt k hk).1)
            clear hown' hgr hnews hown
            go_wp2_with fail
            exact ⟨⟨j + 1, ds ++ l, by omega, by go_num, HT, by rw [List.length_append]; omega, hown2, hb2⟩, by simp [intOf]; omega⟩
        · have hj' : j = rs.length := by omega
          subst hj'
          have HQ : Hid (catR rs = ds) := by
            show _ = _
            have := HE.out
            rw [List.take_length] at this
            exact this.symm
          obtain ⟨A', c', rfl, ho⟩ := own_of_row hown
          clear hown
          go_wp2_with fail
          go_ret
          exact ⟨A', c', by rw [HQ.out]; rfl, by rw [HQ.out]; exact ho, hb⟩
end Go.Proofs.Ytndckeodpoommaa

namespace Go.Proofs.Ytndckeodpoommaa
open Go.RowKit

theorem IIn.takes {w : World} {B : Nat} {A : Option Addr} {c : Nat} {l : List Int} (h : IIn w B A c l) (k : Nat) : IIn w B A c (l.take k) := by
  refine ⟨⟨by rw [List.length_take]; have := h.cap; omega, h.cap.2⟩, h.nil, fun hne => ?_⟩
  obtain ⟨b, o, e, hb, hc⟩ := h.mem (by rintro rfl; simp at hne)
  refine ⟨b, o, e, hb, fun j u hu => hc j u ?_⟩
  rw [List.getElem?_take] at hu
  split at hu
  · exact hu
  · cases hu
theorem IIn.drops {w : World} {B : Nat} {A : Option Addr} {c : Nat} {l : List Int} (h : IIn w B A c l) (k : Nat) : IIn w B (if c = k then A else Option.map (fun x => x.add k) A) (c - k) (l.drop k) := by
  have hcap := h.cap
  refine ⟨⟨by rw [List.length_drop]; omega, by omega⟩, fun e => ?_, fun hne => ?_⟩
  · have : A = none := by
      split at e
      · exact e
      · simpa using e
    rw [h.nil this, Nat.zero_sub]
  · have hlt : k < l.length := by
      rcases Nat.lt_or_ge k l.length with h1 | h1
      · exact h1
      · rw [List.drop_eq_nil_of_le h1] at hne; exact absurd rfl hne
    obtain ⟨b, o, rfl, hb, hc⟩ := h.mem (by rintro rfl; simp at hlt)
    have e : (⟨b, o, none⟩ : Addr).add k = ⟨b, o + k, none⟩ := by unfold Addr.add; split <;> simp_all
    refine ⟨b, o + k, by rw [if_neg (by omega), Option.map_some, e], hb, fun j u hu => ?_⟩
    rw [Nat.add_assoc]
    rw [List.getElem?_drop] at hu
    exact hc (k + j) u hu
theorem cat3 (A : Option Addr) (c : Nat) (l : List Int) (n : Int) (k B : Nat) (W : World) (H : Nat) (hH : W.heap.size = H) (hll : l.length ≤ 2000000) (hkl : k ≤ l.length) (hin : IIn W B A c l) (hB : B ≤ H) :
    Calls Try.prog 65 #[.slice (some ⟨H + 1, 0, none⟩) 3 3] ((W.alloc (.cells #[.int .i64 n] 3)).alloc (.cells #[.slice A k c, .slice (some ⟨H, 0, none⟩) 1 1, .slice (if c = k then A else Option.map (fun x => x.add k) A) (l.length - k) (c - k)] 28)) (RetI (l.take k ++ n :: l.drop k) W) := by
  subst hH
  have hz : (W.alloc (.cells #[.int .i64 n] 3)).heap.size = W.heap.size + 1 := by simp
  obtain ⟨W2, hW2⟩ : ∃ W2, W2 = (W.alloc (.cells #[.int .i64 n] 3)).alloc (.cells #[.slice A k c, .slice (some ⟨W.heap.size, 0, none⟩) 1 1, .slice (if c = k then A else Option.map (fun x => x.add k) A) (l.length - k) (c - k)] 28) := ⟨_, rfl⟩
  have hb : Below W.heap.size W W2 := by rw [hW2]; exact ((Below.refl _ _).alloc (Nat.le_refl _) _).alloc (by simp) _
  have hz2 : W2.heap.size = W.heap.size + 2 := by rw [hW2]; simp
  have hi2 := (hin.below (hb.mono hB)).more (B' := W.heap.size + 1) (by omega)
  have ho : W2.heap[W.heap.size + 1]? = some (.cells #[.slice A k c, .slice (some ⟨W.heap.size, 0, none⟩) 1 1, .slice (if c = k then A else Option.map (fun x => x.add k) A) (l.length - k) (c - k)] 28 (0, 0)) := by
    rw [hW2, ← hz]; exact heap_alloc_new _ _
  have hn : W2.cell? ⟨W.heap.size, 0, none⟩ = some (.int .i64 n) := by
    rw [hW2, World.cell?_alloc_lt _ _ _ (by simp), cell_of_row _ _ _ _ _ _ (heap_alloc_new W _)]; rfl
  rw [← hW2]
  clear hW2
  have e1 : (l.take k).length = k := by rw [List.length_take]; omega
  have hc := concat_any (W.heap.size + 1) 3 [⟨A, c, l.take k⟩, ⟨some ⟨W.heap.size, 0, none⟩, 1, [n]⟩, ⟨(if c = k then A else Option.map (fun x => x.add k) A), c - k, l.drop k⟩] (W.heap.size + 1) W2 (by simp) (by simp) (by omega)
    (fun j r hr => by
      rw [cell_of_row _ _ _ _ _ _ ho]
      match j, hr with
      | 0, hr => simp at hr; subst hr; simp [IR.val, e1]
      | 1, hr => simp at hr; subst hr; simp [IR.val]
      | 2, hr => simp at hr; subst hr; simp [IR.val]
      | j + 3, hr => simp at hr)
    (fun r hr => by
      simp at hr
      rcases hr with rfl | rfl | rfl
      · exact hi2.takes k
      · exact ⟨by simp, by simp, fun _ => ⟨W.heap.size, 0, rfl, by omega, fun j u hu => by
          match j, hu with
          | 0, hu => simp at hu; subst hu; exact hn
          | j + 1, hu => simp at hu⟩⟩
      · exact hi2.drops k)
    (by omega) (by simp [catR]; omega)
  refine hc.mono ?_
  rintro e w' ⟨A', c', rfl, hown, hb'⟩
  have e3 : catR [⟨A, c, l.take k⟩, ⟨some ⟨W.heap.size, 0, none⟩, 1, [n]⟩, ⟨(if c = k then A else Option.map (fun x => x.add k) A), c - k, l.drop k⟩] = l.take k ++ n :: l.drop k := by simp [catR]
  rw [e3] at hown ⊢
  exact ⟨A', c', rfl, hown.wide (by omega) (Nat.le_refl _), hb.trans (hb'.mono (by omega))⟩
theorem cat2 (A X : Option Addr) (c : Nat) (l : List Int) (k B : Nat) (W : World) (H : Nat) (hH : W.heap.size = H) (hll : l.length ≤ 2000000) (hkl : k + 1 ≤ l.length) (hin : IIn W B A c l) (hX : IIn W B X (c - (k + 1)) (l.drop (k + 1))) (hB : B ≤ H) :
    Calls Try.prog 65 #[.slice (some ⟨H, 0, none⟩) 2 2] (W.alloc (.cells #[.slice A k c, .slice X (l.length - (k + 1)) (c - (k + 1))] 28)) (RetI (l.take k ++ l.drop (k + 1)) W) := by
  subst hH
  obtain ⟨W2, hW2⟩ : ∃ W2, W2 = W.alloc (.cells #[.slice A k c, .slice X (l.length - (k + 1)) (c - (k + 1))] 28) := ⟨_, rfl⟩
  have hb : Below W.heap.size W W2 := by rw [hW2]; exact (Below.refl _ _).alloc (Nat.le_refl _) _
  have hz2 : W2.heap.size = W.heap.size + 1 := by rw [hW2]; simp
  have hi2 := hin.below (hb.mono hB)
  have ho : W2.heap[W.heap.size]? = some (.cells #[.slice A k c, .slice X (l.length - (k + 1)) (c - (k + 1))] 28 (0, 0)) := by
    rw [hW2]; exact heap_alloc_new _ _
  rw [← hW2]
  clear hW2
  have e1 : (l.take k).length = k := by rw [List.length_take]; omega
  have hc := concat_any W.heap.size 2 [⟨A, c, l.take k⟩, ⟨X, c - (k + 1), l.drop (k + 1)⟩] B W2 (by simp) (by simp) (by omega)
    (fun j r hr => by
      rw [cell_of_row _ _ _ _ _ _ ho]
      match j, hr with
      | 0, hr => simp at hr; subst hr; simp [IR.val, e1]
      | 1, hr => simp at hr; subst hr; simp [IR.val]
      | j + 2, hr => simp at hr)
    (fun r hr => by
      simp at hr
      rcases hr with rfl | rfl
      · exact hi2.takes k
      · exact hX.below (hb.mono hB))
    (by omega) (by simp [catR]; omega)
  refine hc.mono ?_
  rintro e w' ⟨A', c', rfl, hown, hb'⟩
  have e3 : catR [⟨A, c, l.take k⟩, ⟨X, c - (k + 1), l.drop (k + 1)⟩] = l.take k ++ l.drop (k + 1) := by simp [catR]
  rw [e3] at hown ⊢
  exact ⟨A', c', rfl, hown.wide (by omega) (Nat.le_refl _), hb.trans (hb'.mono (by omega))⟩

end Go.Proofs.Ytndckeodpoommaa

namespace Go.Proofs.Ytndckeodpoommaa
open Go.RowKit Go.Lib Go.Sort Go.Shelf

end Go.Proofs.Ytndckeodpoommaa
