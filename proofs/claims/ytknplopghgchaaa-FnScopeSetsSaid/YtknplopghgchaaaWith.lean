/-
  Sets of scopes: the program's WithScope, FlippedScope, IsSubset and WithoutUses.
-/
import Derived.Test.YtknplopghgchaaaSorted
import Derived.Test.YtknplopghgchaaaCat
import Derived.Deep.RegionLaw
namespace Go.Proofs.Ytknplopghgchaaa
open Go.RowKit

theorem IIn.takes {w : World} {B : Nat} {A : Option Addr} {c : Nat} {l : List Int} (h : IIn w B A c l) (k : Nat) : IIn w B A c (l.take k) := by
  refine ⟨⟨by rw [List.length_take]; have := h.cap; omega, h.cap.2⟩, h.nil, fun hne => ?_⟩
  obtain ⟨b, o, e, hb, hc⟩ := h.mem (by rintro rfl; simp at hne)
  refine ⟨b, o, e, hb, fun j u hu => hc j u ?_⟩
  rw [List.getElem?_take] at hu
  split at hu
  · exact hu
  · cases hu
theorem IIn.drops {w : World} {B : Nat} {A : Option Addr} {c : Nat} {l : List Int} (h : IIn w B A c l) (k : Nat) : IIn w B (if c = k then A else Option.map (fun x => x.add k) A) (c - k) (l.drop k) := by
  have hcap := h.cap
  refine ⟨⟨by rw [List.length_drop]; omega, by omega⟩, fun e => ?_, fun hne => ?_⟩
  · have : A = none := by
      split at e
      · exact e
      · simpa using e
    rw [h.nil this, Nat.zero_sub]
  · have hlt : k < l.length := by
      rcases Nat.lt_or_ge k l.length with h1 | h1
      · exact h1
      · rw [List.drop_eq_nil_of_le h1] at hne; exact absurd rfl hne
    obtain ⟨b, o, rfl, hb, hc⟩ := h.mem (by rintro rfl; simp at hlt)
    have e : (⟨b, o, none⟩ : Addr).add k = ⟨b, o + k, none⟩ := by unfold Addr.add; split <;> simp_all
    refine ⟨b, o + k, by rw [if_neg (by omega), Option.map_some, e], hb, fun j u hu => ?_⟩
    rw [Nat.add_assoc]
    rw [List.getElem?_drop] at hu
    exact hc (k + j) u hu
theorem cat3 (A : Option Addr) (c : Nat) (l : List Int) (n : Int) (k B : Nat) (W : World) (H : Nat) (hH : W.heap.size = H) (hll : l.length ≤ 2000000) (hkl : k ≤ l.length) (hin : IIn W B A c l) (hB : B ≤ H) :
    Calls Try.prog 108 #[.slice (some ⟨H + 1, 0, none⟩) 3 3] ((W.alloc (.cells #[.int .i64 n] 3)).alloc (.cells #[.slice A k c, .slice (some ⟨H, 0, none⟩) 1 1, .slice (if c = k then A else Option.map (fun x => x.add k) A) (l.length - k) (c - k)] 33)) (RetI (l.take k ++ n :: l.drop k) W) := by
  subst hH
  have hz : (W.alloc (.cells #[.int .i64 n] 3)).heap.size = W.heap.size + 1 := by simp
  obtain ⟨W2, hW2⟩ : ∃ W2, W2 = (W.alloc (.cells #[.int .i64 n] 3)).alloc (.cells #[.slice A k c, .slice (some ⟨W.heap.size, 0, none⟩) 1 1, .slice (if c = k then A else Option.map (fun x => x.add k) A) (l.length - k) (c - k)] 33) := ⟨_, rfl⟩
  have hb : Below W.heap.size W W2 := by rw [hW2]; exact ((Below.refl _ _).alloc (Nat.le_refl _) _).alloc (by simp) _
  have hz2 : W2.heap.size = W.heap.size + 2 := by rw [hW2]; simp
  have hi2 := (hin.below (hb.mono hB)).more (B' := W.heap.size + 1) (by omega)
  have ho : W2.heap[W.heap.size + 1]? = some (.cells #[.slice A k c, .slice (some ⟨W.heap.size, 0, none⟩) 1 1, .slice (if c = k then A else Option.map (fun x => x.add k) A) (l.length - k) (c - k)] 33 (0, 0)) := by
    rw [hW2, ← hz]; exact heap_alloc_new _ _
  have hn : W2.cell? ⟨W.heap.size, 0, none⟩ = some (.int .i64 n) := by
    rw [hW2, World.cell?_alloc_lt _ _ _ (by simp), cell_of_row _ _ _ _ _ _ (heap_alloc_new W _)]; rfl
  rw [← hW2]
  clear hW2
  have e1 : (l.take k).length = k := by rw [List.length_take]; omega
  have hc := concat_any (W.heap.size + 1) 3 [⟨A, c, l.take k⟩, ⟨some ⟨W.heap.size, 0, none⟩, 1, [n]⟩, ⟨(if c = k then A else Option.map (fun x => x.add k) A), c - k, l.drop k⟩] (W.heap.size + 1) W2 (by simp) (by simp) (by omega)
    (fun j r hr => by
      rw [cell_of_row _ _ _ _ _ _ ho]
      match j, hr with
      | 0, hr => simp at hr; subst hr; simp [IR.val, e1]
      | 1, hr => simp at hr; subst hr; simp [IR.val]
      | 2, hr => simp at hr; subst hr; simp [IR.val]
      | j + 3, hr => simp at hr)
    (fun r hr => by
      simp at hr
      rcases hr with rfl | rfl | rfl
      · exact hi2.takes k
      · exact ⟨by simp, by simp, fun _ => ⟨W.heap.size, 0, rfl, by omega, fun j u hu => by
          match j, hu with
          | 0, hu => simp at hu; subst hu; exact hn
          | j + 1, hu => simp at hu⟩⟩
      · exact hi2.drops k)
    (by omega) (by simp [catR]; omega)
  refine hc.mono ?_
  rintro e w' ⟨A', c', rfl, hown, hb'⟩
  have e3 : catR [⟨A, c, l.take k⟩, ⟨some ⟨W.heap.size, 0, none⟩, 1, [n]⟩, ⟨(if c = k then A else Option.map (fun x => x.add k) A), c - k, l.drop k⟩] = l.take k ++ n :: l.drop k := by simp [catR]
  rw [e3] at hown ⊢
  exact ⟨A', c', rfl, hown.wide (by omega) (Nat.le_refl _), hb.trans (hb'.mono (by omega))⟩
theorem cat2 (A X : Option Addr) (c : Nat) (l : List Int) (k B : Nat) (W : World) (H : Nat) (hH : W.heap.size = H) (hll : l.length ≤ 2000000) (hkl : k + 1 ≤ l.length) (hin : IIn W B A c l) (hX : IIn W B X (c - (k + 1)) (l.drop (k + 1))) (hB : B ≤ H) :
    Calls Try.prog 108 #[.slice (some ⟨H, 0, none⟩) 2 2] (W.alloc (.cells #[.slice A k c, .slice X (l.length - (k + 1)) (c - (k + 1))] 33)) (RetI (l.take k ++ l.drop (k + 1)) W) := by
  subst hH
  obtain ⟨W2, hW2⟩ : ∃ W2, W2 = W.alloc (.cells #[.slice A k c, .slice X (l.length - (k + 1)) (c - (k + 1))] 33) := ⟨_, rfl⟩
  have hb : Below W.heap.size W W2 := by rw [hW2]; exact (Below.refl _ _).alloc (Nat.le_refl _) _
  have hz2 : W2.heap.size = W.heap.size + 1 := by rw [hW2]; simp
  have hi2 := hin.below (hb.mono hB)
  have ho : W2.heap[W.heap.size]? = some (.cells #[.slice A k c, .slice X (l.length - (k + 1)) (c - (k + 1))] 33 (0, 0)) := by
    rw [hW2]; exact heap_alloc_new _ _
  rw [← hW2]
  clear hW2
  have e1 : (l.take k).length = k := by rw [List.length_take]; omega
  have hc := concat_any W.heap.size 2 [⟨A, c, l.take k⟩, ⟨X, c - (k + 1), l.drop (k + 1)⟩] B W2 (by simp) (by simp) (by omega)
    (fun j r hr => by
      rw [cell_of_row _ _ _ _ _ _ ho]
      match j, hr with
      | 0, hr => simp at hr; subst hr; simp [IR.val, e1]
      | 1, hr => simp at hr; subst hr; simp [IR.val]
      | j + 2, hr => simp at hr)
    (fun r hr => by
      simp at hr
      rcases hr with rfl | rfl
      · exact hi2.takes k
      · exact hX.below (hb.mono hB))
    (by omega) (by simp [catR]; omega)
  refine hc.mono ?_
  rintro e w' ⟨A', c', rfl, hown, hb'⟩
  have e3 : catR [⟨A, c, l.take k⟩, ⟨X, c - (k + 1), l.drop (k + 1)⟩] = l.take k ++ l.drop (k + 1) := by simp [catR]
  rw [e3] at hown ⊢
  exact ⟨A', c', rfl, hown.wide (by omega) (Nat.le_refl _), hb.trans (hb'.mono (by omega))⟩

set_option maxRecDepth 100000 in
set_option maxHeartbeats 1600000 in
theorem implWith_any (A : Option Addr) (c : Nat) (l : List Int) (n : Int) (B : Nat) (w : World) (hll : l.length ≤ 2000000) (hin : IIn w B A c l) (hB : B ≤ w.heap.size) : Calls Try.prog 36 #[.slice A l.length c, .int .i64 n] w (RetI (withL n l) w) := by
  have hcap := hin.cap
  cases hs : isSetI l
  · have he : withL n l = l := by simp [withL, hs]
    have Hs := Lib.hid hs
    clear hs
    rw [he]
    go_enter Try.func36, Try.ntmps36
    go_wp2_with (go_at_call 38; refine (implIsSet_any A c l B _ hin).mono ?_; rintro e' w' ⟨rfl, hw⟩; obtain rfl := hw.symm; rw [Hs.out])
    refine (copyScopes_any A c l B _ hll hin hB).mono ?_
    rintro e w2 ⟨A', c', rfl, ho, hb⟩
    go_wp2_with fail
    go_ret
    exact ⟨A', c', rfl, ho, hb⟩
  · have Hs := Lib.hid hs
    by_cases hk : kindI n = 0
    · have he : withL n l = l := by simp [withL, hk]
      have hq : (decide (1 ≤ n) && decide (n ≤ 99999)) = false := by have := kindI_zero.1 hk; simpa using this
      have Hq := Lib.hid hq
      clear hs hk hq
      rw [he]
      go_enter Try.func36, Try.ntmps36
      go_wp2_with (first
        | (go_at_call 38; refine (implIsSet_any A c l B _ hin).mono ?_; rintro e' w' ⟨rfl, hw⟩; obtain rfl := hw.symm; rw [Hs.out])
        | (go_at_call 105; refine (implIsScope_any _ _).mono ?_; rintro e' w' ⟨rfl, hw⟩; obtain rfl := hw.symm; rw [Hq.out]))
      refine (copyScopes_any A c l B _ hll hin hB).mono ?_
      rintro e w2 ⟨A', c', rfl, ho, hb⟩
      go_wp2_with fail
      go_ret
      exact ⟨A', c', rfl, ho, hb⟩
    · have he : withL n l = putL n l := by simp [withL, hs, hk]
      have hq : (decide (1 ≤ n) && decide (n ≤ 99999)) = true := by have := mt kindI_zero.2 hk; simp; omega
      have Hq := Lib.hid hq
      clear hk hq
      cases hc : l.contains n
      · have hnm : n ∉ l := fun h => by simp [h] at hc
        have he2 := putL_new n l (set_sorted hs) hnm
        have hle := set_le hs
        have Hc := Lib.hid hc
        clear hs hc
        rw [he, he2]
        clear he he2
        obtain ⟨k, hk⟩ : ∃ k, k = l.countP (· < n) := ⟨_, rfl⟩
        have hkl : k ≤ l.length := by rw [hk]; exact List.countP_le_length
        rw [← hk]
        have Hk := Lib.hid hk
        clear hk
        have hbs : ∀ W : World, IIn W B A c l → Calls Try.prog 107 #[.slice A l.length c, .int .i64 n] W fun e w' => e = .returned (.tuple #[.int .i64 k, .bool false]) ∧ ∃ q, w' = W.drewN q := by
          intro W hi
          by_cases hl : l = []
          · subst hl
            refine (Try.slices_BinarySearch_int_empty A c n W).mono ?_
            rintro e w' ⟨rfl, rfl⟩
            refine ⟨?_, 0, rfl⟩
            have : k = 0 := by simp at hkl; omega
            rw [this]; rfl
          · obtain ⟨b, o, rfl, hb, _⟩ := hi.mem hl
            refine (Try.slices_BinarySearch_int b o l.length c l n W (Nat.le_refl _) (by omega) (igetD hi) (by rw [List.take_length]; exact hle)).mono ?_
            rintro e w' ⟨rfl, h2⟩
            refine ⟨?_, h2⟩
            rw [List.take_length, Hk.out, Hc.out]
        clear hle
        go_enter Try.func36, Try.ntmps36
        go_wp2_with (first
          | (go_at_call 38; refine (implIsSet_any A c l B _ hin).mono ?_; rintro e' w' ⟨rfl, hw⟩; obtain rfl := hw.symm; rw [Hs.out])
          | (go_at_call 105; refine (implIsScope_any _ _).mono ?_; rintro e' w' ⟨rfl, hw⟩; obtain rfl := hw.symm; rw [Hq.out])
          | (go_at_call 39; refine (implHas_any A c l n B _ hin).mono ?_; rintro e' w' ⟨rfl, hw⟩; obtain rfl := hw.symm; rw [Hc.out]))
        refine (hbs _ hin).mono ?_
        rintro e w1 ⟨rfl, q, rfl⟩
        go_wp2_with fail
        have hkc : k ≤ c := by omega
        go_region_law (first | (go_simp; go_at_call 108; refine (cat3 A c l n k B (w.drewN (q + 1)) w.heap.size rfl hll hkl (hin.drewN _) hB).mono ?_; rintro e' w3 ⟨A', c', rfl, ho, hb⟩))
        all_goals go_wp2_with fail
        all_goals go_ret
        all_goals exact ⟨A', c', ret_isl (by rw [List.length_append, List.length_take, List.length_cons, List.length_drop]; omega), ho, below_undrewN hb⟩

      · have hm : n ∈ l := by simpa using hc
        have he2 := putL_mem n l (set_sorted hs) hm
        have Hc := Lib.hid hc
        clear hs hc
        rw [he, he2]
        clear he he2
        go_enter Try.func36, Try.ntmps36
        go_wp2_with (first
          | (go_at_call 38; refine (implIsSet_any A c l B _ hin).mono ?_; rintro e' w' ⟨rfl, hw⟩; obtain rfl := hw.symm; rw [Hs.out])
          | (go_at_call 105; refine (implIsScope_any _ _).mono ?_; rintro e' w' ⟨rfl, hw⟩; obtain rfl := hw.symm; rw [Hq.out])
          | (go_at_call 39; refine (implHas_any A c l n B _ hin).mono ?_; rintro e' w' ⟨rfl, hw⟩; obtain rfl := hw.symm; rw [Hc.out]))
        refine (copyScopes_any A c l B _ hll hin hB).mono ?_
        rintro e w2 ⟨A', c', rfl, ho, hb⟩
        go_wp2_with fail
        go_ret
        exact ⟨A', c', rfl, ho, hb⟩

set_option maxRecDepth 100000 in
set_option maxHeartbeats 1600000 in
theorem implFlip_any (A : Option Addr) (c : Nat) (l : List Int) (n : Int) (B : Nat) (w : World) (hll : l.length ≤ 2000000) (hin : IIn w B A c l) (hB : B ≤ w.heap.size) : Calls Try.prog 37 #[.slice A l.length c, .int .i64 n] w (RetI (flipL n l) w) := by
  have hcap := hin.cap
  cases hs : isSetI l
  · have he : flipL n l = withL n l := by simp [flipL, withL, hs]
    have Hs := Lib.hid hs
    clear hs
    rw [he]
    go_enter Try.func37, Try.ntmps37
    go_wp2_with (go_at_call 38; refine (implIsSet_any A c l B _ hin).mono ?_; rintro e' w' ⟨rfl, hw⟩; obtain rfl := hw.symm; rw [Hs.out])
    refine (implWith_any A c l n B _ hll hin hB).mono ?_
    rintro e w2 ⟨A', c', rfl, ho, hb⟩
    go_wp2_with fail
    go_ret
    exact ⟨A', c', rfl, ho, hb⟩
  · have Hs := Lib.hid hs
    cases hc : l.contains n
    · have he : flipL n l = withL n l := by simp only [flipL, withL, hc, Bool.false_eq_true, if_false]
      have Hc := Lib.hid hc
      clear hs hc
      rw [he]
      go_enter Try.func37, Try.ntmps37
      go_wp2_with (first
        | (go_at_call 38; refine (implIsSet_any A c l B _ hin).mono ?_; rintro e' w' ⟨rfl, hw⟩; obtain rfl := hw.symm; rw [Hs.out])
        | (go_at_call 39; refine (implHas_any A c l n B _ hin).mono ?_; rintro e' w' ⟨rfl, hw⟩; obtain rfl := hw.symm; rw [Hc.out]))
      refine (implWith_any A c l n B _ hll hin hB).mono ?_
      rintro e w2 ⟨A', c', rfl, ho, hb⟩
      go_wp2_with fail
      go_ret
      exact ⟨A', c', rfl, ho, hb⟩
    · have hm : n ∈ l := by simpa using hc
      have hk0 := set_kind hs hm
      obtain ⟨k, hix, hkn, hkl⟩ := idx_spec l n hm
      have he : flipL n l = l.take k ++ l.drop (k + 1) := by
        unfold flipL
        rw [if_pos ⟨hs, hk0⟩, if_pos hc]
        exact cutL_at n k l (set_sorted hs) hkn
      have Hc := Lib.hid hc
      have Hix := Lib.hid hix
      clear hs hc hkn hix hk0
      rw [he]
      clear he
      obtain ⟨b, o, rfl, hbb, _⟩ := hin.mem (by rintro rfl; simp at hkl)
      have hkl1 : k + 1 ≤ l.length := hkl
      have hkc : k ≤ c := by omega
      have hkc1 : k + 1 ≤ c := by omega
      have hwr : IntKind.i64.wrap ((k : Int) + 1) = (k : Int) + 1 := by rw [IntKind.wrap_i64]; omega
      have hw1 : 0 ≤ (k : Int) + 1 := by omega
      have hw2 : (k : Int) + 1 ≤ (l.length : Int) := by omega
      have hX := hin.drops (k + 1)
      have e0 : (⟨b, o, none⟩ : Addr).add (k + 1) = ⟨b, o + (k + 1), none⟩ := by unfold Addr.add; split <;> simp_all
      simp only [Option.map_some, e0] at hX
      go_enter Try.func37, Try.ntmps37
      go_wp2_with (first
        | (go_at_call 38; refine (implIsSet_any _ c l B _ hin).mono ?_; rintro e' w' ⟨rfl, hw⟩; obtain rfl := hw.symm; rw [Hs.out])
        | (go_at_call 39; refine (implHas_any _ c l n B _ hin).mono ?_; rintro e' w' ⟨rfl, hw⟩; obtain rfl := hw.symm; rw [Hc.out])
        | (go_at_call 109; refine (Try.slices_Index_int b o l.length c l n _ (Nat.le_refl _) (by omega) (igetD hin)).mono ?_; rintro e' w' ⟨rfl, hw⟩; obtain rfl := hw.symm; rw [List.take_length, Hix.out]))
      go_region_law (first | (go_simp; go_at_call 108; refine (cat2 _ _ c l k B (w.drew) w.heap.size rfl hll hkl1 hin.drew hX.drew hB).mono ?_; rintro e' w3 ⟨A', c', rfl, ho, hb⟩))
      all_goals go_wp2_with fail
      all_goals go_ret
      all_goals exact ⟨A', c', ret_isl (by rw [List.length_append, List.length_take, List.length_drop]; try omega), ho, below_undrew hb⟩


set_option maxRecDepth 100000 in
set_option maxHeartbeats 1600000 in
theorem implSub_any (A : Option Addr) (c : Nat) (l : List Int) (A' : Option Addr) (c' : Nat) (l' : List Int) (B : Nat) (w : World) (hin : IIn w B A c l) (hin' : IIn w B A' c' l') (hB : B ≤ w.heap.size) (hll : l'.length ≤ 2000000) :
    Calls Try.prog 40 #[.slice A l.length c, .slice A' l'.length c'] w fun e w' => e = .returned (.bool (subTop l l')) ∧ Below w.heap.size w w' := by
  have hcap := hin.cap
  have hcap' := hin'.cap
  have hr : subTop l l' = (isSetI l && (isSetI l' && subL l l')) := rfl
  have Hr := Lib.hid hr
  clear hr
  cases hs : isSetI l
  · rw [hs] at Hr
    have Hs := Lib.hid hs
    clear hs
    go_enter Try.func40, Try.ntmps40
    go_wp2_with (go_at_call 38; refine (implIsSet_any A c l B _ hin).mono ?_; rintro e' w' ⟨rfl, hw⟩; obtain rfl := hw.symm; rw [Hs.out])
    go_ret
    exact ⟨ret_bool (by rw [Hr.out]; rfl), Below.refl _ _⟩
  · cases hs' : isSetI l'
    · rw [hs, hs'] at Hr
      have Hs := Lib.hid hs
      have Hs' := Lib.hid hs'
      clear hs hs'
      go_enter Try.func40, Try.ntmps40
      go_wp2_with fail
      refine (implIsSet_any A c l B _ hin).mono ?_
      rintro e' w' ⟨rfl, hw⟩
      obtain rfl := hw.symm
      rw [Hs.out]
      go_wp2_with fail
      refine (implIsSet_any A' c' l' B _ hin').mono ?_
      rintro e' w' ⟨rfl, hw⟩
      obtain rfl := hw.symm
      rw [Hs'.out]
      go_wp2_with fail
      go_ret
      exact ⟨ret_bool (by rw [Hr.out]; rfl), Below.refl _ _⟩
    · rw [hs, hs'] at Hr
      have hle := set_le hs'
      have HL := Lib.hid hle
      have Hs := Lib.hid hs
      have Hs' := Lib.hid hs'
      clear hs hs' hle
      have hbs : ∀ (W : World) (n : Int), IIn W B A' c' l' → Calls Try.prog 107 #[.slice A' l'.length c', .int .i64 n] W fun e w' => (∃ k : Nat, e = .returned (.tuple #[.int .i64 k, .bool (l'.contains n)])) ∧ ∃ q, w' = W.drewN q := by
        intro W n hi
        by_cases hl : l' = []
        · subst hl
          refine (Try.slices_BinarySearch_int_empty A' c' n W).mono ?_
          rintro e w' ⟨rfl, rfl⟩
          exact ⟨⟨0, rfl⟩, 0, rfl⟩
        · obtain ⟨b, o, rfl, hb, _⟩ := hi.mem hl
          refine (Try.slices_BinarySearch_int b o l'.length c' l' n W (Nat.le_refl _) (by omega) (igetD hi) (by rw [List.take_length]; exact HL.out)).mono ?_
          rintro e w' ⟨rfl, h2⟩
          refine ⟨⟨l'.countP (· < n), ?_⟩, h2⟩
          rw [List.take_length]
      have HB := Lib.hid hbs
      clear hbs
      go_enter Try.func40, Try.ntmps40
      go_wp2_with fail
      refine (implIsSet_any A c l B _ hin).mono ?_
      rintro e' w' ⟨rfl, hw⟩
      obtain rfl := hw.symm
      rw [Hs.out]
      go_wp2_with fail
      refine (implIsSet_any A' c' l' B _ hin').mono ?_
      rintro e' w' ⟨rfl, hw⟩
      obtain rfl := hw.symm
      rw [Hs'.out]
      go_wp2_with fail
      go_loopw [19] (fun i wr => ∃ (j q : Nat), j ≤ l.length ∧ i = .int .i64 j ∧ Hid (subL l l' = subL (l.drop j) l') ∧ wr = w.drewN q) (fun i _ => l.length - (intOf i).toNat)
      case atStart => exact ⟨0, 0, Nat.zero_le _, rfl, by simp [Hid], rfl⟩
      case round =>
        obtain ⟨j, q, hj, rfl, HE, rfl⟩ := hrel
        by_cases hlt : j < l.length
        · obtain ⟨b, o, rfl, hblk, c0⟩ := (hin.drewN q).at_ hlt
          have HD : Hid (subL l l' = (l'.contains l[j] && subL (l.drop (j + 1)) l')) := by
            show _ = _
            rw [HE.out, List.drop_eq_getElem_cons hlt]; rfl
          cases hq : l'.contains l[j]
          · have Hq := Lib.hid hq
            have HF : Hid (subL l l' = false) := by
              show _ = _
              rw [HD.out, hq]; rfl
            clear hq
            go_wp2_with fail
            refine (HB.out _ l[j] (hin'.drewN q)).mono ?_
            rintro e w1 ⟨⟨k, rfl⟩, q1, rfl⟩
            rw [Hq.out]
            go_wp2_with fail
            go_ret
            exact ⟨ret_bool (by rw [Hr.out, HF.out]; rfl), below_undrewN (Below.refl _ _)⟩
          · have Hq := Lib.hid hq
            have HF : Hid (subL l l' = subL (l.drop (j + 1)) l') := by
              show _ = _
              rw [HD.out, hq]; rfl
            clear hq
            go_wp2_with fail
            refine (HB.out _ l[j] (hin'.drewN q)).mono ?_
            rintro e w1 ⟨⟨k, rfl⟩, q1, rfl⟩
            rw [Hq.out]
            go_wp2_with fail
            exact ⟨⟨j + 1, q + q1, by omega, by go_num, HF, by first | rfl | (simp [World.drewN]; omega)⟩, by simp [intOf]; omega⟩
        · have hj' : j = l.length := by omega
          subst hj'
          have HF : Hid (subL l l' = true) := by
            show _ = _
            rw [HE.out, List.drop_length]; rfl
          go_wp2_with fail
          go_ret
          exact ⟨ret_bool (by rw [Hr.out, HF.out]; rfl), below_undrewN (Below.refl _ _)⟩
end Go.Proofs.Ytknplopghgchaaa
