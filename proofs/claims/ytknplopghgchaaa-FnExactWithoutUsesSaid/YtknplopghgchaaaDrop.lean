/-
  Sets of scopes: the program's WithoutUses.
-/
import Derived.Test.YtknplopghgchaaaWith
import Derived.Shelf.SlicesE.DeleteFunc
namespace Go.Proofs.Ytknplopghgchaaa
open Go.RowKit Go.Lib Go.Sort Go.Shelf

set_option maxHeartbeats 400000 in
theorem implIsUse_any (n : Int) (w : World) : Calls Try.prog 127 #[.int .i64 n] w fun e w' => e = .returned (.bool (kindI n == 3)) ∧ w' = w := by
  go_enter Try.func127, Try.ntmps127
  go_wp2_with (go_at_call 52; refine (implKind_any _ _).mono ?_; rintro e' w' ⟨rfl, hw⟩; obtain rfl := hw.symm)
  go_ret
  exact ⟨rfl, rfl⟩
theorem use_gives (x : Int) (W : World) : FnGives Try.prog 127 #[] #[.int .i64 x] (.bool (kindI x == 3)) W := by
  show Calls Try.prog 127 #[.int .i64 x] W _
  refine (implIsUse_any x W).mono ?_
  rintro e w' ⟨rfl, rfl⟩
  exact ⟨rfl, 0, rfl⟩

set_option maxHeartbeats 800000 in
/-- slices.DeleteFunc on a list of the call's own. -/
theorem deleteUses_any (A : Option Addr) (c : Nat) (l : List Int) (lo hi : Nat) (w : World) (ho : IOwn lo hi w A c l) (hhi : hi ≤ w.heap.size) (hlo : lo ≤ w.heap.size) (hll : l.length ≤ 2000000) :
    Calls Try.prog 126 #[.slice A l.length c, .func (.func 127) #[] #[]] w fun e w' => (∃ A' c', e = .returned (.slice A' (nousesL l).length c') ∧ IOwn lo hi w' A' c' (nousesL l)) ∧ Below lo w w' ∧ w'.heap.size = w.heap.size := by
  have hcap := ho.inn.cap
  by_cases hl : l = []
  · subst hl
    go_enter Try.func126, Try.ntmps126
    go_wp2_with (go_at_call 167; refine (Try.slices_IndexFunc_empty (α := Int) A c _ _).mono ?_; rintro e' w' ⟨rfl, hw⟩; obtain rfl := hw.symm)
    go_ret
    exact ⟨⟨A, c, rfl, IOwn.nil_ (by omega) ho.inn.nil⟩, Below.refl _ _, rfl⟩
  · obtain ⟨b, o, rfl, hb, hc⟩ := ho.inn.mem hl
    obtain ⟨hlo2, hfz⟩ := ho.own hl b o rfl
    have eg : ∀ args w, (callFunc 127 args).run Try.prog w = .ok (.enter 127 args) w := enters_of Try.func127 (by kernel_rfl) rfl
    have hH : Holds (Value.int .i64) w b o l.toArray := fun j hj => by
      have hj' : j < l.length := by simpa using hj
      refine ⟨?_, hfz _⟩
      rw [hc j _ (List.getElem?_eq_getElem hj')]
      simp [hj']
    have hp : PredAt Try.prog 127 #[] (Value.int .i64) (fun x => kindI x == 3) w := fun W x _ => use_gives x W
    have hpo : PredOver Try.prog 127 #[] (Value.int .i64) (fun x => kindI x == 3) b o l.toArray.size w := fun n os dk x _ => use_gives x _
    have hcon := Try.slices_DeleteFunc (α := Int) (Value.int .i64) (fun _ => rfl) (fun x => kindI x == 3) 127 #[] eg 0 Try.zeroValue3 b o c l.toArray w hp hpo hH (by simp; omega) (by simp; omega)
    simp only [List.size_toArray] at hcon
    have hfe : (l.toArray.toList.filter fun x => !(kindI x == 3)) = nousesL l := rfl
    rw [hfe] at hcon
    have hrl : (nousesL l).length ≤ l.length := List.length_filter_le _ _
    refine hcon.mono ?_
    rintro e w' ⟨rfl, q, rfl⟩
    have hH2 : Holds (Value.int .i64) (Sort.ahead w q) b o l.toArray := hH
    have hcell := fun j hj => cell?_putRow (Value.int .i64) (Sort.ahead w q) b o l.toArray (nousesL l ++ List.replicate (l.length - (nousesL l).length) 0).toArray hH2 (by simp; omega) j hj
    have hblk : ∀ k, k ≠ b → (putRow (Value.int .i64) (Sort.ahead w q) b o (nousesL l ++ List.replicate (l.length - (nousesL l).length) 0).toArray).heap[k]? = w.heap[k]? := fun k hk => by
      unfold putRow mapBlock
      simp only [Array.getElem?_modify]
      rw [if_neg (fun e => hk e.symm)]
      rfl
    refine ⟨⟨some ⟨b, o, none⟩, c, rfl, ⟨⟨by omega, by omega⟩, by simp, fun hne => ⟨b, o, rfl, hb, fun j u hu => ?_⟩⟩, fun _ b' o' e => ?_⟩, ⟨rfl, rfl, rfl, by rw [size_putRow]; exact Nat.le_refl _, fun k hk => hblk k (by omega)⟩, by rw [size_putRow]; rfl⟩
    · have hj : j < (nousesL l).length := (List.getElem?_eq_some_iff.1 hu).1
      have := hcell j (by simp; omega)
      rw [this]
      congr 2
      have h2 : (nousesL l ++ List.replicate (l.length - (nousesL l).length) 0)[j]? = some u := by rw [List.getElem?_append_left hj]; exact hu
      obtain ⟨h3, h4⟩ := List.getElem?_eq_some_iff.1 h2
      rw [getElem!_pos _ _ (by simpa using h3)]
      simpa using h4
    · obtain ⟨rfl, rfl, _⟩ := Addr.mk.inj (Option.some.inj e)
      refine ⟨hlo2, fun r => ?_⟩
      rw [frozen?_putRow]
      exact hfz r

set_option maxRecDepth 100000 in
set_option maxHeartbeats 800000 in
theorem implDrop_any (A : Option Addr) (c : Nat) (l : List Int) (B : Nat) (w : World) (hll : l.length ≤ 2000000) (hin : IIn w B A c l) (hB : B ≤ w.heap.size) : Calls Try.prog 61 #[.slice A l.length c] w (RetI (dropL l) w) := by
  cases hs : isSetI l
  · have he : dropL l = l := by simp [dropL, hs]
    have Hs := Lib.hid hs
    clear hs
    rw [he]
    go_enter Try.func61, Try.ntmps61
    go_wp2_with fail
    refine (copyScopes_any A c l B _ hll hin hB).mono ?_
    rintro e w2 ⟨A', c', rfl, ho, hb⟩
    go_wp2_with (go_at_call 38; refine (implIsSet_any A c l B _ (hin.below (hb.mono hB))).mono ?_; rintro e' w' ⟨rfl, hw⟩; obtain rfl := hw.symm; rw [Hs.out])
    go_ret
    exact ⟨A', c', rfl, ho, hb⟩
  · have he : dropL l = nousesL l := by simp [dropL, hs]
    have Hs := Lib.hid hs
    clear hs
    rw [he]
    go_enter Try.func61, Try.ntmps61
    go_wp2_with fail
    refine (copyScopes_any A c l B _ hll hin hB).mono ?_
    rintro e w2 ⟨A', c', rfl, ho, hb⟩
    have z2 := hb.size
    go_wp2_with (go_at_call 38; refine (implIsSet_any A c l B _ (hin.below (hb.mono hB))).mono ?_; rintro e' w' ⟨rfl, hw⟩; obtain rfl := hw.symm; rw [Hs.out])
    refine (deleteUses_any A' c' l w.heap.size w2.heap.size _ ho (Nat.le_refl _) z2 hll).mono ?_
    rintro e w3 ⟨⟨A2, c2, rfl, ho2⟩, hb2, hz⟩
    go_wp2_with fail
    go_ret
    exact ⟨A2, c2, rfl, by rw [hz]; exact ho2, hb.trans hb2⟩
end Go.Proofs.Ytknplopghgchaaa
