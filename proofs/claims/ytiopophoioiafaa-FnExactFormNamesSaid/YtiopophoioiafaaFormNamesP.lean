/-
  FnExactFormNames: the program's FormNames answers as the model does, in memory of its own. No condition.
-/
import Derived.Test.YtiopophoioiafaaPost
import Derived.Test.YtiopophoioiafaaOrd
import Derived.Test.YtiopophoioiafaaNames
namespace Go.Proofs.Ytiopophoioiafaa
open Go.ChangeShapes Go.WideShapes Go.ChangeAt Go.RowKit Go.ChangeMaps

set_option maxRecDepth 100000 in
theorem fnExactFormNames_lifted (os : Os) (started : os.Started) (H : Type) (enc : TypeId × Value → H) :
    ReturnsInHanded {} Try.checked os 10 .any (Rows.fnExactFormNamesSpec.pre6 enc Try.prog Try.f10 Rows.fnExactFormNamesRow.domain false) (Rows.fnExactFormNamesSpec.post enc Try.prog Try.f10 false true false false) := by
  refine returnsInHanded_of_change (C := Try.checked) Try.own started (by kernel_rfl) Try.func10
    (ChangeSpec.witness6 (enc := enc) (C := Try.checked) false ⟨#[], #[], []⟩ 8 (by kernel_rfl) (by kernel_rfl) (by kernel_rfl) (by kernel_rfl)) ?_
  intro W base args ds gs before hval0 hW hcnd _
  have hval : ∀ (j : Nat) t v, Try.f10.params[j]? = some t → args[j]? = some v → Value.okWide Try.prog W .any base t v := hval0
  have hW' := hW
  obtain ⟨p, q, hA0, hV, rfl, hfz, hnd⟩ := hW
  have hA : DataW.TrodAll enc Try.prog W 0 (fun _ => true) true Try.f10.params.toList args.toList ds p := hA0
  rw [Try.params10] at hA hval
  obtain ⟨rfl, rfl, rfl⟩ := trodAll_none hA
  obtain ⟨rfl, rfl⟩ := trodVars_none hV
  clear hA0 hval0
  simp only [List.append_nil] at hW'



  refine (law_formN W).mono fun e W' ⟨he, hb⟩ => ?_
  subst he
  exact ⟨_, rfl, post_of_below (pa := []) (pv := []) hW' (fun _ _ _ => trodAll_mk1 (shut_bool Try.underlying4 _)) (fun sp hsp => (show DataW.TrodAll _ _ _ _ _ _ [] [] [] [] from rfl) ) (fun _ _ => rfl) (by simp)
    hb (ok_one (by kernel_rfl) rfl (okWide_bool_mk Try.underlying4 _))⟩

set_option maxHeartbeats 2000000 in
theorem fnExactFormNames_closed : joinedFacts Try.checked.prog 10 Try.f10 Rows.fnExactFormNamesSpec Rows.fnExactFormNamesRow = true := by
  simp only [joinedFacts, Bool.and_eq_true, ord_enter, ord_lifts, ord_make, ord_laid, ord_maps, ord_stops, ord_knobs, ord_heard]
  repeat' apply And.intro
  all_goals (first | exact True.intro | (as_aux_lemma => kernel_rfl))
theorem fnExactFormNames_wrap : Try.f10.isWrapper Try.checked.prog Rows.fnExactFormNamesRow.wrapper Rows.fnExactFormNamesRow.mainSum := by
  unfold Func.isWrapper; first | (rw [if_pos (by decide +kernel)]; kernel_rfl) | (rw [if_neg (by decide +kernel)]; exact ⟨rfl, rfl⟩)
theorem fnExactFormNames_holds : Rows.FnExactFormNamesSaid :=
  OpenClaim.holds_of_wide 10 Try.f10 rfl rfl rfl rfl rfl rfl rfl ⟨rfl, rfl, rfl, rfl, rfl⟩ rfl rfl rfl rfl rfl (by as_aux_lemma => kernel_rfl) Try.func10 fnExactFormNames_closed
    (of_decide_eq_true (by as_aux_lemma => kernel_rfl)) fnExactFormNames_wrap
    (fun os started H enc _ => fnExactFormNames_lifted os started H enc)
#print axioms fnExactFormNames_holds
end Go.Proofs.Ytiopophoioiafaa
