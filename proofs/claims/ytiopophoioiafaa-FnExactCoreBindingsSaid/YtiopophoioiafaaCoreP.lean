/-
  FnExactCoreBindings: the program's CoreBindings answers as the model does, in memory of its own. No condition.
-/
import Derived.Test.YtiopophoioiafaaPosts
import Derived.Test.YtiopophoioiafaaOrd
import Derived.Test.YtiopophoioiafaaCoreL
namespace Go.Proofs.Ytiopophoioiafaa
open Go.ChangeShapes Go.WideShapes Go.ChangeAt Go.RowKit Go.ChangeMaps

set_option maxRecDepth 100000 in
theorem fnExactCoreBindings_lifted (os : Os) (started : os.Started) (H : Type) (enc : TypeId × Value → H) :
    ReturnsInHanded {} Try.checked os 15 .any (Rows.fnExactCoreBindingsSpec.pre6 enc Try.prog Try.f15 Rows.fnExactCoreBindingsRow.domain false) (Rows.fnExactCoreBindingsSpec.post enc Try.prog Try.f15 false true false false) := by
  refine returnsInHanded_of_change (C := Try.checked) Try.own started (by kernel_rfl) Try.func15
    (ChangeSpec.witness6 (enc := enc) (C := Try.checked) false ⟨#[], #[], []⟩ 8 (by kernel_rfl) (by kernel_rfl) (by kernel_rfl) (by kernel_rfl)) ?_
  intro W base args ds gs before hval0 hW hcnd _
  have hval : ∀ (j : Nat) t v, Try.f15.params[j]? = some t → args[j]? = some v → Value.okWide Try.prog W .any base t v := hval0
  have hW' := hW
  obtain ⟨p, q, hA0, hV, rfl, hfz, hnd⟩ := hW
  have hA : DataW.TrodAll enc Try.prog W 0 (fun _ => true) true Try.f15.params.toList args.toList ds p := hA0
  rw [Try.params15] at hA hval
  obtain ⟨rfl, rfl, rfl⟩ := trodAll_none hA
  obtain ⟨rfl, rfl⟩ := trodVars_none hV
  clear hA0 hval0
  simp only [List.append_nil] at hW'



  refine (law_core W).mono fun e W' ⟨he, hb⟩ => ?_
  subst he
  exact ⟨_, rfl, post_of_below (pa := []) (pv := []) hW' (fun _ _ _ => trodAll_mk1 (shut_bool Try.underlying4 _)) (fun sp hsp => (show DataW.TrodAll _ _ _ _ _ _ [] [] [] [] from rfl) ) (fun _ _ => rfl) (by simp)
    hb (ok_one (by kernel_rfl) rfl (okWide_bool_mk Try.underlying4 _))⟩

set_option maxHeartbeats 2000000 in
theorem fnExactCoreBindings_closed : joinedFacts Try.checked.prog 15 Try.f15 Rows.fnExactCoreBindingsSpec Rows.fnExactCoreBindingsRow = true := by
  simp only [joinedFacts, Bool.and_eq_true, ord_enter, ord_lifts, ord_make, ord_laid, ord_maps, ord_stops, ord_knobs, ord_heard]
  repeat' apply And.intro
  all_goals (first | exact True.intro | (as_aux_lemma => kernel_rfl))
theorem fnExactCoreBindings_wrap : Try.f15.isWrapper Try.checked.prog Rows.fnExactCoreBindingsRow.wrapper Rows.fnExactCoreBindingsRow.mainSum := by
  unfold Func.isWrapper; first | (rw [if_pos (by decide +kernel)]; kernel_rfl) | (rw [if_neg (by decide +kernel)]; exact ⟨rfl, rfl⟩)
theorem fnExactCoreBindings_holds : Rows.FnExactCoreBindingsSaid :=
  OpenClaim.holds_of_wide 15 Try.f15 rfl rfl rfl rfl rfl rfl rfl ⟨rfl, rfl, rfl, rfl, rfl⟩ rfl rfl rfl rfl rfl (by as_aux_lemma => kernel_rfl) Try.func15 fnExactCoreBindings_closed
    (of_decide_eq_true (by as_aux_lemma => kernel_rfl)) fnExactCoreBindings_wrap
    (fun os started H enc _ => fnExactCoreBindings_lifted os started H enc)
#print axioms fnExactCoreBindings_holds
end Go.Proofs.Ytiopophoioiafaa
