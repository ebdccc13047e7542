/-
  FnExactBaseSource: the program's BaseSource answers as the model does. No condition.
-/
import Derived.Test.YtndckeodpoommaaPosts
import Derived.Test.YtndckeodpoommaaOrd
import Derived.Test.YtndckeodpoommaaPrb
namespace Go.Proofs.Ytndckeodpoommaa
open Go.ChangeShapes Go.WideShapes Go.ChangeAt Go.RowKit Go.ChangeMaps

set_option maxRecDepth 100000 in
theorem fnExactBaseSource_lifted (os : Os) (started : os.Started) (H : Type) (enc : TypeId × Value → H) :
    ReturnsInHanded {} Try.checked os 3 .any (Rows.fnExactBaseSourceSpec.pre6 enc Try.prog Try.f3 Rows.fnExactBaseSourceRow.domain false) (Rows.fnExactBaseSourceSpec.post enc Try.prog Try.f3 false true false false) := by
  refine returnsInHanded_of_change (C := Try.checked) Try.own started (by kernel_rfl) Try.func3
    (ChangeSpec.witness6 (enc := enc) (C := Try.checked) false ⟨#[], #[], []⟩ 8 (by kernel_rfl) (by kernel_rfl) (by kernel_rfl) (by kernel_rfl)) ?_
  intro W base args ds gs before hval0 hW hcnd _
  have hval : ∀ (j : Nat) t v, Try.f3.params[j]? = some t → args[j]? = some v → Value.okWide Try.prog W .any base t v := hval0
  have hW' := hW
  obtain ⟨p, q, hA0, hV, rfl, hfz, hnd⟩ := hW
  have hA : DataW.TrodAll enc Try.prog W 0 (fun _ => true) true Try.f3.params.toList args.toList ds p := hA0
  rw [Try.params3] at hA hval
  obtain ⟨rfl, rfl, rfl⟩ := trodAll_none hA
  obtain ⟨rfl, rfl⟩ := trodVars_none hV
  clear hA0 hval0
  simp only [List.append_nil] at hW'



  refine (law_base W).mono fun e W' ⟨he, hb⟩ => ?_
  subst he
  exact ⟨_, rfl, post_of_below (pa := []) (pv := []) hW' (fun _ _ _ => trodAll_mk1 (shut_bool Try.underlying4 _)) (fun sp hsp => (show DataW.TrodAll _ _ _ _ _ _ [] [] [] [] from rfl) ) (fun _ _ => rfl) (by simp)
    hb (ok_one (by kernel_rfl) rfl (okWide_bool_mk Try.underlying4 _))⟩

set_option maxHeartbeats 2000000 in
theorem fnExactBaseSource_closed : joinedFacts Try.checked.prog 3 Try.f3 Rows.fnExactBaseSourceSpec Rows.fnExactBaseSourceRow = true := by
  simp only [joinedFacts, Bool.and_eq_true, ord_enter, ord_lifts, ord_make, ord_laid, ord_maps, ord_stops, ord_knobs, ord_heard]
  repeat' apply And.intro
  all_goals (first | exact True.intro | (as_aux_lemma => kernel_rfl))
theorem fnExactBaseSource_wrap : Try.f3.isWrapper Try.checked.prog Rows.fnExactBaseSourceRow.wrapper Rows.fnExactBaseSourceRow.mainSum := by
  unfold Func.isWrapper; first | (rw [if_pos (by decide +kernel)]; kernel_rfl) | (rw [if_neg (by decide +kernel)]; exact ⟨rfl, rfl⟩)
theorem fnExactBaseSource_holds : Rows.FnExactBaseSourceSaid :=
  OpenClaim.holds_of_wide 3 Try.f3 rfl rfl rfl rfl rfl rfl rfl ⟨rfl, rfl, rfl, rfl, rfl⟩ rfl rfl rfl rfl rfl (by as_aux_lemma => kernel_rfl) Try.func3 fnExactBaseSource_closed
    (of_decide_eq_true (by as_aux_lemma => kernel_rfl)) fnExactBaseSource_wrap
    (fun os started H enc _ => fnExactBaseSource_lifted os started H enc)
#print axioms fnExactBaseSource_holds
end Go.Proofs.Ytndckeodpoommaa
