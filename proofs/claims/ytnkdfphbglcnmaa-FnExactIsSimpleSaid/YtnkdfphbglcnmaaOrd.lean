/-
  The program's word on its order, as a list of letters: what a row's closed facts ask of it. (A long string is dear to the kernel.)
-/
import Derived.Test.YtnkdfphbglcnmaaProg
import Derived.Test.YtnkdfphbglcnmaaRows
import Derived.ProofKit
import Derived.Carry
namespace Go.Proofs.Ytnkdfphbglcnmaa
open Go.ChangeShapes Go.WideShapes Go.ChangeAt Go.RowKit

theorem words_other {c : Char} (hc : c ≠ Char.ofNat 32) (r : List Char) : wordsSigns (c :: r) = match wordsSigns r with | w :: ws => (c :: w) :: ws | [] => [[c]] := by
  rw [wordsSigns]
  · rfl
  · exact fun h => hc h
theorem words_ne : ∀ r : List Char, wordsSigns r ≠ []
  | [] => by simp [wordsSigns]
  | c :: r => by
    by_cases hc : c = Char.ofNat 32
    · subst hc
      show ([] :: wordsSigns r) ≠ []
      simp
    · rw [words_other hc]
      split <;> simp
theorem words_append : ∀ (x r : List Char), wordsSigns (x ++ Char.ofNat 32 :: r) = wordsSigns x ++ wordsSigns r
  | [], r => rfl
  | c :: x, r => by
    have ih := words_append x r
    obtain ⟨w, ws, hw⟩ : ∃ w ws, wordsSigns x = w :: ws := List.exists_cons_of_ne_nil (words_ne x)
    by_cases hc : c = Char.ofNat 32
    · subst hc
      show [] :: wordsSigns (x ++ Char.ofNat 32 :: r) = ([] :: wordsSigns x) ++ wordsSigns r
      rw [ih]; rfl
    · rw [List.cons_append, words_other hc, words_other hc, ih, hw]; rfl

def ordA : List Char := [Char.ofNat 104, Char.ofNat 97, Char.ofNat 114, Char.ofNat 110, Char.ofNat 101, Char.ofNat 115, Char.ofNat 115, Char.ofNat 32, Char.ofNat 49, Char.ofNat 53, Char.ofNat 48, Char.ofNat 52, Char.ofNat 48, Char.ofNat 98, Char.ofNat 48, Char.ofNat 101, Char.ofNat 53, Char.ofNat 56, Char.ofNat 56, Char.ofNat 48, Char.ofNat 53, Char.ofNat 56, Char.ofNat 98, Char.ofNat 52, Char.ofNat 52, Char.ofNat 55, Char.ofNat 49, Char.ofNat 98, Char.ofNat 52, Char.ofNat 100, Char.ofNat 48, Char.ofNat 50, Char.ofNat 56, Char.ofNat 97, Char.ofNat 48, Char.ofNat 57, Char.ofNat 51, Char.ofNat 50, Char.ofNat 102, Char.ofNat 97, Char.ofNat 101, Char.ofNat 98, Char.ofNat 52, Char.ofNat 101, Char.ofNat 52, Char.ofNat 54, Char.ofNat 51, Char.ofNat 55, Char.ofNat 50, Char.ofNat 57, Char.ofNat 52, Char.ofNat 101, Char.ofNat 100, Char.ofNat 57, Char.ofNat 97, Char.ofNat 51, Char.ofNat 101, Char.ofNat 51, Char.ofNat 52, Char.ofNat 56, Char.ofNat 102, Char.ofNat 50, Char.ofNat 54, Char.ofNat 52, Char.ofNat 99, Char.ofNat 97, Char.ofNat 55, Char.ofNat 49, Char.ofNat 99, Char.ofNat 54, Char.ofNat 101, Char.ofNat 48, Char.ofNat 32, Char.ofNat 99, Char.ofNat 117, Char.ofNat 116]
def ordB : List Char := [Char.ofNat 97, Char.ofNat 116, Char.ofNat 32, Char.ofNat 108, Char.ofNat 111, Char.ofNat 111, Char.ofNat 112, Char.ofNat 46, Char.ofNat 101, Char.ofNat 120, Char.ofNat 97, Char.ofNat 109, Char.ofNat 112, Char.ofNat 108, Char.ofNat 101, Char.ofNat 47, Char.ofNat 103, Char.ofNat 48, Char.ofNat 51, Char.ofNat 50, Char.ofNat 50, Char.ofNat 48, Char.ofNat 47, Char.ofNat 108, Char.ofNat 97, Char.ofNat 119, Char.ofNat 115, Char.ofNat 46, Char.ofNat 70, Char.ofNat 110, Char.ofNat 69, Char.ofNat 120, Char.ofNat 97, Char.ofNat 99, Char.ofNat 116, Char.ofNat 73, Char.ofNat 115, Char.ofNat 83, Char.ofNat 105, Char.ofNat 109, Char.ofNat 112, Char.ofNat 108, Char.ofNat 101, Char.ofNat 32, Char.ofNat 108, Char.ofNat 111, Char.ofNat 111, Char.ofNat 112, Char.ofNat 46, Char.ofNat 101, Char.ofNat 120, Char.ofNat 97, Char.ofNat 109, Char.ofNat 112, Char.ofNat 108, Char.ofNat 101, Char.ofNat 47, Char.ofNat 103, Char.ofNat 48, Char.ofNat 51, Char.ofNat 50, Char.ofNat 50, Char.ofNat 48, Char.ofNat 47, Char.ofNat 108, Char.ofNat 97, Char.ofNat 119, Char.ofNat 115, Char.ofNat 46, Char.ofNat 70, Char.ofNat 110, Char.ofNat 69, Char.ofNat 120, Char.ofNat 97, Char.ofNat 99, Char.ofNat 116, Char.ofNat 86, Char.ofNat 97, Char.ofNat 108, Char.ofNat 117, Char.ofNat 101, Char.ofNat 79, Char.ofNat 102]
set_option maxRecDepth 100000 in
theorem ord_lit : Try.checked.prog.initOrder = "harness 15040b0e588058b4471b4d028a0932faeb4e4637294ed9a3e348f264ca71c6e0 cut at loop.example/g03220/laws.FnExactIsSimple loop.example/g03220/laws.FnExactValueOf" := by kernel_rfl
set_option maxRecDepth 100000 in
theorem ord_list : "harness 15040b0e588058b4471b4d028a0932faeb4e4637294ed9a3e348f264ca71c6e0 cut at loop.example/g03220/laws.FnExactIsSimple loop.example/g03220/laws.FnExactValueOf" = String.ofList [Char.ofNat 104, Char.ofNat 97, Char.ofNat 114, Char.ofNat 110, Char.ofNat 101, Char.ofNat 115, Char.ofNat 115, Char.ofNat 32, Char.ofNat 49, Char.ofNat 53, Char.ofNat 48, Char.ofNat 52, Char.ofNat 48, Char.ofNat 98, Char.ofNat 48, Char.ofNat 101, Char.ofNat 53, Char.ofNat 56, Char.ofNat 56, Char.ofNat 48, Char.ofNat 53, Char.ofNat 56, Char.ofNat 98, Char.ofNat 52, Char.ofNat 52, Char.ofNat 55, Char.ofNat 49, Char.ofNat 98, Char.ofNat 52, Char.ofNat 100, Char.ofNat 48, Char.ofNat 50, Char.ofNat 56, Char.ofNat 97, Char.ofNat 48, Char.ofNat 57, Char.ofNat 51, Char.ofNat 50, Char.ofNat 102, Char.ofNat 97, Char.ofNat 101, Char.ofNat 98, Char.ofNat 52, Char.ofNat 101, Char.ofNat 52, Char.ofNat 54, Char.ofNat 51, Char.ofNat 55, Char.ofNat 50, Char.ofNat 57, Char.ofNat 52, Char.ofNat 101, Char.ofNat 100, Char.ofNat 57, Char.ofNat 97, Char.ofNat 51, Char.ofNat 101, Char.ofNat 51, Char.ofNat 52, Char.ofNat 56, Char.ofNat 102, Char.ofNat 50, Char.ofNat 54, Char.ofNat 52, Char.ofNat 99, Char.ofNat 97, Char.ofNat 55, Char.ofNat 49, Char.ofNat 99, Char.ofNat 54, Char.ofNat 101, Char.ofNat 48, Char.ofNat 32, Char.ofNat 99, Char.ofNat 117, Char.ofNat 116, Char.ofNat 32, Char.ofNat 97, Char.ofNat 116, Char.ofNat 32, Char.ofNat 108, Char.ofNat 111, Char.ofNat 111, Char.ofNat 112, Char.ofNat 46, Char.ofNat 101, Char.ofNat 120, Char.ofNat 97, Char.ofNat 109, Char.ofNat 112, Char.ofNat 108, Char.ofNat 101, Char.ofNat 47, Char.ofNat 103, Char.ofNat 48, Char.ofNat 51, Char.ofNat 50, Char.ofNat 50, Char.ofNat 48, Char.ofNat 47, Char.ofNat 108, Char.ofNat 97, Char.ofNat 119, Char.ofNat 115, Char.ofNat 46, Char.ofNat 70, Char.ofNat 110, Char.ofNat 69, Char.ofNat 120, Char.ofNat 97, Char.ofNat 99, Char.ofNat 116, Char.ofNat 73, Char.ofNat 115, Char.ofNat 83, Char.ofNat 105, Char.ofNat 109, Char.ofNat 112, Char.ofNat 108, Char.ofNat 101, Char.ofNat 32, Char.ofNat 108, Char.ofNat 111, Char.ofNat 111, Char.ofNat 112, Char.ofNat 46, Char.ofNat 101, Char.ofNat 120, Char.ofNat 97, Char.ofNat 109, Char.ofNat 112, Char.ofNat 108, Char.ofNat 101, Char.ofNat 47, Char.ofNat 103, Char.ofNat 48, Char.ofNat 51, Char.ofNat 50, Char.ofNat 50, Char.ofNat 48, Char.ofNat 47, Char.ofNat 108, Char.ofNat 97, Char.ofNat 119, Char.ofNat 115, Char.ofNat 46, Char.ofNat 70, Char.ofNat 110, Char.ofNat 69, Char.ofNat 120, Char.ofNat 97, Char.ofNat 99, Char.ofNat 116, Char.ofNat 86, Char.ofNat 97, Char.ofNat 108, Char.ofNat 117, Char.ofNat 101, Char.ofNat 79, Char.ofNat 102] := by kernel_rfl
set_option maxRecDepth 100000 in
theorem ord_parts : [Char.ofNat 104, Char.ofNat 97, Char.ofNat 114, Char.ofNat 110, Char.ofNat 101, Char.ofNat 115, Char.ofNat 115, Char.ofNat 32, Char.ofNat 49, Char.ofNat 53, Char.ofNat 48, Char.ofNat 52, Char.ofNat 48, Char.ofNat 98, Char.ofNat 48, Char.ofNat 101, Char.ofNat 53, Char.ofNat 56, Char.ofNat 56, Char.ofNat 48, Char.ofNat 53, Char.ofNat 56, Char.ofNat 98, Char.ofNat 52, Char.ofNat 52, Char.ofNat 55, Char.ofNat 49, Char.ofNat 98, Char.ofNat 52, Char.ofNat 100, Char.ofNat 48, Char.ofNat 50, Char.ofNat 56, Char.ofNat 97, Char.ofNat 48, Char.ofNat 57, Char.ofNat 51, Char.ofNat 50, Char.ofNat 102, Char.ofNat 97, Char.ofNat 101, Char.ofNat 98, Char.ofNat 52, Char.ofNat 101, Char.ofNat 52, Char.ofNat 54, Char.ofNat 51, Char.ofNat 55, Char.ofNat 50, Char.ofNat 57, Char.ofNat 52, Char.ofNat 101, Char.ofNat 100, Char.ofNat 57, Char.ofNat 97, Char.ofNat 51, Char.ofNat 101, Char.ofNat 51, Char.ofNat 52, Char.ofNat 56, Char.ofNat 102, Char.ofNat 50, Char.ofNat 54, Char.ofNat 52, Char.ofNat 99, Char.ofNat 97, Char.ofNat 55, Char.ofNat 49, Char.ofNat 99, Char.ofNat 54, Char.ofNat 101, Char.ofNat 48, Char.ofNat 32, Char.ofNat 99, Char.ofNat 117, Char.ofNat 116, Char.ofNat 32, Char.ofNat 97, Char.ofNat 116, Char.ofNat 32, Char.ofNat 108, Char.ofNat 111, Char.ofNat 111, Char.ofNat 112, Char.ofNat 46, Char.ofNat 101, Char.ofNat 120, Char.ofNat 97, Char.ofNat 109, Char.ofNat 112, Char.ofNat 108, Char.ofNat 101, Char.ofNat 47, Char.ofNat 103, Char.ofNat 48, Char.ofNat 51, Char.ofNat 50, Char.ofNat 50, Char.ofNat 48, Char.ofNat 47, Char.ofNat 108, Char.ofNat 97, Char.ofNat 119, Char.ofNat 115, Char.ofNat 46, Char.ofNat 70, Char.ofNat 110, Char.ofNat 69, Char.ofNat 120, Char.ofNat 97, Char.ofNat 99, Char.ofNat 116, Char.ofNat 73, Char.ofNat 115, Char.ofNat 83, Char.ofNat 105, Char.ofNat 109, Char.ofNat 112, Char.ofNat 108, Char.ofNat 101, Char.ofNat 32, Char.ofNat 108, Char.ofNat 111, Char.ofNat 111, Char.ofNat 112, Char.ofNat 46, Char.ofNat 101, Char.ofNat 120, Char.ofNat 97, Char.ofNat 109, Char.ofNat 112, Char.ofNat 108, Char.ofNat 101, Char.ofNat 47, Char.ofNat 103, Char.ofNat 48, Char.ofNat 51, Char.ofNat 50, Char.ofNat 50, Char.ofNat 48, Char.ofNat 47, Char.ofNat 108, Char.ofNat 97, Char.ofNat 119, Char.ofNat 115, Char.ofNat 46, Char.ofNat 70, Char.ofNat 110, Char.ofNat 69, Char.ofNat 120, Char.ofNat 97, Char.ofNat 99, Char.ofNat 116, Char.ofNat 86, Char.ofNat 97, Char.ofNat 108, Char.ofNat 117, Char.ofNat 101, Char.ofNat 79, Char.ofNat 102] = ordA ++ Char.ofNat 32 :: ordB := by kernel_rfl
theorem ord_eq : Try.checked.prog.initOrder = String.ofList (ordA ++ Char.ofNat 32 :: ordB) := by rw [ord_lit, ord_list, ord_parts]
theorem ord_words : wordsSigns Try.checked.prog.initOrder.toList = wordsSigns ordA ++ wordsSigns ordB := by rw [ord_eq, String.toList_ofList, words_append]
def cutW : List Char := [Char.ofNat 99, Char.ofNat 117, Char.ofNat 116]
theorem ord_behind (W : List (List Char)) : behindMainWord (wordsSigns ordA ++ W) = cutW :: W := by kernel_rfl
theorem ord_strip (W : List (List Char)) : stripLifts liftWords (cutW :: W) = ([], cutW :: W) := by kernel_rfl
theorem ord_c1 : (cutW == "gc".toList) = false := by kernel_rfl
theorem ord_c2 : (cutW == "spec".toList) = false := by kernel_rfl
theorem ord_c3 : (cutW == "cut".toList) = true := by kernel_rfl
theorem ord_e1 : Try.checked.prog.laysLater = false := by kernel_rfl
theorem ord_e2 : Try.checked.prog.bearsReflect = false := by kernel_rfl
theorem ord_e3 : Try.checked.prog.doorFits [] = true := by kernel_rfl
theorem ord_e4 (W : List (List Char)) : ((cutW :: W).head? == some "cut".toList) = true := by kernel_rfl
theorem enter_of (P : Program) (A B : List (List Char)) (hw : wordsSigns P.initOrder.toList = A) (hb : behindMainWord A = cutW :: B) (hs : stripLifts liftWords (cutW :: B) = ([], cutW :: B))
    (e1 : P.laysLater = false) (e2 : P.bearsReflect = false) (e3 : P.doorFits [] = true) (e4 : ((cutW :: B).head? == some "cut".toList) = true) : P.mayEnter = true := by
  unfold Program.mayEnter
  rw [hw, hb]
  simp only [hs, e1, e2, e3, e4]
  simp
theorem lifts_of (P : Program) (A B : List (List Char)) (hw : wordsSigns P.initOrder.toList = A) (hb : behindMainWord A = cutW :: B) (hs : stripLifts liftWords (cutW :: B) = ([], cutW :: B)) (h1 : ((cutW :: B).head? == some "carried".toList) = false) : P.liftsFinal = false := by
  unfold Program.liftsFinal Program.headLifts
  rw [hw, hb]
  simp only [hs, h1]
  simp
theorem make_of (P : Program) (A B : List (List Char)) (hw : wordsSigns P.initOrder.toList = A) (hb : behindMainWord A = cutW :: B) (h1 : (cutW == "gc".toList) = false) (h2 : (cutW == "spec".toList) = false) (h3 : (cutW == "cut".toList) = true) : P.make = some .cut := by
  unfold Program.make
  rw [hw, hb]
  simp only [h1, h2, h3]
  simp
theorem ord_e5 (W : List (List Char)) : ((cutW :: W).head? == some "carried".toList) = false := by kernel_rfl
theorem ord_enter : Try.checked.prog.mayEnter = true := enter_of _ _ _ ord_words (ord_behind _) (ord_strip _) ord_e1 ord_e2 ord_e3 (ord_e4 _)
theorem ord_lifts : Try.checked.prog.liftsFinal = false := lifts_of _ _ _ ord_words (ord_behind _) (ord_strip _) (ord_e5 _)
theorem ord_make : Try.checked.prog.make = some .cut := make_of _ _ _ ord_words (ord_behind _) ord_c1 ord_c2 ord_c3
theorem ord_laid : laidOutB Try.checked.prog = true := by kernel_rfl
theorem ord_maps : mapsRowed Try.checked.prog = true := by kernel_rfl
theorem ord_stops : (Try.checked.prog.stops == []) = true := by kernel_rfl
theorem ord_knobs : (Try.checked.prog.stopKnobs == []) = true := by kernel_rfl
theorem ord_heard : Try.checked.prog.stopsHeard = true := by kernel_rfl
end Go.Proofs.Ytnkdfphbglcnmaa
