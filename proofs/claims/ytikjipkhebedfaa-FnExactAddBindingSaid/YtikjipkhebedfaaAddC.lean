/-
  AddBinding, stated over what the arguments were copied from.
-/
import Derived.Test.YtikjipkhebedfaaAddM
import Derived.Test.YtikjipkhebedfaaAddW
namespace Go.Proofs.Ytikjipkhebedfaa
open Go.RowKit
theorem Bd.erL_snoc {l m : List Bd} {b c : Bd} (h : Bd.erL l = Bd.erL m) (hb : Bd.er b = Bd.er c) : Bd.erL (l ++ [b]) = Bd.erL (m ++ [c]) := by
  rw [Bd.erL_append, Bd.erL_append, h]; simp [Bd.erL, hb]
theorem Bd.addL_er {l m : List Bd} {b c : Bd} (h : Bd.erL l = Bd.erL m) (hb : Bd.er b = Bd.er c) : Bd.addL l b = Bd.addL m c := by
  unfold Bd.addL; rw [Bd.areB_er (Bd.erL_snoc h hb), Bd.erL_snoc h hb, h]
theorem Bd.bulkL_of_er {l m : List Bd} (h : Bd.erL l = Bd.erL m) : Bd.bulkL l = Bd.bulkL m := by rw [← Bd.bulkL_er, h, Bd.bulkL_er]
theorem Bd.addL_bulk {x a : List Bd} {b : Bd} {n : Nat} (h : Bd.erL x = Bd.addL a b) (hn : Bd.bulkL a + (1 + b.bulk) ≤ n) : Bd.bulkL x ≤ n := by
  have e : Bd.bulkL (Bd.erL x) = Bd.bulkL x := Bd.bulkL_er x
  rw [← e, h]
  unfold Bd.addL
  split
  · rw [Bd.bulkL_er, Bd.bulkL_append]; simp only [Bd.bulkL]; omega
  · rw [Bd.bulkL_er]; omega
theorem specAdd_c (A : Option Addr) (c : Nat) (l : List Bd) (b : Bd) {l0 : List Bd} {b0 : Bd} (B : Nat) (w : World) (hl : Bd.erL l = Bd.erL l0) (hb : Bd.er b = Bd.er b0) {X : Bool} {Y : List Bd} (hX : X = Bd.areB (l0 ++ [b0])) (hY : Y = Bd.addL l0 b0) (hbk : Bd.bulkL l0 ≤ 2000000) (hbl : b0.bulk ≤ 2000000 - 1) (hin : Bd.E.LIn w B A c l) (hib : b.In w B) (hB : B ≤ w.heap.size) :
    Calls Try.prog 22 #[.slice A l.length c, b.val] w fun e w' => ∃ (A' : Option Addr) (c' : Nat) (ds : List Bd), e = .returned (.tuple #[.slice A' ds.length c', .bool X]) ∧ Bd.erL ds = Y ∧ Bd.E.LOwn w.heap.size w'.heap.size w' A' c' ds ∧ Below w.heap.size w w' := by
  rw [hX, hY, ← Bd.areB_er (Bd.erL_snoc hl hb), ← Bd.addL_er hl hb]
  exact specAdd_any A c l b B w (by rw [Bd.bulkL_of_er hl]; exact hbk) (by rw [Bd.bulk_of_er hb]; exact hbl) hin hib hB
theorem implAdd_c (A : Option Addr) (c : Nat) (l : List Bd) (b : Bd) {l0 : List Bd} {b0 : Bd} (B : Nat) (w : World) (hl : Bd.erL l = Bd.erL l0) (hb : Bd.er b = Bd.er b0) {X : Bool} {Y : List Bd} (hX : X = Bd.areB (l0 ++ [b0])) (hY : Y = Bd.addL l0 b0) (hbk : Bd.bulkL l0 ≤ 2000000) (hbl : b0.bulk ≤ 2000000 - 1) (hin : Bd.E.LIn w B A c l) (hib : b.In w B) (hB : B ≤ w.heap.size) :
    Calls Try.prog 25 #[.slice A l.length c, b.val] w fun e w' => ∃ (A' : Option Addr) (c' : Nat) (ds : List Bd), e = .returned (.tuple #[.slice A' ds.length c', .bool X]) ∧ Bd.erL ds = Y ∧ Bd.E.LOwn w.heap.size w'.heap.size w' A' c' ds ∧ Below w.heap.size w w' := by
  rw [hX, hY, ← Bd.areB_er (Bd.erL_snoc hl hb), ← Bd.addL_er hl hb]
  have h2 : b.s.length ≤ 2000000 := by have := Bd.bulk_of_er hb; unfold Bd.bulk at this hbl; omega
  exact implAdd_any A c l b B w (by rw [Bd.bulkL_of_er hl]; exact hbk) h2 hin hib hB
end Go.Proofs.Ytikjipkhebedfaa
