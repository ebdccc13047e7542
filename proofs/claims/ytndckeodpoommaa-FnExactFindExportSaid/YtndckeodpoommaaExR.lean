/-
  Expanders as elements: so that a record may hold one.
-/
import Derived.Test.YtndckeodpoommaaExB
import Derived.Test.YtndckeodpoommaaRecB
import Derived.Test.YtndckeodpoommaaSynL
namespace Go.Proofs.Ytndckeodpoommaa
open Go.RowKit

namespace Ex
def cells (x : Ex) : List Value := [.slice x.A0 x.l0.length x.c0, .slice x.A1 x.l1.length x.c1, .int .i64 x.s, .int .i64 x.v, .int .i64 x.t]
def blks (x : Ex) : List Nat := Bd.E.lblks x.A0 x.l0 ++ Ru.E.lblks x.A1 x.l1
def E : Elem Ex where
  cells := cells
  n := 5
  pos := by decide
  len := fun _ => rfl
  one := by
    intro b u hu
    simp only [cells, List.mem_cons, List.not_mem_nil, or_false] at hu
    rcases hu with rfl | rfl | rfl | rfl | rfl <;> rfl
  In := In
  blks := blks
  lt := fun h b hb => (List.mem_append.1 hb).elim (fun hb => h.a.blk_lt b hb) (fun hb => h.b.blk_lt b hb)
  keepB := fun h hk => ⟨h.a.keepB fun k hm => hk k (List.mem_append.2 (.inl hm)), h.b.keepB fun k hm => hk k (List.mem_append.2 (.inr hm))⟩
  more := fun h hB => h.more hB
theorem own_e {lo hi : Nat} {w : World} {x : Ex} (h : Own lo hi w x) : E.Own lo hi w x := by
  refine ⟨h.inn, fun b hb => ?_, ?_, fun b hb o => ?_⟩
  · rcases List.mem_append.1 hb with hb | hb
    · exact h.a.lo_ b hb
    · exact h.b.lo_ b hb
  · exact List.nodup_append.2 ⟨h.a.nd, h.b.nd, fun p hp q hq e => h.ab p hp (e ▸ hq)⟩
  · rcases List.mem_append.1 hb with hb | hb
    · exact h.a.fr b hb o
    · exact h.b.fr b hb o
theorem bulk_of_er {x y : Ex} (h : er x = er y) : bulk x = bulk y := by
  obtain ⟨h1, h2, _⟩ := er_parts h
  have e1 : Bd.bulkL x.l0 = Bd.bulkL y.l0 := by rw [← Bd.bulkL_er x.l0, h1, Bd.bulkL_er]
  have e2 : ∀ l m : List Ru, Ru.erR l = Ru.erR m → Ru.bulkR l = Ru.bulkR m := by
    intro l
    induction l with
    | nil => intro m hm; cases m with
      | nil => rfl
      | cons _ _ => simp [Ru.erR] at hm
    | cons b r ih => intro m hm; cases m with
      | nil => simp [Ru.erR] at hm
      | cons c s =>
        have hh : Ru.er b = Ru.er c ∧ Ru.erR r = Ru.erR s := by simpa [Ru.erR] using hm
        have a := Prod.mk.inj hh.1
        have a2 := Prod.mk.inj a.2
        have k : ∀ l m : List S, S.erL l = S.erL m → S.bulkL l = S.bulkL m := fun l m h => by rw [← (S.bulkL_er l).1, h, (S.bulkL_er m).1]
        simp only [Ru.bulkR, Ru.bulk]
        rw [k _ _ a.1, k _ _ a2.1, k _ _ a2.2, ih s hh.2]
  unfold bulk
  rw [e1, e2 _ _ h2]
end Ex
theorem Ex_sz_any (x : Ex) (B : Nat) (w : World) (left : Int) (h0 : 0 ≤ left) (h1 : left ≤ 1048576) (hin : Ex.E.In w B x) (hB : B ≤ w.heap.size) :
    Calls Try.prog 48 #[x.val, .int .i64 left] w fun e w' => e = .returned (.int .i64 (szR x.bulk left)) ∧ Below w.heap.size w w' := szEx_any x B w left h0 h1 hin hB
theorem Ex_to_any (x : Ex) (B : Nat) (w : World) (hs : x.bulk ≤ 2000000) (hin : Ex.E.In w B x) (hB : B ≤ w.heap.size) :
    Calls Try.prog 51 #[x.val] w fun e w' => ∃ d : Ex, e = .returned d.val ∧ d.er = x.er ∧ Ex.E.Own w.heap.size w'.heap.size w' d ∧ Below w.heap.size w w' :=
  (toEx_any x B w hs hin hB).mono fun _ _ ⟨d, h1, h2, h3, h4⟩ => ⟨d, h1, h2, Ex.own_e h3, h4⟩
theorem Ex_eq_any (x y : Ex) (B : Nat) (w : World) (he : x.er = y.er) (hx : Ex.E.In w B x) (hy : Ex.E.In w B y) (hB : B ≤ w.heap.size) :
    Calls Try.prog 54 #[x.val, y.val] w fun e w' => e = .returned (.bool true) ∧ Below w.heap.size w w' := eqEx_any x y B w he hx hy hB
end Go.Proofs.Ytndckeodpoommaa
