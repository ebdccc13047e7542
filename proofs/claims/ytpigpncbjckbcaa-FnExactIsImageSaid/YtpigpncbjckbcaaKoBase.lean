/-
  The size of a datum does not hang on where it lies.
-/
import Derived.Test.YtpigpncbjckbcaaTrees
import Derived.Test.YtpigpncbjckbcaaInts
import Derived.Test.YtpigpncbjckbcaaTr
import Derived.Test.YtpigpncbjckbcaaMarks
namespace Go.Proofs.Ytpigpncbjckbcaa
open Go.RowKit

namespace D
theorem bulk_er : ∀ d : D, bulk (er d) = bulk d := by
  intro d
  induction d using ind with
  | h d ih =>
    cases d with
    | mk k n t A c l =>
      have key : ∀ (a : List D), (∀ x ∈ a, x ∈ l) → bulkL (erL a) = bulkL a := by
        intro a
        induction a with
        | nil => intro _; rfl
        | cons x r ih2 =>
          intro hs
          simp only [bulkL, erL, ih x (hs x (by simp)), ih2 fun y hy => hs y (by simp [hy])]
      simp only [er, bulk, key l (fun _ h => h)]
theorem bulk_of_er {d e : D} (h : er d = er e) : d.bulk = e.bulk := by rw [← bulk_er, h, bulk_er]
theorem In.keepH {w w' : World} {B : Nat} {d : D} (h : In w B d) (hk : ∀ k, k ∈ blks d → w'.heap[k]? = w.heap[k]?) : In w' B d :=
  h.keepB fun _ hp => World.cell?_of_block (hk _ hp)
end D
end Go.Proofs.Ytpigpncbjckbcaa

namespace Go.Proofs.Ytpigpncbjckbcaa
open Go.RowKit
theorem iblk_nodupK (A : Option Addr) (s : List Int) : (iblk A s).Nodup := by
  unfold iblk
  split
  · simp
  · cases A <;> simp
end Go.Proofs.Ytpigpncbjckbcaa

namespace Go.Proofs.Ytpigpncbjckbcaa
open Go.RowKit

structure Ko where
  k : Int
  n : Int
  sA : Option Addr
  sC : Nat
  s : List Int
  d : D
namespace Ko
def cells (x : Ko) : List Value := [.int .i64 x.k, .int .i64 x.n, .slice x.sA x.s.length x.sC, .int .i64 x.d.k, .int .i64 x.d.n, .string x.d.t, .slice x.d.A x.d.l.length x.d.c]
/-- The numbers are ints. -/
def wfp (x : Ko) : Prop := (Lit.int .i64 x.n).wf = true ∧ ∀ i ∈ x.s, (Lit.int .i64 i).wf = true
structure In (w : World) (B : Nat) (x : Ko) : Prop where
  s : IIn w B x.sA x.sC x.s
  d : x.d.In w B
  wf : wfp x
def blks (x : Ko) : List Nat := iblk x.sA x.s ++ (D.blks x.d)
def H : Elem Ko where
  cells := cells
  n := 7
  pos := by decide
  len := fun _ => rfl
  one := by
    intro b u hu
    simp only [cells, List.mem_cons, List.not_mem_nil, or_false] at hu
    rcases hu with rfl | rfl | rfl | rfl | rfl | rfl | rfl <;> rfl
  In := In
  blks := blks
  lt := fun h b hb => (List.mem_append.1 hb).elim (fun hb => h.s.blk_lt b hb) (fun hb => h.d.blk_lt b hb)
  keepB := fun h hk => ⟨h.s.keep fun k hm => hk k (List.mem_append.2 (.inl hm)), h.d.keepH fun k hm => hk k (List.mem_append.2 (.inr hm)), h.wf⟩
  more := fun h hB => ⟨h.s.more hB, h.d.more hB, h.wf⟩
def E : Elem (Tr Ko) := Tr.E H
theorem E_n : E.n = 8 := rfl
def er (x : Ko) : Ko := ⟨x.k, x.n, none, 0, x.s, x.d.er⟩
def bulk (x : Ko) : Nat := x.s.length + x.d.bulk
def val (d : Tr Ko) : Value := .agg #[.int .i64 d.a.k, .int .i64 d.a.n, .slice d.a.sA d.a.s.length d.a.sC, .int .i64 d.a.d.k, .int .i64 d.a.d.n, .string d.a.d.t, .slice d.a.d.A d.a.d.l.length d.a.d.c, .slice d.A d.l.length d.c]
def eqB (x y : Ko) : Bool := (x.k == y.k && (x.n == y.n && (x.s == y.s && (D.eqB x.d y.d))))
theorem er_er (x : Ko) : er (er x) = er x := by
  simp only [er, D.er_er]
theorem eqB_of_er {x y : Ko} (h : er x = er y) : eqB x y = true := by
  simp only [er, Ko.mk.injEq] at h
  obtain ⟨e_k, e_n, _, _, e_s, e_d⟩ := h
  simp only [eqB, Bool.and_eq_true]
  exact ⟨by rw [e_k]; exact beq_self_eq_true _, by rw [e_n]; exact beq_self_eq_true _, by rw [e_s]; exact beq_self_eq_true _, D.eqB_of_er e_d⟩
theorem bulk_of_er {x y : Ko} (h : er x = er y) : bulk x = bulk y := by
  simp only [er, Ko.mk.injEq] at h
  obtain ⟨e_k, e_n, _, _, e_s, e_d⟩ := h
  unfold bulk
  rw [e_s]
  rw [← D.bulk_er x.d, e_d, D.bulk_er]
theorem eqB_er2 (x y : Ko) : eqB x y = eqB (er x) (er y) := by
  simp only [eqB, er]
  rw [D.eqB_er x.d y.d]
theorem E_in {w : World} {B : Nat} {d : Tr Ko} (h : E.In w B d) : In w B d.a ∧ E.LIn w B d.A d.c d.l := by
  cases d
  exact Tr.in_iff.1 h
theorem E_mk {w : World} {B : Nat} {d : Tr Ko} (h : In w B d.a) (k : E.LIn w B d.A d.c d.l) : E.In w B d := by
  cases d
  exact Tr.in_iff.2 ⟨h, k⟩
/-- The cells of element i. -/
theorem at_ {w : World} {B : Nat} {A : Option Addr} {c : Nat} {l : List (Tr Ko)} (h : E.LIn w B A c l) {i : Nat} {x : Tr Ko} (hi : l[i]? = some x) :
    ∃ b o : Nat, A = some ⟨b, o, none⟩ ∧ b < B ∧ w.cell? ⟨b, o + i * 8, none⟩ = some (.int .i64 x.a.k) ∧ w.cell? ⟨b, o + i * 8 + 1, none⟩ = some (.int .i64 x.a.n) ∧ w.cell? ⟨b, o + i * 8 + 2, none⟩ = some (.slice x.a.sA x.a.s.length x.a.sC) ∧ w.cell? ⟨b, o + i * 8 + 3, none⟩ = some (.int .i64 x.a.d.k) ∧ w.cell? ⟨b, o + i * 8 + 4, none⟩ = some (.int .i64 x.a.d.n) ∧ w.cell? ⟨b, o + i * 8 + 5, none⟩ = some (.string x.a.d.t) ∧ w.cell? ⟨b, o + i * 8 + 6, none⟩ = some (.slice x.a.d.A x.a.d.l.length x.a.d.c) ∧ w.cell? ⟨b, o + i * 8 + 7, none⟩ = some (.slice x.A x.l.length x.c) ∧ E.In w B x := by
  obtain ⟨b, o, e, hb, hc, hx⟩ := h.at_ hi
  exact ⟨b, o, e, hb, hc 0 _ rfl, hc 1 _ rfl, hc 2 _ rfl, hc 3 _ rfl, hc 4 _ rfl, hc 5 _ rfl, hc 6 _ rfl, hc 7 _ rfl, hx⟩
/-- A variable that holds one. -/
structure Box (w : World) (g : Nat) (d : Tr Ko) : Prop where
  c0 : w.cell? ⟨g, 0, none⟩ = some (.int .i64 d.a.k)
  c1 : w.cell? ⟨g, 1, none⟩ = some (.int .i64 d.a.n)
  c2 : w.cell? ⟨g, 2, none⟩ = some (.slice d.a.sA d.a.s.length d.a.sC)
  c3 : w.cell? ⟨g, 3, none⟩ = some (.int .i64 d.a.d.k)
  c4 : w.cell? ⟨g, 4, none⟩ = some (.int .i64 d.a.d.n)
  c5 : w.cell? ⟨g, 5, none⟩ = some (.string d.a.d.t)
  c6 : w.cell? ⟨g, 6, none⟩ = some (.slice d.a.d.A d.a.d.l.length d.a.d.c)
  c7 : w.cell? ⟨g, 7, none⟩ = some (.slice d.A d.l.length d.c)
theorem Box.keep {w w' : World} {g : Nat} {d : Tr Ko} (h : Box w g d) (e : w'.heap[g]? = w.heap[g]?) : Box w' g d := by
  have e : ∀ q, w'.cell? ⟨g, q, none⟩ = w.cell? ⟨g, q, none⟩ := fun q => World.cell?_of_block (a := ⟨g, q, none⟩) e
  exact ⟨(e 0).trans h.c0, (e 1).trans h.c1, (e 2).trans h.c2, (e 3).trans h.c3, (e 4).trans h.c4, (e 5).trans h.c5, (e 6).trans h.c6, (e 7).trans h.c7⟩
theorem Box.below {w w' : World} {g B : Nat} {d : Tr Ko} (h : Box w g d) (hb : Below B w w') (hB : g < B) : Box w' g d := h.keep (hb.block g hB)
theorem Box.chg {w w' : World} {g : Nat} {d : Tr Ko} {T : List Nat} (h : Box w g d) (hb : Chg T w w') (hlt : g < w.heap.size) (hn : g ∉ T) : Box w' g d := h.keep (hb.block g hlt hn)
theorem Box.new (w : World) (d : Tr Ko) (t : TypeId) : Box (w.alloc (.cells #[.int .i64 d.a.k, .int .i64 d.a.n, .slice d.a.sA d.a.s.length d.a.sC, .int .i64 d.a.d.k, .int .i64 d.a.d.n, .string d.a.d.t, .slice d.a.d.A d.a.d.l.length d.a.d.c, .slice d.A d.l.length d.c] t)) w.heap.size d := by
  have h := D.Blk.new w t #[.int .i64 d.a.k, .int .i64 d.a.n, .slice d.a.sA d.a.s.length d.a.sC, .int .i64 d.a.d.k, .int .i64 d.a.d.n, .string d.a.d.t, .slice d.a.d.A d.a.d.l.length d.a.d.c, .slice d.A d.l.length d.c]
  exact ⟨h.cell 0, h.cell 1, h.cell 2, h.cell 3, h.cell 4, h.cell 5, h.cell 6, h.cell 7⟩
end Ko

/-- Returned: one of the call's own. -/
def RetKo (x : Tr Ko) (w : World) (e : Ending) (w' : World) : Prop := ∃ d : Tr Ko, e = .returned (Ko.val d) ∧ d.er Ko.er = x ∧ Ko.E.Own w.heap.size w'.heap.size w' d ∧ Below w.heap.size w w'
/-- Returned: a list of the call's own. -/
def RetKoL (x : List (Tr Ko)) (w : World) (e : Ending) (w' : World) : Prop := ∃ (A : Option Addr) (c : Nat) (l : List (Tr Ko)), e = .returned (.slice A l.length c) ∧ Tr.erL Ko.er l = x ∧ Ko.E.LOwn w.heap.size w'.heap.size w' A c l ∧ Below w.heap.size w w'
end Go.Proofs.Ytpigpncbjckbcaa
