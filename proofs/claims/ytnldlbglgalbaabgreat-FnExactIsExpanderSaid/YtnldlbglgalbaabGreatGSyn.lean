/-
  Syntax objects of data: the program's syntaxOf.
-/
import Derived.Test.YtnldlbglgalbaabGreatSTrees
import Derived.Test.YtnldlbglgalbaabGreatSCount
import Derived.Test.YtnldlbglgalbaabGreatTrees
import Derived.Deep.RegionHeld3
import Derived.Deep.AppendLies
import Derived.Deep.RegionLaw
import Derived.Test.YtnldlbglgalbaabGreatIsD
import Derived.Test.YtnldlbglgalbaabGreatSMarks
import Derived.Test.YtnldlbglgalbaabGreatGElT
namespace Go.Proofs.YtnldlbglgalbaabGreat
open Go.RowKit

mutual
/-- The syntax object of a datum, without scopes. -/
def ofD : D → S | .mk k n t _ _ l => .mk k n t none 0 [] none 0 (ofL l)
def ofL : List D → List S | [] => [] | d :: r => ofD d :: ofL r
end
theorem ofL_map (l : List D) : ofL l = l.map ofD := by
  induction l with
  | nil => rfl
  | cons d r ih => simp [ofL, ih]
theorem ofL_append (a b : List D) : ofL (a ++ b) = ofL a ++ ofL b := by simp [ofL_map]
theorem ofL_length (a : List D) : (ofL a).length = a.length := by simp [ofL_map]
theorem ofD_er (d : D) : ofD d.er = ofD d := by
  induction d using D.ind with
  | h d ih =>
    cases d with
    | mk k n t A c l =>
      have key : ∀ (a : List D), (∀ x ∈ a, x ∈ l) → ofL (D.erL a) = ofL a := by
        intro a
        induction a with
        | nil => intro _; rfl
        | cons x r ih2 => intro hs; simp only [D.erL, ofL, ih x (hs x (by simp)), ih2 fun y hy => hs y (by simp [hy])]
      simp only [D.er, ofD, key l (fun _ h => h)]
theorem ofD_of_er {d e : D} (h : d.er = e.er) : ofD d = ofD e := by rw [← ofD_er d, h, ofD_er]
theorem er_ofD (d : D) : (ofD d).er = ofD d := by
  induction d using D.ind with
  | h d ih =>
    cases d with
    | mk k n t A c l =>
      have key : ∀ (a : List D), (∀ x ∈ a, x ∈ l) → S.erL (ofL a) = ofL a := by
        intro a
        induction a with
        | nil => intro _; rfl
        | cons x r ih2 => intro hs; simp only [S.erL, ofL, ih x (hs x (by simp)), ih2 fun y hy => hs y (by simp [hy])]
      simp only [S.er, ofD, key l (fun _ h => h)]
theorem size_ofD (d : D) : (ofD d).size = d.size := by
  induction d using D.ind with
  | h d ih =>
    cases d with
    | mk k n t A c l =>
      have key : ∀ (a : List D), (∀ x ∈ a, x ∈ l) → S.sizeL (ofL a) = D.sizeL a := by
        intro a
        induction a with
        | nil => intro _; rfl
        | cons x r ih2 => intro hs; simp only [S.sizeL, D.sizeL, ofL, ih x (hs x (by simp)), ih2 fun y hy => hs y (by simp [hy])]
      simp only [S.size, D.size, ofD, key l (fun _ h => h)]
theorem bulk_ofD (d : D) : (ofD d).bulk = d.bulk := by
  induction d using D.ind with
  | h d ih =>
    cases d with
    | mk k n t A c l =>
      have key : ∀ (a : List D), (∀ x ∈ a, x ∈ l) → S.bulkL (ofL a) = D.bulkL a := by
        intro a
        induction a with
        | nil => intro _; rfl
        | cons x r ih2 => intro hs; simp only [S.bulkL, D.bulkL, ofL, ih x (hs x (by simp)), ih2 fun y hy => hs y (by simp [hy])]
      simp only [S.bulk, D.bulk, ofD, key l (fun _ h => h), List.length_nil]
      omega

end Go.Proofs.YtnldlbglgalbaabGreat

namespace Go.Proofs.YtnldlbglgalbaabGreat
open Go.RowKit

theorem sgrown_below {w w' : World} (h : Below w.heap.size w w') (row : Option Nat) : w.grownBy w' row := ⟨h.os, h.tape, h.output, h.size, fun k hk _ => h.block k hk⟩
/-- The call's own list ds behind the slice value v: the row may still grow. -/
structure GrowS (base : Nat) (w : World) (v : Value) (ds : List S) : Prop where
  row : w.ownsRow base 43 5 v ds.length (S.cellsL ds)
  own : S.OwnL base w.heap.size w ds
  apart : ∀ g, v.ownBlock = some g → g ∉ S.blksL ds

theorem GrowS.below {base : Nat} {w w' : World} {v : Value} {ds : List S} (h : GrowS base w v ds) (hb : Below w.heap.size w w') : GrowS base w' v ds :=
  ⟨h.row.kept (sgrown_below hb none) (by cases v.ownBlock <;> simp), (h.own.below hb).wide (Nat.le_refl _) hb.size, h.apart⟩
theorem scells_one (d : S) : ∀ u ∈ d.cells, u.oneCell' = true := by
  intro u hu
  simp [S.cells] at hu
  rcases hu with rfl | rfl | rfl | rfl | rfl <;> rfl
/-- What an append of one datum leaves. -/
theorem GrowS.snoc {base lo g cap : Nat} {w w1 w3 : World} {v : Value} {ds : List S} {d : S} {o : Obj} (h : GrowS base w v ds) (hbase : base ≤ w.heap.size) (hlo : lo = w.heap.size + 1) (hd : d.Own lo w1.heap.size w1) (hb : Below w.heap.size w w1)
    (hown : w3.ownsRow base 43 5 (.slice (some ⟨g, 0, none⟩) (ds.length + 1) cap) (ds.length + 1) (S.cellsL ds ++ d.cells)) (hgr : (w1.alloc o).grownBy w3 v.ownBlock) (hat : v.ownBlock = some g ∨ g = w1.heap.size + 1) (_hlt : g < w3.heap.size) :
    GrowS base w3 (.slice (some ⟨g, 0, none⟩) (ds ++ [d]).length cap) (ds ++ [d]) := by
  have hsz1 := hb.size
  have hsz3 := hgr.size
  simp only [World.size_alloc] at hsz3
  have hrow : ∀ q, v.ownBlock = some q → q < w.heap.size := fun q hq => (h.row.lt q hq).2
  have hc : S.OwnL base w1.heap.size w1 (ds ++ [d]) := h.own.snoc hb (hd.wide (by omega) (Nat.le_refl _)) hsz1 hbase
  have hne : ∀ q, q ∈ S.blksL (ds ++ [d]) → some q ≠ v.ownBlock := by
    intro q hq e
    simp only [S.blksL_append, S.blksL, List.append_nil, List.mem_append] at hq
    rcases hq with hq | hq
    · exact h.apart q e.symm hq
    · have h1 := hd.lo_ q hq
      have h2 := hrow q e.symm
      omega
  refine ⟨?_, ?_, ?_⟩
  · have e1 : (ds ++ [d]).length = ds.length + 1 := by simp
    have e2 : S.cellsL (ds ++ [d]) = S.cellsL ds ++ d.cells := by simp [S.cellsL]
    rw [e1, e2]
    exact hown
  · refine (hc.keepB fun q hq => ?_).wide (Nat.le_refl _) (by omega)
    have hlt1 := hc.inn.blk_lt q hq
    rw [hgr.block q (by simp; omega) (hne q hq)]
    exact Below.heap_alloc _ _ _ hlt1
  · intro q hq hm
    have hqg : q = g := by simpa [Value.ownBlock] using hq.symm
    subst hqg
    rcases hat with hat | hat
    · exact hne q hm hat.symm
    · have := hc.inn.blk_lt q hm
      omega

theorem GrowS.far {base : Nat} {w : World} {v : Value} {ds : List S} (h : GrowS base w v ds) {p : Addr} (hp : p.block < base) (u : Value) : GrowS base (w.setCell p u) v ds :=
  ⟨ownsRow_setCell_below h.row hp u, by simp only [World.size_setCell]; exact h.own.far hp u, h.apart⟩
/-- A round of 'out.Items = append(out.Items, ..)', out's block just below base. -/
theorem sapp_round {B out g cap : Nat} {w wr w1 w3 : World} {v u : Value} {ds : List S} {d : S} {ox o : Obj} (hG : GrowS (out + 1) wr v ds) (hout : out + 1 ≤ wr.heap.size) (hBo : B ≤ out) (hb : Below B w wr)
    (hod : d.Own (wr.heap.size + 1) w1.heap.size w1) (hb1 : Below (wr.heap.size + 1) (wr.alloc ox) w1)
    (hown : w3.ownsRow (out + 1) 43 5 (.slice (some ⟨g, 0, none⟩) (ds.length + 1) cap) (ds.length + 1) (S.cellsL ds ++ d.cells)) (hgr : (w1.alloc o).grownBy w3 v.ownBlock) (hat : v.ownBlock = some g ∨ g = w1.heap.size + 1) (hlt : g < w3.heap.size)
    (hc3 : wr.cell? ⟨out, 4, none⟩ = some u) :
    GrowS (out + 1) (w3.setCell ⟨out, 4, none⟩ (.slice (some ⟨g, 0, none⟩) (ds.length + 1) cap)) (.slice (some ⟨g, 0, none⟩) (ds.length + 1) cap) (ds ++ [d]) ∧
    (∀ q, q ≠ 4 → (w3.setCell ⟨out, 4, none⟩ (.slice (some ⟨g, 0, none⟩) (ds.length + 1) cap)).cell? ⟨out, q, none⟩ = wr.cell? ⟨out, q, none⟩) ∧
    (w3.setCell ⟨out, 4, none⟩ (.slice (some ⟨g, 0, none⟩) (ds.length + 1) cap)).cell? ⟨out, 4, none⟩ = some (.slice (some ⟨g, 0, none⟩) (ds.length + 1) cap) ∧
    (∀ q, (w3.setCell ⟨out, 4, none⟩ (.slice (some ⟨g, 0, none⟩) (ds.length + 1) cap)).frozen? ⟨out, q, none⟩ = wr.frozen? ⟨out, q, none⟩) ∧
    wr.heap.size ≤ (w3.setCell ⟨out, 4, none⟩ (.slice (some ⟨g, 0, none⟩) (ds.length + 1) cap)).heap.size ∧ Below B w (w3.setCell ⟨out, 4, none⟩ (.slice (some ⟨g, 0, none⟩) (ds.length + 1) cap)) := by
  have hbw : Below wr.heap.size wr w1 := ((Below.refl _ _).alloc (Nat.le_refl _) ox).trans (hb1.mono (by omega))
  have hz1 := hbw.size
  have hz3 := hgr.size
  simp only [World.size_alloc] at hz3
  have hne : ∀ q, v.ownBlock = some q → out + 1 ≤ q := fun q hq => (hG.row.lt q hq).1
  have hno : some out ≠ v.ownBlock := fun e => by have := hne out e.symm; omega
  have hh : w3.heap[out]? = wr.heap[out]? := by
    rw [hgr.block out (by simp; omega) hno]
    exact (Below.heap_alloc _ _ _ (by omega)).trans (hbw.block out (by omega))
  have cf : ∀ q, w3.cell? ⟨out, q, none⟩ = wr.cell? ⟨out, q, none⟩ := fun q => World.cell?_of_block (a := ⟨out, q, none⟩) hh
  have ff : ∀ q, w3.frozen? ⟨out, q, none⟩ = wr.frozen? ⟨out, q, none⟩ := fun q => World.frozen?_of_block (a := ⟨out, q, none⟩) hh
  have hG3 := hG.snoc (by omega) rfl hod hbw hown hgr hat hlt
  have e1 : (ds ++ [d]).length = ds.length + 1 := by simp
  rw [e1] at hG3
  have hb3 : Below B w w3 := ((hb.trans (hbw.mono (by omega))).alloc (by omega) o).grown hgr (by simp; omega) (fun k hk => by have := hne k hk; omega)
  refine ⟨hG3.far (by simp) _, fun q hq => ?_, ?_, fun q => ?_, by simp; omega, hb3.setCell (by simpa using hBo) _⟩
  · rw [icell_ne _ _ _ _ _ hq]; exact cf q
  · exact icell_eq ((cf 4).trans hc3)
  · rw [World.frozen?_setCell]; exact ff q


end Go.Proofs.YtnldlbglgalbaabGreat

namespace Go.Proofs.YtnldlbglgalbaabGreat
open Go.RowKit

def zeroS : S := .mk 0 0 ⟨#[]⟩ none 0 [] none 0 []
def synD (d : D) : S := if d.isD then ofD d else zeroS
theorem synD_of_er {d e : D} (h : d.er = e.er) : synD d = synD e := by unfold synD; rw [D.isD_of_er h, ofD_of_er h]

end Go.Proofs.YtnldlbglgalbaabGreat

namespace Go.Proofs.YtnldlbglgalbaabGreat
open Go.RowKit

namespace S
theorem bulkL_er (l : List S) : bulkL (erL l) = bulkL l ∧ wtL (erL l) = wtL l := by
  have key : ∀ d : S, bulk (er d) = bulk d ∧ wt (er d) = wt d := by
    intro d
    induction d using ind with
    | h d ih =>
      cases d with
      | mk k n t sa sc s A c l =>
        have key : ∀ (a : List S), (∀ x ∈ a, x ∈ l) → bulkL (erL a) = bulkL a ∧ wtL (erL a) = wtL a := by
          intro a
          induction a with
          | nil => intro _; exact ⟨rfl, rfl⟩
          | cons x r ih2 =>
            intro hs
            have h1 := ih x (hs x (by simp))
            have h2 := ih2 fun y hy => hs y (by simp [hy])
            simp only [bulkL, wtL, erL, h1.1, h1.2, h2.1, h2.2, and_self]
        have h := key l (fun _ h => h)
        simp only [er, bulk, wt, h.1, h.2, and_self]
  induction l with
  | nil => exact ⟨rfl, rfl⟩
  | cons x r ih => simp only [bulkL, wtL, erL, (key x).1, (key x).2, ih.1, ih.2, and_self]
theorem bulk_er (d : S) : bulk (er d) = bulk d := by cases d; simp only [er, bulk, (bulkL_er _).1]
theorem wt_er (d : S) : wt (er d) = wt d := by cases d; simp only [er, wt, (bulkL_er _).2]
theorem wt_le (d : S) : wt d ≤ 3 * size d + bulk d := by
  induction d using ind with
  | h d ih =>
    cases d with
    | mk k n t sa sc s A c l =>
      have key : ∀ (a : List S), (∀ x ∈ a, x ∈ l) → wtL a ≤ 3 * sizeL a + bulkL a := by
        intro a
        induction a with
        | nil => intro _; simp [wtL]
        | cons x r ih2 =>
          intro hs
          have h1 := ih x (hs x (by simp))
          have h2 := ih2 fun y hy => hs y (by simp [hy])
          simp only [wtL, sizeL, bulkL]
          omega
      have := key l (fun _ h => h)
      simp only [wt, size, bulk]
      omega
/-- The bounds of what equals x. -/
theorem bounds_of {g x : S} (h : g.er = x) (hx : x.size ≤ 1048577) (hb : x.bulk ≤ 1048576) : g.size ≤ 2000000 ∧ g.bulk ≤ 2000000 ∧ wtL g.l ≤ 90000000 := by
  have h1 : g.size ≤ 1048577 := by rw [← size_er, h]; exact hx
  have h2 : g.bulk ≤ 1048576 := by rw [← bulk_er, h]; exact hb
  have h3 := wt_le g
  have h4 := wt_eq g
  omega
end S

theorem syn_bounds {g : S} {a : D} (h : g.er = synD a) (hb : a.bulk ≤ 1048576) : g.size ≤ 2000000 ∧ g.bulk ≤ 2000000 ∧ S.wtL g.l ≤ 90000000 := by
  have hs := D.bulk_size a
  unfold synD at h
  split at h
  · exact S.bounds_of h (by rw [size_ofD]; omega) (by rw [bulk_ofD]; exact hb)
  · exact S.bounds_of h (by decide) (by decide)

end Go.Proofs.YtnldlbglgalbaabGreat

namespace Go.Proofs.YtnldlbglgalbaabGreat
open Go.RowKit

structure Ka where
  N : S
  dep : Int
  F : S
namespace Ka
def cells (x : Ka) : List Value := [.int .i64 x.N.k, .int .i64 x.N.n, .string x.N.t, .slice x.N.sa x.N.s.length x.N.sc, .slice x.N.A x.N.l.length x.N.c, .int .i64 x.dep, .int .i64 x.F.k, .int .i64 x.F.n, .string x.F.t, .slice x.F.sa x.F.s.length x.F.sc, .slice x.F.A x.F.l.length x.F.c]
structure In (w : World) (B : Nat) (x : Ka) : Prop where
  N : x.N.In w B
  F : x.F.In w B
def blks (x : Ka) : List Nat := S.blks x.N ++ (S.blks x.F)
def H : Elem Ka where
  cells := cells
  n := 11
  pos := by decide
  len := fun _ => rfl
  one := by
    intro b u hu
    simp only [cells, List.mem_cons, List.not_mem_nil, or_false] at hu
    rcases hu with rfl | rfl | rfl | rfl | rfl | rfl | rfl | rfl | rfl | rfl | rfl <;> rfl
  In := In
  blks := blks
  lt := fun h b hb => (List.mem_append.1 hb).elim (fun hb => h.N.blk_lt b hb) (fun hb => h.F.blk_lt b hb)
  keepB := fun h hk => ⟨h.N.keepB fun k hm => hk k (List.mem_append.2 (.inl hm)), h.F.keepB fun k hm => hk k (List.mem_append.2 (.inr hm))⟩
  more := fun h hB => ⟨h.N.more hB, h.F.more hB⟩
def E : Elem (Tr Ka) := Tr.E H
theorem E_n : E.n = 12 := rfl
def er (x : Ka) : Ka := ⟨x.N.er, x.dep, x.F.er⟩
def bulk (x : Ka) : Nat := x.N.bulk + x.F.bulk
def val (d : Tr Ka) : Value := .agg #[.int .i64 d.a.N.k, .int .i64 d.a.N.n, .string d.a.N.t, .slice d.a.N.sa d.a.N.s.length d.a.N.sc, .slice d.a.N.A d.a.N.l.length d.a.N.c, .int .i64 d.a.dep, .int .i64 d.a.F.k, .int .i64 d.a.F.n, .string d.a.F.t, .slice d.a.F.sa d.a.F.s.length d.a.F.sc, .slice d.a.F.A d.a.F.l.length d.a.F.c, .slice d.A d.l.length d.c]
def eqB (x y : Ka) : Bool := (S.eqB x.N y.N && (x.dep == y.dep && (S.eqB x.F y.F)))
theorem er_er (x : Ka) : er (er x) = er x := by
  simp only [er, S.er_er]
theorem eqB_of_er {x y : Ka} (h : er x = er y) : eqB x y = true := by
  simp only [er, Ka.mk.injEq] at h
  obtain ⟨e_N, e_dep, e_F⟩ := h
  simp only [eqB, Bool.and_eq_true]
  exact ⟨S.eqB_of_er e_N, by rw [e_dep]; exact beq_self_eq_true _, S.eqB_of_er e_F⟩
theorem bulk_of_er {x y : Ka} (h : er x = er y) : bulk x = bulk y := by
  simp only [er, Ka.mk.injEq] at h
  obtain ⟨e_N, e_dep, e_F⟩ := h
  unfold bulk
  rw [← S.bulk_er x.N, e_N, S.bulk_er]
  rw [← S.bulk_er x.F, e_F, S.bulk_er]
theorem eqB_er2 (x y : Ka) : eqB x y = eqB (er x) (er y) := by
  simp only [eqB, er]
  rw [S.eqB_er x.N y.N, S.eqB_er x.F y.F]
theorem E_in {w : World} {B : Nat} {d : Tr Ka} (h : E.In w B d) : In w B d.a ∧ E.LIn w B d.A d.c d.l := by
  cases d
  exact Tr.in_iff.1 h
theorem E_mk {w : World} {B : Nat} {d : Tr Ka} (h : In w B d.a) (k : E.LIn w B d.A d.c d.l) : E.In w B d := by
  cases d
  exact Tr.in_iff.2 ⟨h, k⟩
/-- The cells of element i. -/
theorem at_ {w : World} {B : Nat} {A : Option Addr} {c : Nat} {l : List (Tr Ka)} (h : E.LIn w B A c l) {i : Nat} {x : Tr Ka} (hi : l[i]? = some x) :
    ∃ b o : Nat, A = some ⟨b, o, none⟩ ∧ b < B ∧ w.cell? ⟨b, o + i * 12, none⟩ = some (.int .i64 x.a.N.k) ∧ w.cell? ⟨b, o + i * 12 + 1, none⟩ = some (.int .i64 x.a.N.n) ∧ w.cell? ⟨b, o + i * 12 + 2, none⟩ = some (.string x.a.N.t) ∧ w.cell? ⟨b, o + i * 12 + 3, none⟩ = some (.slice x.a.N.sa x.a.N.s.length x.a.N.sc) ∧ w.cell? ⟨b, o + i * 12 + 4, none⟩ = some (.slice x.a.N.A x.a.N.l.length x.a.N.c) ∧ w.cell? ⟨b, o + i * 12 + 5, none⟩ = some (.int .i64 x.a.dep) ∧ w.cell? ⟨b, o + i * 12 + 6, none⟩ = some (.int .i64 x.a.F.k) ∧ w.cell? ⟨b, o + i * 12 + 7, none⟩ = some (.int .i64 x.a.F.n) ∧ w.cell? ⟨b, o + i * 12 + 8, none⟩ = some (.string x.a.F.t) ∧ w.cell? ⟨b, o + i * 12 + 9, none⟩ = some (.slice x.a.F.sa x.a.F.s.length x.a.F.sc) ∧ w.cell? ⟨b, o + i * 12 + 10, none⟩ = some (.slice x.a.F.A x.a.F.l.length x.a.F.c) ∧ w.cell? ⟨b, o + i * 12 + 11, none⟩ = some (.slice x.A x.l.length x.c) ∧ E.In w B x := by
  obtain ⟨b, o, e, hb, hc, hx⟩ := h.at_ hi
  exact ⟨b, o, e, hb, hc 0 _ rfl, hc 1 _ rfl, hc 2 _ rfl, hc 3 _ rfl, hc 4 _ rfl, hc 5 _ rfl, hc 6 _ rfl, hc 7 _ rfl, hc 8 _ rfl, hc 9 _ rfl, hc 10 _ rfl, hc 11 _ rfl, hx⟩
/-- A variable that holds one. -/
structure Box (w : World) (g : Nat) (d : Tr Ka) : Prop where
  c0 : w.cell? ⟨g, 0, none⟩ = some (.int .i64 d.a.N.k)
  c1 : w.cell? ⟨g, 1, none⟩ = some (.int .i64 d.a.N.n)
  c2 : w.cell? ⟨g, 2, none⟩ = some (.string d.a.N.t)
  c3 : w.cell? ⟨g, 3, none⟩ = some (.slice d.a.N.sa d.a.N.s.length d.a.N.sc)
  c4 : w.cell? ⟨g, 4, none⟩ = some (.slice d.a.N.A d.a.N.l.length d.a.N.c)
  c5 : w.cell? ⟨g, 5, none⟩ = some (.int .i64 d.a.dep)
  c6 : w.cell? ⟨g, 6, none⟩ = some (.int .i64 d.a.F.k)
  c7 : w.cell? ⟨g, 7, none⟩ = some (.int .i64 d.a.F.n)
  c8 : w.cell? ⟨g, 8, none⟩ = some (.string d.a.F.t)
  c9 : w.cell? ⟨g, 9, none⟩ = some (.slice d.a.F.sa d.a.F.s.length d.a.F.sc)
  c10 : w.cell? ⟨g, 10, none⟩ = some (.slice d.a.F.A d.a.F.l.length d.a.F.c)
  c11 : w.cell? ⟨g, 11, none⟩ = some (.slice d.A d.l.length d.c)
theorem Box.keep {w w' : World} {g : Nat} {d : Tr Ka} (h : Box w g d) (e : w'.heap[g]? = w.heap[g]?) : Box w' g d := by
  have e : ∀ q, w'.cell? ⟨g, q, none⟩ = w.cell? ⟨g, q, none⟩ := fun q => World.cell?_of_block (a := ⟨g, q, none⟩) e
  exact ⟨(e 0).trans h.c0, (e 1).trans h.c1, (e 2).trans h.c2, (e 3).trans h.c3, (e 4).trans h.c4, (e 5).trans h.c5, (e 6).trans h.c6, (e 7).trans h.c7, (e 8).trans h.c8, (e 9).trans h.c9, (e 10).trans h.c10, (e 11).trans h.c11⟩
theorem Box.below {w w' : World} {g B : Nat} {d : Tr Ka} (h : Box w g d) (hb : Below B w w') (hB : g < B) : Box w' g d := h.keep (hb.block g hB)
theorem Box.chg {w w' : World} {g : Nat} {d : Tr Ka} {T : List Nat} (h : Box w g d) (hb : Chg T w w') (hlt : g < w.heap.size) (hn : g ∉ T) : Box w' g d := h.keep (hb.block g hlt hn)
theorem Box.new (w : World) (d : Tr Ka) (t : TypeId) : Box (w.alloc (.cells #[.int .i64 d.a.N.k, .int .i64 d.a.N.n, .string d.a.N.t, .slice d.a.N.sa d.a.N.s.length d.a.N.sc, .slice d.a.N.A d.a.N.l.length d.a.N.c, .int .i64 d.a.dep, .int .i64 d.a.F.k, .int .i64 d.a.F.n, .string d.a.F.t, .slice d.a.F.sa d.a.F.s.length d.a.F.sc, .slice d.a.F.A d.a.F.l.length d.a.F.c, .slice d.A d.l.length d.c] t)) w.heap.size d := by
  have h := D.Blk.new w t #[.int .i64 d.a.N.k, .int .i64 d.a.N.n, .string d.a.N.t, .slice d.a.N.sa d.a.N.s.length d.a.N.sc, .slice d.a.N.A d.a.N.l.length d.a.N.c, .int .i64 d.a.dep, .int .i64 d.a.F.k, .int .i64 d.a.F.n, .string d.a.F.t, .slice d.a.F.sa d.a.F.s.length d.a.F.sc, .slice d.a.F.A d.a.F.l.length d.a.F.c, .slice d.A d.l.length d.c]
  exact ⟨h.cell 0, h.cell 1, h.cell 2, h.cell 3, h.cell 4, h.cell 5, h.cell 6, h.cell 7, h.cell 8, h.cell 9, h.cell 10, h.cell 11⟩
end Ka

/-- Returned: one of the call's own. -/
def RetKa (x : Tr Ka) (w : World) (e : Ending) (w' : World) : Prop := ∃ d : Tr Ka, e = .returned (Ka.val d) ∧ d.er Ka.er = x ∧ Ka.E.Own w.heap.size w'.heap.size w' d ∧ Below w.heap.size w w'
/-- Returned: a list of the call's own. -/
def RetKaL (x : List (Tr Ka)) (w : World) (e : Ending) (w' : World) : Prop := ∃ (A : Option Addr) (c : Nat) (l : List (Tr Ka)), e = .returned (.slice A l.length c) ∧ Tr.erL Ka.er l = x ∧ Ka.E.LOwn w.heap.size w'.heap.size w' A c l ∧ Below w.heap.size w w'
end Go.Proofs.YtnldlbglgalbaabGreat
