/-
  The model's l2HasId over any row of syntax objects; the same asked by the program.
-/
import Derived.Test.YtnldlbglgalbaabGreatGPvD
import Derived.Deep.DeepCutAuto
import Derived.Test.YtnldlbglgalbaabGreatGPvA
import Derived.Test.YtnldlbglgalbaabGreatGPvC
import Derived.Test.YtnldlbglgalbaabGreatGPvB
import Derived.Test.YtnldlbglgalbaabGreatSNode
import Derived.Maps.AppendAt
import Derived.Deep.RegionHeld3
import Derived.Test.YtnldlbglgalbaabGreatSIsS
import Derived.Test.YtnldlbglgalbaabGreatTfProg
namespace Go.Proofs.YtnldlbglgalbaabGreat
open Go.RowKit
namespace S
/-- The model's: whether d's name is among them. -/
def litM (l : List S) (d : S) : Bool := l.any fun x => x.t.toList == d.t.toList && x.s == d.s
theorem litM_eq {l : List S} (hl : ∀ x ∈ l, x.isI = true) {d : S} (hd : d.isI = true) : litM l d = litP l d := by
  unfold litM litP
  have key : ∀ a : List S, (∀ x ∈ a, x.isI = true) → (a.any fun x => x.t.toList == d.t.toList && x.s == d.s) = a.any fun x => S.eqB x d := by
    intro a
    induction a with
    | nil => intro _; rfl
    | cons x r ih =>
      intro h
      have h1 := sameI_eq (e := d) (h x (by simp))
      unfold sameI at h1
      rw [h x (by simp), hd, Bool.true_and, Bool.true_and] at h1
      rw [List.any_cons, List.any_cons, h1, ih fun y hy => h y (by simp [hy])]
  exact key l hl
theorem lits_isI {l : List S} (h : areLits l = true) : ∀ x ∈ l, x.isI = true := by
  unfold areLits at h
  simp only [Bool.and_eq_true, Bool.not_eq_true', List.any_eq_false] at h
  intro x hx
  have := h.2 x hx
  unfold isNoneL at this
  cases hi : x.isI with
  | true => rfl
  | false => rw [hi] at this; simp at this
end S
set_option maxRecDepth 100000 in
set_option maxHeartbeats 2000000 in
theorem l2HasIdL_any (A : Option Addr) (c : Nat) (l : List S) (d : S) (B : Nat) (w : World) (hin : S.Row w B A c l) (hd : d.In w B) (hB : B ≤ w.heap.size) :
    Calls Tryz.prog 69 #[.slice A l.length c, d.val] w fun e w' => e = .returned (.bool (S.litM l d)) ∧ Below w.heap.size w w' := by
  have hcap := hin.cap
  obtain ⟨W1, hW1⟩ : ∃ W1, W1 = w.alloc (.cells #[.int .i64 d.k, .int .i64 d.n, .string d.t, .slice d.sa d.s.length d.sc, .slice d.A d.l.length d.c] 43) := ⟨_, rfl⟩
  have z1 : W1.heap.size = w.heap.size + 1 := by rw [hW1]; simp
  have B1 : Below w.heap.size w W1 := by rw [hW1]; exact (Below.refl _ _).alloc (Nat.le_refl _) _
  have x0 : S.Box W1 w.heap.size d := by rw [hW1]; exact S.Box.new w d _
  unfold S.val
  go_enter Tryz.func69, Tryz.ntmps69
  go_wp2_with fail
  rw [← hW1]
  clear hW1
  go_loopw [9] (fun i wr => ∃ j : Nat, j ≤ l.length ∧ i = .int .i64 j ∧ Hid (∀ x ∈ l.take j, (x.t.toList == d.t.toList && x.s == d.s) = false) ∧ S.Box wr w.heap.size d ∧ w.heap.size < wr.heap.size ∧ Below w.heap.size w wr) (fun i _ => l.length - (intOf i).toNat)
  case atStart => exact ⟨0, Nat.zero_le _, rfl, by simp [Hid], x0, by omega, B1⟩
  case round =>
    obtain ⟨j, hj, rfl, HN, hx, hsz, hb⟩ := hrel
    by_cases hlt : j < l.length
    · obtain ⟨b, o, rfl, hblk, c0, c1, c2, c3, c4, hix⟩ := S.atE ((hin.below (hb.mono hB)).2 (by rintro rfl; simp at hlt)) (i := j) (x := l[j]) (List.getElem?_eq_getElem hlt)
      have g2 : (j : Int) < (l.length : Int) := by omega
      have bA : Below wr.heap.size wr (wr.alloc (.cells #[.int .i64 l[j].k, .int .i64 l[j].n, .string l[j].t, .slice l[j].sa l[j].s.length l[j].sc, .slice l[j].A l[j].l.length l[j].c] 43)) := (Below.refl _ _).alloc (Nat.le_refl _) _
      have y0 := S.Box.new wr l[j] 43
      have xA := hx.below (w' := wr.alloc (.cells #[.int .i64 l[j].k, .int .i64 l[j].n, .string l[j].t, .slice l[j].sa l[j].s.length l[j].sc, .slice l[j].A l[j].l.length l[j].c] 43)) bA hsz
      obtain ⟨a0, a1, a2, a3, a4⟩ := xA
      obtain ⟨d0, d1, d2, d3, d4⟩ := y0
      go_wp2_with fail
      refine (l2Same_any l[j] d B _ (hix.below (bA.mono (by omega))) ((hd.below (hb.mono hB)).below (bA.mono (by omega))) (by simp; omega)).mono ?_
      rintro e w1 ⟨rfl, hb1⟩
      have hb2 : Below wr.heap.size wr w1 := bA.trans (hb1.mono (by simp))
      have hx1 := hx.below hb2 hsz
      have zz := hb2.size
      have hb3 := hb.trans (hb2.mono (by omega))
      clear a0 a1 a2 a3 a4 d0 d1 d2 d3 d4 c0 c1 c2 c3 c4 hb1 hb2 bA hx
      cases hq : (l[j].t.toList == d.t.toList && l[j].s == d.s)
      · have HN2 : Hid (∀ x ∈ l.take (j + 1), (x.t.toList == d.t.toList && x.s == d.s) = false) := none_succ hlt HN.out hq
        clear hq
        go_wp2_with fail
        refine ⟨⟨j + 1, by omega, by go_num, HN2, hx1, by omega, hb3⟩, by simp [intOf]; omega⟩
      · have HY : Hid (S.litM l d = true) := any_yes (p := fun x : S => x.t.toList == d.t.toList && x.s == d.s) hlt hq
        clear hq
        go_wp2_with fail
        go_ret
        exact ⟨ret_bool HY.out.symm, hb3⟩
    · have hj' : j = l.length := by omega
      subst hj'
      have HF : Hid (S.litM l d = false) := any_none (p := fun x : S => x.t.toList == d.t.toList && x.s == d.s) (by have := HN.out; rwa [List.take_length] at this)
      go_wp2_with fail
      go_ret
      exact ⟨ret_bool HF.out.symm, hb⟩
end Go.Proofs.YtnldlbglgalbaabGreat

namespace Go.Proofs.YtnldlbglgalbaabGreat
open Go.RowKit
namespace S
theorem rep_none {a : List S} (h : ∀ x ∈ a, x.isDots = false) : repOf a = -1 := by unfold repOf; rw [fidx_none h]; rfl
theorem rep_one {a b : List S} {y : S} (hy : y.isDots = true) (ha : ∀ x ∈ a, x.isDots = false) (hne : a ≠ []) : repOf (a ++ y :: b) = a.length - 1 := by
  have hl : a.length < (a ++ y :: b).length := by simp
  have e1 : fidx isDots (a ++ y :: b) = a.length := fidx_take hl (by rw [List.take_left]; exact ha) (by simp [hy])
  unfold repOf
  rw [e1, if_neg (by omega)]
theorem rep_neg {a : List S} (h : okDots a = true) (hr : repOf a < 0) : ∀ x ∈ a, x.isDots = false := by
  rcases okDots_cases h with hn | ⟨p, y, q, rfl, hne, hy, hp, _⟩
  · exact hn
  · rw [rep_one hy hp hne] at hr
    have := List.length_pos_iff.2 hne
    omega
theorem okDots_none {a : List S} (h : ∀ x ∈ a, x.isDots = false) : okDots a = true := by
  unfold okDots
  have : a.filter isDots = [] := by rw [List.filter_eq_nil_iff]; intro x hx; simp [h x hx]
  rw [headDots_none h, this]
  rfl
theorem okDots_prefix {a b : List S} (h : okDots (a ++ b) = true) : okDots a = true := by
  cases a with
  | nil => rfl
  | cons x r =>
    unfold okDots at h ⊢
    simp only [Bool.and_eq_true, decide_eq_true_eq] at h ⊢
    refine ⟨h.1, ?_⟩
    rw [List.filter_append, List.length_append] at h
    omega
theorem okDots_snoc {a : List S} {x : S} (h : okDots a = true) (hx : x.isDots = false) : okDots (a ++ [x]) = true := by
  unfold okDots at h ⊢
  simp only [Bool.and_eq_true, decide_eq_true_eq, Bool.not_eq_true'] at h ⊢
  refine ⟨?_, ?_⟩
  · cases a with
    | nil => exact hx
    | cons y r => exact h.1
  · rw [List.filter_append, List.filter_cons_of_neg (by simp [hx])]
    simpa using h.2
theorem okDots_dots {a : List S} {x : S} (h : okDots a = true) (hx : x.isDots = true) (hne : a ≠ []) (hr : repOf a < 0) : okDots (a ++ [x]) = true := by
  have hn := rep_neg h hr
  have e : a.filter isDots = [] := by rw [List.filter_eq_nil_iff]; intro z hz; simp [hn z hz]
  unfold okDots
  rw [List.filter_append, e, List.filter_cons_of_pos hx]
  cases a with
  | nil => exact absurd rfl hne
  | cons y r => simp [headDots, hn y (by simp)]
theorem okDots_bad {a : List S} {x : S} (hx : x.isDots = true) (hr : a = [] ∨ 0 ≤ repOf a) : okDots (a ++ [x]) = false := by
  rcases hr with rfl | hr
  · simp [okDots, headDots, hx]
  · cases h : okDots (a ++ [x]) with
    | false => rfl
    | true =>
      exfalso
      unfold repOf at hr
      split at hr
      · omega
      · rename_i hf
        rcases fidx_find isDots a with ⟨h1, _⟩ | ⟨j, hj, _, hj2⟩
        · exact hf h1
        · have hm := List.mem_of_find?_eq_some hj2
          have hd : a[j].isDots = true := List.find?_some hj2
          unfold okDots at h
          simp only [Bool.and_eq_true, decide_eq_true_eq] at h
          have h2 := h.2
          rw [List.filter_append, List.filter_cons_of_pos hx, List.length_append] at h2
          have := List.length_pos_of_mem (List.mem_filter.2 ⟨hm, hd⟩)
          simp only [List.length_cons, List.filter_nil, List.length_nil] at h2
          omega
theorem rep_snoc {a : List S} {x : S} (h : okDots a = true) (hx : x.isDots = false) : repOf (a ++ [x]) = repOf a := by
  rcases okDots_cases h with hn | ⟨p, y, q, rfl, hne, hy, hp, _⟩
  · rw [rep_none hn, rep_none]
    intro z hz
    rcases List.mem_append.1 hz with hz | hz
    · exact hn z hz
    · simp at hz; subst hz; exact hx
  · rw [List.append_assoc, List.cons_append, rep_one hy hp hne, rep_one hy hp hne]
theorem rep_dots {a : List S} {x : S} (h : okDots a = true) (hx : x.isDots = true) (hne : a ≠ []) (hr : repOf a < 0) : repOf (a ++ [x]) = a.length - 1 := rep_one hx (rep_neg h hr) hne
theorem kept_dots {a : List S} {x : S} (hx : x.isDots = true) : kept (a ++ [x]) = kept a := by
  unfold kept
  rw [List.filter_append, List.filter_cons_of_neg (by simp [hx])]
  simp
theorem kept_snoc {a : List S} {x : S} (hx : x.isDots = false) : kept (a ++ [x]) = kept a ++ [x] := by
  unfold kept
  rw [List.filter_append, List.filter_cons_of_pos (by simp [hx])]
  simp
theorem okVL_append (g : S → Bool) : ∀ a b : List S, okVL g (a ++ b) = (okVL g a && okVL g b)
  | [], b => by simp [okVL]
  | x :: r, b => by rw [List.cons_append, okVL, okVL, okVL_append g r b, Bool.and_assoc]
theorem okVL_step {g : S → Bool} {l : List S} {j : Nat} (h : j < l.length) (ha : okVL g (l.take j) = true) (hx : l[j].isDots = true ∨ okV g l[j] = true) : okVL g (l.take (j + 1)) = true := by
  rw [List.take_succ_eq_append_getElem h, okVL_append, ha]
  simp only [okVL, Bool.true_and, Bool.and_true]
  rcases hx with hx | hx <;> simp [hx]
theorem okVL_bad {g : S → Bool} {l : List S} {j : Nat} (h : j < l.length) (hd : l[j].isDots = false) (hx : okV g l[j] = false) : okVL g l = false := by
  conv => lhs; rw [← List.take_append_drop j l]
  rw [okVL_append, List.drop_eq_getElem_cons h, okVL, hd, hx]
  simp
theorem okDots_badL {l : List S} {j : Nat} (h : j < l.length) (hx : l[j].isDots = true) (hr : j = 0 ∨ 0 ≤ repOf (l.take j)) : okDots l = false := by
  cases hh : okDots l with
  | false => rfl
  | true =>
    exfalso
    have h1 : okDots (l.take (j + 1)) = true := okDots_prefix (a := l.take (j + 1)) (b := l.drop (j + 1)) (by rw [List.take_append_drop]; exact hh)
    rw [List.take_succ_eq_append_getElem h, okDots_bad hx (by rcases hr with rfl | hr; exact .inl (by simp); exact .inr hr)] at h1
    cases h1
end S
end Go.Proofs.YtnldlbglgalbaabGreat

namespace Go.Proofs.YtnldlbglgalbaabGreat
open Go.RowKit
set_option maxRecDepth 100000 in
theorem infoPart : (Tryz.prog.info? 76).map (fun i => (i.zero, i.size, i.bytes)) = some (some .nilIface, 1, 16) := by kernel_rfl
/-- The loop of listPartOf has read j items; its variable lies in block g0. -/
structure LSt (g : S → Bool) (w : World) (B : Nat) (d : S) (g0 j : Nat) (wr : World) (v : Value) (vs : List Value) : Prop where
  ok : S.okDots (d.l.take j) = true
  okv : S.okVL g (d.l.take j) = true
  c0 : wr.cell? ⟨g0, 0, none⟩ = some v
  c1 : wr.cell? ⟨g0, 1, none⟩ = some (.int .i64 (S.repOf (d.l.take j)))
  fr : ∀ o, wr.frozen? ⟨g0, o, none⟩ = false
  row : wr.ownsRow (g0 + 1) 76 1 v vs.length vs
  len : vs.length = (S.kept (d.l.take j)).length
  sub : ∀ i (h : i < vs.length) (h' : i < (S.kept (d.l.take j)).length), S.PartOf g wr B (fun b => g0 < b ∧ b < wr.heap.size ∧ v.ownBlock ≠ some b) (S.kept (d.l.take j))[i] vs[i]
  hb : Below w.heap.size w wr
  lo : w.heap.size ≤ g0
  lt : g0 < wr.heap.size
  hB : B ≤ g0
theorem LSt.below {g : S → Bool} {w : World} {B : Nat} {d : S} {g0 j : Nat} {wr w' : World} {v : Value} {vs : List Value} (h : LSt g w B d g0 j wr v vs) (hb : Below wr.heap.size wr w') : LSt g w B d g0 j w' v vs := by
  have z := hb.size
  have hz := h.hb.size
  have hlt := h.lt
  have hB := h.hB
  refine ⟨h.ok, h.okv, (World.cell?_of_block (hb.block g0 hlt)).trans h.c0, (World.cell?_of_block (hb.block g0 hlt)).trans h.c1, fun o => (World.frozen?_of_block (a := ⟨g0, o, none⟩) (hb.block g0 hlt)).trans (h.fr o), ?_, h.len, fun i h1 h2 => ?_, h.hb.trans (hb.mono hz), h.lo, by omega, hB⟩
  · exact h.row.kept (w' := w') (row := none) ⟨hb.os, hb.tape, hb.output, hb.size, fun k hk _ => hb.block k hk⟩ (by cases v.ownBlock <;> simp)
  · exact (h.sub i h1 h2).keep (fun b hq => hb.block b (by rcases hq with hq | hq; omega; exact hq.2.1)) fun b hq => ⟨hq.1, by have := hq.2.1; omega, hq.2.2⟩
/-- An ellipsis behind an item. -/
theorem LSt.dots {g : S → Bool} {w : World} {B : Nat} {d : S} {g0 j : Nat} {wr : World} {v : Value} {vs : List Value} (h : LSt g w B d g0 j wr v vs) (hj : j < d.l.length) (hx : d.l[j].isDots = true) (h0 : j ≠ 0) (hr : S.repOf (d.l.take j) < 0) :
    LSt g w B d g0 (j + 1) (wr.setCell ⟨g0, 1, none⟩ (.int .i64 ((j : Int) - 1))) v vs := by
  have hlt := h.lt
  have hB := h.hB
  have hlo := h.lo
  have e := List.take_succ_eq_append_getElem hj
  have hl : (d.l.take j).length = j := by rw [List.length_take]; omega
  have hne : d.l.take j ≠ [] := by intro e0; rw [e0] at hl; exact h0 (by simpa using hl.symm)
  have hob : v.ownBlock ≠ some g0 := fun e0 => by have := (h.row.lt g0 e0).1; omega
  have hk : ∀ b, b ≠ g0 → (wr.setCell ⟨g0, 1, none⟩ (.int .i64 ((j : Int) - 1))).heap[b]? = wr.heap[b]? := fun b hb => Below.heap_setCell _ _ _ _ hb
  have hrow := h.row.kept (w' := wr.setCell ⟨g0, 1, none⟩ (.int .i64 ((j : Int) - 1))) (row := some g0) ⟨rfl, rfl, rfl, by simp, fun k _ hkr => hk k (fun e => hkr (by rw [e]))⟩ (.inr hob)
  refine ⟨by rw [e]; exact S.okDots_dots h.ok hx hne hr, S.okVL_step hj h.okv (.inl hx), ?_, ?_, fun o => by rw [World.frozen?_setCell]; exact h.fr o, hrow, by rw [e, S.kept_dots hx]; exact h.len, ?_, h.hb.setCell hlo _, hlo, by simpa using hlt, hB⟩
  · rw [World.cell?_setCell_other _ _ _ _ (by intro e; simp at e)]; exact h.c0
  · rw [e, S.rep_dots h.ok hx hne hr, hl]; exact World.cell?_setCell_same _ _ _ h.c1
  · rw [e, S.kept_dots hx]
    intro i h1 h2
    refine (h.sub i h1 h2).keep (fun b hq => hk b (by rcases hq with hq | hq; omega; have := hq.1; omega)) fun b hq => ⟨hq.1, by simpa using hq.2.1, hq.2.2⟩
/-- An item has been read. -/
theorem LSt.snoc {g : S → Bool} {w : World} {B : Nat} {d : S} {g0 j : Nat} {wr w2 w3 w4 : World} {v v' v1 : Value} {vs : List Value} (h : LSt g w B d g0 j wr v vs) (hj : j < d.l.length) (hx : d.l[j].isDots = false) (hok : S.okV g d.l[j] = true)
    (hb2 : Below wr.heap.size wr w2) (hP : S.PartOf g w2 B (fun b => wr.heap.size ≤ b ∧ b < w2.heap.size) d.l[j] v1) (hb3 : Below w2.heap.size w2 w3)
    (hrow : w4.ownsRow (g0 + 1) 76 1 v' (vs.length + 1) (vs ++ [v1])) (hgr : w3.grownBy w4 v.ownBlock) (hat : v'.ownBlock = v.ownBlock ∨ v'.ownBlock = some w3.heap.size) :
    LSt g w B d g0 (j + 1) (w4.setCell ⟨g0, 0, none⟩ v') v' (vs ++ [v1]) := by
  have H3 := (h.below hb2).below hb3
  have hlt := H3.lt
  have hB := h.hB
  have hlo := h.lo
  have z2 := hb2.size
  have z3 := hb3.size
  have z4 := hgr.size
  have e := List.take_succ_eq_append_getElem hj
  have hob : v.ownBlock ≠ some g0 := fun e0 => by have := (H3.row.lt g0 e0).1; omega
  have hob' : v'.ownBlock ≠ some g0 := fun e0 => by have := (hrow.lt g0 e0).1; omega
  have hk : ∀ b, b ≠ g0 → (w4.setCell ⟨g0, 0, none⟩ v').heap[b]? = w4.heap[b]? := fun b hb => Below.heap_setCell _ _ _ _ hb
  have hg4 : w4.heap[g0]? = w3.heap[g0]? := hgr.block g0 hlt (fun e => hob e.symm)
  have hrow5 := hrow.kept (w' := w4.setCell ⟨g0, 0, none⟩ v') (row := some g0) ⟨rfl, rfl, rfl, by simp, fun k _ hkr => hk k (fun e => hkr (by rw [e]))⟩ (.inr hob')
  have hc0 : w4.cell? ⟨g0, 0, none⟩ = some v := (World.cell?_of_block hg4).trans H3.c0
  have hc1 : w4.cell? ⟨g0, 1, none⟩ = some (.int .i64 (S.repOf (d.l.take j))) := (World.cell?_of_block hg4).trans H3.c1
  have hQ : ∀ b, b < w3.heap.size → v.ownBlock ≠ some b → v'.ownBlock ≠ some b := by
    intro b hb hn e
    rcases hat with e2 | e2
    · exact hn (e2 ▸ e)
    · rw [e2] at e
      have := Option.some.inj e
      omega
  have h45 : ∀ b, b < w3.heap.size → b ≠ g0 → v.ownBlock ≠ some b → (w4.setCell ⟨g0, 0, none⟩ v').heap[b]? = w3.heap[b]? := fun b hb hn ho => (hk b hn).trans (hgr.block b hb (fun e => ho e.symm))
  refine ⟨by rw [e]; exact S.okDots_snoc h.ok hx, S.okVL_step hj h.okv (.inr hok), World.cell?_setCell_same _ _ _ hc0, ?_, fun o => by rw [World.frozen?_setCell]; exact (World.frozen?_of_block (a := ⟨g0, o, none⟩) hg4).trans (H3.fr o), by rw [List.length_append]; exact hrow5, ?_, ?_, ?_, hlo, by simp; omega, hB⟩
  · rw [World.cell?_setCell_other _ _ _ _ (by intro e; simp at e), e, S.rep_snoc h.ok hx]; exact hc1
  · rw [e, S.kept_snoc hx, List.length_append, List.length_append, h.len]; rfl
  · rw [e, S.kept_snoc hx]
    intro i h1 h2
    by_cases hi : i < vs.length
    · have hi2 : i < (S.kept (d.l.take j)).length := by rw [← h.len]; exact hi
      rw [List.getElem_append_left hi, List.getElem_append_left hi2]
      refine (H3.sub i hi hi2).keep (fun b hq => ?_) fun b hq => ⟨hq.1, by simp; have := hq.2.1; omega, hQ b hq.2.1 hq.2.2⟩
      rcases hq with hq | hq
      · have hbo : v.ownBlock ≠ some b := fun e0 => by have := (H3.row.lt b e0).1; omega
        exact h45 b (by omega) (by omega) hbo
      · exact h45 b hq.2.1 (by have := hq.1; omega) hq.2.2
    · have hi1 : i = vs.length := by simp at h1; omega
      subst hi1
      have e1 : (vs ++ [v1])[vs.length] = v1 := by simp
      have e2 : (S.kept (d.l.take j) ++ [d.l[j]])[vs.length] = d.l[j] := by
        rw [List.getElem_append_right (by rw [h.len]; exact Nat.le_refl _)]
        simp
      rw [e1, e2]
      have hnew : ∀ b, wr.heap.size ≤ b → v.ownBlock ≠ some b := fun b hb e0 => by have := (h.row.lt b e0).2; omega
      have hlt0 := h.lt
      refine ((hP.keep (w' := w3) (Q' := fun b => wr.heap.size ≤ b ∧ b < w2.heap.size) (fun b hq => hb3.block b (by rcases hq with hq | hq; omega; exact hq.2)) fun _ h => h)).keep (fun b hq => ?_) fun b hq => ⟨by have := hq.1; omega, by simp; have := hq.2; omega, hQ b (by have := hq.2; omega) (hnew b hq.1)⟩
      rcases hq with hq | hq
      · have hbo : v.ownBlock ≠ some b := fun e0 => by have := (H3.row.lt b e0).1; omega
        exact h45 b (by omega) (by omega) hbo
      · exact h45 b (by have := hq.2; omega) (by have := hq.1; omega) (hnew b hq.1)
  · have : Below w.heap.size w w4 := H3.hb.grown hgr H3.hb.size (fun k hk => by have := (H3.row.lt k hk).1; omega)
    exact this.setCell hlo _
end Go.Proofs.YtnldlbglgalbaabGreat

namespace Go.Proofs.YtnldlbglgalbaabGreat
open Go.RowKit
theorem LSt.fin {g : S → Bool} {w : World} {B : Nat} {d : S} {g0 j : Nat} {wr : World} {v : Value} {vs : List Value} (h : LSt g w B d g0 j wr v vs) (hj : d.l.length ≤ j) (hk : d.k = 0) :
    S.okDots d.l = true ∧ S.okVL g d.l = true ∧ S.PartOf g wr B (fun b => w.heap.size ≤ b ∧ b < wr.heap.size) d (.iface 165 (.agg #[v, .int .i64 (S.repOf (d.l.take j))])) := by
  have ht : d.l.take j = d.l := List.take_of_length_le hj
  obtain ⟨ok, okv, c0, c1, fr, row, len, sub, hb, lo, lt, hB⟩ := h
  rw [ht] at ok okv len sub ⊢
  refine ⟨ok, okv, ?_⟩
  have hz := hb.size
  have hsub : ∀ i (h : i < vs.length) (h' : i < (S.kept d.l).length), S.PartOf g wr B (fun b => w.heap.size ≤ b ∧ b < wr.heap.size) (S.kept d.l)[i] vs[i] := fun i h1 h2 => (sub i h1 h2).keep (fun _ _ => rfl) fun b hq => ⟨by have := hq.1; omega, hq.2.1⟩
  rcases row.2 with ⟨rfl, h0⟩ | ⟨q, cap, cur, rfl, hq, hg, hn, hc, hs, htk⟩
  · have e : vs = [] := List.length_eq_zero_iff.1 h0
    subst e
    exact .list (A := none) (c := 0) (vs := []) hk ok len ⟨Nat.le_refl _, by omega⟩ (fun j h => by simp at h) hsub
  · refine .list (A := some ⟨q, 0, none⟩) (c := cap) (vs := vs) hk ok len ⟨hn, hc⟩ (fun i h => ?_) hsub
    have hqs : q < wr.heap.size := (Array.getElem?_eq_some_iff.1 hg).1
    refine ⟨q, 0, rfl, ⟨by omega, hqs⟩, ?_⟩
    rw [cell_of_row wr q (0 + i) cur _ (0, 0) hg, Nat.zero_add]
    have h1 : (cur.toList.take (vs.length * 1))[i]? = some vs[i] := by rw [htk]; exact List.getElem?_eq_getElem h
    rw [List.getElem?_take] at h1
    split at h1
    · simpa using h1
    · cases h1
theorem S.PartOf.iface {g : S → Bool} {w : World} {B : Nat} {Q : Nat → Prop} {d : S} {v : Value} (h : S.PartOf g w B Q d v) : ∃ T x, v = .iface T x := by
  cases h <;> exact ⟨_, _, rfl⟩
theorem news_one {w : World} {u : Value} (t : TypeId) : ∀ j x, [u][j]? = some x → (w.alloc (.cells #[u] t)).cell? ((⟨w.heap.size, 0, none⟩ : Addr).add j) = some x := by
  intro j x hx
  match j, hx with
  | 0, hx =>
    simp at hx
    subst hx
    simp [Addr.add, go_sem]
  | j + 1, hx => simp at hx
theorem S.bulk_get {d : S} {j : Nat} (h : j < d.l.length) : d.l[j].bulk ≤ d.bulk := by
  have h1 := S.bulkL_get d.l j h
  have h2 : S.bulkL d.l ≤ d.bulk := by
    obtain ⟨k, n, t, sa, sc, s, A, c, l⟩ := d
    show S.bulkL l ≤ t.size + (s.length + S.bulkL l)
    omega
  omega
theorem owns_slice {w : World} {base : Nat} {t : TypeId} {size n : Nat} {v : Value} {xs : List Value} (h : w.ownsRow base t size v n xs) : ∃ A c, v = .slice A n c := by
  rcases h.2 with ⟨rfl, h0⟩ | ⟨q, cap, cur, rfl, _⟩
  · exact ⟨none, 0, by rw [h0]⟩
  · exact ⟨_, _, rfl⟩
def PartRet (g : S → Bool) (d : S) (B : Nat) (w : World) (e : Ending) (w' : World) : Prop :=
  ∃ v, e = .returned (.tuple #[v, .bool (S.okV g d)]) ∧ Below w.heap.size w w' ∧ (S.okV g d = true → S.PartOf g w' B (fun b => w.heap.size ≤ b ∧ b < w'.heap.size) d v)
def PartOk (lits : List S) (LA : Option Addr) (Lc : Nat) (m : Nat) : Prop := ∀ (d : S) (B : Nat) (w : World), d.size ≤ m → d.size ≤ 2000000 → d.bulk ≤ 2000000 → S.Row w B LA Lc lits → d.In w B → B ≤ w.heap.size →
  Calls Tryz.prog 81 #[.slice LA lits.length Lc, d.val] w (PartRet (S.litP lits) d B w)

set_option maxRecDepth 100000 in
set_option maxHeartbeats 4000000 in
theorem listPart_any (lits : List S) (LA : Option Addr) (Lc m : Nat) (ih : PartOk lits LA Lc m) (d : S) (B : Nat) (w : World) (hm : d.size ≤ m + 1) (hs : d.size ≤ 2000000) (hbk : d.bulk ≤ 2000000) (hL : S.Row w B LA Lc lits) (hd : d.In w B) (hB : B ≤ w.heap.size) (hk : d.k = 0) :
    Calls Tryz.prog 115 #[.slice LA lits.length Lc, .slice d.A d.l.length d.c] w (fun e w' => ∃ v, e = .returned (.tuple #[v, .bool (S.okDots d.l && S.okVL (S.litP lits) d.l)]) ∧ Below w.heap.size w w' ∧ ((S.okDots d.l && S.okVL (S.litP lits) d.l) = true → S.PartOf (S.litP lits) w' B (fun b => w.heap.size ≤ b ∧ b < w'.heap.size) d v)) := by
  obtain ⟨i0, hi, hz0, hz1, hz2⟩ := info_parts infoPart
  have hll : d.l.length ≤ 2000000 := by have := S.length_le_sizeL d.l; have := S.size_eq d; omega
  have hcd := hd.cap
  have HK := Lib.hid hk
  clear hk
  obtain ⟨g, hg⟩ : ∃ g, g = S.litP lits := ⟨_, rfl⟩
  unfold PartOk at ih
  rw [← hg] at ih ⊢
  clear hg
  obtain ⟨OK, hOK⟩ : ∃ z, z = (S.okDots d.l && S.okVL g d.l) := ⟨_, rfl⟩
  rw [← hOK]
  have HK0 := Lib.hid hOK
  clear hOK
  obtain ⟨W1, hW1⟩ : ∃ W1, W1 = w.alloc (.cells #[.slice none 0 0, .int .i64 (-1)] 165) := ⟨_, rfl⟩
  have X1 : D.Blk W1 w.heap.size 165 #[.slice none 0 0, .int .i64 (-1)] := by rw [hW1]; exact D.Blk.new _ _ _
  have L0 : LSt g w B d w.heap.size 0 W1 (.slice none 0 0) [] := by
    have b1 : Below w.heap.size w W1 := by rw [hW1]; exact (Below.refl _ _).alloc (Nat.le_refl _) _
    have z1 : W1.heap.size = w.heap.size + 1 := by rw [hW1]; simp
    exact ⟨rfl, rfl, X1.cell 0, X1.cell 1, fun o => X1.frozen o, World.ownsRow_nil _ _ _ _, rfl, fun i h => by simp at h, b1, Nat.le_refl _, by omega, hB⟩
  clear X1
  obtain ⟨g0, hg0⟩ : ∃ g0, g0 = w.heap.size := ⟨_, rfl⟩
  rw [← hg0] at L0
  go_enter Tryz.func115, Tryz.ntmps115
  go_upto_region 2 with fail
  rw [← hW1, ← hg0]
  clear hW1 hg0
  go_wp2_with fail
  go_loopw [14] (fun i wr => ∃ (j : Nat) (v : Value) (vs : List Value), j ≤ d.l.length ∧ i = .int .i64 j ∧ LSt g w B d g0 j wr v vs) (fun i _ => d.l.length - (intOf i).toNat)
  case atStart => exact ⟨0, _, _, Nat.zero_le _, rfl, L0⟩
  case round =>
    clear L0
    obtain ⟨j, v, vs, hj, rfl, L⟩ := hrel
    have hb := L.hb
    have hs2 := hb.size
    have hlt0 := L.lt
    have hlo := L.lo
    by_cases hlt : j < d.l.length
    · obtain ⟨b, o, hA, hblk, c0, c1, c2, c3, c4, hix⟩ := (hd.below (hb.mono hB)).at_ (i := j) (x := d.l[j]) (List.getElem?_eq_getElem hlt)
      have hsz := S.size_item (d := d) (x := d.l[j]) (List.getElem_mem hlt)
      have hbi := S.bulk_get hlt
      have g1 : (j : Int) < (d.l.length : Int) := by omega
      rw [hA]
      clear hA
      obtain ⟨W2, hW2⟩ : ∃ W2, W2 = wr.alloc (.cells #[.int .i64 d.l[j].k, .int .i64 d.l[j].n, .string d.l[j].t, .slice d.l[j].sa d.l[j].s.length d.l[j].sc, .slice d.l[j].A d.l[j].l.length d.l[j].c] 43) := ⟨_, rfl⟩
      have hb2 : Below wr.heap.size wr W2 := by rw [hW2]; exact (Below.refl _ _).alloc (Nat.le_refl _) _
      have z2 : W2.heap.size = wr.heap.size + 1 := by rw [hW2]; simp
      have Y2 : S.Box W2 wr.heap.size d.l[j] := by rw [hW2]; exact S.Box.new _ _ _
      have hi2 := hix.below (hb2.mono (by omega))
      have L2 := L.below hb2
      go_upto_region 5 with fail
      rw [← hW2]
      clear hW2 c0 c1 c2 c3 c4 L hb
      have Y2q := Y2
      obtain ⟨y0, y1, y2, y3, y4⟩ := Y2q
      have hc1 := implDots_any d.l[j] W2
      unfold S.val at hc1
      go_wp2_with fail
      clear y0 y1 y2 y3 y4
      cases q1 : d.l[j].isDots
      · rw [q1] at hc1
        have HQ := Lib.hid q1
        clear q1
        (with_reducible refine hc1.mono ?_)
        clear hc1
        rintro e w3 ⟨rfl, hb3⟩
        have z3 := hb3.size
        have L3 := L2.below hb3
        clear L2
        have hi3 := hi2.below (hb3.mono (by omega))
        obtain ⟨y0, y1, y2, y3, y4⟩ := Y2.below hb3 (by omega)
        have hcp := ih d.l[j] B w3 (by omega) (by omega) (by omega) (hL.below (L3.hb.mono hB)) hi3 (by omega)
        unfold S.val at hcp
        go_wp2_with fail
        clear y0 y1 y2 y3 y4
        (with_reducible refine hcp.mono ?_)
        clear hcp
        rintro e w4 ⟨v1, rfl, hb4, hP⟩
        have z4 := hb4.size
        have hbw := L3.hb.trans (hb4.mono (by omega))
        cases q2 : S.okV g d.l[j]
        · have HF : Hid (OK = false) := by show _ = _; rw [HK0.out, S.okVL_bad hlt HQ.out q2]; simp
          clear q2 hP
          go_wp2_with fail
          go_ret2
          exact ⟨.nilIface, by rw [HF.out]; rfl, hbw, fun h => by rw [HF.out] at h; cases h⟩
        · have HO := Lib.hid q2
          have HP := Lib.hid (hP q2)
          clear hP q2
          obtain ⟨T1, x1, rfl⟩ := HP.out.iface
          have L4 := L3.below hb4
          have L5 : LSt g w B d g0 j (w4.alloc (.cells #[.iface T1 x1] 76)) v vs := L4.below ((Below.refl _ _).alloc (Nat.le_refl _) _)
          have hrow5 := L5.row
          have k0 := L4.c0
          have hvl : vs.length ≤ 2000000 := by
            have h1 := L3.len
            have h2 : (S.kept (d.l.take j)).length ≤ (d.l.take j).length := List.length_filter_le _ _
            have h3 : (d.l.take j).length ≤ j := by rw [List.length_take]; omega
            omega
          have hg0 := L5.lt
          go_wp2_with (at_builtin; refine wpList_append_own_at _ rfl _ _ 163 rfl (g0 + 1) 76 i0 _ 1 16 Tryz.underlying163 hi hz0 hz1 hz2 rfl (by decide) _ vs.length vs rfl hrow5 ⟨w4.heap.size, 0, none⟩ 1 1 [.iface T1 x1] rfl rfl (news_one _) (by simp [Value.oneCell']) (by unfold maxLen; omega) (by omega) (by omega) ?_)
          intro v' w6 hown' hgr _ hat
          have hob : v.ownBlock ≠ some g0 := fun e0 => by have := (hrow5.lt g0 e0).1; omega
          have hg6 := hgr.block g0 hg0 (fun e => hob e.symm)
          have f6 : w6.frozen? ⟨g0, 0, none⟩ = false := (World.frozen?_of_block (a := ⟨g0, 0, none⟩) hg6).trans (L5.fr 0)
          have k6 : w6.cell? ⟨g0, 0, none⟩ = some v := (World.cell?_of_block (a := ⟨g0, 0, none⟩) hg6).trans L5.c0
          have L6 := L3.snoc hlt HQ.out HO.out hb4 HP.out ((Below.refl _ _).alloc (Nat.le_refl _) _) hown' hgr (by simpa using hat)
          obtain ⟨A6, c6, rfl⟩ := owns_slice hown'
          clear hown' hgr hat hrow5 L5 L4 L3 hg6 k0 HP
          go_wp2_with fail
          exact ⟨⟨j + 1, _, vs ++ [.iface T1 x1], by omega, by go_num, L6⟩, by simp [intOf]; omega⟩
      · rw [q1] at hc1
        have HQ := Lib.hid q1
        clear q1
        (with_reducible refine hc1.mono ?_)
        clear hc1
        rintro e w3 ⟨rfl, hb3⟩
        have z3 := hb3.size
        have L3 := L2.below hb3
        clear L2
        have hbw := L3.hb
        by_cases h0 : j = 0
        · have HF : Hid (OK = false) := by show _ = _; rw [HK0.out, S.okDots_badL hlt HQ.out (.inl h0)]; rfl
          have g2 : ((j : Int) == 0) = true := by simp [h0]
          clear h0
          go_wp2_with fail
          go_ret2
          exact ⟨.nilIface, by rw [HF.out]; rfl, hbw, fun h => by rw [HF.out] at h; cases h⟩
        · have g2 : ((j : Int) == 0) = false := by simp [h0]
          by_cases hr : 0 ≤ S.repOf (d.l.take j)
          · have HF : Hid (OK = false) := by show _ = _; rw [HK0.out, S.okDots_badL hlt HQ.out (.inr hr)]; rfl
            have k1 := L3.c1
            go_wp2_with fail
            go_ret2
            exact ⟨.nilIface, by rw [HF.out]; rfl, hbw, fun h => by rw [HF.out] at h; cases h⟩
          · have k1 := L3.c1
            have f1 := L3.fr 1
            have hw : wrap64 ((j : Int) - 1) = (j : Int) - 1 := by unfold wrap64; omega
            have L6 := L3.dots hlt HQ.out h0 (by omega)
            have H0 := Lib.hid h0
            clear L3 h0
            go_wp2_with fail
            exact ⟨⟨j + 1, v, vs, by omega, by go_num, L6⟩, by simp [intOf]; omega⟩
    · have hj' : d.l.length ≤ j := by omega
      obtain ⟨f1, f2, f3⟩ := L.fin hj' HK.out
      have k0 := L.c0
      have k1 := L.c1
      have HF : Hid (OK = true) := by show _ = _; rw [HK0.out, f1, f2]; rfl
      have HP := Lib.hid f3
      clear f1 f2 f3 L
      have g1 : ¬ (j : Int) < (d.l.length : Int) := by omega
      go_wp2_with fail
      go_ret2
      exact ⟨_, by rw [HF.out]; rfl, hb, fun _ => HP.out⟩
end Go.Proofs.YtnldlbglgalbaabGreat

namespace Go.Proofs.YtnldlbglgalbaabGreat
open Go.RowKit
set_option maxRecDepth 100000 in
set_option maxHeartbeats 8000000 in
theorem partOf_any (lits : List S) (LA : Option Addr) (Lc : Nat) (hls : ∀ x ∈ lits, x.size ≤ 2000000) : ∀ m, PartOk lits LA Lc m := by
  intro m
  induction m with
  | zero =>
    intro d B w hm
    have := S.size_pos d
    omega
  | succ m ih =>
  intro d B w hm hs hbk hL hd hB
  have HM : Hid (S.okV (S.litP lits) d = if d.k = 1 then (d.isWild || S.litP lits d || !d.isDots) else if d.k = 0 then (S.okDots d.l && S.okVL (S.litP lits) d.l) else true) := S.okV_eq _ _
  obtain ⟨OK, hOK⟩ : ∃ z, z = S.okV (S.litP lits) d := ⟨_, rfl⟩
  unfold PartRet
  rw [← hOK] at HM ⊢
  clear hOK
  obtain ⟨W1, hW1⟩ : ∃ W1, W1 = w.alloc (.cells #[.int .i64 d.k, .int .i64 d.n, .string d.t, .slice d.sa d.s.length d.sc, .slice d.A d.l.length d.c] 43) := ⟨_, rfl⟩
  have b1 : Below w.heap.size w W1 := by rw [hW1]; exact (Below.refl _ _).alloc (Nat.le_refl _) _
  have z1 : W1.heap.size = w.heap.size + 1 := by rw [hW1]; simp
  have X1 : S.Box W1 w.heap.size d := by rw [hW1]; exact S.Box.new _ _ _
  have hL1 := hL.below (b1.mono hB)
  have hd1 := hd.below (b1.mono hB)
  by_cases h0 : d.k = 0
  · have e0 : (d.k == 0) = true := by simp [h0]
    have hc := listPart_any lits LA Lc m ih d B W1 hm hs hbk hL1 hd1 (by omega) h0
    obtain ⟨OK2, hOK2⟩ : ∃ z, z = (S.okDots d.l && S.okVL (S.litP lits) d.l) := ⟨_, rfl⟩
    rw [← hOK2] at hc
    have HQ : Hid (OK = OK2) := by show _ = _; rw [HM.out, if_neg (by omega), if_pos h0, ← hOK2]
    clear h0 hOK2
    unfold S.val
    go_enter Tryz.func81, Tryz.ntmps81
    go_upto_region 1 with fail
    rw [← hW1]
    clear hW1
    obtain ⟨x0, x1, x2, x3, x4⟩ := X1
    go_wp2_with fail
    clear x0 x1 x2 x3 x4
    (with_reducible refine hc.mono ?_)
    clear hc
    rintro e w2 ⟨v, rfl, hb2, hP⟩
    have z2 := hb2.size
    have HP := Lib.hid hP
    clear hP
    go_wp2_with fail
    go_ret2
    exact ⟨v, by rw [HQ.out]; rfl, b1.trans (hb2.mono (by omega)), fun h => (HP.out (by rw [← HQ.out]; exact h)).keep (fun _ _ => rfl) fun b hq => ⟨by have := hq.1; omega, hq.2⟩⟩
  · have e0 : (d.k == 0) = false := by simpa using h0
    by_cases h1 : d.k = 1
    · have e1 : (d.k != 1) = false := by simp [h1]
      have e2 : (d.k == 1) = true := by simp [h1]
      have H1 := Lib.hid h1
      have HM2 : Hid (OK = (d.isWild || S.litP lits d || !d.isDots)) := by show _ = _; rw [HM.out, if_pos h1]
      have hc := implWild_any d W1
      clear h1 h0 ih
      unfold S.val at hc ⊢
      go_enter Tryz.func81, Tryz.ntmps81
      go_upto_region 1 with fail
      rw [← hW1]
      clear hW1
      have X1q := X1
      obtain ⟨x0, x1, x2, x3, x4⟩ := X1q
      go_wp2_with fail
      clear x0 x1 x2 x3 x4
      cases q1 : d.isWild
      · rw [q1] at hc
        have HQ1 := Lib.hid q1
        clear q1
        (with_reducible refine hc.mono ?_)
        clear hc
        rintro e w2 ⟨rfl, hb2⟩
        have z2 := hb2.size
        have b2 := b1.trans (hb2.mono (by omega))
        have X2 := X1.below hb2 (by omega)
        have hcl := conLit_any LA Lc lits d w.heap.size B w2 (hL.below (b2.mono hB)) (by omega) (hd.below (b2.mono hB)) X2 (by omega) hls
        go_wp2_with fail
        cases q2 : S.litP lits d
        · rw [q2] at hcl
          have HQ2 := Lib.hid q2
          clear q2
          (with_reducible refine hcl.mono ?_)
          clear hcl
          rintro e w3 ⟨rfl, hb3⟩
          have z3 := hb3.size
          have b3 := b2.trans (hb3.mono (by omega))
          have X3 := X2.below hb3 (by omega)
          have lx3 : w.heap.size < w3.heap.size := by omega
          have hP3 := fun (w' : World) (h : Below w.heap.size w w') (Q : Nat → Prop) => S.PartOf.var (g := S.litP lits) (w := w') (B := B) (Q := Q) H1.out HQ1.out HQ2.out (hd.below (h.mono hB)) hs hbk
          obtain ⟨W, hW⟩ : ∃ W, W = w3 := ⟨_, rfl⟩
          rw [← hW] at X3 b3 z3 lx3 ⊢
          clear hW
          obtain ⟨r0, r1, r2, r3, r4⟩ := X3
          have x0 := r0
          have x1 := r1
          have x2 := r2
          have x3 := r3
          have x4 := r4
          have lx := lx3
          have tok0 : True := trivial
          go_wp2_with fail
          go_region_held3 (fun w' => w'.cell? ⟨w.heap.size, 0, none⟩ = some (.int .i64 d.k) ∧ w'.cell? ⟨w.heap.size, 1, none⟩ = some (.int .i64 d.n) ∧ w'.cell? ⟨w.heap.size, 2, none⟩ = some (.string d.t) ∧ w'.cell? ⟨w.heap.size, 3, none⟩ = some (.slice d.sa d.s.length d.sc) ∧ w'.cell? ⟨w.heap.size, 4, none⟩ = some (.slice d.A d.l.length d.c)) (go_keep) (first
            | (go_at_call 76; have _t := tok0; have hcd := implDots_any d W.drew; unfold S.val at hcd; obtain ⟨DT, hDT⟩ : ∃ z, z = d.isDots := ⟨_, rfl⟩; rw [← hDT] at hcd; have HDT := Lib.hid hDT; clear hDT; refine hcd.mono ?_; clear hcd; rintro e w4 ⟨rfl, hk4⟩; clear tok0; have hh4 : Below W.heap.size W w4 := below_undrew hk4; have y4 := hh4.size; have x0 := (hh4.cell (p := ⟨w.heap.size, 0, none⟩) lx).trans r0; have x1 := (hh4.cell (p := ⟨w.heap.size, 1, none⟩) lx).trans r1; have x2 := (hh4.cell (p := ⟨w.heap.size, 2, none⟩) lx).trans r2; have x3 := (hh4.cell (p := ⟨w.heap.size, 3, none⟩) lx).trans r3; have x4 := (hh4.cell (p := ⟨w.heap.size, 4, none⟩) lx).trans r4)
            | fail)
          all_goals go_wp2_with fail
          all_goals go_ret2
          all_goals exact ⟨_, by rw [HM2.out, HQ1.out, HQ2.out, ← HDT.out]; rfl, b3.trans (hh4.mono (by omega)), fun _ => hP3 _ (b3.trans (hh4.mono (by omega))) _⟩
        · rw [q2] at hcl
          have HQ : Hid (OK = true) := by show _ = _; rw [HM2.out, q2]; simp
          have HQ2 := Lib.hid q2
          clear q2
          (with_reducible refine hcl.mono ?_)
          clear hcl
          rintro e w3 ⟨rfl, hb3⟩
          have z3 := hb3.size
          obtain ⟨x0, x1, x2, x3, x4⟩ := X2.below hb3 (by omega)
          go_wp2_with fail
          go_ret2
          exact ⟨_, by rw [HQ.out]; rfl, b2.trans (hb3.mono (by omega)), fun _ => .lit H1.out HQ1.out HQ2.out⟩
      · rw [q1] at hc
        have HQ : Hid (OK = true) := by show _ = _; rw [HM2.out, q1]; rfl
        have HQ1 := Lib.hid q1
        clear q1
        (with_reducible refine hc.mono ?_)
        clear hc
        rintro e w2 ⟨rfl, hb2⟩
        go_wp2_with fail
        go_ret2
        exact ⟨_, by rw [HQ.out]; rfl, b1.trans (hb2.mono (by omega)), fun _ => .wild H1.out HQ1.out⟩
    · have e1 : (d.k != 1) = true := by simpa using h1
      have HQ : Hid (OK = true) := by show _ = _; rw [HM.out, if_neg h1, if_neg h0]
      have H0 := Lib.hid h0
      have H1 := Lib.hid h1
      have hc := nodeDatum_any d.k d.n d.t d.sa d.sc d.s.length d.A d.c d.l.length W1
      clear h1 h0 ih
      unfold S.val
      go_enter Tryz.func81, Tryz.ntmps81
      go_upto_region 1 with fail
      rw [← hW1]
      clear hW1
      obtain ⟨x0, x1, x2, x3, x4⟩ := X1
      go_wp2_with fail
      clear x0 x1 x2 x3 x4
      (with_reducible refine hc.mono ?_)
      clear hc
      rintro e w2 ⟨rfl, hb2⟩
      go_wp2_with fail
      go_ret2
      exact ⟨_, by rw [HQ.out]; rfl, b1.trans (hb2.mono (by omega)), fun _ => .con H1.out H0.out (.mk d.k d.n d.t none 0 [])⟩
end Go.Proofs.YtnldlbglgalbaabGreat

namespace Go.Proofs.YtnldlbglgalbaabGreat
open Go.RowKit
namespace S
/-- Whether the variables of a pattern can be told. -/
def patOk (lits : List S) (d : S) : Bool := areLits lits && (d.isS && (okV (litP lits) d && areP (varsV (litP lits) d)))
end S
def ReadRet (lits : List S) (d : S) (B : Nat) (w : World) (e : Ending) (w' : World) : Prop :=
  ∃ v, e = .returned (.tuple #[v, .bool (S.patOk lits d)]) ∧ Below w.heap.size w w' ∧ (S.patOk lits d = true → S.PartOf (S.litP lits) w' B (fun b => w.heap.size ≤ b ∧ b < w'.heap.size) d v)

set_option maxRecDepth 100000 in
set_option maxHeartbeats 8000000 in
theorem readPattern_any (lits : List S) (LA : Option Addr) (Lc : Nat) (hls : ∀ x ∈ lits, x.size ≤ 2000000) (d : S) (B : Nat) (w : World) (hs : d.size ≤ 2000000) (hbk : d.bulk ≤ 2000000) (hL : S.Row w B LA Lc lits) (hd : d.In w B) (hB : B ≤ w.heap.size) :
    Calls Tryz.prog 41 #[.slice LA lits.length Lc, d.val] w (ReadRet lits d B w) := by
  have HM : Hid (S.patOk lits d = (S.areLits lits && (d.isS && (S.okV (S.litP lits) d && S.areP (S.varsV (S.litP lits) d))))) := rfl
  obtain ⟨OK, hOK⟩ : ∃ z, z = S.patOk lits d := ⟨_, rfl⟩
  unfold ReadRet
  rw [← hOK] at HM ⊢
  clear hOK
  obtain ⟨W1, hW1⟩ : ∃ W1, W1 = w.alloc (.cells #[.int .i64 d.k, .int .i64 d.n, .string d.t, .slice d.sa d.s.length d.sc, .slice d.A d.l.length d.c] 43) := ⟨_, rfl⟩
  have b1 : Below w.heap.size w W1 := by rw [hW1]; exact (Below.refl _ _).alloc (Nat.le_refl _) _
  have z1 : W1.heap.size = w.heap.size + 1 := by rw [hW1]; simp
  have X1 : S.Box W1 w.heap.size d := by rw [hW1]; exact S.Box.new _ _ _
  have hc1 := areLits_any LA Lc lits B W1 (hL.below (b1.mono hB)) (by omega)
  unfold S.val
  go_enter Tryz.func41, Tryz.ntmps41
  go_upto_region 1 with fail
  rw [← hW1]
  clear hW1
  go_wp2_with fail
  cases q1 : S.areLits lits
  · rw [q1] at hc1
    have HQ : Hid (OK = false) := by show _ = _; rw [HM.out, q1]; rfl
    clear q1
    (with_reducible refine hc1.mono ?_)
    clear hc1
    rintro e w2 ⟨rfl, hb2⟩
    obtain ⟨x0, x1, x2, x3, x4⟩ := X1.below hb2 (by omega)
    go_wp2_with fail
    go_ret2
    exact ⟨.nilIface, by rw [HQ.out]; rfl, b1.trans (hb2.mono (by omega)), fun h => by rw [HQ.out] at h; cases h⟩
  · rw [q1] at hc1
    have HQ1 := Lib.hid q1
    clear q1
    (with_reducible refine hc1.mono ?_)
    clear hc1
    rintro e w2 ⟨rfl, hb2⟩
    have z2 := hb2.size
    have b2 := b1.trans (hb2.mono (by omega))
    have X2 := X1.below hb2 (by omega)
    have X2q := X2
    obtain ⟨x0, x1, x2, x3, x4⟩ := X2q
    have hc2 := implIsS_any d B w2 (hd.below (b2.mono hB)) (by omega)
    unfold S.val at hc2
    go_wp2_with fail
    clear x0 x1 x2 x3 x4
    cases q2 : d.isS
    · rw [q2] at hc2
      have HQ : Hid (OK = false) := by show _ = _; rw [HM.out, HQ1.out, q2]; rfl
      clear q2
      (with_reducible refine hc2.mono ?_)
      clear hc2
      rintro e w3 ⟨rfl, hb3⟩
      go_wp2_with fail
      go_ret2
      exact ⟨.nilIface, by rw [HQ.out]; rfl, b2.trans (hb3.mono (by omega)), fun h => by rw [HQ.out] at h; cases h⟩
    · rw [q2] at hc2
      have HQ2 := Lib.hid q2
      clear q2
      (with_reducible refine hc2.mono ?_)
      clear hc2
      rintro e w3 ⟨rfl, hb3⟩
      have z3 := hb3.size
      have b3 := b2.trans (hb3.mono (by omega))
      have X3 := X2.below hb3 (by omega)
      obtain ⟨x0, x1, x2, x3, x4⟩ := X3
      have hc3 := partOf_any lits LA Lc hls d.size d B w3 (Nat.le_refl _) hs hbk (hL.below (b3.mono hB)) (hd.below (b3.mono hB)) (by omega)
      unfold S.val at hc3
      go_wp2_with fail
      clear x0 x1 x2 x3 x4
      (with_reducible refine hc3.mono ?_)
      clear hc3
      rintro e w4 ⟨v, rfl, hb4, hP⟩
      have z4 := hb4.size
      have b4 := b3.trans (hb4.mono (by omega))
      cases q3 : S.okV (S.litP lits) d
      · have HQ : Hid (OK = false) := by show _ = _; rw [HM.out, HQ1.out, HQ2.out, q3]; rfl
        clear q3 hP
        go_wp2_with fail
        go_ret2
        exact ⟨.nilIface, by rw [HQ.out]; rfl, b4, fun h => by rw [HQ.out] at h; cases h⟩
      · have HQ3 := Lib.hid q3
        have hP4 := hP q3
        clear q3 hP
        obtain ⟨Fn, x, hM, hcv⟩ := vars_any (S.litP lits) d.size d v B _ w4 (Nat.le_refl _) hs hP4 (by omega) (fun b hq => hq.2)
        obtain ⟨Tj, rfl, hmm⟩ := hM
        have hm1 := fun w => (hmm w).1
        have hm2 := fun w => (hmm w).2
        clear hmm
        go_wp2_with fail
        (with_reducible refine hcv.mono ?_)
        clear hcv hm1 hm2
        rintro e w5 ⟨A5, c5, l5, rfl, her, hown, hb5⟩
        have z5 := hb5.size
        have b5 := b4.trans (hb5.mono (by omega))
        have hlen : l5.length ≤ 2000000 := by
          have h1 := congrArg List.length her
          rw [Tr.erL_length, List.length_map] at h1
          have h2 := (S.varsV_few (S.litP lits) d).1
          omega
        have hc6 := areVars_any A5 c5 l5 w5.heap.size w5 hown.inn (Nat.le_refl _) hlen
        have HV : Hid (OK = Ka.areV l5) := by show _ = _; rw [HM.out, HQ1.out, HQ2.out, HQ3.out, S.areV_pairs her]; rfl
        obtain ⟨OV, hOV⟩ : ∃ z, z = Ka.areV l5 := ⟨_, rfl⟩
        rw [← hOV] at hc6 HV
        clear hOV her hown hlen
        go_wp2_with fail
        cases OV
        · (with_reducible refine hc6.mono ?_)
          clear hc6
          rintro e w6 ⟨rfl, hb6⟩
          go_wp2_with fail
          go_ret2
          exact ⟨.nilIface, by rw [HV.out]; rfl, b5.trans (hb6.mono (by omega)), fun h => by rw [HV.out] at h; cases h⟩
        · (with_reducible refine hc6.mono ?_)
          clear hc6
          rintro e w6 ⟨rfl, hb6⟩
          have z6 := hb6.size
          have HP := Lib.hid ((hP4.kept_ hb5 (by omega) (fun k hk => hk.2)).kept_ hb6 (by omega) (fun k hk => by have := hk.2; omega))
          clear hP4
          go_wp2_with fail
          go_ret2
          exact ⟨_, by rw [HV.out]; rfl, b5.trans (hb6.mono (by omega)), fun _ => HP.out.keep (fun _ _ => rfl) fun b hq => ⟨by have := hq.1; omega, by have := hq.2; omega⟩⟩

set_option maxRecDepth 100000 in
set_option maxHeartbeats 4000000 in
theorem patVars_any (lits : List S) (LA : Option Addr) (Lc : Nat) (hls : ∀ x ∈ lits, x.size ≤ 2000000) (d : S) (B : Nat) (w : World) (hs : d.size ≤ 2000000) (hbk : d.bulk ≤ 2000000) (hL : S.Row w B LA Lc lits) (hd : d.In w B) (hB : B ≤ w.heap.size) :
    Calls Tryz.prog 16 #[.slice LA lits.length Lc, d.val] w (fun e w' => ∃ (A : Option Addr) (c : Nat) (l : List (Tr Ka)), e = .returned (.tuple #[.slice A l.length c, .bool (S.patOk lits d)]) ∧ Below w.heap.size w w' ∧ Tr.erL Ka.er l = (if S.patOk lits d then S.varsV (S.litP lits) d else []).map S.kaOf ∧ Ka.E.LOwn w.heap.size w'.heap.size w' A c l) := by
  obtain ⟨W1, hW1⟩ : ∃ W1, W1 = w.alloc (.cells #[.int .i64 d.k, .int .i64 d.n, .string d.t, .slice d.sa d.s.length d.sc, .slice d.A d.l.length d.c] 43) := ⟨_, rfl⟩
  have b1 : Below w.heap.size w W1 := by rw [hW1]; exact (Below.refl _ _).alloc (Nat.le_refl _) _
  have z1 : W1.heap.size = w.heap.size + 1 := by rw [hW1]; simp
  have X1 : S.Box W1 w.heap.size d := by rw [hW1]; exact S.Box.new _ _ _
  have hc1 := readPattern_any lits LA Lc hls d B W1 hs hbk (hL.below (b1.mono hB)) (hd.below (b1.mono hB)) (by omega)
  unfold ReadRet at hc1
  obtain ⟨OK, hOK⟩ : ∃ z, z = S.patOk lits d := ⟨_, rfl⟩
  rw [← hOK] at hc1 ⊢
  clear hOK
  obtain ⟨VL, hVL⟩ : ∃ z, z = (if OK then S.varsV (S.litP lits) d else []) := ⟨_, rfl⟩
  rw [← hVL]
  have HVL := Lib.hid hVL
  clear hVL
  unfold S.val at hc1 ⊢
  go_enter Tryz.func16, Tryz.ntmps16
  go_upto_region 1 with fail
  rw [← hW1]
  clear hW1
  obtain ⟨x0, x1, x2, x3, x4⟩ := X1
  go_wp2_with fail
  clear x0 x1 x2 x3 x4
  (with_reducible refine hc1.mono ?_)
  clear hc1
  rintro e w2 ⟨v, rfl, hb2, hP⟩
  have z2 := hb2.size
  have b2 := b1.trans (hb2.mono (by omega))
  cases OK
  · clear hP
    go_wp2_with fail
    go_ret2
    exact ⟨none, 0, [], rfl, b2, by rw [HVL.out]; simp [Tr.erL], Elem.LOwn.nil_ (by omega) (by simp)⟩
  · have hP2 := hP rfl
    clear hP
    obtain ⟨Fn, x, hM, hcv⟩ := vars_any (S.litP lits) d.size d v B _ w2 (Nat.le_refl _) hs hP2 (by omega) (fun b hq => hq.2)
    obtain ⟨Tj, rfl, hmm⟩ := hM
    have hm1 := fun w => (hmm w).1
    have hm2 := fun w => (hmm w).2
    clear hmm hP2
    go_wp2_with fail
    (with_reducible refine hcv.mono ?_)
    clear hcv hm1 hm2
    rintro e w3 ⟨A5, c5, l5, rfl, her, hown, hb3⟩
    have HE := Lib.hid her
    have HO := Lib.hid hown
    clear her hown
    go_wp2_with fail
    go_ret2
    exact ⟨A5, c5, l5, rfl, b2.trans (hb3.mono (by omega)), by rw [HVL.out]; simpa using HE.out, HO.out.wide (by omega) (Nat.le_refl _)⟩
end Go.Proofs.YtnldlbglgalbaabGreat

namespace Go.Proofs.YtnldlbglgalbaabGreat
open Go.RowKit
namespace S
theorem okN_of_er {d e : S} (h : er d = er e) : okN d = okN e := by unfold okN; rw [isI_of_er h, isDots_of_er h]
theorem varsV_ok (g : S → Bool) : ∀ d : S, valid d = true → okV g d = true → ∀ y ∈ varsV g d, okN y.1 = true := by
  have hL : ∀ l : List S, (∀ x ∈ l, okV g x = true → ∀ y ∈ varsV g x, okN y.1 = true) → okVL g l = true → ∀ y ∈ varsVL g l, okN y.1 = true := by
    intro l
    induction l with
    | nil => intro _ _ y hy; simp [varsVL] at hy
    | cons x r ih =>
      intro h hok y hy
      rw [okVL] at hok
      simp only [Bool.and_eq_true] at hok
      rw [varsVL] at hy
      cases hx : x.isDots
      · rw [hx] at hy
        simp only [Bool.false_eq_true, if_false] at hy
        rcases List.mem_append.1 hy with hy | hy
        · unfold deeper at hy
          obtain ⟨z, hz, rfl⟩ := List.mem_map.1 hy
          have hox : okV g x = true := by have := hok.1; rw [hx] at this; simpa using this
          exact h x (by simp) hox z hz
        · exact ih (fun z hz => h z (by simp [hz])) hok.2 y hy
      · rw [hx] at hy
        simp only [if_true] at hy
        exact ih (fun z hz => h z (by simp [hz])) hok.2 y hy
  intro d
  induction d using ind with
  | h d ih =>
    intro hv hok y hy
    rw [okV_eq] at hok
    rw [varsV_eq] at hy
    by_cases hk : d.k = 1
    · rw [if_pos hk] at hok hy
      split at hy
      · simp at hy
      · rename_i hw
        simp only [List.mem_singleton] at hy
        subst hy
        have hwf : (d.isWild || g d) = false := by simpa using hw
        rw [hwf, Bool.false_or] at hok
        show okN d.er = true
        rw [okN_of_er (er_er d)]
        unfold okN
        rw [isI_of_valid hv hk, hok]
        rfl
    · rw [if_neg hk] at hok hy
      split at hy
      · rename_i h0
        rw [if_pos h0] at hok
        simp only [Bool.and_eq_true] at hok
        exact hL d.l (fun x hx hox => ih x hx (valid_item hv hx) hox) hok.2 y hy
      · simp at hy
/-- The model's variables are the program's. -/
theorem pat_eq {lits : List S} (hl : areLits lits = true) {d : S} (hd : d.isS = true) : varsM (litM lits) d 0 [] = if patOk lits d then some (varsV (litP lits) d) else none := by
  have hv := valid_of_isS hd
  have h := vars_agree (litM lits) (litP lits) (fun x hx hk => litM_eq (lits_isI hl) (isI_of_valid hx hk)) d hv 0 []
  rw [h, deeper_zero, List.nil_append]
  unfold patOk
  rw [hl, hd, Bool.true_and, Bool.true_and]
  cases hok : okV (litP lits) d
  · simp
  · rw [areP_eq (varsV_ok _ d hv hok)]
end S
end Go.Proofs.YtnldlbglgalbaabGreat
