/-
  The variables of a pattern: what the model collects and what the program asks are the same. Nothing of the walks.
-/
import Derived.Test.YtnldlbglgalbaabGreatTfModel
import Derived.Test.YtnldlbglgalbaabGreatGElT
import Derived.Test.YtnldlbglgalbaabGreatGSyn
namespace Go.Proofs.YtnldlbglgalbaabGreat
open Go.RowKit

namespace S
def isWild (d : S) : Bool := decide (d.k = 1) && (d.t.toList == [95])
/-- Whether n is a variable of d's name (as the model compares them). -/
def samN (d n : S) : Bool := (n.t.toList == d.t.toList && n.s == d.s) && (!d.isDots && n.isI)
/-- A list with no misplaced ellipsis. -/
def okDots (l : List S) : Bool := !headDots l && decide ((l.filter isDots).length ≤ 1)
mutual
/-- The model's: the variables, each with its depth, behind those found already; f: what is a literal. -/
def varsM (f : S → Bool) : S → Int → List (S × Int) → Option (List (S × Int))
  | .mk k n t sa sc s A c l, v, out =>
    if k = 1 then
      if (S.mk k n t sa sc s A c l).isWild || f (.mk k n t sa sc s A c l) then some out
      else if ((S.mk k n t sa sc s A c l).isDots || out.any fun x => samN (.mk k n t sa sc s A c l) x.1) || decide (3 < v) then none
      else some (out ++ [((S.mk k n t sa sc s A c l).er, v)])
    else if okDots l then varsML f l v out else none
def varsML (f : S → Bool) : List S → Int → List (S × Int) → Option (List (S × Int))
  | [], _, out => some out
  | x :: r, v, out => if x.isDots then varsML f r v out else
    match varsM f x (if headDots r then v + 1 else v) out with
    | none => none
    | some o => varsML f r v o
end
/-- So much deeper. -/
def deeper (v : Int) (l : List (S × Int)) : List (S × Int) := l.map fun x => (x.1, x.2 + v)
mutual
/-- The program's: whether a pattern can be read. -/
def okV (f : S → Bool) : S → Bool
  | .mk k n t sa sc s A c l =>
    if k = 1 then (S.mk k n t sa sc s A c l).isWild || f (.mk k n t sa sc s A c l) || !(S.mk k n t sa sc s A c l).isDots
    else if k = 0 then okDots l && okVL f l else true
def okVL (f : S → Bool) : List S → Bool
  | [] => true
  | x :: r => (x.isDots || okV f x) && okVL f r
end
mutual
/-- The program's: the variables of what it has read. -/
def varsV (f : S → Bool) : S → List (S × Int)
  | .mk k n t sa sc s A c l =>
    if k = 1 then if (S.mk k n t sa sc s A c l).isWild || f (.mk k n t sa sc s A c l) then [] else [((S.mk k n t sa sc s A c l).er, 0)]
    else if k = 0 then varsVL f l else []
def varsVL (f : S → Bool) : List S → List (S × Int)
  | [] => []
  | x :: r => if x.isDots then varsVL f r else deeper (if headDots r then 1 else 0) (varsV f x) ++ varsVL f r
end
/-- Whether the variables can come behind those found already. -/
def okFrom : List (S × Int) → List (S × Int) → Bool
  | _, [] => true
  | out, x :: r => (!(out.any fun y => samN x.1 y.1) && decide (x.2 ≤ 3)) && okFrom (out ++ [x]) r
theorem varsM_eq (f : S → Bool) (d : S) (v : Int) (out : List (S × Int)) : varsM f d v out = if d.k = 1 then (if d.isWild || f d then some out else if (d.isDots || out.any fun x => samN d x.1) || decide (3 < v) then none else some (out ++ [(d.er, v)])) else if okDots d.l then varsML f d.l v out else none := by cases d; rw [varsM]; rfl
theorem okV_eq (f : S → Bool) (d : S) : okV f d = if d.k = 1 then d.isWild || f d || !d.isDots else if d.k = 0 then okDots d.l && okVL f d.l else true := by cases d; rw [okV]; rfl
theorem varsV_eq (f : S → Bool) (d : S) : varsV f d = if d.k = 1 then (if d.isWild || f d then [] else [(d.er, 0)]) else if d.k = 0 then varsVL f d.l else [] := by cases d; rw [varsV]; rfl
theorem deeper_nil (v : Int) : deeper v [] = [] := rfl
theorem deeper_append (v : Int) (a b : List (S × Int)) : deeper v (a ++ b) = deeper v a ++ deeper v b := by simp [deeper]
theorem deeper_deeper (u v : Int) (a : List (S × Int)) : deeper v (deeper u a) = deeper (u + v) a := by
  simp [deeper, Function.comp_def, Int.add_assoc]
theorem deeper_zero (a : List (S × Int)) : deeper 0 a = a := by simp [deeper]
theorem okFrom_append : ∀ (a out b : List (S × Int)), okFrom out (a ++ b) = (okFrom out a && okFrom (out ++ a) b)
  | [], out, b => by simp [okFrom]
  | x :: r, out, b => by
    rw [List.cons_append, okFrom, okFrom, okFrom_append r (out ++ [x]) b, List.append_assoc]
    simp only [Bool.and_assoc, List.singleton_append]
/-- What the two say of one node. -/
def VAgree (f g : S → Bool) (d : S) : Prop := ∀ (v : Int) (out : List (S × Int)), varsM f d v out = if okV g d && okFrom out (deeper v (varsV g d)) then some (out ++ deeper v (varsV g d)) else none
theorem vars_list (f g : S → Bool) : ∀ (l : List S), (∀ x ∈ l, VAgree f g x) → ∀ (v : Int) (out : List (S × Int)),
    varsML f l v out = if okVL g l && okFrom out (deeper v (varsVL g l)) then some (out ++ deeper v (varsVL g l)) else none
  | [], _, v, out => by simp [varsML, okVL, varsVL, deeper_nil, okFrom]
  | x :: r, ha, v, out => by
    have ih := vars_list f g r fun y hy => ha y (by simp [hy])
    rw [varsML, okVL, varsVL]
    cases hx : x.isDots
    · simp only [Bool.false_eq_true, if_false, Bool.false_or]
      rw [ha x (by simp)]
      have e : deeper (if headDots r then v + 1 else v) (varsV g x) = deeper v (deeper (if headDots r then 1 else 0) (varsV g x)) := by
        rw [deeper_deeper]
        congr 1
        split <;> omega
      rw [e, deeper_append, okFrom_append]
      cases h1 : okV g x
      · simp
      · cases h2 : okFrom out (deeper v (deeper (if headDots r then 1 else 0) (varsV g x)))
        · simp
        · simp only [Bool.true_and, if_true]
          rw [ih, List.append_assoc]
    · simp only [if_true, Bool.true_or, Bool.true_and]
      exact ih v out
theorem samN_er (d n : S) : samN d.er n = samN d n := by
  unfold samN
  rw [t_of_er (er_er d), isDots_of_er (er_er d)]
  congr 2
  cases d; rfl
theorem vars_agree (f g : S → Bool) (hfg : ∀ d : S, valid d = true → d.k = 1 → f d = g d) : ∀ d : S, valid d = true → VAgree f g d := by
  intro d
  induction d using ind with
  | h d ih =>
    intro hv v out
    have hl := vars_list f g d.l (fun x hx => ih x hx (valid_item hv hx)) v out
    rw [varsM_eq, okV_eq, varsV_eq]
    by_cases hk : d.k = 1
    · rw [if_pos hk, if_pos hk, if_pos hk, hfg d hv hk]
      cases hw : (d.isWild || g d)
      · simp only [Bool.false_eq_true, if_false, Bool.false_or]
        cases hd : d.isDots
        · simp only [Bool.false_eq_true, if_false, Bool.false_or, deeper, List.map_cons, List.map_nil, okFrom, Bool.not_false, Bool.false_or, Bool.true_and, Bool.and_true, Bool.or_true, Int.zero_add]
          rw [show (out.any fun y => samN d.er y.1) = (out.any fun y => samN d y.1) from by simp only [samN_er]]
          cases (out.any fun y => samN d y.1)
          · by_cases h3 : 3 < v
            · have h4 : ¬ v ≤ 3 := by omega
              simp [h3, h4]
            · have h4 : v ≤ 3 := by omega
              simp [h3, h4]
          · simp
        · simp
      · simp [deeper_nil, okFrom]
    · rw [if_neg hk, if_neg hk, if_neg hk]
      by_cases h0 : d.k = 0
      · rw [if_pos h0, if_pos h0, hl]
        cases okDots d.l <;> simp
      · rw [if_neg h0, if_neg h0, valid_leaf hv h0]
        simp [okDots, headDots, varsML, deeper_nil, okFrom]
end S
end Go.Proofs.YtnldlbglgalbaabGreat

namespace Go.Proofs.YtnldlbglgalbaabGreat
open Go.RowKit
namespace S
def kept (l : List S) : List S := l.filter fun x => !x.isDots
/-- The index of the item that is repeated, or -1. -/
def repOf (l : List S) : Int := if fidx isDots l = -1 then -1 else fidx isDots l - 1
def catV (g : S → Bool) (rep : Int) : Nat → List S → List (S × Int)
  | _, [] => []
  | k, x :: r => deeper (if (k : Int) = rep then 1 else 0) (varsV g x) ++ catV g rep (k + 1) r
theorem catV_snoc (g : S → Bool) (rep : Int) (x : S) : ∀ (k : Nat) (l : List S), catV g rep k (l ++ [x]) = catV g rep k l ++ deeper (if ((k + l.length : Nat) : Int) = rep then 1 else 0) (varsV g x)
  | k, [] => by simp [catV]
  | k, y :: r => by
    rw [List.cons_append, catV, catV_snoc g rep x (k + 1) r, catV, List.append_assoc]
    rw [show k + 1 + r.length = k + (y :: r).length from by rw [List.length_cons]; omega]
theorem catV_step (g : S → Bool) (rep : Int) {F : List S} {j : Nat} (h : j < F.length) : catV g rep 0 (F.take (j + 1)) = catV g rep 0 (F.take j) ++ deeper (if (j : Int) = rep then 1 else 0) (varsV g F[j]) := by
  rw [List.take_succ_eq_append_getElem h, catV_snoc, List.length_take, Nat.min_eq_left (by omega), Nat.zero_add]
theorem headDots_none {l : List S} (h : ∀ x ∈ l, x.isDots = false) : headDots l = false := by
  cases l with
  | nil => rfl
  | cons y r => exact h y (by simp)
theorem kept_none {l : List S} (h : ∀ x ∈ l, x.isDots = false) : kept l = l := by
  unfold kept
  rw [List.filter_eq_self]
  intro x hx
  simp [h x hx]
theorem varsVL_none (g : S → Bool) (rep : Int) : ∀ (k : Nat) (l : List S), rep < k → (∀ x ∈ l, x.isDots = false) → varsVL g l = catV g rep k l
  | _, [], _, _ => by simp [varsVL, catV]
  | k, x :: r, hk, h => by
    have hn : ¬ (k : Int) = rep := by omega
    rw [varsVL, h x (by simp), catV, if_neg hn, headDots_none fun y hy => h y (by simp [hy]), varsVL_none g rep (k + 1) r (by omega) fun y hy => h y (by simp [hy])]
    simp
theorem varsVL_one (g : S → Bool) (y : S) (b : List S) (hy : y.isDots = true) (hb : ∀ x ∈ b, x.isDots = false) : ∀ (a : List S) (k : Nat) (rep : Int), (∀ x ∈ a, x.isDots = false) → a ≠ [] → rep = (k + a.length : Nat) - 1 → varsVL g (a ++ y :: b) = catV g rep k (a ++ b)
  | [], _, _, _, h, _ => absurd rfl h
  | [x], k, rep, ha, _, hr => by
    have hk : (k : Int) = rep := by rw [hr]; simp
    have hk2 : rep < ((k + 1 : Nat) : Int) := by omega
    simp only [List.singleton_append]
    rw [varsVL, ha x (by simp), catV, if_pos hk, varsVL, hy, varsVL_none g rep (k + 1) b hk2 hb]
    simp [headDots, hy]
  | x :: z :: a, k, rep, ha, _, hr => by
    have hn : ¬ (k : Int) = rep := by rw [hr]; simp only [List.length_cons]; omega
    have ih := varsVL_one g y b hy hb (z :: a) (k + 1) rep (fun u hu => ha u (by simp [hu])) (by simp) (by rw [hr]; simp only [List.length_cons]; omega)
    have e1 : varsVL g (x :: z :: a ++ y :: b) = deeper (if headDots (z :: a ++ y :: b) then 1 else 0) (varsV g x) ++ varsVL g (z :: a ++ y :: b) := by
      rw [List.cons_append (a := x), varsVL, ha x (by simp)]
      rfl
    have e2 : catV g rep k (x :: z :: a ++ b) = deeper (if (k : Int) = rep then 1 else 0) (varsV g x) ++ catV g rep (k + 1) (z :: a ++ b) := by
      rw [List.cons_append (a := x), catV]
    have e3 : headDots (z :: a ++ y :: b) = false := ha z (by simp)
    rw [e1, e2, e3, if_neg hn, ih]
    simp
theorem kept_one {y : S} {a b : List S} (hy : y.isDots = true) (ha : ∀ x ∈ a, x.isDots = false) (hb : ∀ x ∈ b, x.isDots = false) : kept (a ++ y :: b) = a ++ b := by
  have h1 := kept_none ha
  have h2 := kept_none hb
  unfold kept at h1 h2 ⊢
  rw [List.filter_append, List.filter_cons_of_neg (by simp [hy]), h1, h2]
/-- A list with no misplaced ellipsis has none, or one behind an item. -/
theorem okDots_cases {l : List S} (h : okDots l = true) : (∀ x ∈ l, x.isDots = false) ∨ ∃ a y b, l = a ++ y :: b ∧ a ≠ [] ∧ y.isDots = true ∧ (∀ x ∈ a, x.isDots = false) ∧ ∀ x ∈ b, x.isDots = false := by
  unfold okDots at h
  simp only [Bool.and_eq_true, Bool.not_eq_true', decide_eq_true_eq] at h
  obtain ⟨h1, h2⟩ := h
  rcases fidx_find isDots l with ⟨_, hn⟩ | ⟨j, hj, _, hf⟩
  · left
    rw [List.find?_eq_none] at hn
    intro x hx
    simpa using hn x hx
  · right
    generalize l[j] = y at hf
    obtain ⟨hy, a, b, rfl, ha⟩ := List.find?_eq_some_iff_append.1 hf
    refine ⟨a, _, b, rfl, ?_, hy, fun x hx => by simpa using ha x hx, fun x hx => ?_⟩
    · rintro rfl
      have : headDots ([] ++ y :: b) = true := hy
      rw [this] at h1
      cases h1
    · cases hd : x.isDots with
      | false => rfl
      | true =>
        exfalso
        have e1 : (a.filter isDots) = [] := by
          rw [List.filter_eq_nil_iff]
          intro z hz
          simpa using ha z hz
        rw [List.filter_append, e1, List.filter_cons_of_pos hy] at h2
        simp only [List.nil_append, List.length_cons] at h2
        have : x ∈ b.filter isDots := List.mem_filter.2 ⟨hx, hd⟩
        have := List.length_pos_of_mem this
        omega
theorem varsVL_cat (g : S → Bool) {l : List S} (h : okDots l = true) : varsVL g l = catV g (repOf l) 0 (kept l) := by
  rcases okDots_cases h with hn | ⟨a, y, b, rfl, hne, hy, ha, hb⟩
  · rw [kept_none hn]
    have e : repOf l = -1 := by unfold repOf; rw [fidx_none hn]; rfl
    rw [e]
    exact varsVL_none g (-1) 0 l (by omega) hn
  · rw [kept_one hy ha hb]
    have hl : a.length < (a ++ y :: b).length := by simp
    have e1 : fidx isDots (a ++ y :: b) = a.length := fidx_take hl (by rw [List.take_left]; exact ha) (by simp [hy])
    have hp : 0 < a.length := List.length_pos_iff.2 hne
    have e : repOf (a ++ y :: b) = ((0 + a.length : Nat) : Int) - 1 := by
      unfold repOf
      rw [e1, if_neg (by omega), Nat.zero_add]
    exact varsVL_one g y b hy hb a 0 _ ha hne e
end S
end Go.Proofs.YtnldlbglgalbaabGreat

namespace Go.Proofs.YtnldlbglgalbaabGreat
open Go.RowKit
/-- v is a value whose method 'variables' is function F, with receiver x. -/
def Meth (v : Value) (F : Nat) (x : Value) : Prop := ∃ T, v = .iface T x ∧ ∀ w, Sem.run Tryz.prog (method 297 T x "loop.example/g03220/impl.variables") w = .ok (F, x) w ∧ Sem.run Tryz.prog (callFunc F #[x]) w = .ok (.enter F #[x]) w
set_option maxRecDepth 100000 in
theorem meth_wild : Meth (.iface 147 (.agg #[])) 179 (.agg #[]) := ⟨_, rfl, fun w => ⟨by kernel_rfl, by kernel_rfl⟩⟩
set_option maxRecDepth 100000 in
theorem meth_lit (x : Value) : Meth (.iface 149 x) 181 x := ⟨_, rfl, fun w => ⟨by kernel_rfl, by kernel_rfl⟩⟩
set_option maxRecDepth 100000 in
theorem meth_con (x : Value) : Meth (.iface 145 x) 177 x := ⟨_, rfl, fun w => ⟨by kernel_rfl, by kernel_rfl⟩⟩
set_option maxRecDepth 100000 in
theorem meth_var (x : Value) : Meth (.iface 151 x) 183 x := ⟨_, rfl, fun w => ⟨by kernel_rfl, by kernel_rfl⟩⟩
set_option maxRecDepth 100000 in
theorem meth_list (x : Value) : Meth (.iface 165 x) 190 x := ⟨_, rfl, fun w => ⟨by kernel_rfl, by kernel_rfl⟩⟩
namespace S
/-- A capture of a variable, without what it matches. -/
def kaOf (x : S × Int) : Tr Ka := .mk ⟨x.1, x.2, zeroS⟩ none 0 []
/-- v is what has been read of d: d lies below block B, the rows of parts in blocks of Q. -/
inductive PartOf (g : S → Bool) (w : World) (B : Nat) (Q : Nat → Prop) : S → Value → Prop
  | wild {d : S} (hk : d.k = 1) (h : d.isWild = true) : PartOf g w B Q d (.iface 147 (.agg #[]))
  | lit {d : S} (hk : d.k = 1) (hw : d.isWild = false) (h : g d = true) : PartOf g w B Q d (.iface 149 d.val)
  | var {d : S} (hk : d.k = 1) (hw : d.isWild = false) (h : g d = false) (hin : d.In w B) (hs : d.size ≤ 2000000) (hb : d.bulk ≤ 2000000) : PartOf g w B Q d (.iface 151 d.val)
  | con {d : S} (hk : d.k ≠ 1) (h0 : d.k ≠ 0) (x : D) : PartOf g w B Q d (.iface 145 x.val)
  | list {d : S} {A : Option Addr} {c : Nat} {vs : List Value} (hk : d.k = 0) (hok : okDots d.l = true) (hl : vs.length = (kept d.l).length) (hc : vs.length ≤ c ∧ c ≤ 9223372036854775807)
      (hrow : ∀ j (h : j < vs.length), ∃ b o : Nat, A = some ⟨b, o, none⟩ ∧ Q b ∧ w.cell? ⟨b, o + j, none⟩ = some vs[j])
      (hsub : ∀ j (h : j < vs.length) (h' : j < (kept d.l).length), PartOf g w B Q (kept d.l)[j] vs[j]) :
      PartOf g w B Q d (.iface 165 (.agg #[.slice A vs.length c, .int .i64 (repOf d.l)]))
theorem PartOf.keep {g : S → Bool} {w w' : World} {B : Nat} {Q Q' : Nat → Prop} {d : S} {v : Value} (h : PartOf g w B Q d v) (hk : ∀ b, b < B ∨ Q b → w'.heap[b]? = w.heap[b]?) (hQ : ∀ b, Q b → Q' b) : PartOf g w' B Q' d v := by
  induction h with
  | wild hk h => exact .wild hk h
  | lit hk hw h => exact .lit hk hw h
  | var hk1 hw h hin hs hbk => exact .var hk1 hw h (hin.keep fun k hm => hk k (.inl hm)) hs hbk
  | con hk h0 x => exact .con hk h0 x
  | list hk0 hok hl hc hrow _ ih =>
    refine .list hk0 hok hl hc (fun j h => ?_) ih
    obtain ⟨b, o, e, hq, hcell⟩ := hrow j h
    exact ⟨b, o, e, hQ b hq, (World.cell?_of_block (hk b (.inr hq))).trans hcell⟩
theorem PartOf.kept_ {g : S → Bool} {w w' : World} {B : Nat} {Q : Nat → Prop} {d : S} {v : Value} (h : PartOf g w B Q d v) {b : Nat} (hb : Below b w w') (hB : B ≤ b) (hQ : ∀ k, Q k → k < b) : PartOf g w' B Q d v :=
  h.keep (fun k hk => hb.block k (by rcases hk with hk | hk; omega; exact hQ k hk)) fun _ h => h
end S
end Go.Proofs.YtnldlbglgalbaabGreat
