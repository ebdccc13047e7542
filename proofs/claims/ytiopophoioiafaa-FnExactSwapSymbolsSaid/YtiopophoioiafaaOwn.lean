/-
  Data in memory of the call's own: what is new, shared by nothing and may be written.
-/
import Derived.Test.YtiopophoioiafaaDat
namespace Go.Proofs.Ytiopophoioiafaa
open Go.RowKit
namespace D

mutual
/-- The blocks in which the lists of items lie. -/
def blks : D → List Nat | .mk _ _ _ A _ l => (if l.isEmpty then [] else (A.map (·.block)).toList) ++ blksL l
def blksL : List D → List Nat | [] => [] | d :: r => blks d ++ blksL r
end
mutual
/-- Without the places. -/
def er : D → D | .mk k n t _ _ l => .mk k n t none 0 (erL l)
def erL : List D → List D | [] => [] | d :: r => er d :: erL r
end
theorem erL_map (l : List D) : erL l = l.map er := by
  induction l with
  | nil => rfl
  | cons d r ih => simp [erL, ih]
theorem erL_append (a b : List D) : erL (a ++ b) = erL a ++ erL b := by simp [erL_map]
theorem erL_length (a : List D) : (erL a).length = a.length := by simp [erL_map]
theorem blksL_append (a b : List D) : blksL (a ++ b) = blksL a ++ blksL b := by
  induction a with
  | nil => rfl
  | cons d r ih => simp [blksL, ih]
theorem cellsL_append (a b : List D) : cellsL (a ++ b) = cellsL a ++ cellsL b := by simp [cellsL]
theorem InL_append {w : World} {B : Nat} {a b : List D} : InL w B (a ++ b) ↔ InL w B a ∧ InL w B b := by
  simp [InL_iff, or_imp, forall_and]

section
variable {w w' : World} {lo hi lo' hi' : Nat} {d : D} {l : List D}

theorem In.blk_lt (h : In w hi d) : ∀ b ∈ blks d, b < hi := by
  induction d using ind with
  | h d ih =>
    cases d with
    | mk k n t A c l =>
      intro b hb
      simp only [blks, List.mem_append] at hb
      rcases hb with hb | hb
      · cases l with
        | nil => simp at hb
        | cons x r =>
          obtain ⟨b', o, e, hlt, _⟩ := h.2.1 (by simp)
          subst e
          simp at hb
          omega
      · have key : ∀ l' : List D, (∀ x ∈ l', x ∈ l) → ∀ b ∈ blksL l', b < hi := by
          intro l'
          induction l' with
          | nil => intro _ b hb; simp [blksL] at hb
          | cons x r ih2 =>
            intro hs b hb
            simp only [blksL, List.mem_append] at hb
            rcases hb with hb | hb
            · exact ih x (hs x (by simp)) (h.item (hs x (by simp))) b hb
            · exact ih2 (fun y hy => hs y (by simp [hy])) b hb
        exact key l (fun _ h => h) b hb
theorem InL.blk_lt (h : InL w hi l) : ∀ b ∈ blksL l, b < hi := by
  induction l with
  | nil => intro b hb; simp [blksL] at hb
  | cons x r ih =>
    intro b hb
    simp only [blksL, List.mem_append] at hb
    rcases hb with hb | hb
    · exact h.1.blk_lt b hb
    · exact ih h.2 b hb

/-- The call's own: blocks from lo on and below hi, no two the same, none frozen. -/
structure Own (lo hi : Nat) (w : World) (d : D) : Prop where
  inn : In w hi d
  lo_ : ∀ b ∈ blks d, lo ≤ b
  nd : (blks d).Nodup
  fr : ∀ b ∈ blks d, ∀ o, w.frozen? ⟨b, o, none⟩ = false
structure OwnL (lo hi : Nat) (w : World) (l : List D) : Prop where
  inn : InL w hi l
  lo_ : ∀ b ∈ blksL l, lo ≤ b
  nd : (blksL l).Nodup
  fr : ∀ b ∈ blksL l, ∀ o, w.frozen? ⟨b, o, none⟩ = false

theorem InL.below (h : InL w hi l) (hb : Below hi w w') : InL w' hi l := InL_iff.2 fun x hx => (InL_iff.1 h x hx).below hb
theorem InL.more (h : InL w hi l) (hb : hi ≤ hi') : InL w hi' l := InL_iff.2 fun x hx => (InL_iff.1 h x hx).more hb
theorem Own.below (h : Own lo hi w d) (hb : Below hi w w') : Own lo hi w' d :=
  ⟨h.inn.below hb, h.lo_, h.nd, fun b hm o => (hb.frozen (p := ⟨b, o, none⟩) (h.inn.blk_lt b hm)).trans (h.fr b hm o)⟩
theorem OwnL.below (h : OwnL lo hi w l) (hb : Below hi w w') : OwnL lo hi w' l :=
  ⟨h.inn.below hb, h.lo_, h.nd, fun b hm o => (hb.frozen (p := ⟨b, o, none⟩) (h.inn.blk_lt b hm)).trans (h.fr b hm o)⟩
theorem Own.wide (h : Own lo hi w d) (h1 : lo' ≤ lo) (h2 : hi ≤ hi') : Own lo' hi' w d :=
  ⟨h.inn.more h2, fun b hm => Nat.le_trans h1 (h.lo_ b hm), h.nd, h.fr⟩
theorem OwnL.wide (h : OwnL lo hi w l) (h1 : lo' ≤ lo) (h2 : hi ≤ hi') : OwnL lo' hi' w l :=
  ⟨h.inn.more h2, fun b hm => Nat.le_trans h1 (h.lo_ b hm), h.nd, h.fr⟩
theorem OwnL.nil_ : OwnL lo hi w [] := ⟨trivial, by simp [blksL], by simp [blksL], by simp [blksL]⟩
theorem OwnL.snoc (h : OwnL lo hi w l) (hb : Below hi w w') (hd : Own hi hi' w' d) (h2 : hi ≤ hi') (h1 : lo ≤ hi) : OwnL lo hi' w' (l ++ [d]) := by
  have h' := h.below hb
  refine ⟨InL_append.2 ⟨h'.inn.more h2, hd.inn, trivial⟩, ?_, ?_, ?_⟩
  · intro b hm
    simp only [blksL_append, blksL, List.append_nil, List.mem_append] at hm
    rcases hm with hm | hm
    · exact h.lo_ b hm
    · exact Nat.le_trans h1 (hd.lo_ b hm)
  · simp only [blksL_append, blksL, List.append_nil]
    refine List.nodup_append.2 ⟨h.nd, hd.nd, fun a ha b hb' e => ?_⟩
    have := h.inn.blk_lt a ha
    have := hd.lo_ b hb'
    omega
  · intro b hm o
    simp only [blksL_append, blksL, List.append_nil, List.mem_append] at hm
    rcases hm with hm | hm
    · exact h'.fr b hm o
    · exact hd.fr b hm o
/-- A datum over a row of the call's own. -/
theorem Own.of_row {k n : Int} {t : ByteArray} {c g : Nat} (h : OwnL lo hi w l) (hc : l.length ≤ c ∧ c ≤ maxLen ∧ t.size ≤ maxLen) (hg : g ∉ blksL l) (hlo : lo ≤ g) (hhi : g < hi)
    (hf : ∀ o, w.frozen? ⟨g, o, none⟩ = false) (hcells : ∀ j u, (cellsL l)[j]? = some u → w.cell? ⟨g, j, none⟩ = some u) : Own lo hi w (.mk k n t (some ⟨g, 0, none⟩) c l) := by
  refine ⟨⟨hc, fun _ => ⟨g, 0, rfl, hhi, fun j u hu => ?_⟩, h.inn⟩, ?_, ?_, ?_⟩
  · rw [Nat.zero_add]; exact hcells j u hu
  · intro b hm
    simp only [blks, List.mem_append] at hm
    rcases hm with hm | hm
    · split at hm
      · simp at hm
      · simp at hm; omega
    · exact h.lo_ b hm
  · simp only [blks]
    split
    · simpa using h.nd
    · simpa using ⟨hg, h.nd⟩
  · intro b hm o
    simp only [blks, List.mem_append] at hm
    rcases hm with hm | hm
    · split at hm
      · simp at hm
      · simp at hm; subst hm; exact hf o
    · exact h.fr b hm o
theorem Own.no_items {k n : Int} {t : ByteArray} {A : Option Addr} {c : Nat} (hc : c ≤ maxLen) (ht : t.size ≤ maxLen) : Own lo hi w (.mk k n t A c []) :=
  ⟨⟨⟨by simp, hc, ht⟩, by simp, trivial⟩, by simp [blks, blksL], by simp [blks, blksL], by simp [blks, blksL]⟩
/-- The same list under another head. -/
theorem Own.head {k n k' n' : Int} {t t' : ByteArray} {A : Option Addr} {c : Nat} (h : Own lo hi w (.mk k n t A c l)) (ht : t'.size ≤ 9223372036854775807) : Own lo hi w (.mk k' n' t' A c l) :=
  ⟨⟨⟨h.inn.1.1, h.inn.1.2.1, ht⟩, h.inn.2.1, h.inn.2.2⟩, fun b hb => h.lo_ b (by simpa only [blks] using hb), by have := h.nd; simpa only [blks] using this, fun b hb => h.fr b (by simpa only [blks] using hb)⟩
theorem blks_item {x : D} (hx : x ∈ d.l) : ∀ b ∈ blks x, b ∈ blks d := by
  cases d with
  | mk k n t A c l =>
    intro b hb
    simp only [blks, List.mem_append]
    right
    have key : ∀ l' : List D, x ∈ l' → b ∈ blksL l' := by
      intro l'
      induction l' with
      | nil => intro h; cases h
      | cons y r ih =>
        intro h
        simp only [blksL, List.mem_append]
        rcases List.mem_cons.1 h with rfl | h
        · exact .inl hb
        · exact .inr (ih h)
    exact key l hx
theorem In.keepB (h : In w hi d) (hk : ∀ p : Addr, p.block ∈ blks d → w'.cell? p = w.cell? p) : In w' hi d := by
  induction d using ind with
  | h d ih =>
    cases d with
    | mk k n t A c l =>
      obtain ⟨h1, h3, h4⟩ := h
      refine ⟨h1, fun hl => ?_, InL_iff.2 fun x hx => ih x hx (InL_iff.1 h4 x hx) fun p hp => hk p (blks_item (d := .mk k n t A c l) hx _ hp)⟩
      obtain ⟨b, o, e, hb, hc⟩ := h3 hl
      refine ⟨b, o, e, hb, fun j u hu => (hk _ ?_).trans (hc j u hu)⟩
      subst e
      simp only [blks, List.mem_append]
      left
      cases l with
      | nil => exact absurd rfl hl
      | cons x r => simp
theorem Own.keepB (h : Own lo hi w d) (hk : ∀ k, k ∈ blks d → w'.heap[k]? = w.heap[k]?) : Own lo hi w' d :=
  ⟨h.inn.keepB fun _ hp => World.cell?_of_block (hk _ hp), h.lo_, h.nd, fun b hm o => (World.frozen?_of_block (hk b hm)).trans (h.fr b hm o)⟩
theorem blksL_mem {b : Nat} : b ∈ blksL l ↔ ∃ x ∈ l, b ∈ blks x := by
  induction l with
  | nil => simp [blksL]
  | cons y r ih => simp [blksL, ih]
theorem OwnL.keepB (h : OwnL lo hi w l) (hk : ∀ k, k ∈ blksL l → w'.heap[k]? = w.heap[k]?) : OwnL lo hi w' l :=
  ⟨InL_iff.2 fun x hx => (InL_iff.1 h.inn x hx).keepB fun _ hp => World.cell?_of_block (hk _ (blksL_mem.2 ⟨x, hx, hp⟩)), h.lo_, h.nd, fun b hm o => (World.frozen?_of_block (hk b hm)).trans (h.fr b hm o)⟩
/-- A store elsewhere. -/
theorem Own.far (h : Own lo hi w d) {p : Addr} (hp : p.block < lo) (u : Value) : Own lo hi (w.setCell p u) d :=
  h.keepB fun k hk => Below.heap_setCell _ _ _ _ (by have := h.lo_ k hk; omega)
theorem OwnL.far (h : OwnL lo hi w l) {p : Addr} (hp : p.block < lo) (u : Value) : OwnL lo hi (w.setCell p u) l :=
  h.keepB fun k hk => Below.heap_setCell _ _ _ _ (by have := h.lo_ k hk; omega)
end

/-! Rows of cells that the call fills -/
def Blk (w : World) (g : Nat) (t : TypeId) (cs : Array Value) : Prop := w.heap[g]? = some (.cells cs t (0, 0))
section
variable {w w' : World} {g : Nat} {t : TypeId} {cs : Array Value}
theorem Blk.lt (h : Blk w g t cs) : g < w.heap.size := by
  rcases Nat.lt_or_ge g w.heap.size with hlt | hge
  · exact hlt
  · unfold Blk at h; rw [Array.getElem?_eq_none hge] at h; cases h
theorem Blk.cell (h : Blk w g t cs) (i : Nat) : w.cell? ⟨g, i, none⟩ = cs[i]? := cell_of_row w g i cs t (0, 0) h
theorem Blk.frozen (h : Blk w g t cs) (i : Nat) : w.frozen? ⟨g, i, none⟩ = false := by
  unfold Blk at h
  simp [World.frozen?, h]
theorem Blk.new (w : World) (t : TypeId) (cs : Array Value) : Blk (w.alloc (.cells cs t)) w.heap.size t cs := heap_alloc_new w _
theorem Blk.set_ (h : Blk w g t cs) (i : Nat) (u : Value) : Blk (w.setCell ⟨g, i, none⟩ u) g t (cs.setIfInBounds i u) := by
  unfold Blk at h ⊢
  simp [World.setCell, Array.getElem?_modify, h]
theorem Blk.below {B : Nat} (h : Blk w g t cs) (hb : Below B w w') (hg : g < B) : Blk w' g t cs := (hb.block g hg).trans h
end

/-- Row g of n places bears the data ds at its head. -/
def RowTo (w : World) (g : Nat) (t : TypeId) (n : Nat) (ds : List D) : Prop := ∃ cs : Array Value, Blk w g t cs ∧ cs.size = 4 * n ∧ ∀ (i : Nat) (u : Value), (cellsL ds)[i]? = some u → cs[i]? = some u
theorem RowTo.below {w w' : World} {g : Nat} {t : TypeId} {n : Nat} {ds : List D} {B : Nat} (h : RowTo w g t n ds) (hb : Below B w w') (hg : g < B) : RowTo w' g t n ds := by
  obtain ⟨cs, h1, h2⟩ := h
  exact ⟨cs, h1.below hb hg, h2⟩
theorem RowTo.old {w : World} {g : Nat} {t : TypeId} {n : Nat} {ds : List D} (h : RowTo w g t n ds) {i : Nat} (hi : i < 4 * n) : ∃ u, w.cell? ⟨g, i, none⟩ = some u := by
  obtain ⟨cs, h1, h2, _⟩ := h
  exact ⟨cs[i], by rw [h1.cell]; exact Array.getElem?_eq_getElem (by omega)⟩
theorem RowTo.frozen {w : World} {g : Nat} {t : TypeId} {n : Nat} {ds : List D} (h : RowTo w g t n ds) (i : Nat) : w.frozen? ⟨g, i, none⟩ = false := by
  obtain ⟨cs, h1, _⟩ := h
  exact h1.frozen i
theorem RowTo.step {w : World} {g : Nat} {t : TypeId} {n : Nat} {ds : List D} (h : RowTo w g t n ds) {j : Nat} (hj : ds.length = j) (hn : j < n) (d : D) :
    RowTo ((((w.setCell ⟨g, j * 4, none⟩ (.int .i64 d.k)).setCell ⟨g, j * 4 + 1, none⟩ (.int .i64 d.n)).setCell ⟨g, j * 4 + 2, none⟩ (.string d.t)).setCell ⟨g, j * 4 + 3, none⟩ (.slice d.A d.l.length d.c)) g t n (ds ++ [d]) := by
  obtain ⟨cs, h1, h2, h3⟩ := h
  refine ⟨_, (((h1.set_ _ _).set_ _ _).set_ _ _).set_ _ _, by simp [h2], fun i u hu => ?_⟩
  have hl := cellsL_length ds
  rw [cellsL_append] at hu
  by_cases hi : i < 4 * j
  · rw [List.getElem?_append_left (by omega)] at hu
    have := h3 i u hu
    simp only [Array.getElem?_setIfInBounds]
    rw [if_neg (by omega), if_neg (by omega), if_neg (by omega), if_neg (by omega)]
    exact this
  · rw [List.getElem?_append_right (by omega), hl, hj] at hu
    simp only [Array.getElem?_setIfInBounds, Array.size_setIfInBounds, h2]
    have hlt : i - 4 * j < 4 := by
      have := (List.getElem?_eq_some_iff.1 hu).1
      simp [cellsL, cells] at this
      omega
    simp only [cellsL, List.flatMap_cons, List.flatMap_nil, List.append_nil, cells] at hu
    have e : i - 4 * j = 0 ∨ i - 4 * j = 1 ∨ i - 4 * j = 2 ∨ i - 4 * j = 3 := by omega
    rcases e with e | e | e | e <;> rw [e] at hu <;> simp at hu <;> subst hu
    · rw [if_neg (by omega), if_neg (by omega), if_neg (by omega), if_pos (by omega), if_pos (by omega)]
    · rw [if_neg (by omega), if_neg (by omega), if_pos (by omega), if_pos (by omega)]
    · rw [if_neg (by omega), if_pos (by omega), if_pos (by omega)]
    · rw [if_pos (by omega), if_pos (by omega)]
end D
end Go.Proofs.Ytiopophoioiafaa
