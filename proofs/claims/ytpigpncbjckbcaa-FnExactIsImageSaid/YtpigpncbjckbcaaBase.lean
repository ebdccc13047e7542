/-
  Data as trees, with the places where they lie: plain definitions and lemmas; nothing of the program.
-/
import Derived.WalkKit
import Derived.Deep.Draws
import Derived.Deep.Slices
import Derived.Lib.Hide
namespace Go.Proofs.Ytpigpncbjckbcaa
open Go.RowKit

/-- A datum with the address and the capacity of its list of items. -/
inductive D where
  | mk (k n : Int) (t : ByteArray) (A : Option Addr) (c : Nat) (l : List D)

theorem ret_int {k : IntKind} {a b : Int} (h : a = b) : Ending.returned (.int k a) = .returned (.int k b) := by rw [h]
theorem ret_bool {a b : Bool} (h : a = b) : Ending.returned (.bool a) = .returned (.bool b) := by rw [h]
theorem ret_str {a b : ByteArray} (h : a = b) : Ending.returned (.string a) = .returned (.string b) := by rw [h]

theorem bcell {W w1 : World} (hb : Below W.heap.size W w1) : (∀ b o, b < W.heap.size → w1.cell? ⟨b, o, none⟩ = W.cell? ⟨b, o, none⟩) ∧ (∀ b o, b < W.heap.size → w1.frozen? ⟨b, o, none⟩ = W.frozen? ⟨b, o, none⟩) :=
  ⟨fun b o h => hb.cell (p := ⟨b, o, none⟩) h, fun b o h => hb.frozen (p := ⟨b, o, none⟩) h⟩

theorem below_undrew {B : Nat} {w w1 : World} (h : Below B w.drew w1) : Below B w w1 := ⟨h.os, h.tape, h.output, h.size, h.block⟩
theorem below_undrewN {B n : Nat} {w w1 : World} (h : Below B (w.drewN n) w1) : Below B w w1 := ⟨h.os, h.tape, h.output, h.size, h.block⟩

namespace D
def k : D → Int | .mk k _ _ _ _ _ => k
def n : D → Int | .mk _ n _ _ _ _ => n
def t : D → ByteArray | .mk _ _ t _ _ _ => t
def A : D → Option Addr | .mk _ _ _ A _ _ => A
def c : D → Nat | .mk _ _ _ _ c _ => c
def l : D → List D | .mk _ _ _ _ _ l => l

theorem eta (d : D) : D.mk d.k d.n d.t d.A d.c d.l = d := by cases d; rfl
/-- The four cells of a datum. -/
def cells (d : D) : List Value := [.int .i64 d.k, .int .i64 d.n, .string d.t, .slice d.A d.l.length d.c]
/-- The value of a datum. -/
def val (d : D) : Value := .agg #[.int .i64 d.k, .int .i64 d.n, .string d.t, .slice d.A d.l.length d.c]
theorem cells_length (d : D) : d.cells.length = 4 := rfl

def cellsL (ds : List D) : List Value := ds.flatMap cells
theorem cellsL_length (ds : List D) : (cellsL ds).length = 4 * ds.length := by
  induction ds with
  | nil => rfl
  | cons d r ih => simp [cellsL, cells_length] at *; omega
theorem cellsL_get {ds : List D} {i : Nat} {d : D} (h : ds[i]? = some d) (j : Nat) (hj : j < 4) : (cellsL ds)[4 * i + j]? = d.cells[j]? := by
  induction ds generalizing i with
  | nil => simp at h
  | cons e r ih =>
    cases i with
    | zero =>
      simp at h
      subst h
      simp only [cellsL, List.flatMap_cons, Nat.mul_zero, Nat.zero_add]
      rw [List.getElem?_append_left (by rw [cells_length]; exact hj)]
    | succ i =>
      simp at h
      have := ih h
      simp only [cellsL, List.flatMap_cons] at this ⊢
      rw [List.getElem?_append_right (by rw [cells_length]; omega), cells_length, show 4 * (i + 1) + j - 4 = 4 * i + j by omega]
      exact this

mutual
/-- How many nodes. -/
def size : D → Nat | .mk _ _ _ _ _ l => 1 + sizeL l
def sizeL : List D → Nat | [] => 0 | d :: r => size d + sizeL r
end
mutual
/-- How many items and bytes of text. -/
def bulk : D → Nat | .mk _ _ t _ _ l => t.size + bulkL l
def bulkL : List D → Nat | [] => 0 | d :: r => 1 + bulk d + bulkL r
end
mutual
def depth : D → Nat | .mk _ _ _ _ _ l => depthL l + 1
def depthL : List D → Nat | [] => 0 | d :: r => max (depth d) (depthL r)
end
mutual
/-- Equal in all fields (not in the places). -/
def eqB : D → D → Bool | .mk k n t _ _ l, .mk k' n' t' _ _ l' => k == k' && (n == n' && (t.toList == t'.toList && eqL l l'))
def eqL : List D → List D → Bool | [], [] => true | [], _ :: _ => false | _ :: _, [] => false | a :: r, b :: s => eqB a b && eqL r s
end
mutual
/-- The items lie in memory below block number B. -/
def In (w : World) (B : Nat) : D → Prop
  | .mk _ _ t A c l => (l.length ≤ c ∧ c ≤ maxLen ∧ t.size ≤ maxLen) ∧ (l ≠ [] → ∃ b o : Nat, A = some ⟨b, o, none⟩ ∧ b < B ∧ ∀ j u, (cellsL l)[j]? = some u → w.cell? ⟨b, o + j, none⟩ = some u) ∧ InL w B l
def InL (w : World) (B : Nat) : List D → Prop | [] => True | d :: r => In w B d ∧ InL w B r
end

theorem InL_iff {w : World} {B : Nat} {l : List D} : InL w B l ↔ ∀ d ∈ l, In w B d := by
  induction l with
  | nil => simp [InL]
  | cons d r ih => simp [InL, ih]

theorem sizeL_mem {l : List D} {d : D} (h : d ∈ l) : d.size ≤ sizeL l := by
  induction l with
  | nil => cases h
  | cons e r ih =>
    simp only [sizeL]
    rcases List.mem_cons.1 h with rfl | h
    · omega
    · have := ih h; omega
theorem size_item {d x : D} (h : x ∈ d.l) : x.size < d.size := by
  cases d with
  | mk k n t A c l =>
    have := sizeL_mem (l := l) h
    simp only [size]; omega
theorem size_eq (d : D) : d.size = 1 + sizeL d.l := by cases d; rfl
theorem sizeL_append (a b : List D) : sizeL (a ++ b) = sizeL a + sizeL b := by
  induction a with
  | nil => simp [sizeL]
  | cons d r ih => simp [sizeL, ih]; omega
theorem bulkL_append (a b : List D) : bulkL (a ++ b) = bulkL a + bulkL b := by
  induction a with
  | nil => simp [bulkL]
  | cons d r ih => simp [bulkL, ih]; omega
theorem depthL_append (a b : List D) : depthL (a ++ b) = max (depthL a) (depthL b) := by
  induction a with
  | nil => simp [depthL]
  | cons d r ih => simp [depthL, ih, Nat.max_assoc]
theorem size_pos (d : D) : 1 ≤ d.size := by cases d; simp [size]
theorem length_le_sizeL (l : List D) : l.length ≤ sizeL l := by
  induction l with
  | nil => simp
  | cons d r ih => have := size_pos d; simp [sizeL]; omega

/-- Induction over the size. -/
theorem ind {p : D → Prop} (h : ∀ d, (∀ x, x ∈ d.l → p x) → p d) : ∀ d, p d := by
  have key : ∀ m, ∀ d : D, d.size < m → p d := by
    intro m
    induction m with
    | zero => intro d hd; omega
    | succ m ih => intro d hd; exact h d fun x hx => ih x (by have := size_item hx; omega)
  exact fun d => key _ d (Nat.lt_succ_self _)

section
variable {w w' : World} {B B' : Nat} {d : D}
theorem In.keep (h : In w B d) (hk : ∀ p : Addr, p.block < B → w'.cell? p = w.cell? p) : In w' B d := by
  induction d using ind with
  | h d ih =>
    cases d with
    | mk k n t A c l =>
      obtain ⟨h1, h3, h4⟩ := h
      refine ⟨h1, fun hl => ?_, InL_iff.2 fun x hx => ih x hx (InL_iff.1 h4 x hx)⟩
      obtain ⟨b, o, e, hb, hc⟩ := h3 hl
      exact ⟨b, o, e, hb, fun j u hu => (hk _ hb).trans (hc j u hu)⟩
theorem In.more (h : In w B d) (hB : B ≤ B') : In w B' d := by
  induction d using ind with
  | h d ih =>
    cases d with
    | mk k n t A c l =>
      obtain ⟨h1, h3, h4⟩ := h
      refine ⟨h1, fun hl => ?_, InL_iff.2 fun x hx => ih x hx (InL_iff.1 h4 x hx)⟩
      obtain ⟨b, o, e, hb, hc⟩ := h3 hl
      exact ⟨b, o, e, by omega, hc⟩
theorem In.below (h : In w B d) (hb : Below B w w') : In w' B d := h.keep fun _ hp => hb.cell hp
theorem In.drew (h : In w B d) : In w.drew B d := h.keep fun _ _ => rfl
theorem In.drewN (h : In w B d) (k : Nat) : In (w.drewN k) B d := h.keep fun _ _ => rfl
theorem In.alloc (h : In w B d) (hB : B ≤ w.heap.size) (o : Obj) : In (w.alloc o) B d := h.keep fun p hp => World.cell?_alloc_lt w o p (by omega)
theorem In.setCell (h : In w B d) {p : Addr} (hB : B ≤ p.block) (u : Value) : In (w.setCell p u) B d :=
  h.keep fun q hq => World.cell?_setCell_other w p q u (fun e => by subst e; omega)

theorem In.item (h : In w B d) {x : D} (hx : x ∈ d.l) : In w B x := by
  cases d with
  | mk k n t A c l => exact InL_iff.1 h.2.2 x hx
theorem In.cap (h : In w B d) : d.l.length ≤ d.c ∧ d.c ≤ 9223372036854775807 ∧ d.t.size ≤ 9223372036854775807 := by
  cases d with
  | mk k n t A c l => exact h.1
/-- The cells of item i. -/
theorem In.at_ (h : In w B d) {i : Nat} {x : D} (hx : d.l[i]? = some x) :
    ∃ b o : Nat, d.A = some ⟨b, o, none⟩ ∧ b < B ∧ w.cell? ⟨b, o + i * 4, none⟩ = some (.int .i64 x.k) ∧ w.cell? ⟨b, o + i * 4 + 1, none⟩ = some (.int .i64 x.n) ∧ w.cell? ⟨b, o + i * 4 + 2, none⟩ = some (.string x.t) ∧
      w.cell? ⟨b, o + i * 4 + 3, none⟩ = some (.slice x.A x.l.length x.c) ∧ In w B x := by
  cases d with
  | mk k n t A c l =>
    have hne : l ≠ [] := by rintro rfl; simp [D.l] at hx
    obtain ⟨b, o, e, hb, hc⟩ := h.2.1 hne
    have g := fun j (hj : j < 4) => cellsL_get (ds := l) hx j hj
    refine ⟨b, o, e, hb, ?_, ?_, ?_, ?_, InL_iff.1 h.2.2 x (List.mem_of_getElem? hx)⟩
    · have := hc (4 * i + 0) _ (by rw [g 0 (by omega)]; rfl)
      rwa [show o + (4 * i + 0) = o + i * 4 by omega] at this
    · have := hc (4 * i + 1) _ (by rw [g 1 (by omega)]; rfl)
      rwa [show o + (4 * i + 1) = o + i * 4 + 1 by omega] at this
    · have := hc (4 * i + 2) _ (by rw [g 2 (by omega)]; rfl)
      rwa [show o + (4 * i + 2) = o + i * 4 + 2 by omega] at this
    · have := hc (4 * i + 3) _ (by rw [g 3 (by omega)]; rfl)
      rwa [show o + (4 * i + 3) = o + i * 4 + 3 by omega] at this
end

end D
end Go.Proofs.Ytpigpncbjckbcaa

namespace Go.Proofs.Ytpigpncbjckbcaa
open Go.RowKit
namespace D

mutual
/-- The blocks in which the lists of items lie. -/
def blks : D → List Nat | .mk _ _ _ A _ l => (if l.isEmpty then [] else (A.map (·.block)).toList) ++ blksL l
def blksL : List D → List Nat | [] => [] | d :: r => blks d ++ blksL r
end
mutual
/-- Without the places. -/
def er : D → D | .mk k n t _ _ l => .mk k n t none 0 (erL l)
def erL : List D → List D | [] => [] | d :: r => er d :: erL r
end
theorem erL_map (l : List D) : erL l = l.map er := by
  induction l with
  | nil => rfl
  | cons d r ih => simp [erL, ih]
theorem erL_append (a b : List D) : erL (a ++ b) = erL a ++ erL b := by simp [erL_map]
theorem erL_length (a : List D) : (erL a).length = a.length := by simp [erL_map]
theorem blksL_append (a b : List D) : blksL (a ++ b) = blksL a ++ blksL b := by
  induction a with
  | nil => rfl
  | cons d r ih => simp [blksL, ih]
theorem cellsL_append (a b : List D) : cellsL (a ++ b) = cellsL a ++ cellsL b := by simp [cellsL]
theorem InL_append {w : World} {B : Nat} {a b : List D} : InL w B (a ++ b) ↔ InL w B a ∧ InL w B b := by
  simp [InL_iff, or_imp, forall_and]

section
variable {w w' : World} {lo hi lo' hi' : Nat} {d : D} {l : List D}

theorem In.blk_lt (h : In w hi d) : ∀ b ∈ blks d, b < hi := by
  induction d using ind with
  | h d ih =>
    cases d with
    | mk k n t A c l =>
      intro b hb
      simp only [blks, List.mem_append] at hb
      rcases hb with hb | hb
      · cases l with
        | nil => simp at hb
        | cons x r =>
          obtain ⟨b', o, e, hlt, _⟩ := h.2.1 (by simp)
          subst e
          simp at hb
          omega
      · have key : ∀ l' : List D, (∀ x ∈ l', x ∈ l) → ∀ b ∈ blksL l', b < hi := by
          intro l'
          induction l' with
          | nil => intro _ b hb; simp [blksL] at hb
          | cons x r ih2 =>
            intro hs b hb
            simp only [blksL, List.mem_append] at hb
            rcases hb with hb | hb
            · exact ih x (hs x (by simp)) (h.item (hs x (by simp))) b hb
            · exact ih2 (fun y hy => hs y (by simp [hy])) b hb
        exact key l (fun _ h => h) b hb
theorem InL.blk_lt (h : InL w hi l) : ∀ b ∈ blksL l, b < hi := by
  induction l with
  | nil => intro b hb; simp [blksL] at hb
  | cons x r ih =>
    intro b hb
    simp only [blksL, List.mem_append] at hb
    rcases hb with hb | hb
    · exact h.1.blk_lt b hb
    · exact ih h.2 b hb

/-- The call's own: blocks from lo on and below hi, no two the same, none frozen. -/
structure Own (lo hi : Nat) (w : World) (d : D) : Prop where
  inn : In w hi d
  lo_ : ∀ b ∈ blks d, lo ≤ b
  nd : (blks d).Nodup
  fr : ∀ b ∈ blks d, ∀ o, w.frozen? ⟨b, o, none⟩ = false
structure OwnL (lo hi : Nat) (w : World) (l : List D) : Prop where
  inn : InL w hi l
  lo_ : ∀ b ∈ blksL l, lo ≤ b
  nd : (blksL l).Nodup
  fr : ∀ b ∈ blksL l, ∀ o, w.frozen? ⟨b, o, none⟩ = false

theorem InL.below (h : InL w hi l) (hb : Below hi w w') : InL w' hi l := InL_iff.2 fun x hx => (InL_iff.1 h x hx).below hb
theorem InL.more (h : InL w hi l) (hb : hi ≤ hi') : InL w hi' l := InL_iff.2 fun x hx => (InL_iff.1 h x hx).more hb
theorem Own.below (h : Own lo hi w d) (hb : Below hi w w') : Own lo hi w' d :=
  ⟨h.inn.below hb, h.lo_, h.nd, fun b hm o => (hb.frozen (p := ⟨b, o, none⟩) (h.inn.blk_lt b hm)).trans (h.fr b hm o)⟩
theorem OwnL.below (h : OwnL lo hi w l) (hb : Below hi w w') : OwnL lo hi w' l :=
  ⟨h.inn.below hb, h.lo_, h.nd, fun b hm o => (hb.frozen (p := ⟨b, o, none⟩) (h.inn.blk_lt b hm)).trans (h.fr b hm o)⟩
theorem Own.wide (h : Own lo hi w d) (h1 : lo' ≤ lo) (h2 : hi ≤ hi') : Own lo' hi' w d :=
  ⟨h.inn.more h2, fun b hm => Nat.le_trans h1 (h.lo_ b hm), h.nd, h.fr⟩
theorem OwnL.wide (h : OwnL lo hi w l) (h1 : lo' ≤ lo) (h2 : hi ≤ hi') : OwnL lo' hi' w l :=
  ⟨h.inn.more h2, fun b hm => Nat.le_trans h1 (h.lo_ b hm), h.nd, h.fr⟩
theorem OwnL.nil_ : OwnL lo hi w [] := ⟨trivial, by simp [blksL], by simp [blksL], by simp [blksL]⟩
theorem OwnL.snoc (h : OwnL lo hi w l) (hb : Below hi w w') (hd : Own hi hi' w' d) (h2 : hi ≤ hi') (h1 : lo ≤ hi) : OwnL lo hi' w' (l ++ [d]) := by
  have h' := h.below hb
  refine ⟨InL_append.2 ⟨h'.inn.more h2, hd.inn, trivial⟩, ?_, ?_, ?_⟩
  · intro b hm
    simp only [blksL_append, blksL, List.append_nil, List.mem_append] at hm
    rcases hm with hm | hm
    · exact h.lo_ b hm
    · exact Nat.le_trans h1 (hd.lo_ b hm)
  · simp only [blksL_append, blksL, List.append_nil]
    refine List.nodup_append.2 ⟨h.nd, hd.nd, fun a ha b hb' e => ?_⟩
    have := h.inn.blk_lt a ha
    have := hd.lo_ b hb'
    omega
  · intro b hm o
    simp only [blksL_append, blksL, List.append_nil, List.mem_append] at hm
    rcases hm with hm | hm
    · exact h'.fr b hm o
    · exact hd.fr b hm o
/-- A datum over a row of the call's own. -/
theorem Own.of_row {k n : Int} {t : ByteArray} {c g : Nat} (h : OwnL lo hi w l) (hc : l.length ≤ c ∧ c ≤ maxLen ∧ t.size ≤ maxLen) (hg : g ∉ blksL l) (hlo : lo ≤ g) (hhi : g < hi)
    (hf : ∀ o, w.frozen? ⟨g, o, none⟩ = false) (hcells : ∀ j u, (cellsL l)[j]? = some u → w.cell? ⟨g, j, none⟩ = some u) : Own lo hi w (.mk k n t (some ⟨g, 0, none⟩) c l) := by
  refine ⟨⟨hc, fun _ => ⟨g, 0, rfl, hhi, fun j u hu => ?_⟩, h.inn⟩, ?_, ?_, ?_⟩
  · rw [Nat.zero_add]; exact hcells j u hu
  · intro b hm
    simp only [blks, List.mem_append] at hm
    rcases hm with hm | hm
    · split at hm
      · simp at hm
      · simp at hm; omega
    · exact h.lo_ b hm
  · simp only [blks]
    split
    · simpa using h.nd
    · simpa using ⟨hg, h.nd⟩
  · intro b hm o
    simp only [blks, List.mem_append] at hm
    rcases hm with hm | hm
    · split at hm
      · simp at hm
      · simp at hm; subst hm; exact hf o
    · exact h.fr b hm o
theorem Own.no_items {k n : Int} {t : ByteArray} {A : Option Addr} {c : Nat} (hc : c ≤ maxLen) (ht : t.size ≤ maxLen) : Own lo hi w (.mk k n t A c []) :=
  ⟨⟨⟨by simp, hc, ht⟩, by simp, trivial⟩, by simp [blks, blksL], by simp [blks, blksL], by simp [blks, blksL]⟩
/-- The same list under another head. -/
theorem Own.head {k n k' n' : Int} {t t' : ByteArray} {A : Option Addr} {c : Nat} (h : Own lo hi w (.mk k n t A c l)) (ht : t'.size ≤ 9223372036854775807) : Own lo hi w (.mk k' n' t' A c l) :=
  ⟨⟨⟨h.inn.1.1, h.inn.1.2.1, ht⟩, h.inn.2.1, h.inn.2.2⟩, fun b hb => h.lo_ b (by simpa only [blks] using hb), by have := h.nd; simpa only [blks] using this, fun b hb => h.fr b (by simpa only [blks] using hb)⟩
theorem blks_item {x : D} (hx : x ∈ d.l) : ∀ b ∈ blks x, b ∈ blks d := by
  cases d with
  | mk k n t A c l =>
    intro b hb
    simp only [blks, List.mem_append]
    right
    have key : ∀ l' : List D, x ∈ l' → b ∈ blksL l' := by
      intro l'
      induction l' with
      | nil => intro h; cases h
      | cons y r ih =>
        intro h
        simp only [blksL, List.mem_append]
        rcases List.mem_cons.1 h with rfl | h
        · exact .inl hb
        · exact .inr (ih h)
    exact key l hx
theorem In.keepB (h : In w hi d) (hk : ∀ p : Addr, p.block ∈ blks d → w'.cell? p = w.cell? p) : In w' hi d := by
  induction d using ind with
  | h d ih =>
    cases d with
    | mk k n t A c l =>
      obtain ⟨h1, h3, h4⟩ := h
      refine ⟨h1, fun hl => ?_, InL_iff.2 fun x hx => ih x hx (InL_iff.1 h4 x hx) fun p hp => hk p (blks_item (d := .mk k n t A c l) hx _ hp)⟩
      obtain ⟨b, o, e, hb, hc⟩ := h3 hl
      refine ⟨b, o, e, hb, fun j u hu => (hk _ ?_).trans (hc j u hu)⟩
      subst e
      simp only [blks, List.mem_append]
      left
      cases l with
      | nil => exact absurd rfl hl
      | cons x r => simp
theorem Own.keepB (h : Own lo hi w d) (hk : ∀ k, k ∈ blks d → w'.heap[k]? = w.heap[k]?) : Own lo hi w' d :=
  ⟨h.inn.keepB fun _ hp => World.cell?_of_block (hk _ hp), h.lo_, h.nd, fun b hm o => (World.frozen?_of_block (hk b hm)).trans (h.fr b hm o)⟩
theorem blksL_mem {b : Nat} : b ∈ blksL l ↔ ∃ x ∈ l, b ∈ blks x := by
  induction l with
  | nil => simp [blksL]
  | cons y r ih => simp [blksL, ih]
theorem OwnL.keepB (h : OwnL lo hi w l) (hk : ∀ k, k ∈ blksL l → w'.heap[k]? = w.heap[k]?) : OwnL lo hi w' l :=
  ⟨InL_iff.2 fun x hx => (InL_iff.1 h.inn x hx).keepB fun _ hp => World.cell?_of_block (hk _ (blksL_mem.2 ⟨x, hx, hp⟩)), h.lo_, h.nd, fun b hm o => (World.frozen?_of_block (hk b hm)).trans (h.fr b hm o)⟩
/-- A store elsewhere. -/
theorem Own.far (h : Own lo hi w d) {p : Addr} (hp : p.block < lo) (u : Value) : Own lo hi (w.setCell p u) d :=
  h.keepB fun k hk => Below.heap_setCell _ _ _ _ (by have := h.lo_ k hk; omega)
theorem OwnL.far (h : OwnL lo hi w l) {p : Addr} (hp : p.block < lo) (u : Value) : OwnL lo hi (w.setCell p u) l :=
  h.keepB fun k hk => Below.heap_setCell _ _ _ _ (by have := h.lo_ k hk; omega)
end

/-! Rows of cells that the call fills -/
def Blk (w : World) (g : Nat) (t : TypeId) (cs : Array Value) : Prop := w.heap[g]? = some (.cells cs t (0, 0))
section
variable {w w' : World} {g : Nat} {t : TypeId} {cs : Array Value}
theorem Blk.lt (h : Blk w g t cs) : g < w.heap.size := by
  rcases Nat.lt_or_ge g w.heap.size with hlt | hge
  · exact hlt
  · unfold Blk at h; rw [Array.getElem?_eq_none hge] at h; cases h
theorem Blk.cell (h : Blk w g t cs) (i : Nat) : w.cell? ⟨g, i, none⟩ = cs[i]? := cell_of_row w g i cs t (0, 0) h
theorem Blk.frozen (h : Blk w g t cs) (i : Nat) : w.frozen? ⟨g, i, none⟩ = false := by
  unfold Blk at h
  simp [World.frozen?, h]
theorem Blk.new (w : World) (t : TypeId) (cs : Array Value) : Blk (w.alloc (.cells cs t)) w.heap.size t cs := heap_alloc_new w _
theorem Blk.set_ (h : Blk w g t cs) (i : Nat) (u : Value) : Blk (w.setCell ⟨g, i, none⟩ u) g t (cs.setIfInBounds i u) := by
  unfold Blk at h ⊢
  simp [World.setCell, Array.getElem?_modify, h]
theorem Blk.below {B : Nat} (h : Blk w g t cs) (hb : Below B w w') (hg : g < B) : Blk w' g t cs := (hb.block g hg).trans h
end

/-- Row g of n places bears the data ds at its head. -/
def RowTo (w : World) (g : Nat) (t : TypeId) (n : Nat) (ds : List D) : Prop := ∃ cs : Array Value, Blk w g t cs ∧ cs.size = 4 * n ∧ ∀ (i : Nat) (u : Value), (cellsL ds)[i]? = some u → cs[i]? = some u
theorem RowTo.below {w w' : World} {g : Nat} {t : TypeId} {n : Nat} {ds : List D} {B : Nat} (h : RowTo w g t n ds) (hb : Below B w w') (hg : g < B) : RowTo w' g t n ds := by
  obtain ⟨cs, h1, h2⟩ := h
  exact ⟨cs, h1.below hb hg, h2⟩
theorem RowTo.old {w : World} {g : Nat} {t : TypeId} {n : Nat} {ds : List D} (h : RowTo w g t n ds) {i : Nat} (hi : i < 4 * n) : ∃ u, w.cell? ⟨g, i, none⟩ = some u := by
  obtain ⟨cs, h1, h2, _⟩ := h
  exact ⟨cs[i], by rw [h1.cell]; exact Array.getElem?_eq_getElem (by omega)⟩
theorem RowTo.frozen {w : World} {g : Nat} {t : TypeId} {n : Nat} {ds : List D} (h : RowTo w g t n ds) (i : Nat) : w.frozen? ⟨g, i, none⟩ = false := by
  obtain ⟨cs, h1, _⟩ := h
  exact h1.frozen i
theorem RowTo.step {w : World} {g : Nat} {t : TypeId} {n : Nat} {ds : List D} (h : RowTo w g t n ds) {j : Nat} (hj : ds.length = j) (hn : j < n) (d : D) :
    RowTo ((((w.setCell ⟨g, j * 4, none⟩ (.int .i64 d.k)).setCell ⟨g, j * 4 + 1, none⟩ (.int .i64 d.n)).setCell ⟨g, j * 4 + 2, none⟩ (.string d.t)).setCell ⟨g, j * 4 + 3, none⟩ (.slice d.A d.l.length d.c)) g t n (ds ++ [d]) := by
  obtain ⟨cs, h1, h2, h3⟩ := h
  refine ⟨_, (((h1.set_ _ _).set_ _ _).set_ _ _).set_ _ _, by simp [h2], fun i u hu => ?_⟩
  have hl := cellsL_length ds
  rw [cellsL_append] at hu
  by_cases hi : i < 4 * j
  · rw [List.getElem?_append_left (by omega)] at hu
    have := h3 i u hu
    simp only [Array.getElem?_setIfInBounds]
    rw [if_neg (by omega), if_neg (by omega), if_neg (by omega), if_neg (by omega)]
    exact this
  · rw [List.getElem?_append_right (by omega), hl, hj] at hu
    simp only [Array.getElem?_setIfInBounds, Array.size_setIfInBounds, h2]
    have hlt : i - 4 * j < 4 := by
      have := (List.getElem?_eq_some_iff.1 hu).1
      simp [cellsL, cells] at this
      omega
    simp only [cellsL, List.flatMap_cons, List.flatMap_nil, List.append_nil, cells] at hu
    have e : i - 4 * j = 0 ∨ i - 4 * j = 1 ∨ i - 4 * j = 2 ∨ i - 4 * j = 3 := by omega
    rcases e with e | e | e | e <;> rw [e] at hu <;> simp at hu <;> subst hu
    · rw [if_neg (by omega), if_neg (by omega), if_neg (by omega), if_pos (by omega), if_pos (by omega)]
    · rw [if_neg (by omega), if_neg (by omega), if_pos (by omega), if_pos (by omega)]
    · rw [if_neg (by omega), if_pos (by omega), if_pos (by omega)]
    · rw [if_pos (by omega), if_pos (by omega)]
end D
end Go.Proofs.Ytpigpncbjckbcaa

namespace Go.Proofs.Ytpigpncbjckbcaa
open Go.RowKit

/-- The blocks of S alone have turned; new ones may have come. -/
structure Chg (S : List Nat) (w w' : World) : Prop where
  os : w'.os = w.os
  tape : w'.tape = w.tape
  output : w'.output = w.output
  size : w.heap.size ≤ w'.heap.size
  block : ∀ k, k < w.heap.size → k ∉ S → w'.heap[k]? = w.heap[k]?
section
variable {S S' : List Nat} {a w w' : World} {B : Nat}
theorem Chg.refl (S : List Nat) (w : World) : Chg S w w := ⟨rfl, rfl, rfl, Nat.le_refl _, fun _ _ _ => rfl⟩
theorem Chg.trans (h : Chg S a w) (k : Chg S w w') : Chg S a w' :=
  ⟨k.os.trans h.os, k.tape.trans h.tape, k.output.trans h.output, Nat.le_trans h.size k.size, fun i hi hn => (k.block i (Nat.lt_of_lt_of_le hi h.size) hn).trans (h.block i hi hn)⟩
theorem Chg.mono (h : Chg S w w') (hs : ∀ k ∈ S, k ∈ S') : Chg S' w w' := ⟨h.os, h.tape, h.output, h.size, fun k hk hn => h.block k hk fun hm => hn (hs k hm)⟩
theorem Chg.of_below (h : Below w.heap.size w w') : Chg S w w' := ⟨h.os, h.tape, h.output, h.size, fun k hk _ => h.block k hk⟩
theorem Chg.setCell (h : Chg S a w) {p : Addr} (hp : p.block ∈ S ∨ a.heap.size ≤ p.block) (u : Value) : Chg S a (w.setCell p u) :=
  ⟨h.os, h.tape, h.output, by simpa using h.size, fun k hk hn => (Below.heap_setCell _ _ _ _ (by rintro rfl; rcases hp with hp | hp; exact hn hp; omega)).trans (h.block k hk hn)⟩
theorem Chg.alloc (h : Chg S a w) (o : Obj) : Chg S a (w.alloc o) := h.trans (Chg.of_below ((Below.refl _ _).alloc (Nat.le_refl _) o))
theorem Chg.below (h : Chg S w w') (hB : ∀ k ∈ S, B ≤ k) (hs : B ≤ w.heap.size) : Below B w w' :=
  ⟨h.os, h.tape, h.output, h.size, fun k hk => h.block k (by omega) fun hm => by have := hB k hm; omega⟩
end

namespace D
/-- The row at ⟨b, o⟩ bears these data. -/
def RowIs (w : World) (b o : Nat) (ds : List D) : Prop := ∀ i d, ds[i]? = some d → w.cell? ⟨b, o + i * 4, none⟩ = some (.int .i64 d.k) ∧ w.cell? ⟨b, o + i * 4 + 1, none⟩ = some (.int .i64 d.n) ∧ w.cell? ⟨b, o + i * 4 + 2, none⟩ = some (.string d.t) ∧
      w.cell? ⟨b, o + i * 4 + 3, none⟩ = some (.slice d.A d.l.length d.c)
theorem RowIs.of_cells {w : World} {b o : Nat} {ds : List D} (h : ∀ (j : Nat) (u : Value), (cellsL ds)[j]? = some u → w.cell? ⟨b, o + j, none⟩ = some u) : RowIs w b o ds := by
  intro i d hi
  have g := fun j (hj : j < 4) => cellsL_get (ds := ds) hi j hj
  refine ⟨?_, ?_, ?_, ?_⟩
  · have := h (4 * i + 0) _ (by rw [g 0 (by omega)]; rfl)
    rwa [show o + (4 * i + 0) = o + i * 4 by omega] at this
  · have := h (4 * i + 1) _ (by rw [g 1 (by omega)]; rfl)
    rwa [show o + (4 * i + 1) = o + i * 4 + 1 by omega] at this
  · have := h (4 * i + 2) _ (by rw [g 2 (by omega)]; rfl)
    rwa [show o + (4 * i + 2) = o + i * 4 + 2 by omega] at this
  · have := h (4 * i + 3) _ (by rw [g 3 (by omega)]; rfl)
    rwa [show o + (4 * i + 3) = o + i * 4 + 3 by omega] at this
theorem RowIs.cells {w : World} {b o : Nat} {ds : List D} (h : RowIs w b o ds) : ∀ (j : Nat) (u : Value), (cellsL ds)[j]? = some u → w.cell? ⟨b, o + j, none⟩ = some u := by
  intro j u hu
  have hj : j < 4 * ds.length := by rw [← cellsL_length]; exact (List.getElem?_eq_some_iff.1 hu).1
  have hi : ds[j / 4]? = some ds[j / 4] := List.getElem?_eq_getElem (by omega)
  have g := cellsL_get (ds := ds) hi (j % 4) (by omega)
  rw [show 4 * (j / 4) + j % 4 = j by omega, hu] at g
  obtain ⟨h0, h1, h2, h3⟩ := h _ _ hi
  have e : j % 4 = 0 ∨ j % 4 = 1 ∨ j % 4 = 2 ∨ j % 4 = 3 := by omega
  rcases e with e | e | e | e <;> rw [e] at g <;> simp [D.cells] at g <;> subst g
  · rwa [show o + j = o + j / 4 * 4 by omega]
  · rwa [show o + j = o + j / 4 * 4 + 1 by omega]
  · rwa [show o + j = o + j / 4 * 4 + 2 by omega]
  · rwa [show o + j = o + j / 4 * 4 + 3 by omega]
theorem RowIs.upd {w w' : World} {b o j : Nat} {pre suf : List D} {x y : D} (h : RowIs w b o (pre ++ x :: suf)) (hj : pre.length = j)
    (hs : ∀ q, q ≠ o + j * 4 → q ≠ o + j * 4 + 1 → q ≠ o + j * 4 + 2 → w'.cell? ⟨b, q, none⟩ = w.cell? ⟨b, q, none⟩)
    (h0 : w'.cell? ⟨b, o + j * 4, none⟩ = some (.int .i64 y.k)) (h1 : w'.cell? ⟨b, o + j * 4 + 1, none⟩ = some (.int .i64 y.n)) (h2 : w'.cell? ⟨b, o + j * 4 + 2, none⟩ = some (.string y.t))
    (hA : y.A = x.A) (hl : y.l.length = x.l.length) (hc : y.c = x.c) : RowIs w' b o (pre ++ y :: suf) := by
  intro i d hi
  have hx := (h j x (by rw [List.getElem?_append_right (by omega), hj]; simp)).2.2.2
  by_cases e : i = j
  · subst e
    rw [List.getElem?_append_right (by omega), hj] at hi
    simp at hi
    subst hi
    refine ⟨h0, h1, h2, ?_⟩
    rw [hs _ (by omega) (by omega) (by omega), hx, hA, hl, hc]
  · have hi' : (pre ++ x :: suf)[i]? = some d := by
      by_cases hlt : i < j
      · rw [List.getElem?_append_left (by omega)] at hi ⊢; exact hi
      · rw [List.getElem?_append_right (by omega)] at hi ⊢
        obtain ⟨q, hq⟩ : ∃ q, i - pre.length = q + 1 := ⟨i - pre.length - 1, by omega⟩
        rw [hq] at hi ⊢
        simpa using hi
    obtain ⟨g0, g1, g2, g3⟩ := h i d hi'
    exact ⟨by rw [hs _ (by omega) (by omega) (by omega)]; exact g0, by rw [hs _ (by omega) (by omega) (by omega)]; exact g1, by rw [hs _ (by omega) (by omega) (by omega)]; exact g2, by rw [hs _ (by omega) (by omega) (by omega)]; exact g3⟩

section
variable {w w' : World} {lo hi : Nat} {x y : D} {pre suf l : List D}
theorem OwnL.mid (h : OwnL lo hi w (pre ++ x :: suf)) : Own lo hi w x := by
  have hb : ∀ b ∈ blks x, b ∈ blksL (pre ++ x :: suf) := fun b hb => by simp [blksL_append, blksL, hb]
  refine ⟨InL_iff.1 h.inn x (by simp), fun b hm => h.lo_ b (hb b hm), ?_, fun b hm => h.fr b (hb b hm)⟩
  have := h.nd
  simp only [blksL_append, blksL] at this
  exact (List.nodup_append.1 (List.nodup_append.1 this).2.1).1
theorem OwnL.mid_far (h : OwnL lo hi w (pre ++ x :: suf)) : ∀ b, b ∈ blksL pre ∨ b ∈ blksL suf → b ∉ blks x := by
  have h1 := h.nd
  simp only [blksL_append, blksL] at h1
  obtain ⟨_, h2, h3⟩ := List.nodup_append.1 h1
  obtain ⟨_, _, h4⟩ := List.nodup_append.1 h2
  intro b hb hx
  rcases hb with hb | hb
  · exact h3 b hb b (by simp [hx]) rfl
  · exact h4 b hx b hb rfl
theorem OwnL.put (h : OwnL lo hi w (pre ++ x :: suf)) (hk : ∀ k, k ∈ blksL pre ∨ k ∈ blksL suf → w'.heap[k]? = w.heap[k]?) (hy : Own lo hi w' y) (hb : blks y = blks x) : OwnL lo hi w' (pre ++ y :: suf) := by
  have e : blksL (pre ++ y :: suf) = blksL (pre ++ x :: suf) := by simp [blksL_append, blksL, hb]
  refine ⟨?_, fun b hm => h.lo_ b (by rwa [e] at hm), by rw [e]; exact h.nd, ?_⟩
  · rw [InL_append]
    refine ⟨InL_iff.2 fun z hz => ?_, hy.inn, InL_iff.2 fun z hz => ?_⟩
    · exact (InL_iff.1 h.inn z (by simp [hz])).keepB fun p hp => World.cell?_of_block (hk _ (.inl (blksL_mem.2 ⟨z, hz, hp⟩)))
    · exact (InL_iff.1 h.inn z (by simp [hz])).keepB fun p hp => World.cell?_of_block (hk _ (.inr (blksL_mem.2 ⟨z, hz, hp⟩)))
  · intro b hm o
    simp only [blksL_append, blksL, List.mem_append] at hm
    rcases hm with hm | hm | hm
    · exact (World.frozen?_of_block (hk b (.inl hm))).trans (h.fr b (by simp [blksL_append, hm]) o)
    · exact hy.fr b hm o
    · exact (World.frozen?_of_block (hk b (.inr hm))).trans (h.fr b (by simp [blksL_append, blksL, hm]) o)

/-- What is owned, taken apart. -/
theorem Own.parts {k n : Int} {t : ByteArray} {A : Option Addr} {c : Nat} (h : Own lo hi w (.mk k n t A c l)) (hl : l ≠ []) :
    ∃ b o, A = some ⟨b, o, none⟩ ∧ lo ≤ b ∧ b < hi ∧ b ∉ blksL l ∧ (∀ q, w.frozen? ⟨b, q, none⟩ = false) ∧ RowIs w b o l ∧ OwnL lo hi w l := by
  obtain ⟨b, o, rfl, hb, hc⟩ := h.inn.2.1 hl
  have e : blks (.mk k n t (some ⟨b, o, none⟩) c l) = b :: blksL l := by
    cases l with
    | nil => exact absurd rfl hl
    | cons _ _ => simp [blks]
  have hnd := h.nd
  rw [e, List.nodup_cons] at hnd
  exact ⟨b, o, rfl, h.lo_ b (by simp [e]), hb, hnd.1, h.fr b (by simp [e]), RowIs.of_cells hc, ⟨h.inn.2.2, fun q hq => h.lo_ q (by simp [e, hq]), hnd.2, fun q hq => h.fr q (by simp [e, hq])⟩⟩
theorem Own.join {k n : Int} {t : ByteArray} {b o c : Nat} (h : OwnL lo hi w l) (hc : l.length ≤ c ∧ c ≤ maxLen ∧ t.size ≤ maxLen) (hlo : lo ≤ b) (hhi : b < hi) (hg : b ∉ blksL l)
    (hf : ∀ q, w.frozen? ⟨b, q, none⟩ = false) (hr : RowIs w b o l) : Own lo hi w (.mk k n t (some ⟨b, o, none⟩) c l) := by
  refine ⟨⟨hc, fun _ => ⟨b, o, rfl, hhi, hr.cells⟩, h.inn⟩, ?_, ?_, ?_⟩
  · intro q hm
    simp only [blks, List.mem_append] at hm
    rcases hm with hm | hm
    · split at hm
      · simp at hm
      · simp at hm; omega
    · exact h.lo_ q hm
  · simp only [blks]
    split
    · simpa using h.nd
    · simpa using ⟨hg, h.nd⟩
  · intro q hm r
    simp only [blks, List.mem_append] at hm
    rcases hm with hm | hm
    · split at hm
      · simp at hm
      · simp at hm; subst hm; exact hf r
    · exact h.fr q hm r
end
end D
end Go.Proofs.Ytpigpncbjckbcaa
