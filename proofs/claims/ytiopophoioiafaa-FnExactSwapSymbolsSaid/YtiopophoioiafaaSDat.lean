/-
  Syntax objects as trees, with the places where they lie.
-/
import Derived.Test.YtiopophoioiafaaInts
namespace Go.Proofs.Ytiopophoioiafaa
open Go.RowKit

/-- A syntax object with the addresses and the capacities of its lists of scopes and of items. -/
inductive S where
  | mk (k n : Int) (t : ByteArray) (sa : Option Addr) (sc : Nat) (s : List Int) (A : Option Addr) (c : Nat) (l : List S)

namespace S
def k : S → Int | .mk k _ _ _ _ _ _ _ _ => k
def n : S → Int | .mk _ n _ _ _ _ _ _ _ => n
def t : S → ByteArray | .mk _ _ t _ _ _ _ _ _ => t
def sa : S → Option Addr | .mk _ _ _ sa _ _ _ _ _ => sa
def sc : S → Nat | .mk _ _ _ _ sc _ _ _ _ => sc
def s : S → List Int | .mk _ _ _ _ _ s _ _ _ => s
def A : S → Option Addr | .mk _ _ _ _ _ _ A _ _ => A
def c : S → Nat | .mk _ _ _ _ _ _ _ c _ => c
def l : S → List S | .mk _ _ _ _ _ _ _ _ l => l

theorem eta (d : S) : S.mk d.k d.n d.t d.sa d.sc d.s d.A d.c d.l = d := by cases d; rfl
/-- The five cells. -/
def cells (d : S) : List Value := [.int .i64 d.k, .int .i64 d.n, .string d.t, .slice d.sa d.s.length d.sc, .slice d.A d.l.length d.c]
def val (d : S) : Value := .agg #[.int .i64 d.k, .int .i64 d.n, .string d.t, .slice d.sa d.s.length d.sc, .slice d.A d.l.length d.c]
theorem cells_length (d : S) : d.cells.length = 5 := rfl

def cellsL (ds : List S) : List Value := ds.flatMap cells
theorem cellsL_length (ds : List S) : (cellsL ds).length = 5 * ds.length := by
  induction ds with
  | nil => rfl
  | cons d r ih => simp [cellsL, cells_length] at *; omega
theorem cellsL_get {ds : List S} {i : Nat} {d : S} (h : ds[i]? = some d) (j : Nat) (hj : j < 5) : (cellsL ds)[5 * i + j]? = d.cells[j]? := by
  induction ds generalizing i with
  | nil => simp at h
  | cons e r ih =>
    cases i with
    | zero =>
      simp at h
      subst h
      simp only [cellsL, List.flatMap_cons, Nat.mul_zero, Nat.zero_add]
      rw [List.getElem?_append_left (by rw [cells_length]; exact hj)]
    | succ i =>
      simp at h
      have := ih h
      simp only [cellsL, List.flatMap_cons] at this ⊢
      rw [List.getElem?_append_right (by rw [cells_length]; omega), cells_length, show 5 * (i + 1) + j - 5 = 5 * i + j by omega]
      exact this

mutual
/-- How many nodes. -/
def size : S → Nat | .mk _ _ _ _ _ _ _ _ l => 1 + sizeL l
def sizeL : List S → Nat | [] => 0 | d :: r => size d + sizeL r
end
mutual
/-- How many items, scopes and bytes of text. -/
def bulk : S → Nat | .mk _ _ t _ _ s _ _ l => t.size + (s.length + bulkL l)
def bulkL : List S → Nat | [] => 0 | d :: r => 1 + bulk d + bulkL r
end
mutual
def depth : S → Nat | .mk _ _ _ _ _ _ _ _ l => depthL l + 1
def depthL : List S → Nat | [] => 0 | d :: r => max (depth d) (depthL r)
end
mutual
/-- Equal in all fields (not in the places). -/
def eqB : S → S → Bool | .mk k n t _ _ s _ _ l, .mk k' n' t' _ _ s' _ _ l' => k == k' && (n == n' && (t.toList == t'.toList && (s == s' && eqL l l')))
def eqL : List S → List S → Bool | [], [] => true | [], _ :: _ => false | _ :: _, [] => false | a :: r, b :: s => eqB a b && eqL r s
end
mutual
/-- All lies in memory below block number B. -/
def In (w : World) (B : Nat) : S → Prop
  | .mk _ _ t sa sc s A c l => (l.length ≤ c ∧ c ≤ maxLen ∧ t.size ≤ maxLen) ∧ IIn w B sa sc s ∧ (l ≠ [] → ∃ b o : Nat, A = some ⟨b, o, none⟩ ∧ b < B ∧ ∀ j u, (cellsL l)[j]? = some u → w.cell? ⟨b, o + j, none⟩ = some u) ∧ InL w B l
def InL (w : World) (B : Nat) : List S → Prop | [] => True | d :: r => In w B d ∧ InL w B r
end

theorem InL_iff {w : World} {B : Nat} {l : List S} : InL w B l ↔ ∀ d ∈ l, In w B d := by
  induction l with
  | nil => simp [InL]
  | cons d r ih => simp [InL, ih]

theorem sizeL_mem {l : List S} {d : S} (h : d ∈ l) : d.size ≤ sizeL l := by
  induction l with
  | nil => cases h
  | cons e r ih =>
    simp only [sizeL]
    rcases List.mem_cons.1 h with rfl | h
    · omega
    · have := ih h; omega
theorem size_item {d x : S} (h : x ∈ d.l) : x.size < d.size := by
  cases d with
  | mk k n t sa sc s A c l =>
    have := sizeL_mem (l := l) h
    simp only [size]; omega
theorem size_eq (d : S) : d.size = 1 + sizeL d.l := by cases d; rfl
theorem sizeL_append (a b : List S) : sizeL (a ++ b) = sizeL a + sizeL b := by
  induction a with
  | nil => simp [sizeL]
  | cons d r ih => simp [sizeL, ih]; omega
theorem bulkL_append (a b : List S) : bulkL (a ++ b) = bulkL a + bulkL b := by
  induction a with
  | nil => simp [bulkL]
  | cons d r ih => simp [bulkL, ih]; omega
theorem depthL_append (a b : List S) : depthL (a ++ b) = max (depthL a) (depthL b) := by
  induction a with
  | nil => simp [depthL]
  | cons d r ih => simp [depthL, ih, Nat.max_assoc]
theorem size_pos (d : S) : 1 ≤ d.size := by cases d; simp [size]
theorem length_le_sizeL (l : List S) : l.length ≤ sizeL l := by
  induction l with
  | nil => simp
  | cons d r ih => have := size_pos d; simp [sizeL]; omega

/-- Induction over the size. -/
theorem ind {p : S → Prop} (h : ∀ d, (∀ x, x ∈ d.l → p x) → p d) : ∀ d, p d := by
  have key : ∀ m, ∀ d : S, d.size < m → p d := by
    intro m
    induction m with
    | zero => intro d hd; omega
    | succ m ih => intro d hd; exact h d fun x hx => ih x (by have := size_item hx; omega)
  exact fun d => key _ d (Nat.lt_succ_self _)

section
variable {w w' : World} {B B' : Nat} {d : S}
theorem In.keep (h : In w B d) (hk : ∀ k, k < B → w'.heap[k]? = w.heap[k]?) : In w' B d := by
  induction d using ind with
  | h d ih =>
    cases d with
    | mk k n t sa sc s A c l =>
      obtain ⟨h1, h2, h3, h4⟩ := h
      refine ⟨h1, h2.keep fun k hm => hk k (h2.blk_lt k hm), fun hl => ?_, InL_iff.2 fun x hx => ih x hx (InL_iff.1 h4 x hx)⟩
      obtain ⟨b, o, e, hb, hc⟩ := h3 hl
      exact ⟨b, o, e, hb, fun j u hu => (World.cell?_of_block (a := ⟨b, o + j, none⟩) (hk b hb)).trans (hc j u hu)⟩
theorem In.more (h : In w B d) (hB : B ≤ B') : In w B' d := by
  induction d using ind with
  | h d ih =>
    cases d with
    | mk k n t sa sc s A c l =>
      obtain ⟨h1, h2, h3, h4⟩ := h
      refine ⟨h1, h2.more hB, fun hl => ?_, InL_iff.2 fun x hx => ih x hx (InL_iff.1 h4 x hx)⟩
      obtain ⟨b, o, e, hb, hc⟩ := h3 hl
      exact ⟨b, o, e, by omega, hc⟩
theorem In.below (h : In w B d) (hb : Below B w w') : In w' B d := h.keep fun k hp => hb.block k hp
theorem In.drew (h : In w B d) : In w.drew B d := h.keep fun _ _ => rfl
theorem In.drewN (h : In w B d) (k : Nat) : In (w.drewN k) B d := h.keep fun _ _ => rfl
theorem In.alloc (h : In w B d) (hB : B ≤ w.heap.size) (o : Obj) : In (w.alloc o) B d := h.below ((Below.refl _ _).alloc hB o)

theorem In.item (h : In w B d) {x : S} (hx : x ∈ d.l) : In w B x := by
  cases d with
  | mk k n t sa sc s A c l => exact InL_iff.1 h.2.2.2 x hx
theorem In.cap (h : In w B d) : d.l.length ≤ d.c ∧ d.c ≤ 9223372036854775807 ∧ d.t.size ≤ 9223372036854775807 := by
  cases d with
  | mk k n t sa sc s A c l => exact h.1
theorem In.scopes (h : In w B d) : IIn w B d.sa d.sc d.s := by
  cases d with
  | mk k n t sa sc s A c l => exact h.2.1
/-- The cells of item i. -/
theorem In.at_ (h : In w B d) {i : Nat} {x : S} (hx : d.l[i]? = some x) :
    ∃ b o : Nat, d.A = some ⟨b, o, none⟩ ∧ b < B ∧ w.cell? ⟨b, o + i * 5, none⟩ = some (.int .i64 x.k) ∧ w.cell? ⟨b, o + i * 5 + 1, none⟩ = some (.int .i64 x.n) ∧ w.cell? ⟨b, o + i * 5 + 2, none⟩ = some (.string x.t) ∧
      w.cell? ⟨b, o + i * 5 + 3, none⟩ = some (.slice x.sa x.s.length x.sc) ∧ w.cell? ⟨b, o + i * 5 + 4, none⟩ = some (.slice x.A x.l.length x.c) ∧ In w B x := by
  cases d with
  | mk k n t sa sc s A c l =>
    have hne : l ≠ [] := by rintro rfl; simp [S.l] at hx
    obtain ⟨b, o, e, hb, hc⟩ := h.2.2.1 hne
    have g := fun j (hj : j < 5) => cellsL_get (ds := l) hx j hj
    refine ⟨b, o, e, hb, ?_, ?_, ?_, ?_, ?_, InL_iff.1 h.2.2.2 x (List.mem_of_getElem? hx)⟩
    · have := hc (5 * i + 0) _ (by rw [g 0 (by omega)]; rfl)
      rwa [show o + (5 * i + 0) = o + i * 5 by omega] at this
    · have := hc (5 * i + 1) _ (by rw [g 1 (by omega)]; rfl)
      rwa [show o + (5 * i + 1) = o + i * 5 + 1 by omega] at this
    · have := hc (5 * i + 2) _ (by rw [g 2 (by omega)]; rfl)
      rwa [show o + (5 * i + 2) = o + i * 5 + 2 by omega] at this
    · have := hc (5 * i + 3) _ (by rw [g 3 (by omega)]; rfl)
      rwa [show o + (5 * i + 3) = o + i * 5 + 3 by omega] at this
    · have := hc (5 * i + 4) _ (by rw [g 4 (by omega)]; rfl)
      rwa [show o + (5 * i + 4) = o + i * 5 + 4 by omega] at this
end

end S
end Go.Proofs.Ytiopophoioiafaa
