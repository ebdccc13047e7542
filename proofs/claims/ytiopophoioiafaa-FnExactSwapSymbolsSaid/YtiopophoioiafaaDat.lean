/-
  Data as trees, with the places where they lie: plain definitions and lemmas; nothing of the program.
-/
import Derived.WalkKit
import Derived.Deep.Draws
import Derived.Deep.Slices
import Derived.Lib.Hide
namespace Go.Proofs.Ytiopophoioiafaa
open Go.RowKit

/-- A datum with the address and the capacity of its list of items. -/
inductive D where
  | mk (k n : Int) (t : ByteArray) (A : Option Addr) (c : Nat) (l : List D)

theorem ret_int {k : IntKind} {a b : Int} (h : a = b) : Ending.returned (.int k a) = .returned (.int k b) := by rw [h]
theorem ret_bool {a b : Bool} (h : a = b) : Ending.returned (.bool a) = .returned (.bool b) := by rw [h]
theorem ret_str {a b : ByteArray} (h : a = b) : Ending.returned (.string a) = .returned (.string b) := by rw [h]

theorem bcell {W w1 : World} (hb : Below W.heap.size W w1) : (∀ b o, b < W.heap.size → w1.cell? ⟨b, o, none⟩ = W.cell? ⟨b, o, none⟩) ∧ (∀ b o, b < W.heap.size → w1.frozen? ⟨b, o, none⟩ = W.frozen? ⟨b, o, none⟩) :=
  ⟨fun b o h => hb.cell (p := ⟨b, o, none⟩) h, fun b o h => hb.frozen (p := ⟨b, o, none⟩) h⟩

theorem below_undrew {B : Nat} {w w1 : World} (h : Below B w.drew w1) : Below B w w1 := ⟨h.os, h.tape, h.output, h.size, h.block⟩
theorem below_undrewN {B n : Nat} {w w1 : World} (h : Below B (w.drewN n) w1) : Below B w w1 := ⟨h.os, h.tape, h.output, h.size, h.block⟩

namespace D
def k : D → Int | .mk k _ _ _ _ _ => k
def n : D → Int | .mk _ n _ _ _ _ => n
def t : D → ByteArray | .mk _ _ t _ _ _ => t
def A : D → Option Addr | .mk _ _ _ A _ _ => A
def c : D → Nat | .mk _ _ _ _ c _ => c
def l : D → List D | .mk _ _ _ _ _ l => l

theorem eta (d : D) : D.mk d.k d.n d.t d.A d.c d.l = d := by cases d; rfl
/-- The four cells of a datum. -/
def cells (d : D) : List Value := [.int .i64 d.k, .int .i64 d.n, .string d.t, .slice d.A d.l.length d.c]
/-- The value of a datum. -/
def val (d : D) : Value := .agg #[.int .i64 d.k, .int .i64 d.n, .string d.t, .slice d.A d.l.length d.c]
theorem cells_length (d : D) : d.cells.length = 4 := rfl

def cellsL (ds : List D) : List Value := ds.flatMap cells
theorem cellsL_length (ds : List D) : (cellsL ds).length = 4 * ds.length := by
  induction ds with
  | nil => rfl
  | cons d r ih => simp [cellsL, cells_length] at *; omega
theorem cellsL_get {ds : List D} {i : Nat} {d : D} (h : ds[i]? = some d) (j : Nat) (hj : j < 4) : (cellsL ds)[4 * i + j]? = d.cells[j]? := by
  induction ds generalizing i with
  | nil => simp at h
  | cons e r ih =>
    cases i with
    | zero =>
      simp at h
      subst h
      simp only [cellsL, List.flatMap_cons, Nat.mul_zero, Nat.zero_add]
      rw [List.getElem?_append_left (by rw [cells_length]; exact hj)]
    | succ i =>
      simp at h
      have := ih h
      simp only [cellsL, List.flatMap_cons] at this ⊢
      rw [List.getElem?_append_right (by rw [cells_length]; omega), cells_length, show 4 * (i + 1) + j - 4 = 4 * i + j by omega]
      exact this

mutual
/-- How many nodes. -/
def size : D → Nat | .mk _ _ _ _ _ l => 1 + sizeL l
def sizeL : List D → Nat | [] => 0 | d :: r => size d + sizeL r
end
mutual
/-- How many items and bytes of text. -/
def bulk : D → Nat | .mk _ _ t _ _ l => t.size + bulkL l
def bulkL : List D → Nat | [] => 0 | d :: r => 1 + bulk d + bulkL r
end
mutual
def depth : D → Nat | .mk _ _ _ _ _ l => depthL l + 1
def depthL : List D → Nat | [] => 0 | d :: r => max (depth d) (depthL r)
end
mutual
/-- Equal in all fields (not in the places). -/
def eqB : D → D → Bool | .mk k n t _ _ l, .mk k' n' t' _ _ l' => k == k' && (n == n' && (t.toList == t'.toList && eqL l l'))
def eqL : List D → List D → Bool | [], [] => true | [], _ :: _ => false | _ :: _, [] => false | a :: r, b :: s => eqB a b && eqL r s
end
mutual
/-- The items lie in memory below block number B. -/
def In (w : World) (B : Nat) : D → Prop
  | .mk _ _ t A c l => (l.length ≤ c ∧ c ≤ maxLen ∧ t.size ≤ maxLen) ∧ (l ≠ [] → ∃ b o : Nat, A = some ⟨b, o, none⟩ ∧ b < B ∧ ∀ j u, (cellsL l)[j]? = some u → w.cell? ⟨b, o + j, none⟩ = some u) ∧ InL w B l
def InL (w : World) (B : Nat) : List D → Prop | [] => True | d :: r => In w B d ∧ InL w B r
end

theorem InL_iff {w : World} {B : Nat} {l : List D} : InL w B l ↔ ∀ d ∈ l, In w B d := by
  induction l with
  | nil => simp [InL]
  | cons d r ih => simp [InL, ih]

theorem sizeL_mem {l : List D} {d : D} (h : d ∈ l) : d.size ≤ sizeL l := by
  induction l with
  | nil => cases h
  | cons e r ih =>
    simp only [sizeL]
    rcases List.mem_cons.1 h with rfl | h
    · omega
    · have := ih h; omega
theorem size_item {d x : D} (h : x ∈ d.l) : x.size < d.size := by
  cases d with
  | mk k n t A c l =>
    have := sizeL_mem (l := l) h
    simp only [size]; omega
theorem size_eq (d : D) : d.size = 1 + sizeL d.l := by cases d; rfl
theorem sizeL_append (a b : List D) : sizeL (a ++ b) = sizeL a + sizeL b := by
  induction a with
  | nil => simp [sizeL]
  | cons d r ih => simp [sizeL, ih]; omega
theorem bulkL_append (a b : List D) : bulkL (a ++ b) = bulkL a + bulkL b := by
  induction a with
  | nil => simp [bulkL]
  | cons d r ih => simp [bulkL, ih]; omega
theorem depthL_append (a b : List D) : depthL (a ++ b) = max (depthL a) (depthL b) := by
  induction a with
  | nil => simp [depthL]
  | cons d r ih => simp [depthL, ih, Nat.max_assoc]
theorem size_pos (d : D) : 1 ≤ d.size := by cases d; simp [size]
theorem length_le_sizeL (l : List D) : l.length ≤ sizeL l := by
  induction l with
  | nil => simp
  | cons d r ih => have := size_pos d; simp [sizeL]; omega

/-- Induction over the size. -/
theorem ind {p : D → Prop} (h : ∀ d, (∀ x, x ∈ d.l → p x) → p d) : ∀ d, p d := by
  have key : ∀ m, ∀ d : D, d.size < m → p d := by
    intro m
    induction m with
    | zero => intro d hd; omega
    | succ m ih => intro d hd; exact h d fun x hx => ih x (by have := size_item hx; omega)
  exact fun d => key _ d (Nat.lt_succ_self _)

section
variable {w w' : World} {B B' : Nat} {d : D}
theorem In.keep (h : In w B d) (hk : ∀ p : Addr, p.block < B → w'.cell? p = w.cell? p) : In w' B d := by
  induction d using ind with
  | h d ih =>
    cases d with
    | mk k n t A c l =>
      obtain ⟨h1, h3, h4⟩ := h
      refine ⟨h1, fun hl => ?_, InL_iff.2 fun x hx => ih x hx (InL_iff.1 h4 x hx)⟩
      obtain ⟨b, o, e, hb, hc⟩ := h3 hl
      exact ⟨b, o, e, hb, fun j u hu => (hk _ hb).trans (hc j u hu)⟩
theorem In.more (h : In w B d) (hB : B ≤ B') : In w B' d := by
  induction d using ind with
  | h d ih =>
    cases d with
    | mk k n t A c l =>
      obtain ⟨h1, h3, h4⟩ := h
      refine ⟨h1, fun hl => ?_, InL_iff.2 fun x hx => ih x hx (InL_iff.1 h4 x hx)⟩
      obtain ⟨b, o, e, hb, hc⟩ := h3 hl
      exact ⟨b, o, e, by omega, hc⟩
theorem In.below (h : In w B d) (hb : Below B w w') : In w' B d := h.keep fun _ hp => hb.cell hp
theorem In.drew (h : In w B d) : In w.drew B d := h.keep fun _ _ => rfl
theorem In.drewN (h : In w B d) (k : Nat) : In (w.drewN k) B d := h.keep fun _ _ => rfl
theorem In.alloc (h : In w B d) (hB : B ≤ w.heap.size) (o : Obj) : In (w.alloc o) B d := h.keep fun p hp => World.cell?_alloc_lt w o p (by omega)
theorem In.setCell (h : In w B d) {p : Addr} (hB : B ≤ p.block) (u : Value) : In (w.setCell p u) B d :=
  h.keep fun q hq => World.cell?_setCell_other w p q u (fun e => by subst e; omega)

theorem In.item (h : In w B d) {x : D} (hx : x ∈ d.l) : In w B x := by
  cases d with
  | mk k n t A c l => exact InL_iff.1 h.2.2 x hx
theorem In.cap (h : In w B d) : d.l.length ≤ d.c ∧ d.c ≤ 9223372036854775807 ∧ d.t.size ≤ 9223372036854775807 := by
  cases d with
  | mk k n t A c l => exact h.1
/-- The cells of item i. -/
theorem In.at_ (h : In w B d) {i : Nat} {x : D} (hx : d.l[i]? = some x) :
    ∃ b o : Nat, d.A = some ⟨b, o, none⟩ ∧ b < B ∧ w.cell? ⟨b, o + i * 4, none⟩ = some (.int .i64 x.k) ∧ w.cell? ⟨b, o + i * 4 + 1, none⟩ = some (.int .i64 x.n) ∧ w.cell? ⟨b, o + i * 4 + 2, none⟩ = some (.string x.t) ∧
      w.cell? ⟨b, o + i * 4 + 3, none⟩ = some (.slice x.A x.l.length x.c) ∧ In w B x := by
  cases d with
  | mk k n t A c l =>
    have hne : l ≠ [] := by rintro rfl; simp [D.l] at hx
    obtain ⟨b, o, e, hb, hc⟩ := h.2.1 hne
    have g := fun j (hj : j < 4) => cellsL_get (ds := l) hx j hj
    refine ⟨b, o, e, hb, ?_, ?_, ?_, ?_, InL_iff.1 h.2.2 x (List.mem_of_getElem? hx)⟩
    · have := hc (4 * i + 0) _ (by rw [g 0 (by omega)]; rfl)
      rwa [show o + (4 * i + 0) = o + i * 4 by omega] at this
    · have := hc (4 * i + 1) _ (by rw [g 1 (by omega)]; rfl)
      rwa [show o + (4 * i + 1) = o + i * 4 + 1 by omega] at this
    · have := hc (4 * i + 2) _ (by rw [g 2 (by omega)]; rfl)
      rwa [show o + (4 * i + 2) = o + i * 4 + 2 by omega] at this
    · have := hc (4 * i + 3) _ (by rw [g 3 (by omega)]; rfl)
      rwa [show o + (4 * i + 3) = o + i * 4 + 3 by omega] at this
end

end D
end Go.Proofs.Ytiopophoioiafaa
