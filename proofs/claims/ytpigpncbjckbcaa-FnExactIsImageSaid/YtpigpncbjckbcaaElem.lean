/-
  Elements of any kind, and rows of them: where they lie, what is owned, rows that are filled and rows that grow. Nothing of the program.
-/
import Derived.Test.YtpigpncbjckbcaaBase
import Derived.Laws.AppendOwn
namespace Go.Proofs.Ytpigpncbjckbcaa
open Go.RowKit

/-- A kind of elements: their cells, where what they refer to lies. -/
structure Elem (α : Type) where
  cells : α → List Value
  n : Nat
  pos : 0 < n
  len : ∀ a, (cells a).length = n
  one : ∀ a, ∀ u ∈ cells a, u.oneCell' = true
  In : World → Nat → α → Prop
  blks : α → List Nat
  lt : ∀ {w : World} {B : Nat} {a : α}, In w B a → ∀ b ∈ blks a, b < B
  keepB : ∀ {w w' : World} {B : Nat} {a : α}, In w B a → (∀ k, k ∈ blks a → w'.heap[k]? = w.heap[k]?) → In w' B a
  more : ∀ {w : World} {B B' : Nat} {a : α}, In w B a → B ≤ B' → In w B' a

namespace Elem
variable {α : Type} (E : Elem α)

/-- The call's own. -/
structure Own (lo hi : Nat) (w : World) (a : α) : Prop where
  inn : E.In w hi a
  lo_ : ∀ b ∈ E.blks a, lo ≤ b
  nd : (E.blks a).Nodup
  fr : ∀ b ∈ E.blks a, ∀ o, w.frozen? ⟨b, o, none⟩ = false
def cellsL (l : List α) : List Value := l.flatMap E.cells
def blksL (l : List α) : List Nat := l.flatMap E.blks
/-- All of them, and they share nothing. -/
structure OwnL (lo hi : Nat) (w : World) (l : List α) : Prop where
  inn : ∀ x ∈ l, E.In w hi x
  lo_ : ∀ b ∈ E.blksL l, lo ≤ b
  nd : (E.blksL l).Nodup
  fr : ∀ b ∈ E.blksL l, ∀ o, w.frozen? ⟨b, o, none⟩ = false
/-- A row of elements below block B. -/
structure LIn (w : World) (B : Nat) (A : Option Addr) (c : Nat) (l : List α) : Prop where
  cap : l.length ≤ c ∧ c ≤ 9223372036854775807
  nil : A = none → c = 0
  mem : l ≠ [] → ∃ b o : Nat, A = some ⟨b, o, none⟩ ∧ b < B ∧ ∀ j u, (E.cellsL l)[j]? = some u → w.cell? ⟨b, o + j, none⟩ = some u
  all : ∀ x ∈ l, E.In w B x
def lblk (A : Option Addr) (l : List α) : List Nat := if l.isEmpty then [] else (A.map (·.block)).toList
def lblks (A : Option Addr) (l : List α) : List Nat := lblk A l ++ E.blksL l
structure LOwn (lo hi : Nat) (w : World) (A : Option Addr) (c : Nat) (l : List α) : Prop where
  inn : E.LIn w hi A c l
  lo_ : ∀ b ∈ E.lblks A l, lo ≤ b
  nd : (E.lblks A l).Nodup
  fr : ∀ b ∈ E.lblks A l, ∀ o, w.frozen? ⟨b, o, none⟩ = false

section
variable {E}
variable {w w' : World} {B B' lo hi lo' hi' : Nat} {A : Option Addr} {c : Nat} {l : List α} {a : α}
theorem Own.below (h : E.Own lo hi w a) (hb : Below hi w w') : E.Own lo hi w' a :=
  ⟨E.keepB h.inn fun k hk => hb.block k (E.lt h.inn k hk), h.lo_, h.nd, fun b hm o => (World.frozen?_of_block (hb.block b (E.lt h.inn b hm))).trans (h.fr b hm o)⟩
theorem Own.keepB (h : E.Own lo hi w a) (hk : ∀ k, k ∈ E.blks a → w'.heap[k]? = w.heap[k]?) : E.Own lo hi w' a :=
  ⟨E.keepB h.inn hk, h.lo_, h.nd, fun b hm o => (World.frozen?_of_block (hk b hm)).trans (h.fr b hm o)⟩
theorem Own.wide (h : E.Own lo hi w a) (h1 : lo' ≤ lo) (h2 : hi ≤ hi') : E.Own lo' hi' w a :=
  ⟨E.more h.inn h2, fun b hm => Nat.le_trans h1 (h.lo_ b hm), h.nd, h.fr⟩
theorem Own.far (h : E.Own lo hi w a) {p : Addr} (hp : p.block < lo) (u : Value) : E.Own lo hi (w.setCell p u) a :=
  h.keepB fun k hk => Below.heap_setCell _ _ _ _ (by have := h.lo_ k hk; omega)
theorem Own.blk_lt (h : E.Own lo hi w a) : ∀ b ∈ E.blks a, b < hi := E.lt h.inn
theorem below_ (h : E.In w B a) (hb : Below B w w') : E.In w' B a := E.keepB h fun k hk => hb.block k (E.lt h k hk)
theorem alloc_ (h : E.In w B a) (hB : B ≤ w.heap.size) (o : Obj) : E.In (w.alloc o) B a := below_ h ((Below.refl _ _).alloc hB o)
theorem drew_ (h : E.In w B a) : E.In w.drew B a := E.keepB h fun _ _ => rfl

theorem blksL_mem {b : Nat} : b ∈ E.blksL l ↔ ∃ x ∈ l, b ∈ E.blks x := by simp [blksL]
theorem blksL_append (a b : List α) : E.blksL (a ++ b) = E.blksL a ++ E.blksL b := by simp [blksL]
theorem cellsL_append (a b : List α) : E.cellsL (a ++ b) = E.cellsL a ++ E.cellsL b := by simp [cellsL]
theorem cellsL_one (a : α) : E.cellsL [a] = E.cells a := by simp [cellsL]
theorem blksL_one (a : α) : E.blksL [a] = E.blks a := by simp [blksL]
theorem cellsL_length (l : List α) : (E.cellsL l).length = E.n * l.length := by
  induction l with
  | nil => simp [cellsL]
  | cons d r ih =>
    have e : E.cellsL (d :: r) = E.cells d ++ E.cellsL r := by simp [cellsL]
    rw [e, List.length_append, E.len, ih, List.length_cons, Nat.mul_succ]; omega
theorem cellsL_get {i : Nat} {d : α} (h : l[i]? = some d) {j : Nat} (hj : j < E.n) : (E.cellsL l)[E.n * i + j]? = (E.cells d)[j]? := by
  induction l generalizing i with
  | nil => simp at h
  | cons e r ih =>
    have e1 : E.cellsL (e :: r) = E.cells e ++ E.cellsL r := by simp [cellsL]
    rw [e1]
    cases i with
    | zero =>
      simp at h
      subst h
      rw [Nat.mul_zero, Nat.zero_add, List.getElem?_append_left (by rw [E.len]; exact hj)]
    | succ i =>
      simp at h
      rw [List.getElem?_append_right (by rw [E.len, Nat.mul_succ]; omega), E.len, show E.n * (i + 1) + j - E.n = E.n * i + j by rw [Nat.mul_succ]; omega]
      exact ih h
theorem cellsL_one' (l : List α) : ∀ u ∈ E.cellsL l, u.oneCell' = true := by
  intro u hu
  simp only [cellsL, List.mem_flatMap] at hu
  obtain ⟨x, _, hx⟩ := hu
  exact E.one x u hx

theorem OwnL.below (h : E.OwnL lo hi w l) (hb : Below hi w w') : E.OwnL lo hi w' l :=
  ⟨fun x hx => below_ (h.inn x hx) hb, h.lo_, h.nd, fun b hm o => by
    obtain ⟨x, hx, hbx⟩ := blksL_mem.1 hm
    exact (World.frozen?_of_block (hb.block b (E.lt (h.inn x hx) b hbx))).trans (h.fr b hm o)⟩
theorem OwnL.keepB (h : E.OwnL lo hi w l) (hk : ∀ k, k ∈ E.blksL l → w'.heap[k]? = w.heap[k]?) : E.OwnL lo hi w' l :=
  ⟨fun x hx => E.keepB (h.inn x hx) fun k hkx => hk k (blksL_mem.2 ⟨x, hx, hkx⟩), h.lo_, h.nd, fun b hm o => (World.frozen?_of_block (hk b hm)).trans (h.fr b hm o)⟩
theorem OwnL.wide (h : E.OwnL lo hi w l) (h1 : lo' ≤ lo) (h2 : hi ≤ hi') : E.OwnL lo' hi' w l :=
  ⟨fun x hx => E.more (h.inn x hx) h2, fun b hm => Nat.le_trans h1 (h.lo_ b hm), h.nd, h.fr⟩
theorem OwnL.nil_ : E.OwnL lo hi w [] := ⟨by simp, by simp [blksL], by simp [blksL], by simp [blksL]⟩
theorem OwnL.blk_lt (h : E.OwnL lo hi w l) : ∀ b ∈ E.blksL l, b < hi := by
  intro b hb
  obtain ⟨x, hx, hbx⟩ := blksL_mem.1 hb
  exact E.lt (h.inn x hx) b hbx
theorem OwnL.far (h : E.OwnL lo hi w l) {p : Addr} (hp : p.block < lo) (u : Value) : E.OwnL lo hi (w.setCell p u) l :=
  h.keepB fun k hk => Below.heap_setCell _ _ _ _ (by have := h.lo_ k hk; omega)
/-- One more, which lies in newer blocks. -/
theorem OwnL.snoc (h : E.OwnL lo hi w l) (hd : E.Own hi hi' w a) (h2 : hi ≤ hi') (h1 : lo ≤ hi) : E.OwnL lo hi' w (l ++ [a]) := by
  refine ⟨fun x hx => ?_, ?_, ?_, ?_⟩
  · rcases List.mem_append.1 hx with hx | hx
    · exact E.more (h.inn x hx) h2
    · simp at hx; subst hx; exact hd.inn
  · intro b hm
    rw [blksL_append, blksL_one, List.mem_append] at hm
    rcases hm with hm | hm
    · exact h.lo_ b hm
    · exact Nat.le_trans h1 (hd.lo_ b hm)
  · rw [blksL_append, blksL_one]
    refine List.nodup_append.2 ⟨h.nd, hd.nd, fun x hx y hy e => ?_⟩
    have := h.blk_lt x hx
    have := hd.lo_ y hy
    omega
  · intro b hm o
    rw [blksL_append, blksL_one, List.mem_append] at hm
    rcases hm with hm | hm
    · exact h.fr b hm o
    · exact hd.fr b hm o

theorem lblk_some {b o : Nat} (hl : l ≠ []) : lblk (some ⟨b, o, none⟩) l = [b] := by
  cases l with
  | nil => exact absurd rfl hl
  | cons _ _ => rfl
theorem LIn.keepB (h : E.LIn w B A c l) (hk : ∀ k, k ∈ E.lblks A l → w'.heap[k]? = w.heap[k]?) : E.LIn w' B A c l := by
  refine ⟨h.cap, h.nil, fun hl => ?_, fun x hx => E.keepB (h.all x hx) fun k hkx => hk k (List.mem_append.2 (.inr (blksL_mem.2 ⟨x, hx, hkx⟩)))⟩
  obtain ⟨b, o, rfl, hb, hc⟩ := h.mem hl
  exact ⟨b, o, rfl, hb, fun j u hu => (World.cell?_of_block (a := ⟨b, o + j, none⟩) (hk b (by simp [lblks, lblk_some hl]))).trans (hc j u hu)⟩
theorem LIn.blk_lt (h : E.LIn w B A c l) : ∀ b ∈ E.lblks A l, b < B := by
  intro b hb
  rcases List.mem_append.1 hb with hb | hb
  · by_cases hl : l = []
    · subst hl; simp [lblk] at hb
    · obtain ⟨b', o, rfl, hlt, _⟩ := h.mem hl
      simp [lblk_some hl] at hb
      omega
  · obtain ⟨x, hx, hbx⟩ := blksL_mem.1 hb
    exact E.lt (h.all x hx) b hbx
theorem LIn.below (h : E.LIn w B A c l) (hb : Below B w w') : E.LIn w' B A c l := h.keepB fun k hk => hb.block k (h.blk_lt k hk)
theorem LIn.more (h : E.LIn w B A c l) (hB : B ≤ B') : E.LIn w B' A c l := by
  refine ⟨h.cap, h.nil, fun hl => ?_, fun x hx => E.more (h.all x hx) hB⟩
  obtain ⟨b, o, rfl, hb, hc⟩ := h.mem hl
  exact ⟨b, o, rfl, by omega, hc⟩
theorem LIn.alloc (h : E.LIn w B A c l) (hB : B ≤ w.heap.size) (o : Obj) : E.LIn (w.alloc o) B A c l := h.below ((Below.refl _ _).alloc hB o)
theorem LIn.drew (h : E.LIn w B A c l) : E.LIn w.drew B A c l := h.keepB fun _ _ => rfl
theorem LIn.nil_ (hc : c ≤ 9223372036854775807) (hn : A = none → c = 0) : E.LIn w B A c [] := ⟨⟨Nat.zero_le _, hc⟩, hn, fun h => absurd rfl h, by simp⟩
/-- Element i: its cells. -/
theorem LIn.at_ (h : E.LIn w B A c l) {i : Nat} {d : α} (hi : l[i]? = some d) : ∃ b o : Nat, A = some ⟨b, o, none⟩ ∧ b < B ∧ (∀ j u, (E.cells d)[j]? = some u → w.cell? ⟨b, o + i * E.n + j, none⟩ = some u) ∧ E.In w B d := by
  obtain ⟨b, o, rfl, hb, hc⟩ := h.mem (by rintro rfl; simp at hi)
  refine ⟨b, o, rfl, hb, fun j u hu => ?_, h.all d (List.mem_of_getElem? hi)⟩
  have hj : j < E.n := by rw [← E.len d]; exact (List.getElem?_eq_some_iff.1 hu).1
  have := hc (E.n * i + j) u (by rw [cellsL_get hi hj]; exact hu)
  rwa [show o + (E.n * i + j) = o + i * E.n + j by rw [Nat.mul_comm]; omega] at this
theorem LOwn.keepB (h : E.LOwn lo hi w A c l) (hk : ∀ k, k ∈ E.lblks A l → w'.heap[k]? = w.heap[k]?) : E.LOwn lo hi w' A c l :=
  ⟨h.inn.keepB hk, h.lo_, h.nd, fun b hm o => (World.frozen?_of_block (hk b hm)).trans (h.fr b hm o)⟩
theorem LOwn.below (h : E.LOwn lo hi w A c l) (hb : Below hi w w') : E.LOwn lo hi w' A c l := h.keepB fun k hk => hb.block k (h.inn.blk_lt k hk)
theorem LOwn.wide (h : E.LOwn lo hi w A c l) (h1 : lo' ≤ lo) (h2 : hi ≤ hi') : E.LOwn lo' hi' w A c l :=
  ⟨h.inn.more h2, fun b hm => Nat.le_trans h1 (h.lo_ b hm), h.nd, h.fr⟩
theorem LOwn.far (h : E.LOwn lo hi w A c l) {p : Addr} (hp : p.block < lo) (u : Value) : E.LOwn lo hi (w.setCell p u) A c l :=
  h.keepB fun k hk => Below.heap_setCell _ _ _ _ (by have := h.lo_ k hk; omega)
theorem LOwn.nil_ (hc : c ≤ 9223372036854775807) (hn : A = none → c = 0) : E.LOwn lo hi w A c [] :=
  ⟨LIn.nil_ hc hn, by simp [lblks, lblk, blksL], by simp [lblks, lblk, blksL], by simp [lblks, lblk, blksL]⟩
theorem LOwn.elems (h : E.LOwn lo hi w A c l) : E.OwnL lo hi w l := by
  have hnd := h.nd
  rw [lblks] at hnd
  exact ⟨h.inn.all, fun b hb => h.lo_ b (List.mem_append.2 (.inr hb)), (List.nodup_append.1 hnd).2.1, fun b hb => h.fr b (List.mem_append.2 (.inr hb))⟩
/-- A row that has been laid out of owned elements. -/
theorem LOwn.of_row {g : Nat} (h : E.OwnL lo hi w l) (hc : l.length ≤ c ∧ c ≤ 9223372036854775807) (hg : g ∉ E.blksL l) (hlo : lo ≤ g) (hhi : g < hi)
    (hf : ∀ o, w.frozen? ⟨g, o, none⟩ = false) (hcells : ∀ j u, (E.cellsL l)[j]? = some u → w.cell? ⟨g, j, none⟩ = some u) : E.LOwn lo hi w (some ⟨g, 0, none⟩) c l := by
  have hb : ∀ b ∈ lblk (some ⟨g, 0, none⟩) l, b = g := by
    intro b hb
    unfold lblk at hb
    split at hb <;> simp at hb
    exact hb
  refine ⟨⟨hc, by simp, fun _ => ⟨g, 0, rfl, hhi, fun j u hu => ?_⟩, h.inn⟩, ?_, ?_, ?_⟩
  · rw [Nat.zero_add]; exact hcells j u hu
  · intro b hm
    rcases List.mem_append.1 hm with hm | hm
    · rw [hb b hm]; exact hlo
    · exact h.lo_ b hm
  · refine List.nodup_append.2 ⟨?_, h.nd, fun x hx y hy e => ?_⟩
    · unfold lblk; split <;> simp
    · rw [hb x hx] at e; subst e; exact hg hy
  · intro b hm o
    rcases List.mem_append.1 hm with hm | hm
    · rw [hb b hm]; exact hf o
    · exact h.fr b hm o
end

/-! A row of n places that is filled one by one -/
/-- Row g of n places bears the elements ds at its head. -/
def RowTo (w : World) (g : Nat) (t : TypeId) (n : Nat) (ds : List α) : Prop := ∃ cs : Array Value, D.Blk w g t cs ∧ cs.size = E.n * n ∧ ∀ (i : Nat) (u : Value), (E.cellsL ds)[i]? = some u → cs[i]? = some u
/-- What has been filled, and the elements' own memory above the row. -/
structure Fill (w : World) (g : Nat) (t : TypeId) (n : Nat) (ds : List α) : Prop where
  row : E.RowTo w g t n ds
  own : E.OwnL (g + 1) w.heap.size w ds
section
variable {E}
variable {w w' : World} {g n : Nat} {t : TypeId} {ds : List α} {d : α}
theorem RowTo.below {B : Nat} (h : E.RowTo w g t n ds) (hb : Below B w w') (hg : g < B) : E.RowTo w' g t n ds := by
  obtain ⟨cs, h1, h2⟩ := h
  exact ⟨cs, h1.below hb hg, h2⟩
theorem RowTo.lt (h : E.RowTo w g t n ds) : g < w.heap.size := by
  obtain ⟨cs, h1, _⟩ := h
  exact h1.lt
theorem RowTo.old (h : E.RowTo w g t n ds) {i : Nat} (hi : i < E.n * n) : ∃ u, w.cell? ⟨g, i, none⟩ = some u := by
  obtain ⟨cs, h1, h2, _⟩ := h
  exact ⟨cs[i], by rw [h1.cell]; exact Array.getElem?_eq_getElem (by omega)⟩
theorem RowTo.frozen (h : E.RowTo w g t n ds) (i : Nat) : w.frozen? ⟨g, i, none⟩ = false := by
  obtain ⟨cs, h1, _⟩ := h
  exact h1.frozen i
theorem RowTo.cellsOf (h : E.RowTo w g t n ds) : ∀ j u, (E.cellsL ds)[j]? = some u → w.cell? ⟨g, j, none⟩ = some u := by
  obtain ⟨cs, h1, _, h3⟩ := h
  intro j u hu
  rw [h1.cell]; exact h3 j u hu
/-- Storing the cells of the next element. -/
def put (w : World) (g : Nat) : Nat → List Value → World
  | _, [] => w
  | p, u :: r => put (w.setCell ⟨g, p, none⟩ u) g (p + 1) r
theorem put_size (us : List Value) : ∀ (w : World) (g p : Nat), (put w g p us).heap.size = w.heap.size := by
  induction us with
  | nil => intro w g p; rfl
  | cons u r ih => intro w g p; rw [put, ih]; simp
theorem put_below (us : List Value) : ∀ (w0 w : World) (g p B : Nat), Below B w0 w → B ≤ g → Below B w0 (put w g p us) := by
  induction us with
  | nil => intro w0 w g p B h _; exact h
  | cons u r ih => intro w0 w g p B h hB; exact ih _ _ _ _ _ (h.setCell (by simpa using hB) u) hB
theorem put_heap (us : List Value) : ∀ (w : World) (g p k : Nat), k ≠ g → (put w g p us).heap[k]? = w.heap[k]? := by
  induction us with
  | nil => intro w g p k _; rfl
  | cons u r ih => intro w g p k hk; rw [put, ih _ _ _ _ hk]; exact Below.heap_setCell _ _ _ _ (by simpa using hk)
theorem put_blk (us : List Value) : ∀ {w : World} {g : Nat} {t : TypeId} {cs : Array Value} (p : Nat), D.Blk w g t cs → p + us.length ≤ cs.size → ∃ cs' : Array Value, D.Blk (put w g p us) g t cs' ∧ cs'.size = cs.size ∧
    (∀ i, i < p → cs'[i]? = cs[i]?) ∧ ∀ j u, us[j]? = some u → cs'[p + j]? = some u := by
  induction us with
  | nil => intro w g t cs p h _; exact ⟨cs, h, rfl, fun _ _ => rfl, by simp⟩
  | cons u r ih =>
    intro w g t cs p h hp
    simp only [List.length_cons] at hp
    obtain ⟨cs', h1, h2, h3, h4⟩ := ih (p + 1) (h.set_ p u) (by simp; omega)
    refine ⟨cs', h1, by simpa using h2, fun i hi => ?_, fun j v hv => ?_⟩
    · rw [h3 i (by omega)]; simp [Array.getElem?_setIfInBounds]; omega
    · cases j with
      | zero =>
        simp at hv
        subst hv
        rw [Nat.add_zero, h3 p (by omega)]
        simp [Array.getElem?_setIfInBounds]; omega
      | succ j =>
        simp at hv
        have := h4 j v hv
        rwa [show p + 1 + j = p + (j + 1) by omega] at this
theorem RowTo.step (h : E.RowTo w g t n ds) (hn : ds.length < n) : E.RowTo (put w g (E.n * ds.length) (E.cells d)) g t n (ds ++ [d]) := by
  obtain ⟨cs, h1, h2, h3⟩ := h
  have hle : E.n * ds.length + E.n ≤ E.n * n := by rw [← Nat.mul_succ]; exact Nat.mul_le_mul (Nat.le_refl _) hn
  obtain ⟨cs', k1, k2, k3, k4⟩ := put_blk (E.cells d) (E.n * ds.length) h1 (by rw [E.len, h2]; exact hle)
  refine ⟨cs', k1, k2.trans h2, fun i u hu => ?_⟩
  rw [cellsL_append, cellsL_one] at hu
  have hlen : (E.cellsL ds).length = E.n * ds.length := cellsL_length ds
  by_cases hi : i < E.n * ds.length
  · rw [List.getElem?_append_left (by omega)] at hu
    rw [k3 i hi]; exact h3 i u hu
  · rw [List.getElem?_append_right (by omega), hlen] at hu
    have := k4 (i - E.n * ds.length) u hu
    rwa [show E.n * ds.length + (i - E.n * ds.length) = i by omega] at this
theorem Fill.new (w : World) (t : TypeId) {cs : Array Value} {n : Nat} (hs : cs.size = E.n * n) : E.Fill (w.alloc (.cells cs t)) w.heap.size t n [] :=
  ⟨⟨cs, D.Blk.new _ _ _, hs, by simp [cellsL]⟩, OwnL.nil_⟩
/-- The next element, made by the call, stored. -/
theorem Fill.step {wr : World} (h : E.Fill wr g t n ds) (hb : Below wr.heap.size wr w) (hd : E.Own wr.heap.size w.heap.size w d) (hn : ds.length < n) :
    E.Fill (put w g (E.n * ds.length) (E.cells d)) g t n (ds ++ [d]) := by
  have hlt := h.row.lt
  have hz := hb.size
  refine ⟨(h.row.below hb hlt).step hn, ?_⟩
  rw [put_size]
  have ho := (h.own.below hb).snoc hd hz (by omega)
  exact ho.keepB fun k hk => put_heap _ _ _ _ _ (by have := ho.lo_ k hk; omega)
theorem Fill.below (h : E.Fill w g t n ds) (hb : Below w.heap.size w w') : E.Fill w' g t n ds := ⟨h.row.below hb h.row.lt, (h.own.below hb).wide (Nat.le_refl _) hb.size⟩
theorem Fill.done (h : E.Fill w g t n ds) (hn : ds.length = n) (hn2 : n ≤ 9223372036854775807) : E.LOwn g w.heap.size w (some ⟨g, 0, none⟩) n ds :=
  LOwn.of_row (h.own.wide (by omega) (Nat.le_refl _)) ⟨by omega, hn2⟩ (fun hm => by have := h.own.lo_ _ hm; omega) (Nat.le_refl _) h.row.lt h.row.frozen h.row.cellsOf
end
/-- One element of a row written anew; what it refers to stays in its blocks. -/
theorem LOwn.upd {α : Type} {E : Elem α} {w w' : World} {lo hi b o c : Nat} {pre suf : List α} {x y : α} (h : E.LOwn lo hi w (some ⟨b, o, none⟩) c (pre ++ x :: suf)) (hblk : E.blks y = E.blks x)
    (hc : ∀ q, q < o + pre.length * E.n ∨ o + pre.length * E.n + E.n ≤ q → w'.cell? ⟨b, q, none⟩ = w.cell? ⟨b, q, none⟩)
    (hy : ∀ j u, (E.cells y)[j]? = some u → w'.cell? ⟨b, o + pre.length * E.n + j, none⟩ = some u)
    (hin : E.In w' hi y) (hk : ∀ k, k ∈ E.blksL (pre ++ x :: suf) → k ∉ E.blks x → w'.heap[k]? = w.heap[k]?)
    (hf : ∀ k, k ∈ E.lblks (some ⟨b, o, none⟩) (pre ++ x :: suf) → ∀ q, w'.frozen? ⟨k, q, none⟩ = w.frozen? ⟨k, q, none⟩) : E.LOwn lo hi w' (some ⟨b, o, none⟩) c (pre ++ y :: suf) := by
  have e1 : E.blksL (pre ++ y :: suf) = E.blksL (pre ++ x :: suf) := by simp [blksL, hblk]
  have e2 : E.lblks (some ⟨b, o, none⟩) (pre ++ y :: suf) = E.lblks (some ⟨b, o, none⟩) (pre ++ x :: suf) := by
    unfold lblks; rw [e1]; congr 1
    rw [lblk_some (by simp), lblk_some (by simp)]
  have hnd := h.nd
  unfold lblks at hnd
  have hnd2 := (List.nodup_append.1 hnd).2.1
  have hsplit : E.blksL (pre ++ x :: suf) = E.blksL pre ++ (E.blks x ++ E.blksL suf) := by simp [blksL]
  rw [hsplit] at hnd2
  obtain ⟨_, hn3, hn4⟩ := List.nodup_append.1 hnd2
  obtain ⟨_, _, hn5⟩ := List.nodup_append.1 hn3
  have far : ∀ z, z ∈ pre ∨ z ∈ suf → ∀ k ∈ E.blks z, w'.heap[k]? = w.heap[k]? := by
    intro z hz k hkz
    refine hk k ?_ fun hx => ?_
    · rw [hsplit]
      rcases hz with hz | hz
      · exact List.mem_append.2 (.inl (blksL_mem.2 ⟨z, hz, hkz⟩))
      · exact List.mem_append.2 (.inr (List.mem_append.2 (.inr (blksL_mem.2 ⟨z, hz, hkz⟩))))
    · rcases hz with hz | hz
      · exact hn4 k (blksL_mem.2 ⟨z, hz, hkz⟩) k (List.mem_append.2 (.inl hx)) rfl
      · exact hn5 k hx k (blksL_mem.2 ⟨z, hz, hkz⟩) rfl
  have hlen : (pre ++ y :: suf).length = (pre ++ x :: suf).length := by simp
  refine ⟨⟨by rw [hlen]; exact h.inn.cap, by simp, fun _ => ?_, fun z hz => ?_⟩, by rw [e2]; exact h.lo_, by rw [e2]; exact h.nd, by rw [e2]; exact fun k hm q => (hf k hm q).trans (h.fr k hm q)⟩
  · obtain ⟨b', o', e, hb, hcc⟩ := h.inn.mem (by simp)
    obtain ⟨rfl, rfl, _⟩ := Addr.mk.inj (Option.some.inj e)
    refine ⟨b, o, rfl, hb, fun j u hu => ?_⟩
    have c1 : E.cellsL (pre ++ y :: suf) = E.cellsL pre ++ (E.cells y ++ E.cellsL suf) := by simp [cellsL]
    have c2 : E.cellsL (pre ++ x :: suf) = E.cellsL pre ++ (E.cells x ++ E.cellsL suf) := by simp [cellsL]
    have lp : (E.cellsL pre).length = E.n * pre.length := cellsL_length pre
    have ly := E.len y
    have lx := E.len x
    have em : pre.length * E.n = E.n * pre.length := Nat.mul_comm _ _
    rw [c1] at hu
    by_cases h1 : j < E.n * pre.length
    · rw [List.getElem?_append_left (by omega)] at hu
      rw [hc _ (.inl (by omega))]
      exact hcc j u (by rw [c2, List.getElem?_append_left (by omega)]; exact hu)
    · rw [List.getElem?_append_right (by omega), lp] at hu
      by_cases h2 : j - E.n * pre.length < E.n
      · rw [List.getElem?_append_left (by omega)] at hu
        have := hy _ u hu
        rwa [show o + pre.length * E.n + (j - E.n * pre.length) = o + j by omega] at this
      · rw [List.getElem?_append_right (by omega), ly] at hu
        rw [hc _ (.inr (by omega))]
        exact hcc j u (by rw [c2, List.getElem?_append_right (by omega), lp, List.getElem?_append_right (by omega), lx]; exact hu)
  · rcases List.mem_append.1 hz with hz | hz
    · exact E.keepB (h.inn.all z (by simp [hz])) (far z (.inl hz))
    · rcases List.mem_cons.1 hz with rfl | hz
      · exact hin
      · exact E.keepB (h.inn.all z (by simp [hz])) (far z (.inr hz))
/-- One of the elements. -/
theorem LOwn.mid {α : Type} {E : Elem α} {w : World} {lo hi c : Nat} {A : Option Addr} {pre suf : List α} {x : α} (h : E.LOwn lo hi w A c (pre ++ x :: suf)) : E.Own lo hi w x ∧ ∀ b o, A = some ⟨b, o, none⟩ → b ∉ E.blks x := by
  have hnd := h.nd
  unfold lblks at hnd
  have hsplit : E.blksL (pre ++ x :: suf) = E.blksL pre ++ (E.blks x ++ E.blksL suf) := by simp [blksL]
  have hm : ∀ k ∈ E.blks x, k ∈ E.blksL (pre ++ x :: suf) := fun k hk => by rw [hsplit]; simp [hk]
  obtain ⟨_, hn2, hn3⟩ := List.nodup_append.1 hnd
  rw [hsplit] at hn2
  refine ⟨⟨h.inn.all x (by simp), fun k hk => h.lo_ k (List.mem_append.2 (.inr (hm k hk))), (List.nodup_append.1 (List.nodup_append.1 hn2).2.1).1, fun k hk => h.fr k (List.mem_append.2 (.inr (hm k hk)))⟩, fun b o e hb => ?_⟩
  subst e
  exact hn3 b (by rw [lblk_some (by simp)]; simp) b (hm b hb) rfl
end Elem
end Go.Proofs.Ytpigpncbjckbcaa
