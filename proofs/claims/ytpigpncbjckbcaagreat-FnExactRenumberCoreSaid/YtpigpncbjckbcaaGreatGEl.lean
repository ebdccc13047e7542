/-
  Elements of any kind, and rows of them: where they lie, what is owned, rows that are filled and rows that grow. Nothing of the program.
-/
import Derived.Test.YtpigpncbjckbcaaGreatBase
import Derived.Laws.AppendOwn
import Derived.Deep.AppendLies
import Derived.Test.YtpigpncbjckbcaaGreatInts
namespace Go.Proofs.YtpigpncbjckbcaaGreat
open Go.RowKit
structure Elem (α : Type) where
  cells : α → List Value
  n : Nat
  pos : 0 < n
  len : ∀ a, (cells a).length = n
  one : ∀ a, ∀ u ∈ cells a, u.oneCell' = true
  In : World → Nat → α → Prop
  blks : α → List Nat
  lt : ∀ {w : World} {B : Nat} {a : α}, In w B a → ∀ b ∈ blks a, b < B
  keepB : ∀ {w w' : World} {B : Nat} {a : α}, In w B a → (∀ k, k ∈ blks a → w'.heap[k]? = w.heap[k]?) → In w' B a
  more : ∀ {w : World} {B B' : Nat} {a : α}, In w B a → B ≤ B' → In w B' a
namespace Elem
variable {α : Type} (E : Elem α)
structure Own (lo hi : Nat) (w : World) (a : α) : Prop where
  inn : E.In w hi a
  lo_ : ∀ b ∈ E.blks a, lo ≤ b
  nd : (E.blks a).Nodup
  fr : ∀ b ∈ E.blks a, ∀ o, w.frozen? ⟨b, o, none⟩ = false
def cellsL (l : List α) : List Value := l.flatMap E.cells
def blksL (l : List α) : List Nat := l.flatMap E.blks
structure OwnL (lo hi : Nat) (w : World) (l : List α) : Prop where
  inn : ∀ x ∈ l, E.In w hi x
  lo_ : ∀ b ∈ E.blksL l, lo ≤ b
  nd : (E.blksL l).Nodup
  fr : ∀ b ∈ E.blksL l, ∀ o, w.frozen? ⟨b, o, none⟩ = false
structure LIn (w : World) (B : Nat) (A : Option Addr) (c : Nat) (l : List α) : Prop where
  cap : l.length ≤ c ∧ c ≤ 9223372036854775807
  nil : A = none → c = 0
  mem : l ≠ [] → ∃ b o : Nat, A = some ⟨b, o, none⟩ ∧ b < B ∧ ∀ j u, (E.cellsL l)[j]? = some u → w.cell? ⟨b, o + j, none⟩ = some u
  all : ∀ x ∈ l, E.In w B x
def lblk (A : Option Addr) (l : List α) : List Nat := if l.isEmpty then [] else (A.map (·.block)).toList
def lblks (A : Option Addr) (l : List α) : List Nat := lblk A l ++ E.blksL l
structure LOwn (lo hi : Nat) (w : World) (A : Option Addr) (c : Nat) (l : List α) : Prop where
  inn : E.LIn w hi A c l
  lo_ : ∀ b ∈ E.lblks A l, lo ≤ b
  nd : (E.lblks A l).Nodup
  fr : ∀ b ∈ E.lblks A l, ∀ o, w.frozen? ⟨b, o, none⟩ = false
section
variable {E}
variable {w w' : World} {B B' lo hi lo' hi' : Nat} {A : Option Addr} {c : Nat} {l : List α} {a : α}
theorem Own.below (h : E.Own lo hi w a) (hb : Below hi w w') : E.Own lo hi w' a :=
  ⟨E.keepB h.inn fun k hk => hb.block k (E.lt h.inn k hk), h.lo_, h.nd, fun b hm o => (World.frozen?_of_block (hb.block b (E.lt h.inn b hm))).trans (h.fr b hm o)⟩
theorem Own.keepB (h : E.Own lo hi w a) (hk : ∀ k, k ∈ E.blks a → w'.heap[k]? = w.heap[k]?) : E.Own lo hi w' a :=
  ⟨E.keepB h.inn hk, h.lo_, h.nd, fun b hm o => (World.frozen?_of_block (hk b hm)).trans (h.fr b hm o)⟩
theorem Own.wide (h : E.Own lo hi w a) (h1 : lo' ≤ lo) (h2 : hi ≤ hi') : E.Own lo' hi' w a :=
  ⟨E.more h.inn h2, fun b hm => Nat.le_trans h1 (h.lo_ b hm), h.nd, h.fr⟩
theorem Own.far (h : E.Own lo hi w a) {p : Addr} (hp : p.block < lo) (u : Value) : E.Own lo hi (w.setCell p u) a :=
  h.keepB fun k hk => Below.heap_setCell _ _ _ _ (by have := h.lo_ k hk; omega)
theorem Own.blk_lt (h : E.Own lo hi w a) : ∀ b ∈ E.blks a, b < hi := E.lt h.inn
theorem below_ (h : E.In w B a) (hb : Below B w w') : E.In w' B a := E.keepB h fun k hk => hb.block k (E.lt h k hk)
theorem blksL_mem {b : Nat} : b ∈ E.blksL l ↔ ∃ x ∈ l, b ∈ E.blks x := by simp [blksL]
theorem blksL_append (a b : List α) : E.blksL (a ++ b) = E.blksL a ++ E.blksL b := by simp [blksL]
theorem cellsL_append (a b : List α) : E.cellsL (a ++ b) = E.cellsL a ++ E.cellsL b := by simp [cellsL]
theorem cellsL_one (a : α) : E.cellsL [a] = E.cells a := by simp [cellsL]
theorem blksL_one (a : α) : E.blksL [a] = E.blks a := by simp [blksL]
theorem cellsL_length (l : List α) : (E.cellsL l).length = E.n * l.length := by
  induction l with
  | nil => simp [cellsL]
  | cons d r ih =>
    have e : E.cellsL (d :: r) = E.cells d ++ E.cellsL r := by simp [cellsL]
    rw [e, List.length_append, E.len, ih, List.length_cons, Nat.mul_succ]; omega
theorem cellsL_get {i : Nat} {d : α} (h : l[i]? = some d) {j : Nat} (hj : j < E.n) : (E.cellsL l)[E.n * i + j]? = (E.cells d)[j]? := by
  induction l generalizing i with
  | nil => simp at h
  | cons e r ih =>
    have e1 : E.cellsL (e :: r) = E.cells e ++ E.cellsL r := by simp [cellsL]
    rw [e1]
    cases i with
    | zero =>
      simp at h
      subst h
      rw [Nat.mul_zero, Nat.zero_add, List.getElem?_append_left (by rw [E.len]; exact hj)]
    | succ i =>
      simp at h
      rw [List.getElem?_append_right (by rw [E.len, Nat.mul_succ]; omega), E.len, show E.n * (i + 1) + j - E.n = E.n * i + j by rw [Nat.mul_succ]; omega]
      exact ih h
theorem OwnL.below (h : E.OwnL lo hi w l) (hb : Below hi w w') : E.OwnL lo hi w' l :=
  ⟨fun x hx => below_ (h.inn x hx) hb, h.lo_, h.nd, fun b hm o => by
    obtain ⟨x, hx, hbx⟩ := blksL_mem.1 hm
    exact (World.frozen?_of_block (hb.block b (E.lt (h.inn x hx) b hbx))).trans (h.fr b hm o)⟩
theorem OwnL.keepB (h : E.OwnL lo hi w l) (hk : ∀ k, k ∈ E.blksL l → w'.heap[k]? = w.heap[k]?) : E.OwnL lo hi w' l :=
  ⟨fun x hx => E.keepB (h.inn x hx) fun k hkx => hk k (blksL_mem.2 ⟨x, hx, hkx⟩), h.lo_, h.nd, fun b hm o => (World.frozen?_of_block (hk b hm)).trans (h.fr b hm o)⟩
theorem OwnL.wide (h : E.OwnL lo hi w l) (h1 : lo' ≤ lo) (h2 : hi ≤ hi') : E.OwnL lo' hi' w l :=
  ⟨fun x hx => E.more (h.inn x hx) h2, fun b hm => Nat.le_trans h1 (h.lo_ b hm), h.nd, h.fr⟩
theorem OwnL.nil_ : E.OwnL lo hi w [] := ⟨by simp, by simp [blksL], by simp [blksL], by simp [blksL]⟩
theorem OwnL.blk_lt (h : E.OwnL lo hi w l) : ∀ b ∈ E.blksL l, b < hi := by
  intro b hb
  obtain ⟨x, hx, hbx⟩ := blksL_mem.1 hb
  exact E.lt (h.inn x hx) b hbx
theorem OwnL.far (h : E.OwnL lo hi w l) {p : Addr} (hp : p.block < lo) (u : Value) : E.OwnL lo hi (w.setCell p u) l :=
  h.keepB fun k hk => Below.heap_setCell _ _ _ _ (by have := h.lo_ k hk; omega)
theorem OwnL.snoc (h : E.OwnL lo hi w l) (hd : E.Own hi hi' w a) (h2 : hi ≤ hi') (h1 : lo ≤ hi) : E.OwnL lo hi' w (l ++ [a]) := by
  refine ⟨fun x hx => ?_, ?_, ?_, ?_⟩
  · rcases List.mem_append.1 hx with hx | hx
    · exact E.more (h.inn x hx) h2
    · simp at hx; subst hx; exact hd.inn
  · intro b hm
    rw [blksL_append, blksL_one, List.mem_append] at hm
    rcases hm with hm | hm
    · exact h.lo_ b hm
    · exact Nat.le_trans h1 (hd.lo_ b hm)
  · rw [blksL_append, blksL_one]
    refine List.nodup_append.2 ⟨h.nd, hd.nd, fun x hx y hy e => ?_⟩
    have := h.blk_lt x hx
    have := hd.lo_ y hy
    omega
  · intro b hm o
    rw [blksL_append, blksL_one, List.mem_append] at hm
    rcases hm with hm | hm
    · exact h.fr b hm o
    · exact hd.fr b hm o
theorem lblk_some {b o : Nat} (hl : l ≠ []) : lblk (some ⟨b, o, none⟩) l = [b] := by
  cases l with
  | nil => exact absurd rfl hl
  | cons _ _ => rfl
theorem LIn.keepB (h : E.LIn w B A c l) (hk : ∀ k, k ∈ E.lblks A l → w'.heap[k]? = w.heap[k]?) : E.LIn w' B A c l := by
  refine ⟨h.cap, h.nil, fun hl => ?_, fun x hx => E.keepB (h.all x hx) fun k hkx => hk k (List.mem_append.2 (.inr (blksL_mem.2 ⟨x, hx, hkx⟩)))⟩
  obtain ⟨b, o, rfl, hb, hc⟩ := h.mem hl
  exact ⟨b, o, rfl, hb, fun j u hu => (World.cell?_of_block (a := ⟨b, o + j, none⟩) (hk b (by simp [lblks, lblk_some hl]))).trans (hc j u hu)⟩
theorem LIn.blk_lt (h : E.LIn w B A c l) : ∀ b ∈ E.lblks A l, b < B := by
  intro b hb
  rcases List.mem_append.1 hb with hb | hb
  · by_cases hl : l = []
    · subst hl; simp [lblk] at hb
    · obtain ⟨b', o, rfl, hlt, _⟩ := h.mem hl
      simp [lblk_some hl] at hb
      omega
  · obtain ⟨x, hx, hbx⟩ := blksL_mem.1 hb
    exact E.lt (h.all x hx) b hbx
theorem LIn.below (h : E.LIn w B A c l) (hb : Below B w w') : E.LIn w' B A c l := h.keepB fun k hk => hb.block k (h.blk_lt k hk)
theorem LIn.more (h : E.LIn w B A c l) (hB : B ≤ B') : E.LIn w B' A c l := by
  refine ⟨h.cap, h.nil, fun hl => ?_, fun x hx => E.more (h.all x hx) hB⟩
  obtain ⟨b, o, rfl, hb, hc⟩ := h.mem hl
  exact ⟨b, o, rfl, by omega, hc⟩
theorem LIn.alloc (h : E.LIn w B A c l) (hB : B ≤ w.heap.size) (o : Obj) : E.LIn (w.alloc o) B A c l := h.below ((Below.refl _ _).alloc hB o)
theorem LIn.drew (h : E.LIn w B A c l) : E.LIn w.drew B A c l := h.keepB fun _ _ => rfl
theorem LIn.nil_ (hc : c ≤ 9223372036854775807) (hn : A = none → c = 0) : E.LIn w B A c [] := ⟨⟨Nat.zero_le _, hc⟩, hn, fun h => absurd rfl h, by simp⟩
theorem LIn.at_ (h : E.LIn w B A c l) {i : Nat} {d : α} (hi : l[i]? = some d) : ∃ b o : Nat, A = some ⟨b, o, none⟩ ∧ b < B ∧ (∀ j u, (E.cells d)[j]? = some u → w.cell? ⟨b, o + i * E.n + j, none⟩ = some u) ∧ E.In w B d := by
  obtain ⟨b, o, rfl, hb, hc⟩ := h.mem (by rintro rfl; simp at hi)
  refine ⟨b, o, rfl, hb, fun j u hu => ?_, h.all d (List.mem_of_getElem? hi)⟩
  have hj : j < E.n := by rw [← E.len d]; exact (List.getElem?_eq_some_iff.1 hu).1
  have := hc (E.n * i + j) u (by rw [cellsL_get hi hj]; exact hu)
  rwa [show o + (E.n * i + j) = o + i * E.n + j by rw [Nat.mul_comm]; omega] at this
theorem LOwn.keepB (h : E.LOwn lo hi w A c l) (hk : ∀ k, k ∈ E.lblks A l → w'.heap[k]? = w.heap[k]?) : E.LOwn lo hi w' A c l :=
  ⟨h.inn.keepB hk, h.lo_, h.nd, fun b hm o => (World.frozen?_of_block (hk b hm)).trans (h.fr b hm o)⟩
theorem LOwn.below (h : E.LOwn lo hi w A c l) (hb : Below hi w w') : E.LOwn lo hi w' A c l := h.keepB fun k hk => hb.block k (h.inn.blk_lt k hk)
theorem LOwn.wide (h : E.LOwn lo hi w A c l) (h1 : lo' ≤ lo) (h2 : hi ≤ hi') : E.LOwn lo' hi' w A c l :=
  ⟨h.inn.more h2, fun b hm => Nat.le_trans h1 (h.lo_ b hm), h.nd, h.fr⟩
theorem LOwn.far (h : E.LOwn lo hi w A c l) {p : Addr} (hp : p.block < lo) (u : Value) : E.LOwn lo hi (w.setCell p u) A c l :=
  h.keepB fun k hk => Below.heap_setCell _ _ _ _ (by have := h.lo_ k hk; omega)
theorem LOwn.nil_ (hc : c ≤ 9223372036854775807) (hn : A = none → c = 0) : E.LOwn lo hi w A c [] :=
  ⟨LIn.nil_ hc hn, by simp [lblks, lblk, blksL], by simp [lblks, lblk, blksL], by simp [lblks, lblk, blksL]⟩
theorem LOwn.elems (h : E.LOwn lo hi w A c l) : E.OwnL lo hi w l := by
  have hnd := h.nd
  rw [lblks] at hnd
  exact ⟨h.inn.all, fun b hb => h.lo_ b (List.mem_append.2 (.inr hb)), (List.nodup_append.1 hnd).2.1, fun b hb => h.fr b (List.mem_append.2 (.inr hb))⟩
theorem LOwn.of_row {g : Nat} (h : E.OwnL lo hi w l) (hc : l.length ≤ c ∧ c ≤ 9223372036854775807) (hg : g ∉ E.blksL l) (hlo : lo ≤ g) (hhi : g < hi)
    (hf : ∀ o, w.frozen? ⟨g, o, none⟩ = false) (hcells : ∀ j u, (E.cellsL l)[j]? = some u → w.cell? ⟨g, j, none⟩ = some u) : E.LOwn lo hi w (some ⟨g, 0, none⟩) c l := by
  have hb : ∀ b ∈ lblk (some ⟨g, 0, none⟩) l, b = g := by
    intro b hb
    unfold lblk at hb
    split at hb <;> simp at hb
    exact hb
  refine ⟨⟨hc, by simp, fun _ => ⟨g, 0, rfl, hhi, fun j u hu => ?_⟩, h.inn⟩, ?_, ?_, ?_⟩
  · rw [Nat.zero_add]; exact hcells j u hu
  · intro b hm
    rcases List.mem_append.1 hm with hm | hm
    · rw [hb b hm]; exact hlo
    · exact h.lo_ b hm
  · refine List.nodup_append.2 ⟨?_, h.nd, fun x hx y hy e => ?_⟩
    · unfold lblk; split <;> simp
    · rw [hb x hx] at e; subst e; exact hg hy
  · intro b hm o
    rcases List.mem_append.1 hm with hm | hm
    · rw [hb b hm]; exact hf o
    · exact h.fr b hm o
end
/-! A row of n places that is filled one by one -/
def RowTo (w : World) (g : Nat) (t : TypeId) (n : Nat) (ds : List α) : Prop := ∃ cs : Array Value, D.Blk w g t cs ∧ cs.size = E.n * n ∧ ∀ (i : Nat) (u : Value), (E.cellsL ds)[i]? = some u → cs[i]? = some u
structure Fill (w : World) (g : Nat) (t : TypeId) (n : Nat) (ds : List α) : Prop where
  row : E.RowTo w g t n ds
  own : E.OwnL (g + 1) w.heap.size w ds
section
variable {E}
variable {w w' : World} {g n : Nat} {t : TypeId} {ds : List α} {d : α}
theorem RowTo.below {B : Nat} (h : E.RowTo w g t n ds) (hb : Below B w w') (hg : g < B) : E.RowTo w' g t n ds := by
  obtain ⟨cs, h1, h2⟩ := h
  exact ⟨cs, h1.below hb hg, h2⟩
theorem RowTo.lt (h : E.RowTo w g t n ds) : g < w.heap.size := by
  obtain ⟨cs, h1, _⟩ := h
  exact h1.lt
theorem RowTo.old (h : E.RowTo w g t n ds) {i : Nat} (hi : i < E.n * n) : ∃ u, w.cell? ⟨g, i, none⟩ = some u := by
  obtain ⟨cs, h1, h2, _⟩ := h
  exact ⟨cs[i], by rw [h1.cell]; exact Array.getElem?_eq_getElem (by omega)⟩
theorem RowTo.frozen (h : E.RowTo w g t n ds) (i : Nat) : w.frozen? ⟨g, i, none⟩ = false := by
  obtain ⟨cs, h1, _⟩ := h
  exact h1.frozen i
theorem RowTo.cellsOf (h : E.RowTo w g t n ds) : ∀ j u, (E.cellsL ds)[j]? = some u → w.cell? ⟨g, j, none⟩ = some u := by
  obtain ⟨cs, h1, _, h3⟩ := h
  intro j u hu
  rw [h1.cell]; exact h3 j u hu
def put (w : World) (g : Nat) : Nat → List Value → World
  | _, [] => w
  | p, u :: r => put (w.setCell ⟨g, p, none⟩ u) g (p + 1) r
theorem put_size (us : List Value) : ∀ (w : World) (g p : Nat), (put w g p us).heap.size = w.heap.size := by
  induction us with
  | nil => intro w g p; rfl
  | cons u r ih => intro w g p; rw [put, ih]; simp
theorem put_heap (us : List Value) : ∀ (w : World) (g p k : Nat), k ≠ g → (put w g p us).heap[k]? = w.heap[k]? := by
  induction us with
  | nil => intro w g p k _; rfl
  | cons u r ih => intro w g p k hk; rw [put, ih _ _ _ _ hk]; exact Below.heap_setCell _ _ _ _ (by simpa using hk)
theorem put_blk (us : List Value) : ∀ {w : World} {g : Nat} {t : TypeId} {cs : Array Value} (p : Nat), D.Blk w g t cs → p + us.length ≤ cs.size → ∃ cs' : Array Value, D.Blk (put w g p us) g t cs' ∧ cs'.size = cs.size ∧
    (∀ i, i < p → cs'[i]? = cs[i]?) ∧ ∀ j u, us[j]? = some u → cs'[p + j]? = some u := by
  induction us with
  | nil => intro w g t cs p h _; exact ⟨cs, h, rfl, fun _ _ => rfl, by simp⟩
  | cons u r ih =>
    intro w g t cs p h hp
    simp only [List.length_cons] at hp
    obtain ⟨cs', h1, h2, h3, h4⟩ := ih (p + 1) (h.set_ p u) (by simp; omega)
    refine ⟨cs', h1, by simpa using h2, fun i hi => ?_, fun j v hv => ?_⟩
    · rw [h3 i (by omega)]; simp [Array.getElem?_setIfInBounds]; omega
    · cases j with
      | zero =>
        simp at hv
        subst hv
        rw [Nat.add_zero, h3 p (by omega)]
        simp [Array.getElem?_setIfInBounds]; omega
      | succ j =>
        simp at hv
        have := h4 j v hv
        rwa [show p + 1 + j = p + (j + 1) by omega] at this
theorem RowTo.step (h : E.RowTo w g t n ds) (hn : ds.length < n) : E.RowTo (put w g (E.n * ds.length) (E.cells d)) g t n (ds ++ [d]) := by
  obtain ⟨cs, h1, h2, h3⟩ := h
  have hle : E.n * ds.length + E.n ≤ E.n * n := by rw [← Nat.mul_succ]; exact Nat.mul_le_mul (Nat.le_refl _) hn
  obtain ⟨cs', k1, k2, k3, k4⟩ := put_blk (E.cells d) (E.n * ds.length) h1 (by rw [E.len, h2]; exact hle)
  refine ⟨cs', k1, k2.trans h2, fun i u hu => ?_⟩
  rw [cellsL_append, cellsL_one] at hu
  have hlen : (E.cellsL ds).length = E.n * ds.length := cellsL_length ds
  by_cases hi : i < E.n * ds.length
  · rw [List.getElem?_append_left (by omega)] at hu
    rw [k3 i hi]; exact h3 i u hu
  · rw [List.getElem?_append_right (by omega), hlen] at hu
    have := k4 (i - E.n * ds.length) u hu
    rwa [show E.n * ds.length + (i - E.n * ds.length) = i by omega] at this
theorem Fill.new (w : World) (t : TypeId) {cs : Array Value} {n : Nat} (hs : cs.size = E.n * n) : E.Fill (w.alloc (.cells cs t)) w.heap.size t n [] :=
  ⟨⟨cs, D.Blk.new _ _ _, hs, by simp [cellsL]⟩, OwnL.nil_⟩
theorem Fill.step {wr : World} (h : E.Fill wr g t n ds) (hb : Below wr.heap.size wr w) (hd : E.Own wr.heap.size w.heap.size w d) (hn : ds.length < n) :
    E.Fill (put w g (E.n * ds.length) (E.cells d)) g t n (ds ++ [d]) := by
  have hlt := h.row.lt
  have hz := hb.size
  refine ⟨(h.row.below hb hlt).step hn, ?_⟩
  rw [put_size]
  have ho := (h.own.below hb).snoc hd hz (by omega)
  exact ho.keepB fun k hk => put_heap _ _ _ _ _ (by have := ho.lo_ k hk; omega)
theorem Fill.below (h : E.Fill w g t n ds) (hb : Below w.heap.size w w') : E.Fill w' g t n ds := ⟨h.row.below hb h.row.lt, (h.own.below hb).wide (Nat.le_refl _) hb.size⟩
theorem Fill.done (h : E.Fill w g t n ds) (hn : ds.length = n) (hn2 : n ≤ 9223372036854775807) : E.LOwn g w.heap.size w (some ⟨g, 0, none⟩) n ds :=
  LOwn.of_row (h.own.wide (by omega) (Nat.le_refl _)) ⟨by omega, hn2⟩ (fun hm => by have := h.own.lo_ _ hm; omega) (Nat.le_refl _) h.row.lt h.row.frozen h.row.cellsOf
end
theorem LOwn.upd {α : Type} {E : Elem α} {w w' : World} {lo hi b o c : Nat} {pre suf : List α} {x y : α} (h : E.LOwn lo hi w (some ⟨b, o, none⟩) c (pre ++ x :: suf)) (hblk : E.blks y = E.blks x)
    (hc : ∀ q, q < o + pre.length * E.n ∨ o + pre.length * E.n + E.n ≤ q → w'.cell? ⟨b, q, none⟩ = w.cell? ⟨b, q, none⟩)
    (hy : ∀ j u, (E.cells y)[j]? = some u → w'.cell? ⟨b, o + pre.length * E.n + j, none⟩ = some u)
    (hin : E.In w' hi y) (hk : ∀ k, k ∈ E.blksL (pre ++ x :: suf) → k ∉ E.blks x → w'.heap[k]? = w.heap[k]?)
    (hf : ∀ k, k ∈ E.lblks (some ⟨b, o, none⟩) (pre ++ x :: suf) → ∀ q, w'.frozen? ⟨k, q, none⟩ = w.frozen? ⟨k, q, none⟩) : E.LOwn lo hi w' (some ⟨b, o, none⟩) c (pre ++ y :: suf) := by
  have e1 : E.blksL (pre ++ y :: suf) = E.blksL (pre ++ x :: suf) := by simp [blksL, hblk]
  have e2 : E.lblks (some ⟨b, o, none⟩) (pre ++ y :: suf) = E.lblks (some ⟨b, o, none⟩) (pre ++ x :: suf) := by
    unfold lblks; rw [e1]; congr 1
    rw [lblk_some (by simp), lblk_some (by simp)]
  have hnd := h.nd
  unfold lblks at hnd
  have hnd2 := (List.nodup_append.1 hnd).2.1
  have hsplit : E.blksL (pre ++ x :: suf) = E.blksL pre ++ (E.blks x ++ E.blksL suf) := by simp [blksL]
  rw [hsplit] at hnd2
  obtain ⟨_, hn3, hn4⟩ := List.nodup_append.1 hnd2
  obtain ⟨_, _, hn5⟩ := List.nodup_append.1 hn3
  have far : ∀ z, z ∈ pre ∨ z ∈ suf → ∀ k ∈ E.blks z, w'.heap[k]? = w.heap[k]? := by
    intro z hz k hkz
    refine hk k ?_ fun hx => ?_
    · rw [hsplit]
      rcases hz with hz | hz
      · exact List.mem_append.2 (.inl (blksL_mem.2 ⟨z, hz, hkz⟩))
      · exact List.mem_append.2 (.inr (List.mem_append.2 (.inr (blksL_mem.2 ⟨z, hz, hkz⟩))))
    · rcases hz with hz | hz
      · exact hn4 k (blksL_mem.2 ⟨z, hz, hkz⟩) k (List.mem_append.2 (.inl hx)) rfl
      · exact hn5 k hx k (blksL_mem.2 ⟨z, hz, hkz⟩) rfl
  have hlen : (pre ++ y :: suf).length = (pre ++ x :: suf).length := by simp
  refine ⟨⟨by rw [hlen]; exact h.inn.cap, by simp, fun _ => ?_, fun z hz => ?_⟩, by rw [e2]; exact h.lo_, by rw [e2]; exact h.nd, by rw [e2]; exact fun k hm q => (hf k hm q).trans (h.fr k hm q)⟩
  · obtain ⟨b', o', e, hb, hcc⟩ := h.inn.mem (by simp)
    obtain ⟨rfl, rfl, _⟩ := Addr.mk.inj (Option.some.inj e)
    refine ⟨b, o, rfl, hb, fun j u hu => ?_⟩
    have c1 : E.cellsL (pre ++ y :: suf) = E.cellsL pre ++ (E.cells y ++ E.cellsL suf) := by simp [cellsL]
    have c2 : E.cellsL (pre ++ x :: suf) = E.cellsL pre ++ (E.cells x ++ E.cellsL suf) := by simp [cellsL]
    have lp : (E.cellsL pre).length = E.n * pre.length := cellsL_length pre
    have ly := E.len y
    have lx := E.len x
    have em : pre.length * E.n = E.n * pre.length := Nat.mul_comm _ _
    rw [c1] at hu
    by_cases h1 : j < E.n * pre.length
    · rw [List.getElem?_append_left (by omega)] at hu
      rw [hc _ (.inl (by omega))]
      exact hcc j u (by rw [c2, List.getElem?_append_left (by omega)]; exact hu)
    · rw [List.getElem?_append_right (by omega), lp] at hu
      by_cases h2 : j - E.n * pre.length < E.n
      · rw [List.getElem?_append_left (by omega)] at hu
        have := hy _ u hu
        rwa [show o + pre.length * E.n + (j - E.n * pre.length) = o + j by omega] at this
      · rw [List.getElem?_append_right (by omega), ly] at hu
        rw [hc _ (.inr (by omega))]
        exact hcc j u (by rw [c2, List.getElem?_append_right (by omega), lp, List.getElem?_append_right (by omega), lx]; exact hu)
  · rcases List.mem_append.1 hz with hz | hz
    · exact E.keepB (h.inn.all z (by simp [hz])) (far z (.inl hz))
    · rcases List.mem_cons.1 hz with rfl | hz
      · exact hin
      · exact E.keepB (h.inn.all z (by simp [hz])) (far z (.inr hz))
theorem LOwn.mid {α : Type} {E : Elem α} {w : World} {lo hi c : Nat} {A : Option Addr} {pre suf : List α} {x : α} (h : E.LOwn lo hi w A c (pre ++ x :: suf)) : E.Own lo hi w x ∧ ∀ b o, A = some ⟨b, o, none⟩ → b ∉ E.blks x := by
  have hnd := h.nd
  unfold lblks at hnd
  have hsplit : E.blksL (pre ++ x :: suf) = E.blksL pre ++ (E.blks x ++ E.blksL suf) := by simp [blksL]
  have hm : ∀ k ∈ E.blks x, k ∈ E.blksL (pre ++ x :: suf) := fun k hk => by rw [hsplit]; simp [hk]
  obtain ⟨_, hn2, hn3⟩ := List.nodup_append.1 hnd
  rw [hsplit] at hn2
  refine ⟨⟨h.inn.all x (by simp), fun k hk => h.lo_ k (List.mem_append.2 (.inr (hm k hk))), (List.nodup_append.1 (List.nodup_append.1 hn2).2.1).1, fun k hk => h.fr k (List.mem_append.2 (.inr (hm k hk)))⟩, fun b o e hb => ?_⟩
  subst e
  exact hn3 b (by rw [lblk_some (by simp)]; simp) b (hm b hb) rfl
end Elem
end Go.Proofs.YtpigpncbjckbcaaGreat
namespace Go.Proofs.YtpigpncbjckbcaaGreat
open Go.RowKit
namespace Elem
theorem In.below {α : Type} {E : Elem α} {w w' : World} {B : Nat} {a : α} (h : E.In w B a) (hb : Below B w w') : E.In w' B a := E.keepB h fun k hk => hb.block k (E.lt h k hk)
theorem In.more {α : Type} {E : Elem α} {w : World} {B B' : Nat} {a : α} (h : E.In w B a) (hB : B ≤ B') : E.In w B' a := E.more h hB
theorem In.alloc {α : Type} {E : Elem α} {w : World} {B : Nat} {a : α} (h : E.In w B a) (hB : B ≤ w.heap.size) (o : Obj) : E.In (w.alloc o) B a := In.below h ((Below.refl _ _).alloc hB o)
theorem In.drew {α : Type} {E : Elem α} {w : World} {B : Nat} {a : α} (h : E.In w B a) : E.In w.drew B a := E.keepB h fun _ _ => rfl
theorem In.keepB {α : Type} {E : Elem α} {w w' : World} {B : Nat} {a : α} (h : E.In w B a) (hk : ∀ k, k ∈ E.blks a → w'.heap[k]? = w.heap[k]?) : E.In w' B a := E.keepB h hk
theorem In.blk_lt {α : Type} {E : Elem α} {w : World} {B : Nat} {a : α} (h : E.In w B a) : ∀ b ∈ E.blks a, b < B := E.lt h
end Elem
inductive Tr (α : Type) where
  | mk (a : α) (A : Option Addr) (c : Nat) (l : List (Tr α))
namespace Tr
variable {α β : Type}
def a : Tr α → α | .mk a _ _ _ => a
def A : Tr α → Option Addr | .mk _ A _ _ => A
def c : Tr α → Nat | .mk _ _ c _ => c
def l : Tr α → List (Tr α) | .mk _ _ _ l => l
mutual
def size : Tr α → Nat | .mk _ _ _ l => 1 + sizeL l
def sizeL : List (Tr α) → Nat | [] => 0 | d :: r => size d + sizeL r
end
mutual
def depth : Tr α → Nat | .mk _ _ _ l => depthL l + 1
def depthL : List (Tr α) → Nat | [] => 0 | d :: r => max (depth d) (depthL r)
end
mutual
def bulk (f : α → Nat) : Tr α → Nat | .mk a _ _ l => f a + bulkL f l
def bulkL (f : α → Nat) : List (Tr α) → Nat | [] => 0 | d :: r => 1 + bulk f d + bulkL f r
end
mutual
def eqB (f : α → α → Bool) : Tr α → Tr α → Bool | .mk a _ _ l, .mk b _ _ m => f a b && eqL f l m
def eqL (f : α → α → Bool) : List (Tr α) → List (Tr α) → Bool | [], [] => true | [], _ :: _ => false | _ :: _, [] => false | a :: r, b :: s => eqB f a b && eqL f r s
end
mutual
def er (f : α → β) : Tr α → Tr β | .mk a _ _ l => .mk (f a) none 0 (erL f l)
def erL (f : α → β) : List (Tr α) → List (Tr β) | [] => [] | d :: r => er f d :: erL f r
end
theorem erL_map (f : α → β) (l : List (Tr α)) : erL f l = l.map (er f) := by
  induction l with
  | nil => rfl
  | cons d r ih => simp [erL, ih]
theorem erL_append (f : α → β) (a b : List (Tr α)) : erL f (a ++ b) = erL f a ++ erL f b := by simp [erL_map]
theorem erL_length (f : α → β) (a : List (Tr α)) : (erL f a).length = a.length := by simp [erL_map]
theorem sizeL_mem {l : List (Tr α)} {d : Tr α} (h : d ∈ l) : d.size ≤ sizeL l := by
  induction l with
  | nil => cases h
  | cons e r ih =>
    simp only [sizeL]
    rcases List.mem_cons.1 h with rfl | h
    · omega
    · have := ih h; omega
theorem size_item {d x : Tr α} (h : x ∈ d.l) : x.size < d.size := by
  cases d with
  | mk a A c l =>
    have := sizeL_mem (l := l) h
    simp only [size]; omega
theorem size_eq (d : Tr α) : d.size = 1 + sizeL d.l := by cases d; rfl
theorem size_pos (d : Tr α) : 1 ≤ d.size := by cases d; simp [size]
theorem sizeL_append (a b : List (Tr α)) : sizeL (a ++ b) = sizeL a + sizeL b := by
  induction a with
  | nil => simp [sizeL]
  | cons d r ih => simp [sizeL, ih]; omega
theorem length_le_sizeL (l : List (Tr α)) : l.length ≤ sizeL l := by
  induction l with
  | nil => simp
  | cons d r ih => have := size_pos d; simp [sizeL]; omega
theorem depthL_append (a b : List (Tr α)) : depthL (a ++ b) = max (depthL a) (depthL b) := by
  induction a with
  | nil => simp [depthL]
  | cons d r ih => simp [depthL, ih, Nat.max_assoc]
theorem depthL_mem {l : List (Tr α)} {d : Tr α} (h : d ∈ l) : d.depth ≤ depthL l := by
  induction l with
  | nil => cases h
  | cons e r ih =>
    simp only [depthL]
    rcases List.mem_cons.1 h with rfl | h
    · omega
    · have := ih h; omega
theorem bulkL_append (f : α → Nat) (a b : List (Tr α)) : bulkL f (a ++ b) = bulkL f a + bulkL f b := by
  induction a with
  | nil => simp [bulkL]
  | cons d r ih => simp [bulkL, ih]; omega
theorem bulk_eq (f : α → Nat) (d : Tr α) : d.bulk f = f d.a + bulkL f d.l := by cases d; rfl
theorem bulkL_mem {f : α → Nat} {l : List (Tr α)} {d : Tr α} (h : d ∈ l) : d.bulk f + l.length ≤ bulkL f l := by
  have h2 : ∀ r : List (Tr α), r.length ≤ bulkL f r := fun r => by
    induction r with
    | nil => simp
    | cons d r ih => simp [bulkL]; omega
  induction l with
  | nil => cases h
  | cons e r ih =>
    simp only [bulkL, List.length_cons]
    rcases List.mem_cons.1 h with rfl | h
    · have := h2 r; omega
    · have := ih h; omega
theorem bulkL_take_le (f : α → Nat) (l : List (Tr α)) (j : Nat) : bulkL f (l.take j) + (l.length - j) ≤ bulkL f l := by
  have h := bulkL_append f (l.take j) (l.drop j)
  rw [List.take_append_drop] at h
  have h2 : ∀ r : List (Tr α), r.length ≤ bulkL f r := fun r => by
    induction r with
    | nil => simp
    | cons d r ih => simp [bulkL]; omega
  have := h2 (l.drop j)
  rw [List.length_drop] at this
  omega
theorem bulkL_take_succ (f : α → Nat) (l : List (Tr α)) (j : Nat) (h : j < l.length) : bulkL f (l.take (j + 1)) = bulkL f (l.take j) + 1 + (l[j]).bulk f := by
  rw [List.take_succ_eq_append_getElem h, bulkL_append]; simp [bulkL]; omega
mutual
theorem size_le_bulk (f : α → Nat) : ∀ d : Tr α, d.size ≤ 1 + d.bulk f
  | .mk a A c l => by have := sizeL_le_bulkL f l; simp only [size, bulk]; omega
theorem sizeL_le_bulkL (f : α → Nat) : ∀ l : List (Tr α), sizeL l ≤ bulkL f l
  | [] => Nat.le_refl _
  | d :: r => by have := size_le_bulk f d; have := sizeL_le_bulkL f r; simp only [sizeL, bulkL]; omega
end
theorem ind {p : Tr α → Prop} (h : ∀ d, (∀ x, x ∈ d.l → p x) → p d) : ∀ d, p d := by
  have key : ∀ m, ∀ d : Tr α, d.size < m → p d := by
    intro m
    induction m with
    | zero => intro d hd; omega
    | succ m ih => intro d hd; exact h d fun x hx => ih x (by have := size_item hx; omega)
  exact fun d => key _ d (Nat.lt_succ_self _)
theorem eqL_take {f : α → α → Bool} (l l' : List (Tr α)) (j : Nat) (h : j < l.length) (h' : j < l'.length) (ht : eqL f (l.take j) (l'.take j) = true) : eqL f l l' = (eqB f l[j] l'[j] && eqL f (l.drop (j + 1)) (l'.drop (j + 1))) := by
  induction j generalizing l l' with
  | zero =>
    match l, l' with
    | [], _ => simp at h
    | _ :: _, [] => simp at h'
    | a :: r, b :: s => simp [eqL]
  | succ j ih =>
    match l, l' with
    | [], _ => simp at h
    | _ :: _, [] => simp at h'
    | a :: r, b :: s =>
      simp [eqL] at ht h h' ⊢
      rw [ht.1, ih r s h h' ht.2]
      simp
theorem eqL_take_succ {f : α → α → Bool} (l l' : List (Tr α)) (j : Nat) (h : j < l.length) (h' : j < l'.length) : eqL f (l.take (j + 1)) (l'.take (j + 1)) = (eqL f (l.take j) (l'.take j) && eqB f l[j] l'[j]) := by
  induction j generalizing l l' with
  | zero =>
    match l, l' with
    | [], _ => simp at h
    | _ :: _, [] => simp at h'
    | a :: r, b :: s => simp [eqL]
  | succ j ih =>
    match l, l' with
    | [], _ => simp at h
    | _ :: _, [] => simp at h'
    | a :: r, b :: s =>
      simp at h h'
      have := ih r s h h'
      simp [eqL] at this ⊢
      rw [this, Bool.and_assoc]
theorem eqL_length {f : α → α → Bool} (l l' : List (Tr α)) (h : l.length ≠ l'.length) : eqL f l l' = false := by
  induction l generalizing l' with
  | nil => cases l' with
    | nil => simp at h
    | cons _ _ => rfl
  | cons a r ih => cases l' with
    | nil => rfl
    | cons b s =>
      simp at h
      simp [eqL, ih s h]
mutual
theorem eqB_of_er {f : α → α → Bool} {g : α → β} (hf : ∀ a b, g a = g b → f a b = true) : ∀ d e : Tr α, er g d = er g e → eqB f d e = true
  | .mk a A c l, .mk b B c' m, h => by
    simp only [er, Tr.mk.injEq] at h
    simp only [eqB, Bool.and_eq_true]
    exact ⟨hf a b h.1, eqL_of_er hf l m h.2.2.2⟩
theorem eqL_of_er {f : α → α → Bool} {g : α → β} (hf : ∀ a b, g a = g b → f a b = true) : ∀ l m : List (Tr α), erL g l = erL g m → eqL f l m = true
  | [], [], _ => rfl
  | [], _ :: _, h => by simp [erL] at h
  | _ :: _, [], h => by simp [erL] at h
  | d :: r, e :: s, h => by
    simp only [erL, List.cons.injEq] at h
    simp only [eqL, Bool.and_eq_true]
    exact ⟨eqB_of_er hf d e h.1, eqL_of_er hf r s h.2⟩
end
mutual
theorem bulk_of_er {f : α → Nat} {g : α → β} (hf : ∀ a b, g a = g b → f a = f b) : ∀ d e : Tr α, er g d = er g e → d.bulk f = e.bulk f
  | .mk a A c l, .mk b B c' m, h => by
    simp only [er, Tr.mk.injEq] at h
    simp only [bulk]
    rw [hf a b h.1, bulkL_of_er hf l m h.2.2.2]
theorem bulkL_of_er {f : α → Nat} {g : α → β} (hf : ∀ a b, g a = g b → f a = f b) : ∀ l m : List (Tr α), erL g l = erL g m → bulkL f l = bulkL f m
  | [], [], _ => rfl
  | [], _ :: _, h => by simp [erL] at h
  | _ :: _, [], h => by simp [erL] at h
  | d :: r, e :: s, h => by
    simp only [erL, List.cons.injEq] at h
    simp only [bulkL]
    rw [bulk_of_er hf d e h.1, bulkL_of_er hf r s h.2]
end
mutual
theorem size_of_er {g : α → β} : ∀ d e : Tr α, er g d = er g e → d.size = e.size
  | .mk a A c l, .mk b B c' m, h => by
    simp only [er, Tr.mk.injEq] at h
    simp only [size]
    rw [sizeL_of_er l m h.2.2.2]
theorem sizeL_of_er {g : α → β} : ∀ l m : List (Tr α), erL g l = erL g m → sizeL l = sizeL m
  | [], [], _ => rfl
  | [], _ :: _, h => by simp [erL] at h
  | _ :: _, [], h => by simp [erL] at h
  | d :: r, e :: s, h => by
    simp only [erL, List.cons.injEq] at h
    simp only [sizeL]
    rw [size_of_er d e h.1, sizeL_of_er r s h.2]
end
/-! Where it lies -/
variable (H : Elem α)
def cells (d : Tr α) : List Value := H.cells d.a ++ [.slice d.A d.l.length d.c]
theorem cells_len (d : Tr α) : (cells H d).length = H.n + 1 := by simp [cells, H.len]
theorem cells_one (d : Tr α) : ∀ u ∈ cells H d, u.oneCell' = true := by
  intro u hu
  simp only [cells, List.mem_append, List.mem_singleton] at hu
  rcases hu with hu | rfl
  · exact H.one _ u hu
  · rfl
mutual
def In (w : World) (B : Nat) : Tr α → Prop
  | .mk a A c l => H.In w B a ∧ ((l.length ≤ c ∧ c ≤ 9223372036854775807) ∧ (A = none → c = 0) ∧ (l ≠ [] → ∃ b o : Nat, A = some ⟨b, o, none⟩ ∧ b < B ∧ ∀ j u, (l.flatMap (cells H))[j]? = some u → w.cell? ⟨b, o + j, none⟩ = some u)) ∧ InL w B l
def InL (w : World) (B : Nat) : List (Tr α) → Prop | [] => True | d :: r => In w B d ∧ InL w B r
end
mutual
def blks : Tr α → List Nat | .mk a A _ l => H.blks a ++ ((if l.isEmpty then [] else (A.map (·.block)).toList) ++ blksL l)
def blksL : List (Tr α) → List Nat | [] => [] | d :: r => blks d ++ blksL r
end
theorem InL_iff {w : World} {B : Nat} {l : List (Tr α)} : InL H w B l ↔ ∀ d ∈ l, In H w B d := by
  induction l with
  | nil => simp [InL]
  | cons d r ih => simp [InL, ih]
theorem blksL_flat (l : List (Tr α)) : blksL H l = l.flatMap (blks H) := by
  induction l with
  | nil => rfl
  | cons d r ih => simp [blksL, ih]
theorem In_lt {w : World} {B : Nat} {d : Tr α} (h : In H w B d) : ∀ b ∈ blks H d, b < B := by
  induction d using ind with
  | h d ih =>
    cases d with
    | mk a A c l =>
      intro b hb
      simp only [blks, List.mem_append] at hb
      rcases hb with hb | hb | hb
      · exact H.lt h.1 b hb
      · cases l with
        | nil => simp at hb
        | cons x r =>
          obtain ⟨b', o, e, hlt, _⟩ := h.2.1.2.2 (by simp)
          subst e
          simp at hb
          omega
      · rw [blksL_flat, List.mem_flatMap] at hb
        obtain ⟨x, hx, hbx⟩ := hb
        exact ih x hx ((InL_iff H).1 h.2.2 x hx) b hbx
theorem In_keepB {w w' : World} {B : Nat} {d : Tr α} (h : In H w B d) (hk : ∀ k, k ∈ blks H d → w'.heap[k]? = w.heap[k]?) : In H w' B d := by
  induction d using ind with
  | h d ih =>
    cases d with
    | mk a A c l =>
      obtain ⟨h1, ⟨h2, h3, h4⟩, h5⟩ := h
      simp only [blks, List.mem_append] at hk
      refine ⟨H.keepB h1 fun k hm => hk k (.inl hm), ⟨h2, h3, fun hl => ?_⟩, (InL_iff H).2 fun x hx => ih x hx ((InL_iff H).1 h5 x hx) fun q hq => hk q (.inr (.inr (by rw [blksL_flat, List.mem_flatMap]; exact ⟨x, hx, hq⟩)))⟩
      obtain ⟨b, o, e, hb, hc⟩ := h4 hl
      refine ⟨b, o, e, hb, fun j u hu => (World.cell?_of_block (a := ⟨b, o + j, none⟩) (hk b ?_)).trans (hc j u hu)⟩
      subst e
      right; left
      cases l with
      | nil => exact absurd rfl hl
      | cons x r => simp
theorem In_more {w : World} {B B' : Nat} {d : Tr α} (h : In H w B d) (hB : B ≤ B') : In H w B' d := by
  induction d using ind with
  | h d ih =>
    cases d with
    | mk a A c l =>
      obtain ⟨h1, ⟨h2, h3, h4⟩, h5⟩ := h
      refine ⟨H.more h1 hB, ⟨h2, h3, fun hl => ?_⟩, (InL_iff H).2 fun x hx => ih x hx ((InL_iff H).1 h5 x hx)⟩
      obtain ⟨b, o, e, hb, hc⟩ := h4 hl
      exact ⟨b, o, e, by omega, hc⟩
def E : Elem (Tr α) where
  cells := cells H
  n := H.n + 1
  pos := Nat.succ_pos _
  len := cells_len H
  one := cells_one H
  In := In H
  blks := blks H
  lt := In_lt H
  keepB := In_keepB H
  more := In_more H
section
variable {H} {w w' : World} {B lo mid hi : Nat} {d : Tr α} {x : α} {P : Option Addr} {k : Nat} {m : List (Tr α)}
theorem in_iff : (E H).In w B (.mk x P k m) ↔ H.In w B x ∧ (E H).LIn w B P k m := by
  constructor
  · rintro ⟨h1, ⟨h2, h3, h4⟩, h5⟩
    exact ⟨h1, h2, h3, h4, (InL_iff H).1 h5⟩
  · rintro ⟨h1, h2, h3, h4, h5⟩
    exact ⟨h1, ⟨h2, h3, h4⟩, (InL_iff H).2 h5⟩
theorem blks_eq (x : α) (P : Option Addr) (k : Nat) (m : List (Tr α)) : (E H).blks (.mk x P k m) = H.blks x ++ (E H).lblks P m := by
  show blks H (.mk x P k m) = _
  simp only [blks, blksL_flat]
  rfl
theorem blks_item {e : Tr α} (he : e ∈ d.l) : ∀ b ∈ (E H).blks e, b ∈ (E H).blks d := by
  cases d with
  | mk x P k m =>
    intro b hb
    rw [blks_eq, List.mem_append]
    exact .inr (List.mem_append.2 (.inr (Elem.blksL_mem.2 ⟨e, he, hb⟩)))
theorem own_of (hx : H.Own lo mid w x) (hl : (E H).LOwn mid hi w P k m) (h1 : lo ≤ mid) (h2 : mid ≤ hi) : (E H).Own lo hi w (.mk x P k m) := by
  refine ⟨in_iff.2 ⟨H.more hx.inn h2, hl.inn⟩, fun b hb => ?_, ?_, fun b hb o => ?_⟩
  · rw [blks_eq, List.mem_append] at hb
    rcases hb with hb | hb
    · exact hx.lo_ b hb
    · have := hl.lo_ b hb; omega
  · rw [blks_eq]
    refine List.nodup_append.2 ⟨hx.nd, hl.nd, fun p hp q hq e => ?_⟩
    have := H.lt hx.inn p hp
    have := hl.lo_ q hq
    omega
  · rw [blks_eq, List.mem_append] at hb
    rcases hb with hb | hb
    · exact hx.fr b hb o
    · exact hl.fr b hb o
theorem own_parts (h : (E H).Own lo hi w (.mk x P k m)) : H.Own lo hi w x ∧ (E H).LOwn lo hi w P k m ∧ ∀ b ∈ H.blks x, b ∉ (E H).lblks P m := by
  have hi' := in_iff.1 h.inn
  have hnd := h.nd
  have hlo := h.lo_
  have hfr := h.fr
  rw [blks_eq] at hnd hlo hfr
  obtain ⟨n1, n2, n3⟩ := List.nodup_append.1 hnd
  exact ⟨⟨hi'.1, fun b hb => hlo b (List.mem_append.2 (.inl hb)), n1, fun b hb => hfr b (List.mem_append.2 (.inl hb))⟩, ⟨hi'.2, fun b hb => hlo b (List.mem_append.2 (.inr hb)), n2, fun b hb => hfr b (List.mem_append.2 (.inr hb))⟩, fun b hb hm => n3 b hb b hm rfl⟩
end
end Tr
end Go.Proofs.YtpigpncbjckbcaaGreat
namespace Go.Proofs.YtpigpncbjckbcaaGreat
open Go.RowKit
theorem Elem.LOwn.of_owns {α : Type} {E : Elem α} {w : World} {base : Nat} {t : TypeId} {v : Value} {ds : List α} (h : w.ownsRow base t E.n v ds.length (E.cellsL ds)) (ho : E.OwnL base w.heap.size w ds) (hap : ∀ g, v.ownBlock = some g → g ∉ E.blksL ds) :
    ∃ A c, v = .slice A ds.length c ∧ E.LOwn base w.heap.size w A c ds := by
  rcases h.2 with ⟨rfl, h0⟩ | ⟨g, cap, cur, rfl, hb, hg, hn, hc, hs, ht⟩
  · have : ds = [] := List.length_eq_zero_iff.1 h0
    subst this
    exact ⟨none, 0, rfl, Elem.LOwn.nil_ (by omega) (by simp)⟩
  · refine ⟨some ⟨g, 0, none⟩, cap, rfl, Elem.LOwn.of_row ho ⟨hn, hc⟩ (hap g rfl) hb (Array.getElem?_eq_some_iff.1 hg).1 (fun q => by simp [World.frozen?, hg]) fun j u hu => ?_⟩
    rw [cell_of_row w g j cur _ (0, 0) hg]
    have h1 : (cur.toList.take (ds.length * E.n))[j]? = some u := by rw [ht]; exact hu
    rw [List.getElem?_take] at h1
    split at h1
    · simpa using h1
    · cases h1
theorem Elem.Fill.owns {α : Type} {E : Elem α} {w : World} {g n : Nat} {t : TypeId} {ds : List α} (h : E.Fill w g t n ds) (hn : ds.length = n) (hn2 : n ≤ 9223372036854775807) : w.ownsRow g t E.n (.slice (some ⟨g, 0, none⟩) n n) ds.length (E.cellsL ds) := by
  obtain ⟨cs, h1, h2, h3⟩ := h.row
  refine ⟨by rw [Elem.cellsL_length, Nat.mul_comm], .inr ⟨g, n, cs, by rw [hn], Nat.le_refl _, h1, by omega, hn2, by rw [h2, Nat.mul_comm], ?_⟩⟩
  have e : ds.length * E.n = (E.cellsL ds).length := by rw [Elem.cellsL_length, Nat.mul_comm]
  rw [e]
  apply List.ext_getElem?
  intro i
  rw [List.getElem?_take]
  split
  · rename_i hi
    have hx := List.getElem?_eq_getElem hi
    rw [hx]
    have := h3 i _ hx
    simpa using this
  · rename_i hi
    rw [List.getElem?_eq_none (by omega)]
def Elem.Grew {α : Type} (E : Elem α) (t : TypeId) (base : Nat) (ds : List α) (v : Value) (w : World) (v' : Value) (w' : World) : Prop :=
  w'.ownsRow base t E.n v' ds.length (E.cellsL ds) ∧ Chg v.ownBlock.toList w w' ∧ (v'.ownBlock = v.ownBlock ∨ ∀ g, v'.ownBlock = some g → w.heap.size ≤ g)
theorem Elem.Grew.refl {α : Type} {E : Elem α} {t : TypeId} {base : Nat} {ds : List α} {v : Value} {w : World} (h : w.ownsRow base t E.n v ds.length (E.cellsL ds)) : E.Grew t base ds v w v w := ⟨h, Chg.refl _ _, .inl rfl⟩
theorem Elem.Grew.trans {α : Type} {E : Elem α} {t : TypeId} {base : Nat} {ds ds2 : List α} {v v1 v2 : Value} {w w1 w2 : World} (h : E.Grew t base ds v w v1 w1) (k : E.Grew t base ds2 v1 w1 v2 w2) : E.Grew t base ds2 v w v2 w2 := by
  obtain ⟨h1, h2, h3⟩ := h
  obtain ⟨k1, k2, k3⟩ := k
  refine ⟨k1, ⟨k2.os.trans h2.os, k2.tape.trans h2.tape, k2.output.trans h2.output, Nat.le_trans h2.size k2.size, fun b hb hn => ?_⟩, ?_⟩
  · refine (k2.block b (Nat.lt_of_lt_of_le hb h2.size) fun hm => ?_).trans (h2.block b hb hn)
    rcases h3 with e | e
    · rw [e] at hm; exact hn hm
    · have := e b (by simpa using hm); omega
  · rcases k3 with e | e
    · rw [e]; exact h3
    · exact .inr fun g hg => Nat.le_trans h2.size (e g hg)
theorem Elem.Grew.snoc {α : Type} {E : Elem α} {t : TypeId} {base : Nat} {ds : List α} {x : α} {v v' : Value} {w w1 : World} {o : Obj}
    (hown' : w1.ownsRow base t E.n v' (ds.length + 1) (E.cellsL ds ++ E.cells x)) (hgr : (w.alloc o).grownBy w1 v.ownBlock) (hat : v'.ownBlock = v.ownBlock ∨ ∀ g, v'.ownBlock = some g → w.heap.size ≤ g) : E.Grew t base (ds ++ [x]) v w v' w1 := by
  refine ⟨by rw [List.length_append, Elem.cellsL_append, Elem.cellsL_one]; exact hown', ⟨hgr.os, hgr.tape, hgr.output, by have := hgr.size; simp at this; omega, fun b hb hn => ?_⟩, hat⟩
  rw [hgr.block b (by simp; omega) (fun e => hn (by rw [← e]; simp))]
  exact Below.heap_alloc _ _ _ hb
end Go.Proofs.YtpigpncbjckbcaaGreat
namespace Go.Proofs.YtpigpncbjckbcaaGreat
open Go.RowKit
theorem Elem.OwnL.append {α : Type} {E : Elem α} {lo mid hi : Nat} {w : World} {a b : List α} (h : E.OwnL lo mid w a) (k : E.OwnL mid hi w b) (h1 : lo ≤ mid) (h2 : mid ≤ hi) : E.OwnL lo hi w (a ++ b) := by
  refine ⟨fun x hx => ?_, fun q hq => ?_, ?_, fun q hq => ?_⟩
  · rcases List.mem_append.1 hx with hx | hx
    · exact E.more (h.inn x hx) h2
    · exact k.inn x hx
  · rw [Elem.blksL_append] at hq
    rcases List.mem_append.1 hq with hq | hq
    · exact h.lo_ q hq
    · have := k.lo_ q hq; omega
  · rw [Elem.blksL_append]
    refine List.nodup_append.2 ⟨h.nd, k.nd, fun p hp q hq e => ?_⟩
    have := h.blk_lt p hp
    have := k.lo_ q hq
    omega
  · rw [Elem.blksL_append] at hq
    rcases List.mem_append.1 hq with hq | hq
    · exact h.fr q hq
    · exact k.fr q hq
structure Elem.Grown {α : Type} (E : Elem α) (t : TypeId) (base : Nat) (w : World) (v : Value) (ds : List α) : Prop where
  row : w.ownsRow base t E.n v ds.length (E.cellsL ds)
  own : E.OwnL base w.heap.size w ds
  ap : ∀ g, v.ownBlock = some g → g ∉ E.blksL ds
theorem Elem.Grown.nil {α : Type} {E : Elem α} {t : TypeId} {base : Nat} {w : World} : E.Grown t base w (.slice none 0 0) [] := ⟨World.ownsRow_nil _ _ _ _, Elem.OwnL.nil_, by simp [Elem.blksL]⟩
theorem Elem.Grown.out {α : Type} {E : Elem α} {t : TypeId} {base : Nat} {w : World} {v : Value} {ds : List α} (h : E.Grown t base w v ds) : ∃ A c, v = .slice A ds.length c ∧ E.LOwn base w.heap.size w A c ds := Elem.LOwn.of_owns h.row h.own h.ap
theorem Elem.Grown.below {α : Type} {E : Elem α} {t : TypeId} {base : Nat} {w w' : World} {v : Value} {ds : List α} (h : E.Grown t base w v ds) (hb : Below w.heap.size w w') : E.Grown t base w' v ds :=
  ⟨h.row.kept (w' := w') (row := none) ⟨hb.os, hb.tape, hb.output, hb.size, fun k hk _ => hb.block k hk⟩ (by cases v.ownBlock <;> simp), (h.own.below hb).wide (Nat.le_refl _) hb.size, h.ap⟩
theorem Elem.Grown.app {α : Type} {E : Elem α} {t : TypeId} {base : Nat} {w0 w w3 : World} {v v' : Value} {ds ns : List α} (h : E.Grown t base w0 v ds) (hb : Below w0.heap.size w0 w) (hn : E.OwnL w0.heap.size w.heap.size w ns) (hbase : base ≤ w0.heap.size)
    (hown : w3.ownsRow base t E.n v' (ds.length + ns.length) (E.cellsL ds ++ E.cellsL ns)) (hgr : w.grownBy w3 v.ownBlock) (hat : v'.ownBlock = v.ownBlock ∨ v'.ownBlock = some w.heap.size) : E.Grown t base w3 v' (ds ++ ns) := by
  have hds : E.OwnL base w0.heap.size w ds := h.own.below hb
  have hall := hds.append hn hbase hb.size
  have hnr : ∀ k ∈ E.blksL (ds ++ ns), some k ≠ v.ownBlock := by
    intro k hk e
    rw [Elem.blksL_append] at hk
    rcases List.mem_append.1 hk with hk | hk
    · exact h.ap k e.symm hk
    · have := hn.lo_ k hk
      have := (h.row.lt k e.symm).2
      omega
  have hk : ∀ k ∈ E.blksL (ds ++ ns), w3.heap[k]? = w.heap[k]? := fun k hk => hgr.block k (hall.blk_lt k hk) (hnr k hk)
  refine ⟨by rw [List.length_append, Elem.cellsL_append]; exact hown, (hall.keepB hk).wide (Nat.le_refl _) hgr.size, fun g hg hm2 => ?_⟩
  rcases hat with e | e
  · rw [e] at hg; exact hnr g hm2 hg.symm
  · rw [e] at hg
    obtain rfl := Option.some.inj hg
    have := hall.blk_lt _ hm2
    omega
end Go.Proofs.YtpigpncbjckbcaaGreat
namespace Go.Proofs.YtpigpncbjckbcaaGreat
open Go.RowKit
theorem Elem.Grown.far {α : Type} {E : Elem α} {t : TypeId} {base : Nat} {w : World} {v : Value} {ds : List α} (h : E.Grown t base w v ds) {p : Addr} (hp : p.block < base) (u : Value) : E.Grown t base (w.setCell p u) v ds :=
  ⟨ownsRow_setCell_below h.row hp u, by simp only [World.size_setCell]; exact h.own.far hp u, h.ap⟩
theorem Elem.Grown.lt {α : Type} {E : Elem α} {t : TypeId} {base : Nat} {w : World} {v : Value} {ds : List α} (h : E.Grown t base w v ds) : ∀ q, v.ownBlock = some q → base ≤ q ∧ q < w.heap.size := fun q hq => h.row.lt q hq
theorem Elem.OwnL.one {α : Type} {E : Elem α} {lo hi : Nat} {w : World} {d : α} (h : E.Own lo hi w d) : E.OwnL lo hi w [d] :=
  ⟨fun x hx => by rw [List.mem_singleton] at hx; subst hx; exact h.inn, fun b hb => h.lo_ b (by rwa [Elem.blksL_one] at hb), by rw [Elem.blksL_one]; exact h.nd, fun b hb => h.fr b (by rwa [Elem.blksL_one] at hb)⟩
structure Keeps (base out : Nat) (w w' : World) : Prop where
  os : w'.os = w.os
  tape : w'.tape = w.tape
  output : w'.output = w.output
  size : w.heap.size ≤ w'.heap.size
  block : ∀ k, k < base → k ≠ out → w'.heap[k]? = w.heap[k]?
theorem Keeps.refl (base out : Nat) (w : World) : Keeps base out w w := ⟨rfl, rfl, rfl, Nat.le_refl _, fun _ _ _ => rfl⟩
theorem Keeps.trans {base out : Nat} {w w1 w2 : World} (h : Keeps base out w w1) (k : Keeps base out w1 w2) : Keeps base out w w2 :=
  ⟨k.os.trans h.os, k.tape.trans h.tape, k.output.trans h.output, Nat.le_trans h.size k.size, fun q hq hn => (k.block q hq hn).trans (h.block q hq hn)⟩
theorem Keeps.below {base out B : Nat} {w w' : World} (h : Keeps base out w w') (h1 : B ≤ base) (h2 : B ≤ out) : Below B w w' :=
  ⟨h.os, h.tape, h.output, h.size, fun k hk => h.block k (by omega) (by omega)⟩
theorem Elem.grown_round {α : Type} {E : Elem α} {t : TypeId} {out base k g cap : Nat} {wr w1 w3 : World} {v u : Value} {ds : List α} {d : α} {ox o : Obj} (hG : E.Grown t base wr v ds) (hout : out < base) (hbase : base ≤ wr.heap.size)
    (hod : E.Own (wr.heap.size + 1) w1.heap.size w1 d) (hb1 : Below (wr.heap.size + 1) (wr.alloc ox) w1)
    (hown : w3.ownsRow base t E.n (.slice (some ⟨g, 0, none⟩) (ds.length + 1) cap) (ds.length + 1) (E.cellsL ds ++ E.cells d)) (hgr : (w1.alloc o).grownBy w3 v.ownBlock) (hat : v.ownBlock = some g ∨ g = w1.heap.size + 1)
    (hc3 : wr.cell? ⟨out, k, none⟩ = some u) :
    E.Grown t base (w3.setCell ⟨out, k, none⟩ (.slice (some ⟨g, 0, none⟩) (ds.length + 1) cap)) (.slice (some ⟨g, 0, none⟩) (ds.length + 1) cap) (ds ++ [d]) ∧
    (∀ q, q ≠ k → (w3.setCell ⟨out, k, none⟩ (.slice (some ⟨g, 0, none⟩) (ds.length + 1) cap)).cell? ⟨out, q, none⟩ = wr.cell? ⟨out, q, none⟩) ∧
    (w3.setCell ⟨out, k, none⟩ (.slice (some ⟨g, 0, none⟩) (ds.length + 1) cap)).cell? ⟨out, k, none⟩ = some (.slice (some ⟨g, 0, none⟩) (ds.length + 1) cap) ∧
    (∀ q, (w3.setCell ⟨out, k, none⟩ (.slice (some ⟨g, 0, none⟩) (ds.length + 1) cap)).frozen? ⟨out, q, none⟩ = wr.frozen? ⟨out, q, none⟩) ∧
    wr.heap.size ≤ (w3.setCell ⟨out, k, none⟩ (.slice (some ⟨g, 0, none⟩) (ds.length + 1) cap)).heap.size ∧ Keeps base out wr (w3.setCell ⟨out, k, none⟩ (.slice (some ⟨g, 0, none⟩) (ds.length + 1) cap)) := by
  have hbw : Below wr.heap.size wr w1 := ((Below.refl _ _).alloc (Nat.le_refl _) ox).trans (hb1.mono (by omega))
  have hz1 := hbw.size
  have hz3 := hgr.size
  simp only [World.size_alloc] at hz3
  have hne : ∀ q, v.ownBlock = some q → base ≤ q := fun q hq => (hG.row.lt q hq).1
  have hno : some out ≠ v.ownBlock := fun e => by have := hne out e.symm; omega
  have hh : w3.heap[out]? = wr.heap[out]? := by
    rw [hgr.block out (by simp; omega) hno]
    exact (Below.heap_alloc _ _ _ (by omega)).trans (hbw.block out (by omega))
  have cf : ∀ q, w3.cell? ⟨out, q, none⟩ = wr.cell? ⟨out, q, none⟩ := fun q => World.cell?_of_block (a := ⟨out, q, none⟩) hh
  have ff : ∀ q, w3.frozen? ⟨out, q, none⟩ = wr.frozen? ⟨out, q, none⟩ := fun q => World.frozen?_of_block (a := ⟨out, q, none⟩) hh
  have hal : Below wr.heap.size wr (w1.alloc o) := hbw.alloc (by omega) o
  have hn : E.OwnL wr.heap.size (w1.alloc o).heap.size (w1.alloc o) [d] := Elem.OwnL.one ((hod.below ((Below.refl _ _).alloc (Nat.le_refl _) o)).wide (by omega) (by simp))
  have hG3 := hG.app (v' := .slice (some ⟨g, 0, none⟩) (ds.length + 1) cap) hal hn hbase (by rw [Elem.cellsL_one]; exact hown) hgr (by
    rcases hat with e | e
    · exact .inl e.symm
    · exact .inr (by simp [Value.ownBlock, e]))
  have hb3 : Below base wr w3 := ((hbw.mono hbase).alloc (by omega) o).grown hgr (by simp; omega) (fun k hk => hne k hk)
  refine ⟨hG3.far (by simpa using hout) _, fun q hq => ?_, ?_, fun q => ?_, by simp; omega, ⟨hb3.os, hb3.tape, hb3.output, by simp; omega, fun q hq hn => (Below.heap_setCell _ _ _ _ (by simpa using hn)).trans (hb3.block q hq)⟩⟩
  · rw [icell_ne _ _ _ _ _ hq]; exact cf q
  · exact icell_eq ((cf k).trans hc3)
  · rw [World.frozen?_setCell]; exact ff q
end Go.Proofs.YtpigpncbjckbcaaGreat
namespace Go.Proofs.YtpigpncbjckbcaaGreat
open Go.RowKit
theorem Elem.LOwn.repl {α : Type} {E : Elem α} {w w1 w' : World} {lo hi b o c : Nat} {pre suf : List α} {x y : α} (h : E.LOwn lo hi w (some ⟨b, o, none⟩) c (pre ++ x :: suf)) (hhi : hi ≤ w.heap.size) (hb1 : Below w.heap.size w w1) (hy : E.Own w.heap.size w1.heap.size w1 y)
    (hz : w'.heap.size = w1.heap.size) (hk : ∀ k, k ≠ b → w'.heap[k]? = w1.heap[k]?) (hf : ∀ q, w'.frozen? ⟨b, q, none⟩ = w1.frozen? ⟨b, q, none⟩)
    (hc : ∀ q, q < o + pre.length * E.n ∨ o + pre.length * E.n + E.n ≤ q → w'.cell? ⟨b, q, none⟩ = w1.cell? ⟨b, q, none⟩)
    (hyc : ∀ j u, (E.cells y)[j]? = some u → w'.cell? ⟨b, o + pre.length * E.n + j, none⟩ = some u) : E.LOwn lo w'.heap.size w' (some ⟨b, o, none⟩) c (pre ++ y :: suf) := by
  have e2 : E.lblks (some ⟨b, o, none⟩) (pre ++ y :: suf) = b :: (E.blksL pre ++ (E.blks y ++ E.blksL suf)) := by
    unfold lblks; rw [lblk_some (List.append_ne_nil_of_right_ne_nil _ (List.cons_ne_nil _ _))]; simp [blksL]
  have e1 : E.lblks (some ⟨b, o, none⟩) (pre ++ x :: suf) = b :: (E.blksL pre ++ (E.blks x ++ E.blksL suf)) := by
    unfold lblks; rw [lblk_some (List.append_ne_nil_of_right_ne_nil _ (List.cons_ne_nil _ _))]; simp [blksL]
  have hnd := h.nd
  have hlo := h.lo_
  have hfr := h.fr
  have hlt := h.inn.blk_lt
  rw [e1] at hnd hlo hfr hlt
  have hyl := E.lt hy.inn
  have z1 := hb1.size
  obtain ⟨n1, n2⟩ := List.nodup_cons.1 hnd
  obtain ⟨n3, n4, n5⟩ := List.nodup_append.1 n2
  obtain ⟨n6, n7, n8⟩ := List.nodup_append.1 n4
  have hbb : b < hi := hlt b (by simp)
  have hbl : lo ≤ b := hlo b (by simp)
  have hold : ∀ k, (k ∈ E.blksL pre ∨ k ∈ E.blksL suf) → k < hi ∧ lo ≤ k ∧ k ≠ b := by
    intro k hk'
    have hm : k ∈ b :: (E.blksL pre ++ (E.blks x ++ E.blksL suf)) := by rcases hk' with h' | h' <;> simp [h']
    refine ⟨hlt k hm, hlo k hm, fun e => n1 ?_⟩
    rw [← e]; rcases hk' with h' | h' <;> simp [h']
  have hkeep : ∀ k, (k ∈ E.blksL pre ∨ k ∈ E.blksL suf) → w'.heap[k]? = w.heap[k]? := fun k hk' => by
    obtain ⟨g1, _, g3⟩ := hold k hk'
    rw [hk k g3]; exact hb1.block k (by omega)
  have hlen : (pre ++ y :: suf).length = (pre ++ x :: suf).length := by simp
  refine ⟨⟨by rw [hlen]; exact h.inn.cap, by simp, fun _ => ?_, fun z hzz => ?_⟩, ?_, ?_, ?_⟩
  · obtain ⟨b', o', e, hb, hcc⟩ := h.inn.mem (List.append_ne_nil_of_right_ne_nil _ (List.cons_ne_nil _ _))
    obtain ⟨rfl, rfl, _⟩ := Addr.mk.inj (Option.some.inj e)
    refine ⟨b, o, rfl, by omega, fun j u hu => ?_⟩
    have c1 : E.cellsL (pre ++ y :: suf) = E.cellsL pre ++ (E.cells y ++ E.cellsL suf) := by simp [cellsL]
    have c2 : E.cellsL (pre ++ x :: suf) = E.cellsL pre ++ (E.cells x ++ E.cellsL suf) := by simp [cellsL]
    have lp : (E.cellsL pre).length = E.n * pre.length := cellsL_length pre
    have ly := E.len y
    have lx := E.len x
    have em : pre.length * E.n = E.n * pre.length := Nat.mul_comm _ _
    have hw1 : ∀ q, w1.cell? ⟨b, q, none⟩ = w.cell? ⟨b, q, none⟩ := fun q => hb1.cell (p := ⟨b, q, none⟩) (show b < _ by omega)
    rw [c1] at hu
    by_cases h1 : j < E.n * pre.length
    · rw [List.getElem?_append_left (by omega)] at hu
      rw [hc _ (.inl (by omega)), hw1]
      exact hcc j u (by rw [c2, List.getElem?_append_left (by omega)]; exact hu)
    · rw [List.getElem?_append_right (by omega), lp] at hu
      by_cases h2 : j - E.n * pre.length < E.n
      · rw [List.getElem?_append_left (by omega)] at hu
        have := hyc _ u hu
        rwa [show o + pre.length * E.n + (j - E.n * pre.length) = o + j by omega] at this
      · rw [List.getElem?_append_right (by omega), ly] at hu
        rw [hc _ (.inr (by omega)), hw1]
        exact hcc j u (by rw [c2, List.getElem?_append_right (by omega), lp, List.getElem?_append_right (by omega), lx]; exact hu)
  · rcases List.mem_append.1 hzz with hzz | hzz
    · exact E.more (E.keepB (h.inn.all z (by simp [hzz])) fun k hkz => hkeep k (.inl (blksL_mem.2 ⟨z, hzz, hkz⟩))) (by omega)
    · rcases List.mem_cons.1 hzz with rfl | hzz
      · exact E.more (E.keepB hy.inn fun k hkz => hk k (by have := hy.lo_ k hkz; omega)) (by omega)
      · exact E.more (E.keepB (h.inn.all z (by simp [hzz])) fun k hkz => hkeep k (.inr (blksL_mem.2 ⟨z, hzz, hkz⟩))) (by omega)
  · rw [e2]
    intro k hm
    simp only [List.mem_cons, List.mem_append] at hm
    rcases hm with rfl | hm | hm | hm
    · exact hbl
    · exact (hold k (.inl hm)).2.1
    · have := hy.lo_ k hm; omega
    · exact (hold k (.inr hm)).2.1
  · rw [e2]
    refine List.nodup_cons.2 ⟨fun hm => ?_, List.nodup_append.2 ⟨n3, List.nodup_append.2 ⟨hy.nd, n7, fun p hp q hq e => ?_⟩, fun p hp q hq e => ?_⟩⟩
    · simp only [List.mem_append] at hm
      rcases hm with hm | hm | hm
      · exact (hold b (.inl hm)).2.2 rfl
      · have := hy.lo_ b hm; omega
      · exact (hold b (.inr hm)).2.2 rfl
    · have := hy.lo_ p hp; have := (hold q (.inr hq)).1; omega
    · rcases List.mem_append.1 hq with hq | hq
      · have := hy.lo_ q hq; have := (hold p (.inl hp)).1; omega
      · exact n5 p hp q (List.mem_append.2 (.inr hq)) e
  · rw [e2]
    intro k hm q
    simp only [List.mem_cons, List.mem_append] at hm
    rcases hm with rfl | hm | hm | hm
    · rw [hf q, hb1.frozen (p := ⟨k, q, none⟩) (show k < _ by omega)]; exact hfr k (by simp) q
    · rw [World.frozen?_of_block (a := ⟨k, q, none⟩) (hkeep k (.inl hm))]; exact hfr k (by simp [hm]) q
    · rw [World.frozen?_of_block (a := ⟨k, q, none⟩) (hk k (by have := hy.lo_ k hm; omega))]; exact hy.fr k hm q
    · rw [World.frozen?_of_block (a := ⟨k, q, none⟩) (hkeep k (.inr hm))]; exact hfr k (by simp [hm]) q
end Go.Proofs.YtpigpncbjckbcaaGreat
