/-
  Syntax objects as trees, with the places where they lie.
-/
import Derived.Test.YtpigpncbjckbcaaInts
import Derived.Test.YtpigpncbjckbcaaBase
namespace Go.Proofs.Ytpigpncbjckbcaa
open Go.RowKit

/-- A syntax object with the addresses and the capacities of its lists of scopes and of items. -/
inductive S where
  | mk (k n : Int) (t : ByteArray) (sa : Option Addr) (sc : Nat) (s : List Int) (A : Option Addr) (c : Nat) (l : List S)

namespace S
def k : S → Int | .mk k _ _ _ _ _ _ _ _ => k
def n : S → Int | .mk _ n _ _ _ _ _ _ _ => n
def t : S → ByteArray | .mk _ _ t _ _ _ _ _ _ => t
def sa : S → Option Addr | .mk _ _ _ sa _ _ _ _ _ => sa
def sc : S → Nat | .mk _ _ _ _ sc _ _ _ _ => sc
def s : S → List Int | .mk _ _ _ _ _ s _ _ _ => s
def A : S → Option Addr | .mk _ _ _ _ _ _ A _ _ => A
def c : S → Nat | .mk _ _ _ _ _ _ _ c _ => c
def l : S → List S | .mk _ _ _ _ _ _ _ _ l => l

theorem eta (d : S) : S.mk d.k d.n d.t d.sa d.sc d.s d.A d.c d.l = d := by cases d; rfl
/-- The five cells. -/
def cells (d : S) : List Value := [.int .i64 d.k, .int .i64 d.n, .string d.t, .slice d.sa d.s.length d.sc, .slice d.A d.l.length d.c]
def val (d : S) : Value := .agg #[.int .i64 d.k, .int .i64 d.n, .string d.t, .slice d.sa d.s.length d.sc, .slice d.A d.l.length d.c]
theorem cells_length (d : S) : d.cells.length = 5 := rfl

def cellsL (ds : List S) : List Value := ds.flatMap cells
theorem cellsL_length (ds : List S) : (cellsL ds).length = 5 * ds.length := by
  induction ds with
  | nil => rfl
  | cons d r ih => simp [cellsL, cells_length] at *; omega
theorem cellsL_get {ds : List S} {i : Nat} {d : S} (h : ds[i]? = some d) (j : Nat) (hj : j < 5) : (cellsL ds)[5 * i + j]? = d.cells[j]? := by
  induction ds generalizing i with
  | nil => simp at h
  | cons e r ih =>
    cases i with
    | zero =>
      simp at h
      subst h
      simp only [cellsL, List.flatMap_cons, Nat.mul_zero, Nat.zero_add]
      rw [List.getElem?_append_left (by rw [cells_length]; exact hj)]
    | succ i =>
      simp at h
      have := ih h
      simp only [cellsL, List.flatMap_cons] at this ⊢
      rw [List.getElem?_append_right (by rw [cells_length]; omega), cells_length, show 5 * (i + 1) + j - 5 = 5 * i + j by omega]
      exact this

mutual
/-- How many nodes. -/
def size : S → Nat | .mk _ _ _ _ _ _ _ _ l => 1 + sizeL l
def sizeL : List S → Nat | [] => 0 | d :: r => size d + sizeL r
end
mutual
/-- How many items, scopes and bytes of text. -/
def bulk : S → Nat | .mk _ _ t _ _ s _ _ l => t.size + (s.length + bulkL l)
def bulkL : List S → Nat | [] => 0 | d :: r => 1 + bulk d + bulkL r
end
mutual
def depth : S → Nat | .mk _ _ _ _ _ _ _ _ l => depthL l + 1
def depthL : List S → Nat | [] => 0 | d :: r => max (depth d) (depthL r)
end
mutual
/-- Equal in all fields (not in the places). -/
def eqB : S → S → Bool | .mk k n t _ _ s _ _ l, .mk k' n' t' _ _ s' _ _ l' => k == k' && (n == n' && (t.toList == t'.toList && (s == s' && eqL l l')))
def eqL : List S → List S → Bool | [], [] => true | [], _ :: _ => false | _ :: _, [] => false | a :: r, b :: s => eqB a b && eqL r s
end
mutual
/-- All lies in memory below block number B. -/
def In (w : World) (B : Nat) : S → Prop
  | .mk _ _ t sa sc s A c l => (l.length ≤ c ∧ c ≤ maxLen ∧ t.size ≤ maxLen) ∧ IIn w B sa sc s ∧ (l ≠ [] → ∃ b o : Nat, A = some ⟨b, o, none⟩ ∧ b < B ∧ ∀ j u, (cellsL l)[j]? = some u → w.cell? ⟨b, o + j, none⟩ = some u) ∧ InL w B l
def InL (w : World) (B : Nat) : List S → Prop | [] => True | d :: r => In w B d ∧ InL w B r
end

theorem InL_iff {w : World} {B : Nat} {l : List S} : InL w B l ↔ ∀ d ∈ l, In w B d := by
  induction l with
  | nil => simp [InL]
  | cons d r ih => simp [InL, ih]

theorem sizeL_mem {l : List S} {d : S} (h : d ∈ l) : d.size ≤ sizeL l := by
  induction l with
  | nil => cases h
  | cons e r ih =>
    simp only [sizeL]
    rcases List.mem_cons.1 h with rfl | h
    · omega
    · have := ih h; omega
theorem size_item {d x : S} (h : x ∈ d.l) : x.size < d.size := by
  cases d with
  | mk k n t sa sc s A c l =>
    have := sizeL_mem (l := l) h
    simp only [size]; omega
theorem size_eq (d : S) : d.size = 1 + sizeL d.l := by cases d; rfl
theorem sizeL_append (a b : List S) : sizeL (a ++ b) = sizeL a + sizeL b := by
  induction a with
  | nil => simp [sizeL]
  | cons d r ih => simp [sizeL, ih]; omega
theorem bulkL_append (a b : List S) : bulkL (a ++ b) = bulkL a + bulkL b := by
  induction a with
  | nil => simp [bulkL]
  | cons d r ih => simp [bulkL, ih]; omega
theorem depthL_append (a b : List S) : depthL (a ++ b) = max (depthL a) (depthL b) := by
  induction a with
  | nil => simp [depthL]
  | cons d r ih => simp [depthL, ih, Nat.max_assoc]
theorem size_pos (d : S) : 1 ≤ d.size := by cases d; simp [size]
theorem length_le_sizeL (l : List S) : l.length ≤ sizeL l := by
  induction l with
  | nil => simp
  | cons d r ih => have := size_pos d; simp [sizeL]; omega

/-- Induction over the size. -/
theorem ind {p : S → Prop} (h : ∀ d, (∀ x, x ∈ d.l → p x) → p d) : ∀ d, p d := by
  have key : ∀ m, ∀ d : S, d.size < m → p d := by
    intro m
    induction m with
    | zero => intro d hd; omega
    | succ m ih => intro d hd; exact h d fun x hx => ih x (by have := size_item hx; omega)
  exact fun d => key _ d (Nat.lt_succ_self _)

section
variable {w w' : World} {B B' : Nat} {d : S}
theorem In.keep (h : In w B d) (hk : ∀ k, k < B → w'.heap[k]? = w.heap[k]?) : In w' B d := by
  induction d using ind with
  | h d ih =>
    cases d with
    | mk k n t sa sc s A c l =>
      obtain ⟨h1, h2, h3, h4⟩ := h
      refine ⟨h1, h2.keep fun k hm => hk k (h2.blk_lt k hm), fun hl => ?_, InL_iff.2 fun x hx => ih x hx (InL_iff.1 h4 x hx)⟩
      obtain ⟨b, o, e, hb, hc⟩ := h3 hl
      exact ⟨b, o, e, hb, fun j u hu => (World.cell?_of_block (a := ⟨b, o + j, none⟩) (hk b hb)).trans (hc j u hu)⟩
theorem In.more (h : In w B d) (hB : B ≤ B') : In w B' d := by
  induction d using ind with
  | h d ih =>
    cases d with
    | mk k n t sa sc s A c l =>
      obtain ⟨h1, h2, h3, h4⟩ := h
      refine ⟨h1, h2.more hB, fun hl => ?_, InL_iff.2 fun x hx => ih x hx (InL_iff.1 h4 x hx)⟩
      obtain ⟨b, o, e, hb, hc⟩ := h3 hl
      exact ⟨b, o, e, by omega, hc⟩
theorem In.below (h : In w B d) (hb : Below B w w') : In w' B d := h.keep fun k hp => hb.block k hp
theorem In.drew (h : In w B d) : In w.drew B d := h.keep fun _ _ => rfl
theorem In.drewN (h : In w B d) (k : Nat) : In (w.drewN k) B d := h.keep fun _ _ => rfl
theorem In.alloc (h : In w B d) (hB : B ≤ w.heap.size) (o : Obj) : In (w.alloc o) B d := h.below ((Below.refl _ _).alloc hB o)

theorem In.item (h : In w B d) {x : S} (hx : x ∈ d.l) : In w B x := by
  cases d with
  | mk k n t sa sc s A c l => exact InL_iff.1 h.2.2.2 x hx
theorem In.cap (h : In w B d) : d.l.length ≤ d.c ∧ d.c ≤ 9223372036854775807 ∧ d.t.size ≤ 9223372036854775807 := by
  cases d with
  | mk k n t sa sc s A c l => exact h.1
theorem In.scopes (h : In w B d) : IIn w B d.sa d.sc d.s := by
  cases d with
  | mk k n t sa sc s A c l => exact h.2.1
/-- The cells of item i. -/
theorem In.at_ (h : In w B d) {i : Nat} {x : S} (hx : d.l[i]? = some x) :
    ∃ b o : Nat, d.A = some ⟨b, o, none⟩ ∧ b < B ∧ w.cell? ⟨b, o + i * 5, none⟩ = some (.int .i64 x.k) ∧ w.cell? ⟨b, o + i * 5 + 1, none⟩ = some (.int .i64 x.n) ∧ w.cell? ⟨b, o + i * 5 + 2, none⟩ = some (.string x.t) ∧
      w.cell? ⟨b, o + i * 5 + 3, none⟩ = some (.slice x.sa x.s.length x.sc) ∧ w.cell? ⟨b, o + i * 5 + 4, none⟩ = some (.slice x.A x.l.length x.c) ∧ In w B x := by
  cases d with
  | mk k n t sa sc s A c l =>
    have hne : l ≠ [] := by rintro rfl; simp [S.l] at hx
    obtain ⟨b, o, e, hb, hc⟩ := h.2.2.1 hne
    have g := fun j (hj : j < 5) => cellsL_get (ds := l) hx j hj
    refine ⟨b, o, e, hb, ?_, ?_, ?_, ?_, ?_, InL_iff.1 h.2.2.2 x (List.mem_of_getElem? hx)⟩
    · have := hc (5 * i + 0) _ (by rw [g 0 (by omega)]; rfl)
      rwa [show o + (5 * i + 0) = o + i * 5 by omega] at this
    · have := hc (5 * i + 1) _ (by rw [g 1 (by omega)]; rfl)
      rwa [show o + (5 * i + 1) = o + i * 5 + 1 by omega] at this
    · have := hc (5 * i + 2) _ (by rw [g 2 (by omega)]; rfl)
      rwa [show o + (5 * i + 2) = o + i * 5 + 2 by omega] at this
    · have := hc (5 * i + 3) _ (by rw [g 3 (by omega)]; rfl)
      rwa [show o + (5 * i + 3) = o + i * 5 + 3 by omega] at this
    · have := hc (5 * i + 4) _ (by rw [g 4 (by omega)]; rfl)
      rwa [show o + (5 * i + 4) = o + i * 5 + 4 by omega] at this
end

end S
end Go.Proofs.Ytpigpncbjckbcaa

namespace Go.Proofs.Ytpigpncbjckbcaa
open Go.RowKit
namespace S

mutual
/-- The blocks in which the lists lie. -/
def blks : S → List Nat | .mk _ _ _ sa _ s A _ l => iblk sa s ++ ((if l.isEmpty then [] else (A.map (·.block)).toList) ++ blksL l)
def blksL : List S → List Nat | [] => [] | d :: r => blks d ++ blksL r
end
mutual
/-- Without the places. -/
def er : S → S | .mk k n t _ _ s _ _ l => .mk k n t none 0 s none 0 (erL l)
def erL : List S → List S | [] => [] | d :: r => er d :: erL r
end
theorem erL_map (l : List S) : erL l = l.map er := by
  induction l with
  | nil => rfl
  | cons d r ih => simp [erL, ih]
theorem erL_append (a b : List S) : erL (a ++ b) = erL a ++ erL b := by simp [erL_map]
theorem erL_length (a : List S) : (erL a).length = a.length := by simp [erL_map]
theorem blksL_append (a b : List S) : blksL (a ++ b) = blksL a ++ blksL b := by
  induction a with
  | nil => rfl
  | cons d r ih => simp [blksL, ih]
theorem cellsL_append (a b : List S) : cellsL (a ++ b) = cellsL a ++ cellsL b := by simp [cellsL]
theorem InL_append {w : World} {B : Nat} {a b : List S} : InL w B (a ++ b) ↔ InL w B a ∧ InL w B b := by
  simp [InL_iff, or_imp, forall_and]
theorem blksL_mem {b : Nat} {l : List S} : b ∈ blksL l ↔ ∃ x ∈ l, b ∈ blks x := by
  induction l with
  | nil => simp [blksL]
  | cons y r ih => simp [blksL, ih]
theorem blks_item {d x : S} (hx : x ∈ d.l) : ∀ b ∈ blks x, b ∈ blks d := by
  cases d with
  | mk k n t sa sc s A c l =>
    intro b hb
    simp only [blks, List.mem_append]
    exact .inr (.inr (blksL_mem.2 ⟨x, hx, hb⟩))
theorem blks_scopes (d : S) : ∀ b ∈ iblk d.sa d.s, b ∈ blks d := by
  cases d with
  | mk k n t sa sc s A c l =>
    intro b hb
    simp only [blks, List.mem_append]
    exact .inl hb

section
variable {w w' : World} {lo hi lo' hi' : Nat} {d : S} {l : List S}

theorem In.blk_lt (h : In w hi d) : ∀ b ∈ blks d, b < hi := by
  induction d using ind with
  | h d ih =>
    cases d with
    | mk k n t sa sc s A c l =>
      intro b hb
      simp only [blks, List.mem_append] at hb
      rcases hb with hb | hb | hb
      · exact h.2.1.blk_lt b hb
      · cases l with
        | nil => simp at hb
        | cons x r =>
          obtain ⟨b', o, e, hlt, _⟩ := h.2.2.1 (by simp)
          subst e
          simp at hb
          omega
      · obtain ⟨x, hx, hbx⟩ := blksL_mem.1 hb
        exact ih x hx (h.item hx) b hbx
theorem InL.blk_lt (h : InL w hi l) : ∀ b ∈ blksL l, b < hi := by
  intro b hb
  obtain ⟨x, hx, hbx⟩ := blksL_mem.1 hb
  exact (InL_iff.1 h x hx).blk_lt b hbx

/-- The call's own: blocks from lo on and below hi, no two the same, none frozen. -/
structure Own (lo hi : Nat) (w : World) (d : S) : Prop where
  inn : In w hi d
  lo_ : ∀ b ∈ blks d, lo ≤ b
  nd : (blks d).Nodup
  fr : ∀ b ∈ blks d, ∀ o, w.frozen? ⟨b, o, none⟩ = false
structure OwnL (lo hi : Nat) (w : World) (l : List S) : Prop where
  inn : InL w hi l
  lo_ : ∀ b ∈ blksL l, lo ≤ b
  nd : (blksL l).Nodup
  fr : ∀ b ∈ blksL l, ∀ o, w.frozen? ⟨b, o, none⟩ = false

theorem InL.below (h : InL w hi l) (hb : Below hi w w') : InL w' hi l := InL_iff.2 fun x hx => (InL_iff.1 h x hx).below hb
theorem InL.more (h : InL w hi l) (hb : hi ≤ hi') : InL w hi' l := InL_iff.2 fun x hx => (InL_iff.1 h x hx).more hb
theorem Own.below (h : Own lo hi w d) (hb : Below hi w w') : Own lo hi w' d :=
  ⟨h.inn.below hb, h.lo_, h.nd, fun b hm o => (hb.frozen (p := ⟨b, o, none⟩) (h.inn.blk_lt b hm)).trans (h.fr b hm o)⟩
theorem OwnL.below (h : OwnL lo hi w l) (hb : Below hi w w') : OwnL lo hi w' l :=
  ⟨h.inn.below hb, h.lo_, h.nd, fun b hm o => (hb.frozen (p := ⟨b, o, none⟩) (h.inn.blk_lt b hm)).trans (h.fr b hm o)⟩
theorem Own.wide (h : Own lo hi w d) (h1 : lo' ≤ lo) (h2 : hi ≤ hi') : Own lo' hi' w d :=
  ⟨h.inn.more h2, fun b hm => Nat.le_trans h1 (h.lo_ b hm), h.nd, h.fr⟩
theorem OwnL.wide (h : OwnL lo hi w l) (h1 : lo' ≤ lo) (h2 : hi ≤ hi') : OwnL lo' hi' w l :=
  ⟨h.inn.more h2, fun b hm => Nat.le_trans h1 (h.lo_ b hm), h.nd, h.fr⟩
theorem OwnL.nil_ : OwnL lo hi w [] := ⟨trivial, by simp [blksL], by simp [blksL], by simp [blksL]⟩
theorem OwnL.snoc (h : OwnL lo hi w l) (hb : Below hi w w') (hd : Own hi hi' w' d) (h2 : hi ≤ hi') (h1 : lo ≤ hi) : OwnL lo hi' w' (l ++ [d]) := by
  have h' := h.below hb
  refine ⟨InL_append.2 ⟨h'.inn.more h2, hd.inn, trivial⟩, ?_, ?_, ?_⟩
  · intro b hm
    simp only [blksL_append, blksL, List.append_nil, List.mem_append] at hm
    rcases hm with hm | hm
    · exact h.lo_ b hm
    · exact Nat.le_trans h1 (hd.lo_ b hm)
  · simp only [blksL_append, blksL, List.append_nil]
    refine List.nodup_append.2 ⟨h.nd, hd.nd, fun a ha b hb' e => ?_⟩
    have := h.inn.blk_lt a ha
    have := hd.lo_ b hb'
    omega
  · intro b hm o
    simp only [blksL_append, blksL, List.append_nil, List.mem_append] at hm
    rcases hm with hm | hm
    · exact h'.fr b hm o
    · exact hd.fr b hm o
theorem iblk_nodup (A : Option Addr) (s : List Int) : (iblk A s).Nodup := by
  unfold iblk
  split
  · simp
  · cases A <;> simp
/-- A syntax object over scopes and a row of the call's own: the scopes lie in [lo, mid), the row's data in [mid, hi). -/
theorem Own.of_parts {k n : Int} {t : ByteArray} {sa : Option Addr} {sc : Nat} {s : List Int} {A : Option Addr} {c : Nat} (hs : IOwn lo hi w sa sc s) (h : OwnL lo hi w l) (hc : l.length ≤ c ∧ c ≤ maxLen ∧ t.size ≤ maxLen)
    (hA : l ≠ [] → ∃ g, A = some ⟨g, 0, none⟩ ∧ g ∉ blksL l ∧ lo ≤ g ∧ g < hi ∧ (∀ o, w.frozen? ⟨g, o, none⟩ = false) ∧ (∀ j u, (cellsL l)[j]? = some u → w.cell? ⟨g, j, none⟩ = some u) ∧ ∀ b ∈ iblk sa s, b ≠ g)
    (hd : ∀ b ∈ iblk sa s, b ∉ blksL l) : Own lo hi w (.mk k n t sa sc s A c l) := by
  refine ⟨⟨hc, hs.inn, fun hl => ?_, h.inn⟩, ?_, ?_, ?_⟩
  · obtain ⟨g, rfl, _, _, hhi, _, hcells, _⟩ := hA hl
    exact ⟨g, 0, rfl, hhi, fun j u hu => by rw [Nat.zero_add]; exact hcells j u hu⟩
  · intro b hm
    simp only [blks, List.mem_append] at hm
    rcases hm with hm | hm | hm
    · exact hs.lo_ b hm
    · cases l with
      | nil => simp at hm
      | cons x r =>
        obtain ⟨g, rfl, _, hlo, _⟩ := hA (by simp)
        simp at hm
        omega
    · exact h.lo_ b hm
  · simp only [blks]
    refine List.nodup_append.2 ⟨iblk_nodup _ _, ?_, ?_⟩
    · cases l with
      | nil => simpa using h.nd
      | cons x r =>
        obtain ⟨g, rfl, hg, _⟩ := hA (by simp)
        simpa using ⟨hg, h.nd⟩
    · intro a ha b hb e
      subst e
      rw [List.mem_append] at hb
      rcases hb with hb | hb
      · cases l with
        | nil => simp at hb
        | cons x r =>
          obtain ⟨g, rfl, _, _, _, _, _, hne⟩ := hA (by simp)
          simp at hb
          exact hne a ha hb
      · exact hd a ha hb
  · intro b hm o
    simp only [blks, List.mem_append] at hm
    rcases hm with hm | hm | hm
    · exact hs.fr b hm o
    · cases l with
      | nil => simp at hm
      | cons x r =>
        obtain ⟨g, rfl, _, _, _, hf, _⟩ := hA (by simp)
        simp at hm
        subst hm
        exact hf o
    · exact h.fr b hm o
/-- The same lists under another head. -/
theorem Own.head {k n k' n' : Int} {t t' : ByteArray} {sa : Option Addr} {sc : Nat} {s : List Int} {A : Option Addr} {c : Nat} (h : Own lo hi w (.mk k n t sa sc s A c l)) (ht : t'.size ≤ 9223372036854775807) : Own lo hi w (.mk k' n' t' sa sc s A c l) :=
  ⟨⟨⟨h.inn.1.1, h.inn.1.2.1, ht⟩, h.inn.2.1, h.inn.2.2.1, h.inn.2.2.2⟩, fun b hb => h.lo_ b (by simpa only [blks] using hb), by have := h.nd; simpa only [blks] using this, fun b hb => h.fr b (by simpa only [blks] using hb)⟩
theorem In.keepB (h : In w hi d) (hk : ∀ k, k ∈ blks d → w'.heap[k]? = w.heap[k]?) : In w' hi d := by
  induction d using ind with
  | h d ih =>
    cases d with
    | mk k n t sa sc s A c l =>
      obtain ⟨h1, h2, h3, h4⟩ := h
      refine ⟨h1, h2.keep fun k hm => hk k (by simp only [blks, List.mem_append]; exact .inl hm), fun hl => ?_, InL_iff.2 fun x hx => ih x hx (InL_iff.1 h4 x hx) fun q hp => hk q (blks_item (d := .mk k n t sa sc s A c l) hx _ hp)⟩
      obtain ⟨b, o, e, hb, hc⟩ := h3 hl
      refine ⟨b, o, e, hb, fun j u hu => (World.cell?_of_block (a := ⟨b, o + j, none⟩) (hk b ?_)).trans (hc j u hu)⟩
      subst e
      simp only [blks, List.mem_append]
      right; left
      cases l with
      | nil => exact absurd rfl hl
      | cons x r => simp
theorem Own.keepB (h : Own lo hi w d) (hk : ∀ k, k ∈ blks d → w'.heap[k]? = w.heap[k]?) : Own lo hi w' d :=
  ⟨h.inn.keepB hk, h.lo_, h.nd, fun b hm o => (World.frozen?_of_block (a := ⟨b, o, none⟩) (hk b hm)).trans (h.fr b hm o)⟩
theorem OwnL.keepB (h : OwnL lo hi w l) (hk : ∀ k, k ∈ blksL l → w'.heap[k]? = w.heap[k]?) : OwnL lo hi w' l :=
  ⟨InL_iff.2 fun x hx => (InL_iff.1 h.inn x hx).keepB fun _ hp => hk _ (blksL_mem.2 ⟨x, hx, hp⟩), h.lo_, h.nd, fun b hm o => (World.frozen?_of_block (a := ⟨b, o, none⟩) (hk b hm)).trans (h.fr b hm o)⟩
/-- A store elsewhere. -/
theorem Own.far (h : Own lo hi w d) {p : Addr} (hp : p.block < lo) (u : Value) : Own lo hi (w.setCell p u) d :=
  h.keepB fun k hk => Below.heap_setCell _ _ _ _ (by have := h.lo_ k hk; omega)
theorem OwnL.far (h : OwnL lo hi w l) {p : Addr} (hp : p.block < lo) (u : Value) : OwnL lo hi (w.setCell p u) l :=
  h.keepB fun k hk => Below.heap_setCell _ _ _ _ (by have := h.lo_ k hk; omega)
theorem Own.scopes (h : Own lo hi w d) : IOwn lo hi w d.sa d.sc d.s := by
  refine ⟨h.inn.scopes, fun hl b o e => ?_⟩
  have hm : b ∈ blks d := blks_scopes d b (by rw [e, iblk_some hl]; simp)
  exact ⟨h.lo_ b hm, h.fr b hm⟩
end

/-- Row g of n places bears the syntax objects ds at its head. -/
def RowTo (w : World) (g : Nat) (t : TypeId) (n : Nat) (ds : List S) : Prop := ∃ cs : Array Value, D.Blk w g t cs ∧ cs.size = 5 * n ∧ ∀ (i : Nat) (u : Value), (cellsL ds)[i]? = some u → cs[i]? = some u
theorem RowTo.below {w w' : World} {g : Nat} {t : TypeId} {n : Nat} {ds : List S} {B : Nat} (h : RowTo w g t n ds) (hb : Below B w w') (hg : g < B) : RowTo w' g t n ds := by
  obtain ⟨cs, h1, h2⟩ := h
  exact ⟨cs, h1.below hb hg, h2⟩
theorem RowTo.lt {w : World} {g : Nat} {t : TypeId} {n : Nat} {ds : List S} (h : RowTo w g t n ds) : g < w.heap.size := by
  obtain ⟨cs, h1, _⟩ := h
  exact h1.lt
theorem RowTo.old {w : World} {g : Nat} {t : TypeId} {n : Nat} {ds : List S} (h : RowTo w g t n ds) {i : Nat} (hi : i < 5 * n) : ∃ u, w.cell? ⟨g, i, none⟩ = some u := by
  obtain ⟨cs, h1, h2, _⟩ := h
  exact ⟨cs[i], by rw [h1.cell]; exact Array.getElem?_eq_getElem (by omega)⟩
theorem RowTo.frozen {w : World} {g : Nat} {t : TypeId} {n : Nat} {ds : List S} (h : RowTo w g t n ds) (i : Nat) : w.frozen? ⟨g, i, none⟩ = false := by
  obtain ⟨cs, h1, _⟩ := h
  exact h1.frozen i
theorem RowTo.step {w : World} {g : Nat} {t : TypeId} {n : Nat} {ds : List S} (h : RowTo w g t n ds) {j : Nat} (hj : ds.length = j) (hn : j < n) (d : S) :
    RowTo (((((w.setCell ⟨g, j * 5, none⟩ (.int .i64 d.k)).setCell ⟨g, j * 5 + 1, none⟩ (.int .i64 d.n)).setCell ⟨g, j * 5 + 2, none⟩ (.string d.t)).setCell ⟨g, j * 5 + 3, none⟩ (.slice d.sa d.s.length d.sc)).setCell ⟨g, j * 5 + 4, none⟩ (.slice d.A d.l.length d.c)) g t n (ds ++ [d]) := by
  obtain ⟨cs, h1, h2, h3⟩ := h
  refine ⟨_, ((((h1.set_ _ _).set_ _ _).set_ _ _).set_ _ _).set_ _ _, by simp [h2], fun i u hu => ?_⟩
  have hl := cellsL_length ds
  rw [cellsL_append] at hu
  by_cases hi : i < 5 * j
  · rw [List.getElem?_append_left (by omega)] at hu
    have := h3 i u hu
    simp only [Array.getElem?_setIfInBounds]
    rw [if_neg (by omega), if_neg (by omega), if_neg (by omega), if_neg (by omega), if_neg (by omega)]
    exact this
  · rw [List.getElem?_append_right (by omega), hl, hj] at hu
    simp only [Array.getElem?_setIfInBounds, Array.size_setIfInBounds, h2]
    have hlt : i - 5 * j < 5 := by
      have := (List.getElem?_eq_some_iff.1 hu).1
      simp [cellsL, cells] at this
      omega
    simp only [cellsL, List.flatMap_cons, List.flatMap_nil, List.append_nil, cells] at hu
    have e : i - 5 * j = 0 ∨ i - 5 * j = 1 ∨ i - 5 * j = 2 ∨ i - 5 * j = 3 ∨ i - 5 * j = 4 := by omega
    rcases e with e | e | e | e | e <;> rw [e] at hu <;> simp at hu <;> subst hu
    · rw [if_neg (by omega), if_neg (by omega), if_neg (by omega), if_neg (by omega), if_pos (by omega), if_pos (by omega)]
    · rw [if_neg (by omega), if_neg (by omega), if_neg (by omega), if_pos (by omega), if_pos (by omega)]
    · rw [if_neg (by omega), if_neg (by omega), if_pos (by omega), if_pos (by omega)]
    · rw [if_neg (by omega), if_pos (by omega), if_pos (by omega)]
    · rw [if_pos (by omega), if_pos (by omega)]
end S
end Go.Proofs.Ytpigpncbjckbcaa

namespace Go.Proofs.Ytpigpncbjckbcaa
open Go.RowKit
namespace S
structure Box (w : World) (b : Nat) (d : S) : Prop where
  c0 : w.cell? ⟨b, 0, none⟩ = some (.int .i64 d.k)
  c1 : w.cell? ⟨b, 1, none⟩ = some (.int .i64 d.n)
  c2 : w.cell? ⟨b, 2, none⟩ = some (.string d.t)
  c3 : w.cell? ⟨b, 3, none⟩ = some (.slice d.sa d.s.length d.sc)
  c4 : w.cell? ⟨b, 4, none⟩ = some (.slice d.A d.l.length d.c)
theorem Box.keep {w w' : World} {b : Nat} {d : S} (h : Box w b d) (e : w'.heap[b]? = w.heap[b]?) : Box w' b d := by
  have e : ∀ q, w'.cell? ⟨b, q, none⟩ = w.cell? ⟨b, q, none⟩ := fun q => World.cell?_of_block (a := ⟨b, q, none⟩) e
  exact ⟨(e 0).trans h.c0, (e 1).trans h.c1, (e 2).trans h.c2, (e 3).trans h.c3, (e 4).trans h.c4⟩
theorem Box.below {w w' : World} {b B : Nat} {d : S} (h : Box w b d) (hb : Below B w w') (hB : b < B) : Box w' b d := h.keep (hb.block b hB)
theorem Box.chg {w w' : World} {b : Nat} {d : S} {T : List Nat} (h : Box w b d) (hb : Chg T w w') (hlt : b < w.heap.size) (hn : b ∉ T) : Box w' b d := h.keep (hb.block b hlt hn)
theorem Box.new (w : World) (d : S) (t : TypeId) : Box (w.alloc (.cells #[.int .i64 d.k, .int .i64 d.n, .string d.t, .slice d.sa d.s.length d.sc, .slice d.A d.l.length d.c] t)) w.heap.size d :=
  ⟨by rw [cell_of_row _ _ _ _ _ _ (heap_alloc_new w _)]; rfl, by rw [cell_of_row _ _ _ _ _ _ (heap_alloc_new w _)]; rfl, by rw [cell_of_row _ _ _ _ _ _ (heap_alloc_new w _)]; rfl, by rw [cell_of_row _ _ _ _ _ _ (heap_alloc_new w _)]; rfl, by rw [cell_of_row _ _ _ _ _ _ (heap_alloc_new w _)]; rfl⟩
end S
/-- Not frozen. -/
structure Free (w : World) (b : Nat) : Prop where
  fr : ∀ q, w.frozen? ⟨b, q, none⟩ = false
theorem Free.keep {w w' : World} {b : Nat} (h : Free w b) (e : w'.heap[b]? = w.heap[b]?) : Free w' b := ⟨fun q => (World.frozen?_of_block (a := ⟨b, q, none⟩) e).trans (h.fr q)⟩
theorem Free.below {w w' : World} {b B : Nat} (h : Free w b) (hb : Below B w w') (hB : b < B) : Free w' b := h.keep (hb.block b hB)
theorem Free.set_ {w : World} {b : Nat} (h : Free w b) (p : Addr) (u : Value) : Free (w.setCell p u) b := ⟨fun q => by rw [World.frozen?_setCell]; exact h.fr q⟩
theorem Free.new (w : World) (cs : Array Value) (t : TypeId) : Free (w.alloc (.cells cs t)) w.heap.size := ⟨fun q => (D.Blk.new w t cs).frozen q⟩
end Go.Proofs.Ytpigpncbjckbcaa
