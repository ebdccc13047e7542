/-
  Trees of nodes with a head of any kind and a list of nodes: where they lie, what is owned, equality, sizes. Nothing of the program.
-/
import Derived.Test.YtpigpncbjckbcaaElem
namespace Go.Proofs.Ytpigpncbjckbcaa
open Go.RowKit

namespace Elem
theorem In.below {α : Type} {E : Elem α} {w w' : World} {B : Nat} {a : α} (h : E.In w B a) (hb : Below B w w') : E.In w' B a := E.keepB h fun k hk => hb.block k (E.lt h k hk)
theorem In.more {α : Type} {E : Elem α} {w : World} {B B' : Nat} {a : α} (h : E.In w B a) (hB : B ≤ B') : E.In w B' a := E.more h hB
theorem In.alloc {α : Type} {E : Elem α} {w : World} {B : Nat} {a : α} (h : E.In w B a) (hB : B ≤ w.heap.size) (o : Obj) : E.In (w.alloc o) B a := In.below h ((Below.refl _ _).alloc hB o)
theorem In.drew {α : Type} {E : Elem α} {w : World} {B : Nat} {a : α} (h : E.In w B a) : E.In w.drew B a := E.keepB h fun _ _ => rfl
theorem In.keepB {α : Type} {E : Elem α} {w w' : World} {B : Nat} {a : α} (h : E.In w B a) (hk : ∀ k, k ∈ E.blks a → w'.heap[k]? = w.heap[k]?) : E.In w' B a := E.keepB h hk
theorem In.blk_lt {α : Type} {E : Elem α} {w : World} {B : Nat} {a : α} (h : E.In w B a) : ∀ b ∈ E.blks a, b < B := E.lt h
end Elem
inductive Tr (α : Type) where
  | mk (a : α) (A : Option Addr) (c : Nat) (l : List (Tr α))
namespace Tr
variable {α β : Type}
def a : Tr α → α | .mk a _ _ _ => a
def A : Tr α → Option Addr | .mk _ A _ _ => A
def c : Tr α → Nat | .mk _ _ c _ => c
def l : Tr α → List (Tr α) | .mk _ _ _ l => l
theorem eta (d : Tr α) : Tr.mk d.a d.A d.c d.l = d := by cases d; rfl
mutual
/-- How many nodes. -/
def size : Tr α → Nat | .mk _ _ _ l => 1 + sizeL l
def sizeL : List (Tr α) → Nat | [] => 0 | d :: r => size d + sizeL r
end
mutual
def depth : Tr α → Nat | .mk _ _ _ l => depthL l + 1
def depthL : List (Tr α) → Nat | [] => 0 | d :: r => max (depth d) (depthL r)
end
mutual
/-- How much is in it, f of each head. -/
def bulk (f : α → Nat) : Tr α → Nat | .mk a _ _ l => f a + bulkL f l
def bulkL (f : α → Nat) : List (Tr α) → Nat | [] => 0 | d :: r => 1 + bulk f d + bulkL f r
end
mutual
def eqB (f : α → α → Bool) : Tr α → Tr α → Bool | .mk a _ _ l, .mk b _ _ m => f a b && eqL f l m
def eqL (f : α → α → Bool) : List (Tr α) → List (Tr α) → Bool | [], [] => true | [], _ :: _ => false | _ :: _, [] => false | a :: r, b :: s => eqB f a b && eqL f r s
end
mutual
/-- Without the places; f forgets those of the heads. -/
def er (f : α → β) : Tr α → Tr β | .mk a _ _ l => .mk (f a) none 0 (erL f l)
def erL (f : α → β) : List (Tr α) → List (Tr β) | [] => [] | d :: r => er f d :: erL f r
end
theorem erL_map (f : α → β) (l : List (Tr α)) : erL f l = l.map (er f) := by
  induction l with
  | nil => rfl
  | cons d r ih => simp [erL, ih]
theorem erL_append (f : α → β) (a b : List (Tr α)) : erL f (a ++ b) = erL f a ++ erL f b := by simp [erL_map]
theorem erL_length (f : α → β) (a : List (Tr α)) : (erL f a).length = a.length := by simp [erL_map]
theorem sizeL_mem {l : List (Tr α)} {d : Tr α} (h : d ∈ l) : d.size ≤ sizeL l := by
  induction l with
  | nil => cases h
  | cons e r ih =>
    simp only [sizeL]
    rcases List.mem_cons.1 h with rfl | h
    · omega
    · have := ih h; omega
theorem size_item {d x : Tr α} (h : x ∈ d.l) : x.size < d.size := by
  cases d with
  | mk a A c l =>
    have := sizeL_mem (l := l) h
    simp only [size]; omega
theorem size_eq (d : Tr α) : d.size = 1 + sizeL d.l := by cases d; rfl
theorem size_pos (d : Tr α) : 1 ≤ d.size := by cases d; simp [size]
theorem sizeL_append (a b : List (Tr α)) : sizeL (a ++ b) = sizeL a + sizeL b := by
  induction a with
  | nil => simp [sizeL]
  | cons d r ih => simp [sizeL, ih]; omega
theorem length_le_sizeL (l : List (Tr α)) : l.length ≤ sizeL l := by
  induction l with
  | nil => simp
  | cons d r ih => have := size_pos d; simp [sizeL]; omega
theorem depthL_append (a b : List (Tr α)) : depthL (a ++ b) = max (depthL a) (depthL b) := by
  induction a with
  | nil => simp [depthL]
  | cons d r ih => simp [depthL, ih, Nat.max_assoc]
theorem depthL_mem {l : List (Tr α)} {d : Tr α} (h : d ∈ l) : d.depth ≤ depthL l := by
  induction l with
  | nil => cases h
  | cons e r ih =>
    simp only [depthL]
    rcases List.mem_cons.1 h with rfl | h
    · omega
    · have := ih h; omega
theorem bulkL_append (f : α → Nat) (a b : List (Tr α)) : bulkL f (a ++ b) = bulkL f a + bulkL f b := by
  induction a with
  | nil => simp [bulkL]
  | cons d r ih => simp [bulkL, ih]; omega
theorem bulk_eq (f : α → Nat) (d : Tr α) : d.bulk f = f d.a + bulkL f d.l := by cases d; rfl
theorem bulkL_mem {f : α → Nat} {l : List (Tr α)} {d : Tr α} (h : d ∈ l) : d.bulk f + l.length ≤ bulkL f l := by
  have h2 : ∀ r : List (Tr α), r.length ≤ bulkL f r := fun r => by
    induction r with
    | nil => simp
    | cons d r ih => simp [bulkL]; omega
  induction l with
  | nil => cases h
  | cons e r ih =>
    simp only [bulkL, List.length_cons]
    rcases List.mem_cons.1 h with rfl | h
    · have := h2 r; omega
    · have := ih h; omega
theorem bulkL_take_le (f : α → Nat) (l : List (Tr α)) (j : Nat) : bulkL f (l.take j) + (l.length - j) ≤ bulkL f l := by
  have h := bulkL_append f (l.take j) (l.drop j)
  rw [List.take_append_drop] at h
  have h2 : ∀ r : List (Tr α), r.length ≤ bulkL f r := fun r => by
    induction r with
    | nil => simp
    | cons d r ih => simp [bulkL]; omega
  have := h2 (l.drop j)
  rw [List.length_drop] at this
  omega
theorem bulkL_take_succ (f : α → Nat) (l : List (Tr α)) (j : Nat) (h : j < l.length) : bulkL f (l.take (j + 1)) = bulkL f (l.take j) + 1 + (l[j]).bulk f := by
  rw [List.take_succ_eq_append_getElem h, bulkL_append]; simp [bulkL]; omega
mutual
theorem size_le_bulk (f : α → Nat) : ∀ d : Tr α, d.size ≤ 1 + d.bulk f
  | .mk a A c l => by have := sizeL_le_bulkL f l; simp only [size, bulk]; omega
theorem sizeL_le_bulkL (f : α → Nat) : ∀ l : List (Tr α), sizeL l ≤ bulkL f l
  | [] => Nat.le_refl _
  | d :: r => by have := size_le_bulk f d; have := sizeL_le_bulkL f r; simp only [sizeL, bulkL]; omega
end
/-- Induction over the size. -/
theorem ind {p : Tr α → Prop} (h : ∀ d, (∀ x, x ∈ d.l → p x) → p d) : ∀ d, p d := by
  have key : ∀ m, ∀ d : Tr α, d.size < m → p d := by
    intro m
    induction m with
    | zero => intro d hd; omega
    | succ m ih => intro d hd; exact h d fun x hx => ih x (by have := size_item hx; omega)
  exact fun d => key _ d (Nat.lt_succ_self _)
theorem eqL_take {f : α → α → Bool} (l l' : List (Tr α)) (j : Nat) (h : j < l.length) (h' : j < l'.length) (ht : eqL f (l.take j) (l'.take j) = true) : eqL f l l' = (eqB f l[j] l'[j] && eqL f (l.drop (j + 1)) (l'.drop (j + 1))) := by
  induction j generalizing l l' with
  | zero =>
    match l, l' with
    | [], _ => simp at h
    | _ :: _, [] => simp at h'
    | a :: r, b :: s => simp [eqL]
  | succ j ih =>
    match l, l' with
    | [], _ => simp at h
    | _ :: _, [] => simp at h'
    | a :: r, b :: s =>
      simp [eqL] at ht h h' ⊢
      rw [ht.1, ih r s h h' ht.2]
      simp
theorem eqL_take_no {f : α → α → Bool} (l l' : List (Tr α)) (j : Nat) (h : j < l.length) (h' : j < l'.length) (ht : eqL f (l.take j) (l'.take j) = true) (hq : eqB f l[j] l'[j] = false) : eqL f l l' = false := by
  rw [eqL_take l l' j h h' ht, hq]; rfl
theorem eqL_take_succ {f : α → α → Bool} (l l' : List (Tr α)) (j : Nat) (h : j < l.length) (h' : j < l'.length) : eqL f (l.take (j + 1)) (l'.take (j + 1)) = (eqL f (l.take j) (l'.take j) && eqB f l[j] l'[j]) := by
  induction j generalizing l l' with
  | zero =>
    match l, l' with
    | [], _ => simp at h
    | _ :: _, [] => simp at h'
    | a :: r, b :: s => simp [eqL]
  | succ j ih =>
    match l, l' with
    | [], _ => simp at h
    | _ :: _, [] => simp at h'
    | a :: r, b :: s =>
      simp at h h'
      have := ih r s h h'
      simp [eqL] at this ⊢
      rw [this, Bool.and_assoc]
theorem eqL_length {f : α → α → Bool} (l l' : List (Tr α)) (h : l.length ≠ l'.length) : eqL f l l' = false := by
  induction l generalizing l' with
  | nil => cases l' with
    | nil => simp at h
    | cons _ _ => rfl
  | cons a r ih => cases l' with
    | nil => rfl
    | cons b s =>
      simp at h
      simp [eqL, ih s h]
theorem eqB_eq (f : α → α → Bool) (d e : Tr α) : eqB f d e = (f d.a e.a && eqL f d.l e.l) := by cases d; cases e; rfl
mutual
/-- What reads the same is equal. -/
theorem eqB_of_er {f : α → α → Bool} {g : α → β} (hf : ∀ a b, g a = g b → f a b = true) : ∀ d e : Tr α, er g d = er g e → eqB f d e = true
  | .mk a A c l, .mk b B c' m, h => by
    simp only [er, Tr.mk.injEq] at h
    simp only [eqB, Bool.and_eq_true]
    exact ⟨hf a b h.1, eqL_of_er hf l m h.2.2.2⟩
theorem eqL_of_er {f : α → α → Bool} {g : α → β} (hf : ∀ a b, g a = g b → f a b = true) : ∀ l m : List (Tr α), erL g l = erL g m → eqL f l m = true
  | [], [], _ => rfl
  | [], _ :: _, h => by simp [erL] at h
  | _ :: _, [], h => by simp [erL] at h
  | d :: r, e :: s, h => by
    simp only [erL, List.cons.injEq] at h
    simp only [eqL, Bool.and_eq_true]
    exact ⟨eqB_of_er hf d e h.1, eqL_of_er hf r s h.2⟩
end
mutual
theorem eqB_er2 {f : α → α → Bool} {g : α → α} (hf : ∀ a b, f a b = f (g a) (g b)) : ∀ d e : Tr α, eqB f d e = eqB f (er g d) (er g e)
  | .mk a A c l, .mk b B c' m => by
    simp only [er, eqB]
    rw [hf a b, eqL_er2 hf l m]
theorem eqL_er2 {f : α → α → Bool} {g : α → α} (hf : ∀ a b, f a b = f (g a) (g b)) : ∀ l m : List (Tr α), eqL f l m = eqL f (erL g l) (erL g m)
  | [], [] => rfl
  | [], _ :: _ => rfl
  | _ :: _, [] => rfl
  | d :: r, e :: s => by
    simp only [erL, eqL]
    rw [eqB_er2 hf d e, eqL_er2 hf r s]
end
theorem eqL_congr {f : α → α → Bool} {g : α → α} (hf : ∀ a b, f a b = f (g a) (g b)) {l m l' m' : List (Tr α)} (h : erL g l = erL g l') (k : erL g m = erL g m') : eqL f l m = eqL f l' m' := by
  rw [eqL_er2 hf l m, h, k, ← eqL_er2 hf]
theorem eqB_congr {f : α → α → Bool} {g : α → α} (hf : ∀ a b, f a b = f (g a) (g b)) {d e d' e' : Tr α} (h : er g d = er g d') (k : er g e = er g e') : eqB f d e = eqB f d' e' := by
  rw [eqB_er2 hf d e, h, k, ← eqB_er2 hf]
mutual
/-- Sizes of what reads the same. -/
theorem bulk_of_er {f : α → Nat} {g : α → β} (hf : ∀ a b, g a = g b → f a = f b) : ∀ d e : Tr α, er g d = er g e → d.bulk f = e.bulk f
  | .mk a A c l, .mk b B c' m, h => by
    simp only [er, Tr.mk.injEq] at h
    simp only [bulk]
    rw [hf a b h.1, bulkL_of_er hf l m h.2.2.2]
theorem bulkL_of_er {f : α → Nat} {g : α → β} (hf : ∀ a b, g a = g b → f a = f b) : ∀ l m : List (Tr α), erL g l = erL g m → bulkL f l = bulkL f m
  | [], [], _ => rfl
  | [], _ :: _, h => by simp [erL] at h
  | _ :: _, [], h => by simp [erL] at h
  | d :: r, e :: s, h => by
    simp only [erL, List.cons.injEq] at h
    simp only [bulkL]
    rw [bulk_of_er hf d e h.1, bulkL_of_er hf r s h.2]
end
mutual
theorem size_of_er {g : α → β} : ∀ d e : Tr α, er g d = er g e → d.size = e.size
  | .mk a A c l, .mk b B c' m, h => by
    simp only [er, Tr.mk.injEq] at h
    simp only [size]
    rw [sizeL_of_er l m h.2.2.2]
theorem sizeL_of_er {g : α → β} : ∀ l m : List (Tr α), erL g l = erL g m → sizeL l = sizeL m
  | [], [], _ => rfl
  | [], _ :: _, h => by simp [erL] at h
  | _ :: _, [], h => by simp [erL] at h
  | d :: r, e :: s, h => by
    simp only [erL, List.cons.injEq] at h
    simp only [sizeL]
    rw [size_of_er d e h.1, sizeL_of_er r s h.2]
end

/-! Where it lies -/
variable (H : Elem α)
def cells (d : Tr α) : List Value := H.cells d.a ++ [.slice d.A d.l.length d.c]
theorem cells_len (d : Tr α) : (cells H d).length = H.n + 1 := by simp [cells, H.len]
theorem cells_one (d : Tr α) : ∀ u ∈ cells H d, u.oneCell' = true := by
  intro u hu
  simp only [cells, List.mem_append, List.mem_singleton] at hu
  rcases hu with hu | rfl
  · exact H.one _ u hu
  · rfl
mutual
def In (w : World) (B : Nat) : Tr α → Prop
  | .mk a A c l => H.In w B a ∧ ((l.length ≤ c ∧ c ≤ 9223372036854775807) ∧ (A = none → c = 0) ∧ (l ≠ [] → ∃ b o : Nat, A = some ⟨b, o, none⟩ ∧ b < B ∧ ∀ j u, (l.flatMap (cells H))[j]? = some u → w.cell? ⟨b, o + j, none⟩ = some u)) ∧ InL w B l
def InL (w : World) (B : Nat) : List (Tr α) → Prop | [] => True | d :: r => In w B d ∧ InL w B r
end
mutual
def blks : Tr α → List Nat | .mk a A _ l => H.blks a ++ ((if l.isEmpty then [] else (A.map (·.block)).toList) ++ blksL l)
def blksL : List (Tr α) → List Nat | [] => [] | d :: r => blks d ++ blksL r
end
theorem InL_iff {w : World} {B : Nat} {l : List (Tr α)} : InL H w B l ↔ ∀ d ∈ l, In H w B d := by
  induction l with
  | nil => simp [InL]
  | cons d r ih => simp [InL, ih]
theorem blksL_flat (l : List (Tr α)) : blksL H l = l.flatMap (blks H) := by
  induction l with
  | nil => rfl
  | cons d r ih => simp [blksL, ih]
theorem In_lt {w : World} {B : Nat} {d : Tr α} (h : In H w B d) : ∀ b ∈ blks H d, b < B := by
  induction d using ind with
  | h d ih =>
    cases d with
    | mk a A c l =>
      intro b hb
      simp only [blks, List.mem_append] at hb
      rcases hb with hb | hb | hb
      · exact H.lt h.1 b hb
      · cases l with
        | nil => simp at hb
        | cons x r =>
          obtain ⟨b', o, e, hlt, _⟩ := h.2.1.2.2 (by simp)
          subst e
          simp at hb
          omega
      · rw [blksL_flat, List.mem_flatMap] at hb
        obtain ⟨x, hx, hbx⟩ := hb
        exact ih x hx ((InL_iff H).1 h.2.2 x hx) b hbx
theorem In_keepB {w w' : World} {B : Nat} {d : Tr α} (h : In H w B d) (hk : ∀ k, k ∈ blks H d → w'.heap[k]? = w.heap[k]?) : In H w' B d := by
  induction d using ind with
  | h d ih =>
    cases d with
    | mk a A c l =>
      obtain ⟨h1, ⟨h2, h3, h4⟩, h5⟩ := h
      simp only [blks, List.mem_append] at hk
      refine ⟨H.keepB h1 fun k hm => hk k (.inl hm), ⟨h2, h3, fun hl => ?_⟩, (InL_iff H).2 fun x hx => ih x hx ((InL_iff H).1 h5 x hx) fun q hq => hk q (.inr (.inr (by rw [blksL_flat, List.mem_flatMap]; exact ⟨x, hx, hq⟩)))⟩
      obtain ⟨b, o, e, hb, hc⟩ := h4 hl
      refine ⟨b, o, e, hb, fun j u hu => (World.cell?_of_block (a := ⟨b, o + j, none⟩) (hk b ?_)).trans (hc j u hu)⟩
      subst e
      right; left
      cases l with
      | nil => exact absurd rfl hl
      | cons x r => simp
theorem In_more {w : World} {B B' : Nat} {d : Tr α} (h : In H w B d) (hB : B ≤ B') : In H w B' d := by
  induction d using ind with
  | h d ih =>
    cases d with
    | mk a A c l =>
      obtain ⟨h1, ⟨h2, h3, h4⟩, h5⟩ := h
      refine ⟨H.more h1 hB, ⟨h2, h3, fun hl => ?_⟩, (InL_iff H).2 fun x hx => ih x hx ((InL_iff H).1 h5 x hx)⟩
      obtain ⟨b, o, e, hb, hc⟩ := h4 hl
      exact ⟨b, o, e, by omega, hc⟩
/-- Trees are a kind of elements. -/
def E : Elem (Tr α) where
  cells := cells H
  n := H.n + 1
  pos := Nat.succ_pos _
  len := cells_len H
  one := cells_one H
  In := In H
  blks := blks H
  lt := In_lt H
  keepB := In_keepB H
  more := In_more H
section
variable {H} {w w' : World} {B lo mid hi : Nat} {d : Tr α} {x : α} {P : Option Addr} {k : Nat} {m : List (Tr α)}
theorem in_iff : (E H).In w B (.mk x P k m) ↔ H.In w B x ∧ (E H).LIn w B P k m := by
  constructor
  · rintro ⟨h1, ⟨h2, h3, h4⟩, h5⟩
    exact ⟨h1, h2, h3, h4, (InL_iff H).1 h5⟩
  · rintro ⟨h1, h2, h3, h4, h5⟩
    exact ⟨h1, ⟨h2, h3, h4⟩, (InL_iff H).2 h5⟩
theorem blks_eq (x : α) (P : Option Addr) (k : Nat) (m : List (Tr α)) : (E H).blks (.mk x P k m) = H.blks x ++ (E H).lblks P m := by
  show blks H (.mk x P k m) = _
  simp only [blks, blksL_flat]
  rfl
theorem blks_item {e : Tr α} (he : e ∈ d.l) : ∀ b ∈ (E H).blks e, b ∈ (E H).blks d := by
  cases d with
  | mk x P k m =>
    intro b hb
    rw [blks_eq, List.mem_append]
    exact .inr (List.mem_append.2 (.inr (Elem.blksL_mem.2 ⟨e, he, hb⟩)))
/-- A tree of a head and a row of the call's own. -/
theorem own_of (hx : H.Own lo mid w x) (hl : (E H).LOwn mid hi w P k m) (h1 : lo ≤ mid) (h2 : mid ≤ hi) : (E H).Own lo hi w (.mk x P k m) := by
  refine ⟨in_iff.2 ⟨H.more hx.inn h2, hl.inn⟩, fun b hb => ?_, ?_, fun b hb o => ?_⟩
  · rw [blks_eq, List.mem_append] at hb
    rcases hb with hb | hb
    · exact hx.lo_ b hb
    · have := hl.lo_ b hb; omega
  · rw [blks_eq]
    refine List.nodup_append.2 ⟨hx.nd, hl.nd, fun p hp q hq e => ?_⟩
    have := H.lt hx.inn p hp
    have := hl.lo_ q hq
    omega
  · rw [blks_eq, List.mem_append] at hb
    rcases hb with hb | hb
    · exact hx.fr b hb o
    · exact hl.fr b hb o
theorem own_parts (h : (E H).Own lo hi w (.mk x P k m)) : H.Own lo hi w x ∧ (E H).LOwn lo hi w P k m ∧ ∀ b ∈ H.blks x, b ∉ (E H).lblks P m := by
  have hi' := in_iff.1 h.inn
  have hnd := h.nd
  have hlo := h.lo_
  have hfr := h.fr
  rw [blks_eq] at hnd hlo hfr
  obtain ⟨n1, n2, n3⟩ := List.nodup_append.1 hnd
  exact ⟨⟨hi'.1, fun b hb => hlo b (List.mem_append.2 (.inl hb)), n1, fun b hb => hfr b (List.mem_append.2 (.inl hb))⟩, ⟨hi'.2, fun b hb => hlo b (List.mem_append.2 (.inr hb)), n2, fun b hb => hfr b (List.mem_append.2 (.inr hb))⟩, fun b hb hm => n3 b hb b hm rfl⟩
end
end Tr
end Go.Proofs.Ytpigpncbjckbcaa
