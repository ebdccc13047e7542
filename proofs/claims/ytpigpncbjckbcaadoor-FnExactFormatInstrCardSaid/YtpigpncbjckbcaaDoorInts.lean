/-
  Rows of ints: where they lie, copies, equality and marks.
-/
import Derived.Test.YtpigpncbjckbcaaDoorBase
import Derived.Test.YtpigpncbjckbcaaDoorProg
import Derived.Handy
import Derived.WalkSpells
import Derived.Laws.MakeOwn
namespace Go.Proofs.YtpigpncbjckbcaaDoor
open Go.RowKit

/-- The ints l lie at A, below block B. -/
structure IIn (w : World) (B : Nat) (A : Option Addr) (c : Nat) (l : List Int) : Prop where
  cap : l.length ≤ c ∧ c ≤ 9223372036854775807
  nil : A = none → c = 0
  mem : l ≠ [] → ∃ b o : Nat, A = some ⟨b, o, none⟩ ∧ b < B ∧ ∀ j u, l[j]? = some u → w.cell? ⟨b, o + j, none⟩ = some (.int .i64 u)
/-- The block of a row. -/
def iblk (A : Option Addr) (l : List Int) : List Nat := if l.isEmpty then [] else (A.map (·.block)).toList
/-- In memory of the call's own. -/
structure IOwn (lo hi : Nat) (w : World) (A : Option Addr) (c : Nat) (l : List Int) : Prop where
  inn : IIn w hi A c l
  own : l ≠ [] → ∀ b o, A = some ⟨b, o, none⟩ → lo ≤ b ∧ ∀ q, w.frozen? ⟨b, q, none⟩ = false

section
variable {w w' : World} {B B' lo hi lo' hi' : Nat} {A : Option Addr} {c : Nat} {l : List Int}
theorem iblk_some {b o : Nat} (hl : l ≠ []) : iblk (some ⟨b, o, none⟩) l = [b] := by
  cases l with
  | nil => exact absurd rfl hl
  | cons _ _ => rfl
theorem IIn.keep (h : IIn w B A c l) (hk : ∀ k, k ∈ iblk A l → w'.heap[k]? = w.heap[k]?) : IIn w' B A c l := by
  refine ⟨h.cap, h.nil, fun hl => ?_⟩
  obtain ⟨b, o, rfl, hb, hc⟩ := h.mem hl
  exact ⟨b, o, rfl, hb, fun j u hu => (World.cell?_of_block (a := ⟨b, o + j, none⟩) (hk b (by simp [iblk_some hl]))).trans (hc j u hu)⟩
theorem IIn.blk_lt (h : IIn w B A c l) : ∀ b ∈ iblk A l, b < B := by
  intro k hk
  by_cases hl : l = []
  · subst hl; simp [iblk] at hk
  · obtain ⟨b, o, rfl, hb, _⟩ := h.mem hl
    simp [iblk_some hl] at hk
    omega
theorem IIn.below (h : IIn w B A c l) (hb : Below B w w') : IIn w' B A c l := h.keep fun k hk => hb.block k (h.blk_lt k hk)
theorem IIn.more (h : IIn w B A c l) (hB : B ≤ B') : IIn w B' A c l := by
  refine ⟨h.cap, h.nil, fun hl => ?_⟩
  obtain ⟨b, o, rfl, hb, hc⟩ := h.mem hl
  exact ⟨b, o, rfl, by omega, hc⟩
theorem IIn.alloc (h : IIn w B A c l) (hB : B ≤ w.heap.size) (o : Obj) : IIn (w.alloc o) B A c l := h.below ((Below.refl _ _).alloc hB o)
theorem IIn.drew (h : IIn w B A c l) : IIn w.drew B A c l := h.keep fun _ _ => rfl
theorem IIn.drewN (h : IIn w B A c l) (k : Nat) : IIn (w.drewN k) B A c l := h.keep fun _ _ => rfl
theorem IIn.nil_ (hc : c ≤ 9223372036854775807) (hn : A = none → c = 0) : IIn w B A c [] := ⟨⟨Nat.zero_le _, hc⟩, hn, fun h => absurd rfl h⟩
theorem IIn.at_ (h : IIn w B A c l) {i : Nat} (hi : i < l.length) : ∃ b o : Nat, A = some ⟨b, o, none⟩ ∧ b < B ∧ w.cell? ⟨b, o + i, none⟩ = some (.int .i64 l[i]) := by
  obtain ⟨b, o, rfl, hb, hc⟩ := h.mem (by rintro rfl; simp at hi)
  exact ⟨b, o, rfl, hb, hc i _ (List.getElem?_eq_getElem hi)⟩
theorem IOwn.keep (h : IOwn lo hi w A c l) (hk : ∀ k, k ∈ iblk A l → w'.heap[k]? = w.heap[k]?) : IOwn lo hi w' A c l := by
  refine ⟨h.inn.keep hk, fun hl b o e => ?_⟩
  obtain ⟨h1, h2⟩ := h.own hl b o e
  subst e
  exact ⟨h1, fun q => (World.frozen?_of_block (a := ⟨b, q, none⟩) (hk b (by simp [iblk_some hl]))).trans (h2 q)⟩
theorem IOwn.below (h : IOwn lo hi w A c l) (hb : Below hi w w') : IOwn lo hi w' A c l := h.keep fun k hk => hb.block k (h.inn.blk_lt k hk)
theorem IOwn.lo_ (h : IOwn lo hi w A c l) : ∀ b ∈ iblk A l, lo ≤ b := by
  intro k hk
  by_cases hl : l = []
  · subst hl; simp [iblk] at hk
  · obtain ⟨b, o, rfl, hb, _⟩ := h.inn.mem hl
    simp [iblk_some hl] at hk
    have := (h.own hl b o rfl).1
    omega
theorem IOwn.fr (h : IOwn lo hi w A c l) : ∀ b ∈ iblk A l, ∀ q, w.frozen? ⟨b, q, none⟩ = false := by
  intro k hk
  by_cases hl : l = []
  · subst hl; simp [iblk] at hk
  · obtain ⟨b, o, rfl, hb, _⟩ := h.inn.mem hl
    simp [iblk_some hl] at hk
    subst hk
    exact (h.own hl _ o rfl).2
theorem IOwn.far (h : IOwn lo hi w A c l) {p : Addr} (hp : p.block < lo) (u : Value) : IOwn lo hi (w.setCell p u) A c l :=
  h.keep fun k hk => Below.heap_setCell _ _ _ _ (by have := h.lo_ k hk; omega)
theorem IOwn.wide (h : IOwn lo hi w A c l) (h1 : lo' ≤ lo) (h2 : hi ≤ hi') : IOwn lo' hi' w A c l :=
  ⟨h.inn.more h2, fun hl b o e => ⟨Nat.le_trans h1 (h.own hl b o e).1, (h.own hl b o e).2⟩⟩
theorem IOwn.nil_ (hc : c ≤ 9223372036854775807) (hn : A = none → c = 0) : IOwn lo hi w A c [] := ⟨IIn.nil_ hc hn, fun h => absurd rfl h⟩
/-- Written elsewhere. -/
theorem IIn.chg {S : List Nat} (h : IIn w B A c l) (hc : Chg S w w') (hB : B ≤ w.heap.size) (hS : ∀ k ∈ iblk A l, k ∉ S) : IIn w' B A c l :=
  h.keep fun k hk => hc.block k (by have := h.blk_lt k hk; omega) (hS k hk)
theorem IOwn.chg {S : List Nat} (h : IOwn lo hi w A c l) (hc : Chg S w w') (hB : hi ≤ w.heap.size) (hS : ∀ k ∈ iblk A l, k ∉ S) : IOwn lo hi w' A c l :=
  h.keep fun k hk => hc.block k (by have := h.inn.blk_lt k hk; omega) (hS k hk)
end

theorem run_make_rowI {P : Program} (t e : TypeId) (i : TypeInfo) (z : Value) (ht : P.underlying t = some (.slice e)) (hi : P.info? e = some i) (hz : i.zero = some z)
    (kl kc : IntKind) (n c : Nat) (hnc : n ≤ c) (hbytes : i.bytes * c ≤ 281474976710656) (h63 : c ≤ 9223372036854775807) (w : World) :
    (Instr.makeSlice t (.int kl (n : Int)) (.int kc (c : Int))).run P w = .ok (.slice (some ⟨w.heap.size, 0, none⟩) n c) (w.alloc (.cells (madeCells z.cells (c * i.size)) e)) := by
  have hb : (i.bytes : Int) * (c : Int) ≤ 281474976710656 := by
    have h : ((i.bytes * c : Nat) : Int) ≤ 281474976710656 := by omega
    rwa [Int.natCast_mul] at h
  have hr := run_make (P := P) w t e i z ht hi hz kl kc n c (by omega) (by omega) hb (by omega)
  simp only [Int.toNat_natCast] at hr
  exact hr
theorem ret_isl {A : Option Addr} {m n c : Nat} (h : m = n) : Ending.returned (.slice A m c) = .returned (.slice A n c) := by rw [h]
theorem infoI : (Tryd.prog.info? 3).map (fun i => (i.zero, i.size, i.bytes)) = some (some (.int .i64 0), 1, 8) := by kernel_rfl

/-- Row g of n places bears these ints at its head. -/
def IRow (w : World) (g n : Nat) (ds : List Int) : Prop := ∃ cs : Array Value, D.Blk w g 3 cs ∧ cs.size = n ∧ ∀ (i : Nat) (u : Int), ds[i]? = some u → cs[i]? = some (.int .i64 u)
section
variable {w w' : World} {g n : Nat} {ds : List Int}
theorem IRow.below {B : Nat} (h : IRow w g n ds) (hb : Below B w w') (hg : g < B) : IRow w' g n ds := by
  obtain ⟨cs, h1, h2⟩ := h
  exact ⟨cs, h1.below hb hg, h2⟩
theorem IRow.lt (h : IRow w g n ds) : g < w.heap.size := by
  obtain ⟨cs, h1, _⟩ := h
  exact h1.lt
theorem IRow.old (h : IRow w g n ds) {i : Nat} (hi : i < n) : ∃ u, w.cell? ⟨g, i, none⟩ = some u := by
  obtain ⟨cs, h1, h2, _⟩ := h
  exact ⟨cs[i], by rw [h1.cell]; exact Array.getElem?_eq_getElem (by omega)⟩
theorem IRow.frozen (h : IRow w g n ds) (i : Nat) : w.frozen? ⟨g, i, none⟩ = false := by
  obtain ⟨cs, h1, _⟩ := h
  exact h1.frozen i
theorem IRow.step (h : IRow w g n ds) {j : Nat} (hj : ds.length = j) (hn : j < n) (x : Int) : IRow (w.setCell ⟨g, j, none⟩ (.int .i64 x)) g n (ds ++ [x]) := by
  obtain ⟨cs, h1, h2, h3⟩ := h
  refine ⟨_, h1.set_ _ _, by simp [h2], fun i u hu => ?_⟩
  by_cases hi : i < j
  · rw [List.getElem?_append_left (by omega)] at hu
    simp only [Array.getElem?_setIfInBounds]
    rw [if_neg (by omega)]
    exact h3 i u hu
  · have e : i = j := by
      have := (List.getElem?_eq_some_iff.1 hu).1
      simp at this
      omega
    subst e
    rw [List.getElem?_append_right (by omega), hj] at hu
    simp at hu
    subst hu
    simp [h2, hn]
theorem IRow.own {lo hi c : Nat} (h : IRow w g n ds) (hc : ds.length ≤ c ∧ c ≤ 9223372036854775807) (hlo : lo ≤ g) (hhi : g < hi) : IOwn lo hi w (some ⟨g, 0, none⟩) c ds := by
  obtain ⟨cs, h1, h2, h3⟩ := h
  refine ⟨⟨hc, (by simp), fun _ => ⟨g, 0, rfl, hhi, fun j u hu => ?_⟩⟩, fun _ b o e => ?_⟩
  · rw [Nat.zero_add, h1.cell]; exact h3 j u hu
  · have e' := Addr.mk.inj (Option.some.inj e)
    obtain ⟨rfl, rfl, _⟩ := e'
    exact ⟨hlo, fun q => h1.frozen q⟩
end

/-- Returned: ints of the call's own. -/
def RetI (l : List Int) (w : World) (e : Ending) (w' : World) : Prop := ∃ (A : Option Addr) (c : Nat), e = .returned (.slice A l.length c) ∧ IOwn w.heap.size w'.heap.size w' A c l ∧ Below w.heap.size w w'

theorem icell_ne (w : World) (b q r : Nat) (u : Value) (h : q ≠ r) : (w.setCell ⟨b, r, none⟩ u).cell? ⟨b, q, none⟩ = w.cell? ⟨b, q, none⟩ := World.cell?_setCell_other w ⟨b, r, none⟩ ⟨b, q, none⟩ u (fun e => h (Addr.mk.inj e).2.1.symm)
theorem icell_eq {w : World} {b q : Nat} {u v : Value} (h : w.cell? ⟨b, q, none⟩ = some v) : (w.setCell ⟨b, q, none⟩ u).cell? ⟨b, q, none⟩ = some u := by
  simp [go_sem, h]
/-- The marks of a row. -/
def markI : List Int → Int → List Int | [], _ => [] | _ :: r, q => q :: markI r (q + 1)
theorem markI_length (l : List Int) : ∀ q, (markI l q).length = l.length := by
  induction l with
  | nil => intro q; rfl
  | cons d r ih => intro q; simp [markI, ih]
theorem markI_append (a b : List Int) : ∀ q, markI (a ++ b) q = markI a q ++ markI b (q + a.length) := by
  induction a with
  | nil => intro q; simp [markI]
  | cons d r ih => intro q; simp [markI, ih]; congr 1; omega
theorem markI_get (l : List Int) : ∀ (q : Int) (j : Nat) (h : j < (markI l q).length), (markI l q)[j] = q + j := by
  induction l with
  | nil => intro q j h; simp [markI] at h
  | cons d r ih =>
    intro q j h
    cases j with
    | zero => simp [markI]
    | succ j => simp only [markI, List.getElem_cons_succ]; rw [ih]; omega
theorem markI_nil {l : List Int} {q : Int} : markI l q = [] ↔ l = [] := by cases l <;> simp [markI]
theorem iblk_mark (A : Option Addr) (l : List Int) (q : Int) : iblk A (markI l q) = iblk A l := by cases l <;> rfl

end Go.Proofs.YtpigpncbjckbcaaDoor
