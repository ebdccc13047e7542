/-
  Rows of strings: where they lie, equality and marks.
-/
import Derived.Test.YtpigpncbjckbcaaInts
import Derived.Test.YtpigpncbjckbcaaMarks
import Derived.Deep.RegionHeld3
namespace Go.Proofs.Ytpigpncbjckbcaa
open Go.RowKit

/-- The strings l lie at A, below block B. -/
structure TIn (w : World) (B : Nat) (A : Option Addr) (c : Nat) (l : List ByteArray) : Prop where
  cap : l.length ≤ c ∧ c ≤ 9223372036854775807
  nil : A = none → c = 0
  mem : l ≠ [] → ∃ b o : Nat, A = some ⟨b, o, none⟩ ∧ b < B ∧ ∀ j u, l[j]? = some u → w.cell? ⟨b, o + j, none⟩ = some (.string u)
/-- The block of a row. -/
def tblk (A : Option Addr) (l : List ByteArray) : List Nat := if l.isEmpty then [] else (A.map (·.block)).toList
/-- In memory of the call's own. -/
structure TOwn (lo hi : Nat) (w : World) (A : Option Addr) (c : Nat) (l : List ByteArray) : Prop where
  inn : TIn w hi A c l
  own : l ≠ [] → ∀ b o, A = some ⟨b, o, none⟩ → lo ≤ b ∧ ∀ q, w.frozen? ⟨b, q, none⟩ = false

section
variable {w w' : World} {B B' lo hi lo' hi' : Nat} {A : Option Addr} {c : Nat} {l : List ByteArray}
theorem tblk_some {b o : Nat} (hl : l ≠ []) : tblk (some ⟨b, o, none⟩) l = [b] := by
  cases l with
  | nil => exact absurd rfl hl
  | cons _ _ => rfl
theorem TIn.keep (h : TIn w B A c l) (hk : ∀ k, k ∈ tblk A l → w'.heap[k]? = w.heap[k]?) : TIn w' B A c l := by
  refine ⟨h.cap, h.nil, fun hl => ?_⟩
  obtain ⟨b, o, rfl, hb, hc⟩ := h.mem hl
  exact ⟨b, o, rfl, hb, fun j u hu => (World.cell?_of_block (a := ⟨b, o + j, none⟩) (hk b (by simp [tblk_some hl]))).trans (hc j u hu)⟩
theorem TIn.blk_lt (h : TIn w B A c l) : ∀ b ∈ tblk A l, b < B := by
  intro k hk
  by_cases hl : l = []
  · subst hl; simp [tblk] at hk
  · obtain ⟨b, o, rfl, hb, _⟩ := h.mem hl
    simp [tblk_some hl] at hk
    omega
theorem TIn.below (h : TIn w B A c l) (hb : Below B w w') : TIn w' B A c l := h.keep fun k hk => hb.block k (h.blk_lt k hk)
theorem TIn.more (h : TIn w B A c l) (hB : B ≤ B') : TIn w B' A c l := by
  refine ⟨h.cap, h.nil, fun hl => ?_⟩
  obtain ⟨b, o, rfl, hb, hc⟩ := h.mem hl
  exact ⟨b, o, rfl, by omega, hc⟩
theorem TIn.alloc (h : TIn w B A c l) (hB : B ≤ w.heap.size) (o : Obj) : TIn (w.alloc o) B A c l := h.below ((Below.refl _ _).alloc hB o)
theorem TIn.drew (h : TIn w B A c l) : TIn w.drew B A c l := h.keep fun _ _ => rfl
theorem TIn.drewN (h : TIn w B A c l) (k : Nat) : TIn (w.drewN k) B A c l := h.keep fun _ _ => rfl
theorem TIn.nil_ (hc : c ≤ 9223372036854775807) (hn : A = none → c = 0) : TIn w B A c [] := ⟨⟨Nat.zero_le _, hc⟩, hn, fun h => absurd rfl h⟩
theorem TIn.at_ (h : TIn w B A c l) {i : Nat} (hi : i < l.length) : ∃ b o : Nat, A = some ⟨b, o, none⟩ ∧ b < B ∧ w.cell? ⟨b, o + i, none⟩ = some (.string l[i]) := by
  obtain ⟨b, o, rfl, hb, hc⟩ := h.mem (by rintro rfl; simp at hi)
  exact ⟨b, o, rfl, hb, hc i _ (List.getElem?_eq_getElem hi)⟩
theorem TOwn.keep (h : TOwn lo hi w A c l) (hk : ∀ k, k ∈ tblk A l → w'.heap[k]? = w.heap[k]?) : TOwn lo hi w' A c l := by
  refine ⟨h.inn.keep hk, fun hl b o e => ?_⟩
  obtain ⟨h1, h2⟩ := h.own hl b o e
  subst e
  exact ⟨h1, fun q => (World.frozen?_of_block (a := ⟨b, q, none⟩) (hk b (by simp [tblk_some hl]))).trans (h2 q)⟩
theorem TOwn.below (h : TOwn lo hi w A c l) (hb : Below hi w w') : TOwn lo hi w' A c l := h.keep fun k hk => hb.block k (h.inn.blk_lt k hk)
theorem TOwn.lo_ (h : TOwn lo hi w A c l) : ∀ b ∈ tblk A l, lo ≤ b := by
  intro k hk
  by_cases hl : l = []
  · subst hl; simp [tblk] at hk
  · obtain ⟨b, o, rfl, hb, _⟩ := h.inn.mem hl
    simp [tblk_some hl] at hk
    have := (h.own hl b o rfl).1
    omega
theorem TOwn.fr (h : TOwn lo hi w A c l) : ∀ b ∈ tblk A l, ∀ q, w.frozen? ⟨b, q, none⟩ = false := by
  intro k hk
  by_cases hl : l = []
  · subst hl; simp [tblk] at hk
  · obtain ⟨b, o, rfl, hb, _⟩ := h.inn.mem hl
    simp [tblk_some hl] at hk
    subst hk
    exact (h.own hl _ o rfl).2
theorem TOwn.far (h : TOwn lo hi w A c l) {p : Addr} (hp : p.block < lo) (u : Value) : TOwn lo hi (w.setCell p u) A c l :=
  h.keep fun k hk => Below.heap_setCell _ _ _ _ (by have := h.lo_ k hk; omega)
theorem TOwn.wide (h : TOwn lo hi w A c l) (h1 : lo' ≤ lo) (h2 : hi ≤ hi') : TOwn lo' hi' w A c l :=
  ⟨h.inn.more h2, fun hl b o e => ⟨Nat.le_trans h1 (h.own hl b o e).1, (h.own hl b o e).2⟩⟩
theorem TOwn.nil_ (hc : c ≤ 9223372036854775807) (hn : A = none → c = 0) : TOwn lo hi w A c [] := ⟨TIn.nil_ hc hn, fun h => absurd rfl h⟩
/-- Written elsewhere. -/
theorem TIn.chg {S : List Nat} (h : TIn w B A c l) (hc : Chg S w w') (hB : B ≤ w.heap.size) (hS : ∀ k ∈ tblk A l, k ∉ S) : TIn w' B A c l :=
  h.keep fun k hk => hc.block k (by have := h.blk_lt k hk; omega) (hS k hk)
theorem TOwn.chg {S : List Nat} (h : TOwn lo hi w A c l) (hc : Chg S w w') (hB : hi ≤ w.heap.size) (hS : ∀ k ∈ tblk A l, k ∉ S) : TOwn lo hi w' A c l :=
  h.keep fun k hk => hc.block k (by have := h.inn.blk_lt k hk; omega) (hS k hk)
end

/-- Row g of n places bears these strings at its head. -/
def TRow (w : World) (g n : Nat) (ds : List ByteArray) : Prop := ∃ cs : Array Value, D.Blk w g 9 cs ∧ cs.size = n ∧ ∀ (i : Nat) (u : ByteArray), ds[i]? = some u → cs[i]? = some (.string u)
section
variable {w w' : World} {g n : Nat} {ds : List ByteArray}
theorem TRow.below {B : Nat} (h : TRow w g n ds) (hb : Below B w w') (hg : g < B) : TRow w' g n ds := by
  obtain ⟨cs, h1, h2⟩ := h
  exact ⟨cs, h1.below hb hg, h2⟩
theorem TRow.lt (h : TRow w g n ds) : g < w.heap.size := by
  obtain ⟨cs, h1, _⟩ := h
  exact h1.lt
theorem TRow.old (h : TRow w g n ds) {i : Nat} (hi : i < n) : ∃ u, w.cell? ⟨g, i, none⟩ = some u := by
  obtain ⟨cs, h1, h2, _⟩ := h
  exact ⟨cs[i], by rw [h1.cell]; exact Array.getElem?_eq_getElem (by omega)⟩
theorem TRow.frozen (h : TRow w g n ds) (i : Nat) : w.frozen? ⟨g, i, none⟩ = false := by
  obtain ⟨cs, h1, _⟩ := h
  exact h1.frozen i
theorem TRow.step (h : TRow w g n ds) {j : Nat} (hj : ds.length = j) (hn : j < n) (x : ByteArray) : TRow (w.setCell ⟨g, j, none⟩ (.string x)) g n (ds ++ [x]) := by
  obtain ⟨cs, h1, h2, h3⟩ := h
  refine ⟨_, h1.set_ _ _, by simp [h2], fun i u hu => ?_⟩
  by_cases hi : i < j
  · rw [List.getElem?_append_left (by omega)] at hu
    simp only [Array.getElem?_setIfInBounds]
    rw [if_neg (by omega)]
    exact h3 i u hu
  · have e : i = j := by
      have := (List.getElem?_eq_some_iff.1 hu).1
      simp at this
      omega
    subst e
    rw [List.getElem?_append_right (by omega), hj] at hu
    simp at hu
    subst hu
    simp [h2, hn]
theorem TRow.own {lo hi c : Nat} (h : TRow w g n ds) (hc : ds.length ≤ c ∧ c ≤ 9223372036854775807) (hlo : lo ≤ g) (hhi : g < hi) : TOwn lo hi w (some ⟨g, 0, none⟩) c ds := by
  obtain ⟨cs, h1, h2, h3⟩ := h
  refine ⟨⟨hc, (by simp), fun _ => ⟨g, 0, rfl, hhi, fun j u hu => ?_⟩⟩, fun _ b o e => ?_⟩
  · rw [Nat.zero_add, h1.cell]; exact h3 j u hu
  · have e' := Addr.mk.inj (Option.some.inj e)
    obtain ⟨rfl, rfl, _⟩ := e'
    exact ⟨hlo, fun q => h1.frozen q⟩
end

/-- Returned: strings of the call's own. -/
def RetT (l : List ByteArray) (w : World) (e : Ending) (w' : World) : Prop := ∃ (A : Option Addr) (c : Nat), e = .returned (.slice A l.length c) ∧ TOwn w.heap.size w'.heap.size w' A c l ∧ Below w.heap.size w w'


theorem infoT : (Try.prog.info? 9).map (fun i => (i.zero, i.size, i.bytes)) = some (some (.string ⟨#[]⟩), 1, 16) := by kernel_rfl

/-- The marks of a row. -/
def markT : List ByteArray → Int → List ByteArray | [], _ => [] | _ :: r, q => markB q :: markT r (q + 1)
theorem markT_length (l : List ByteArray) : ∀ q, (markT l q).length = l.length := by
  induction l with
  | nil => intro q; rfl
  | cons d r ih => intro q; simp [markT, ih]
theorem markT_append (a b : List ByteArray) : ∀ q, markT (a ++ b) q = markT a q ++ markT b (q + a.length) := by
  induction a with
  | nil => intro q; simp [markT]
  | cons d r ih => intro q; simp [markT, ih]; congr 1; omega
theorem markT_get (l : List ByteArray) : ∀ (q : Int) (j : Nat) (h : j < (markT l q).length), (markT l q)[j] = markB (q + j) := by
  induction l with
  | nil => intro q j h; simp [markT] at h
  | cons d r ih =>
    intro q j h
    cases j with
    | zero => simp [markT]
    | succ j => simp only [markT, List.getElem_cons_succ]; rw [ih]; congr 1; omega
theorem markT_nil {l : List ByteArray} {q : Int} : markT l q = [] ↔ l = [] := by cases l <;> simp [markT]
theorem tblk_mark (A : Option Addr) (l : List ByteArray) (q : Int) : tblk A (markT l q) = tblk A l := by cases l <;> rfl

end Go.Proofs.Ytpigpncbjckbcaa
