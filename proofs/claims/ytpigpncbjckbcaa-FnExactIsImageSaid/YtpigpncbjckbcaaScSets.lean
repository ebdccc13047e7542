/-
  Scopes: kinds and sets; the model's and the program's functions on them.
-/
import Derived.Test.YtpigpncbjckbcaaInts
import Derived.Deep.RegionLaw
import Derived.Laws.AppendOwn
import Derived.Laws.AppendOwnNone
namespace Go.Proofs.Ytpigpncbjckbcaa
open Go.RowKit

/-- The kind of a scope, or 0. -/
def kindI (n : Int) : Int := if 1 ≤ n ∧ n ≤ 99999 then (if n % 3 = 0 then 3 else n % 3) else 0
theorem kindI_zero {n : Int} : kindI n = 0 ↔ ¬ (1 ≤ n ∧ n ≤ 99999) := by
  unfold kindI
  split
  · split <;> omega
  · simp [*]
def setFrom : Int → List Int → Bool | _, [] => true | p, n :: r => decide (p < n) && (decide (n ≤ 99999) && setFrom n r)
/-- A set of scopes. -/
def isSetI (l : List Int) : Bool := setFrom 0 l
def prevI (l : List Int) : Nat → Int | 0 => 0 | j + 1 => l.getD j 0

theorem setFrom_pairwise : ∀ (l : List Int) (p : Int), setFrom p l = true → l.Pairwise (· < ·) ∧ ∀ x ∈ l, p < x ∧ x ≤ 99999 := by
  intro l
  induction l with
  | nil => intro p _; simp
  | cons n r ih =>
    intro p h
    simp [setFrom] at h
    obtain ⟨h1, h2, h3⟩ := h
    obtain ⟨i1, i2⟩ := ih n h3
    refine ⟨List.pairwise_cons.2 ⟨fun x hx => (i2 x hx).1, i1⟩, fun x hx => ?_⟩
    rcases List.mem_cons.1 hx with rfl | hx
    · exact ⟨h1, h2⟩
    · have := i2 x hx
      omega

end Go.Proofs.Ytpigpncbjckbcaa

namespace Go.Proofs.Ytpigpncbjckbcaa
open Go.RowKit

theorem contains_step {l : List Int} {j : Nat} (h : j < l.length) (x : Int) : (l.drop j).contains x = (x == l[j] || (l.drop (j + 1)).contains x) := by
  rw [List.drop_eq_getElem_cons h, List.contains_cons]

end Go.Proofs.Ytpigpncbjckbcaa

namespace Go.Proofs.Ytpigpncbjckbcaa
open Go.RowKit

/-- What owns a row is a list of the call's own. -/
theorem own_of_row {w : World} {base : Nat} {v : Value} {ds : List Int} (h : w.ownsRow base 3 1 v ds.length (ds.map (Value.int .i64))) : ∃ A c, v = .slice A ds.length c ∧ IOwn base w.heap.size w A c ds := by
  rcases h.2 with ⟨rfl, h0⟩ | ⟨g, cap, cur, rfl, hb, hg, hn, hc, hs, ht⟩
  · have : ds = [] := List.length_eq_zero_iff.1 h0
    subst this
    exact ⟨none, 0, rfl, IOwn.nil_ (by omega) (by simp)⟩
  · refine ⟨some ⟨g, 0, none⟩, cap, rfl, ⟨⟨hn, hc⟩, by simp, fun _ => ⟨g, 0, rfl, (Array.getElem?_eq_some_iff.1 hg).1, fun j u hu => ?_⟩⟩, fun _ b o e => ?_⟩
    · rw [Nat.zero_add, cell_of_row w g j cur _ (0, 0) hg]
      have h1 : (cur.toList.take (ds.length * 1))[j]? = some (.int .i64 u) := by rw [ht]; simp [hu]
      rw [List.getElem?_take] at h1
      split at h1
      · simpa using h1
      · cases h1
    · obtain ⟨rfl, rfl, _⟩ := Addr.mk.inj (Option.some.inj e)
      refine ⟨hb, fun q => ?_⟩
      simp [World.frozen?, hg]
theorem irow_len {w : World} {base : Nat} {v : Value} {ds : List Int} (h : w.ownsRow base 3 1 v ds.length (ds.map (Value.int .i64))) : ∃ A c, v = .slice A ds.length c := by
  obtain ⟨A, c, h, _⟩ := own_of_row h
  exact ⟨A, c, h⟩

/-- What an append of one int leaves. -/
theorem igrow {base : Nat} {W wr w1 : World} {v v' : Value} {ds : List Int} {x : Int} {o : Obj} (hb : Below base W wr) (hbase : base ≤ wr.heap.size) (hown : wr.ownsRow base 3 1 v ds.length (ds.map (Value.int .i64)))
    (hown' : w1.ownsRow base 3 1 v' (ds.length + 1) (ds.map (Value.int .i64) ++ [.int .i64 x])) (hgr : (wr.alloc o).grownBy w1 v.ownBlock) :
    w1.ownsRow base 3 1 v' (ds ++ [x]).length ((ds ++ [x]).map (Value.int .i64)) ∧ Below base W w1 ∧ base ≤ w1.heap.size := by
  have hz := hgr.size
  simp at hz
  refine ⟨by simpa using hown', (hb.alloc hbase o).grown hgr (by simp; omega) (fun k hk => (hown.lt k hk).1), by omega⟩
theorem inews (w : World) (x : Int) : ∀ j u, [Value.int .i64 x][j]? = some u → (w.alloc (.cells #[.int .i64 x] 3)).cell? ((⟨w.heap.size, 0, none⟩ : Addr).add j) = some u := by
  intro j u hj
  match j, hj with
  | 0, hj => simp at hj; subst hj; simp [Addr.add, cell_of_row _ _ _ _ _ _ (heap_alloc_new w _)]
theorem ione (x : Int) : ∀ u ∈ [Value.int .i64 x], u.oneCell' = true := by intro u hu; simp at hu; subst hu; rfl

/-- A list that is appended whole. -/
theorem iall {w : World} {B b o c : Nat} {l : List Int} (h : IIn w B (some ⟨b, o, none⟩) c l) : ∀ j u, (l.map (Value.int .i64))[j]? = some u → w.cell? ((⟨b, o, none⟩ : Addr).add j) = some u := by
  intro j u hu
  rw [List.getElem?_map, Option.map_eq_some_iff] at hu
  obtain ⟨x, hx, rfl⟩ := hu
  obtain ⟨b', o', e, _, hc⟩ := h.mem (by rintro rfl; simp at hx)
  obtain ⟨rfl, rfl, _⟩ := Addr.mk.inj (Option.some.inj e)
  have e : (⟨b, o, none⟩ : Addr).add j = ⟨b, o + j, none⟩ := by unfold Addr.add; split <;> simp_all
  rw [e]
  exact hc j x hx
theorem iallone (l : List Int) : ∀ u ∈ l.map (Value.int .i64), u.oneCell' = true := by intro u hu; simp at hu; obtain ⟨x, _, rfl⟩ := hu; rfl

end Go.Proofs.Ytpigpncbjckbcaa

namespace Go.Proofs.Ytpigpncbjckbcaa
open Go.RowKit

/-- The list with n at its place. -/
def putL (n : Int) : List Int → List Int | [] => [n] | x :: r => if n ≤ x then (if n < x then n :: x :: r else x :: r) else x :: putL n r

/-- The list without n. -/
def cutL (n : Int) (l : List Int) : List Int := l.filter (fun x => !(x == n))
theorem filter_take_succ {p : Int → Bool} {l : List Int} {j : Nat} (h : j < l.length) : (l.take (j + 1)).filter p = (l.take j).filter p ++ (if p l[j] then [l[j]] else []) := by
  rw [List.take_succ_eq_append_getElem h, List.filter_append]
  cases hp : p l[j] <;> simp [hp]
theorem filter_take_len {p : Int → Bool} (l : List Int) (j : Nat) : ((l.take j).filter p).length ≤ j := by
  have := List.length_filter_le p (l.take j)
  rw [List.length_take] at this
  omega

/-- The list without the scopes of the third kind. -/
def nousesL (l : List Int) : List Int := l.filter (fun x => !(kindI x == 3))
def subL (a b : List Int) : Bool := a.all (b.contains ·)
end Go.Proofs.Ytpigpncbjckbcaa
