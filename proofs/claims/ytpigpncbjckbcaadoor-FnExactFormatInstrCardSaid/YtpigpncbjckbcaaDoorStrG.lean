/-
  Rows of strings that grow; whether a row holds a string.
-/
import Derived.Test.YtpigpncbjckbcaaDoorStrs
import Derived.Test.YtpigpncbjckbcaaDoorScSets
import Derived.Test.YtpigpncbjckbcaaDoorShelf
import Derived.Lib.SlicesS
import Derived.Lib.Bytealg
namespace Go.Proofs.YtpigpncbjckbcaaDoor
open Go.RowKit

theorem town_of_row {w : World} {base : Nat} {v : Value} {ds : List ByteArray} (h : w.ownsRow base 9 1 v ds.length (ds.map (Value.string))) : ∃ A c, v = .slice A ds.length c ∧ TOwn base w.heap.size w A c ds := by
  rcases h.2 with ⟨rfl, h0⟩ | ⟨g, cap, cur, rfl, hb, hg, hn, hc, hs, ht⟩
  · have : ds = [] := List.length_eq_zero_iff.1 h0
    subst this
    exact ⟨none, 0, rfl, TOwn.nil_ (by omega) (by simp)⟩
  · refine ⟨some ⟨g, 0, none⟩, cap, rfl, ⟨⟨hn, hc⟩, by simp, fun _ => ⟨g, 0, rfl, (Array.getElem?_eq_some_iff.1 hg).1, fun j u hu => ?_⟩⟩, fun _ b o e => ?_⟩
    · rw [Nat.zero_add, cell_of_row w g j cur _ (0, 0) hg]
      have h1 : (cur.toList.take (ds.length * 1))[j]? = some (.string u) := by rw [ht]; simp [hu]
      rw [List.getElem?_take] at h1
      split at h1
      · simpa using h1
      · cases h1
    · obtain ⟨rfl, rfl, _⟩ := Addr.mk.inj (Option.some.inj e)
      refine ⟨hb, fun q => ?_⟩
      simp [World.frozen?, hg]
theorem trow_len {w : World} {base : Nat} {v : Value} {ds : List ByteArray} (h : w.ownsRow base 9 1 v ds.length (ds.map (Value.string))) : ∃ A c, v = .slice A ds.length c := by
  obtain ⟨A, c, h, _⟩ := town_of_row h
  exact ⟨A, c, h⟩

/-- What an append of one int leaves. -/
theorem tgrow {base : Nat} {W wr w1 : World} {v v' : Value} {ds : List ByteArray} {x : ByteArray} {o : Obj} (hb : Below base W wr) (hbase : base ≤ wr.heap.size) (hown : wr.ownsRow base 9 1 v ds.length (ds.map (Value.string)))
    (hown' : w1.ownsRow base 9 1 v' (ds.length + 1) (ds.map (Value.string) ++ [.string x])) (hgr : (wr.alloc o).grownBy w1 v.ownBlock) :
    w1.ownsRow base 9 1 v' (ds ++ [x]).length ((ds ++ [x]).map (Value.string)) ∧ Below base W w1 ∧ base ≤ w1.heap.size := by
  have hz := hgr.size
  simp at hz
  refine ⟨by simpa using hown', (hb.alloc hbase o).grown hgr (by simp; omega) (fun k hk => (hown.lt k hk).1), by omega⟩
theorem tnews (w : World) (x : ByteArray) : ∀ j u, [Value.string x][j]? = some u → (w.alloc (.cells #[.string x] 9)).cell? ((⟨w.heap.size, 0, none⟩ : Addr).add j) = some u := by
  intro j u hj
  match j, hj with
  | 0, hj => simp at hj; subst hj; simp [Addr.add, cell_of_row _ _ _ _ _ _ (heap_alloc_new w _)]
theorem tone (x : ByteArray) : ∀ u ∈ [Value.string x], u.oneCell' = true := by intro u hu; simp at hu; subst hu; rfl


theorem bytes_inj {a b : ByteArray} (h : a.toList = b.toList) : a = b := by
  rw [ByteArray.toList_eq, ByteArray.toList_eq] at h
  exact ByteArray.ext (Array.ext' h)
/-- Whether t stands in l. -/
def hasB (l : List ByteArray) (t : ByteArray) : Bool := Lib.containsS l t
theorem hasB_iff {l : List ByteArray} {t : ByteArray} : hasB l t = true ↔ t ∈ l := Lib.containsS_iff l t
theorem hasB_no {l : List ByteArray} {t : ByteArray} (h : t ∉ l) : hasB l t = false := by
  cases e : hasB l t
  · rfl
  · exact absurd (hasB_iff.1 e) h

end Go.Proofs.YtpigpncbjckbcaaDoor
