/-
  Scopes: kinds and sets; the model's and the program's functions on them.
-/
import Derived.Test.YtpigpncbjckbcaaGreatInts
import Derived.Deep.RegionLaw
import Derived.Laws.AppendOwn
import Derived.Laws.AppendOwnNone
namespace Go.Proofs.YtpigpncbjckbcaaGreat
open Go.RowKit
end Go.Proofs.YtpigpncbjckbcaaGreat
namespace Go.Proofs.YtpigpncbjckbcaaGreat
open Go.RowKit
theorem contains_step {l : List Int} {j : Nat} (h : j < l.length) (x : Int) : (l.drop j).contains x = (x == l[j] || (l.drop (j + 1)).contains x) := by
  rw [List.drop_eq_getElem_cons h, List.contains_cons]
set_option maxHeartbeats 800000 in
theorem specHas_any (A : Option Addr) (c : Nat) (l : List Int) (n : Int) (B : Nat) (w : World) (hin : IIn w B A c l) :
    Calls Tryz.prog 170 #[.slice A l.length c, .int .i64 n] w fun e w' => e = .returned (.bool (l.contains n)) ∧ w' = w := by
  have hcap := hin.cap
  go_enter Tryz.func170, Tryz.ntmps170
  go_wp2_with fail
  go_loopw [9] (fun i wr => ∃ j : Nat, j ≤ l.length ∧ i = .int .i64 j ∧ Hid (l.contains n = (l.drop j).contains n) ∧ wr = w) (fun i _ => l.length - (intOf i).toNat)
  case atStart => exact ⟨0, Nat.zero_le _, rfl, by simp [Hid], rfl⟩
  case round =>
    obtain ⟨j, hj, rfl, HE, rfl⟩ := hrel
    by_cases hlt : j < l.length
    · obtain ⟨b, o, rfl, hblk, c0⟩ := hin.at_ hlt
      have HD : Hid (l.contains n = (n == l[j] || (l.drop (j + 1)).contains n)) := by
        show _ = _
        rw [HE.out, contains_step hlt]
      by_cases hq : l[j] = n
      · have hq1 : (l[j] == n) = true := by simpa using hq
        have HF : Hid (l.contains n = true) := by
          show _ = _
          rw [HD.out]; simp [hq]
        clear hq
        go_wp2_with fail
        go_ret
        exact ⟨ret_bool HF.out.symm, rfl⟩
      · have hq1 : (l[j] == n) = false := by simpa using hq
        have HF : Hid (l.contains n = (l.drop (j + 1)).contains n) := by
          show _ = _
          have : (n == l[j]) = false := by simpa using fun e => hq e.symm
          rw [HD.out, this]; rfl
        clear hq
        go_wp2_with fail
        exact ⟨⟨j + 1, by omega, by go_num, HF, by first | rfl | trivial⟩, by simp [intOf]; omega⟩
    · have hj' : j = l.length := by omega
      subst hj'
      have HF : Hid (l.contains n = false) := by
        show _ = _
        rw [HE.out, List.drop_length]; rfl
      go_wp2_with fail
      go_ret
      exact ⟨ret_bool HF.out.symm, rfl⟩
end Go.Proofs.YtpigpncbjckbcaaGreat
namespace Go.Proofs.YtpigpncbjckbcaaGreat
open Go.RowKit
theorem own_of_row {w : World} {base : Nat} {v : Value} {ds : List Int} (h : w.ownsRow base 3 1 v ds.length (ds.map (Value.int .i64))) : ∃ A c, v = .slice A ds.length c ∧ IOwn base w.heap.size w A c ds := by
  rcases h.2 with ⟨rfl, h0⟩ | ⟨g, cap, cur, rfl, hb, hg, hn, hc, hs, ht⟩
  · have : ds = [] := List.length_eq_zero_iff.1 h0
    subst this
    exact ⟨none, 0, rfl, IOwn.nil_ (by omega) (by simp)⟩
  · refine ⟨some ⟨g, 0, none⟩, cap, rfl, ⟨⟨hn, hc⟩, by simp, fun _ => ⟨g, 0, rfl, (Array.getElem?_eq_some_iff.1 hg).1, fun j u hu => ?_⟩⟩, fun _ b o e => ?_⟩
    · rw [Nat.zero_add, cell_of_row w g j cur _ (0, 0) hg]
      have h1 : (cur.toList.take (ds.length * 1))[j]? = some (.int .i64 u) := by rw [ht]; simp [hu]
      rw [List.getElem?_take] at h1
      split at h1
      · simpa using h1
      · cases h1
    · obtain ⟨rfl, rfl, _⟩ := Addr.mk.inj (Option.some.inj e)
      refine ⟨hb, fun q => ?_⟩
      simp [World.frozen?, hg]
theorem irow_len {w : World} {base : Nat} {v : Value} {ds : List Int} (h : w.ownsRow base 3 1 v ds.length (ds.map (Value.int .i64))) : ∃ A c, v = .slice A ds.length c := by
  obtain ⟨A, c, h, _⟩ := own_of_row h
  exact ⟨A, c, h⟩
theorem igrow {base : Nat} {W wr w1 : World} {v v' : Value} {ds : List Int} {x : Int} {o : Obj} (hb : Below base W wr) (hbase : base ≤ wr.heap.size) (hown : wr.ownsRow base 3 1 v ds.length (ds.map (Value.int .i64)))
    (hown' : w1.ownsRow base 3 1 v' (ds.length + 1) (ds.map (Value.int .i64) ++ [.int .i64 x])) (hgr : (wr.alloc o).grownBy w1 v.ownBlock) :
    w1.ownsRow base 3 1 v' (ds ++ [x]).length ((ds ++ [x]).map (Value.int .i64)) ∧ Below base W w1 ∧ base ≤ w1.heap.size := by
  have hz := hgr.size
  simp at hz
  refine ⟨by simpa using hown', (hb.alloc hbase o).grown hgr (by simp; omega) (fun k hk => (hown.lt k hk).1), by omega⟩
theorem inews (w : World) (x : Int) : ∀ j u, [Value.int .i64 x][j]? = some u → (w.alloc (.cells #[.int .i64 x] 3)).cell? ((⟨w.heap.size, 0, none⟩ : Addr).add j) = some u := by
  intro j u hj
  match j, hj with
  | 0, hj => simp at hj; subst hj; simp [Addr.add, cell_of_row _ _ _ _ _ _ (heap_alloc_new w _)]
theorem ione (x : Int) : ∀ u ∈ [Value.int .i64 x], u.oneCell' = true := by intro u hu; simp at hu; subst hu; rfl
theorem iall {w : World} {B b o c : Nat} {l : List Int} (h : IIn w B (some ⟨b, o, none⟩) c l) : ∀ j u, (l.map (Value.int .i64))[j]? = some u → w.cell? ((⟨b, o, none⟩ : Addr).add j) = some u := by
  intro j u hu
  rw [List.getElem?_map, Option.map_eq_some_iff] at hu
  obtain ⟨x, hx, rfl⟩ := hu
  obtain ⟨b', o', e, _, hc⟩ := h.mem (by rintro rfl; simp at hx)
  obtain ⟨rfl, rfl, _⟩ := Addr.mk.inj (Option.some.inj e)
  have e : (⟨b, o, none⟩ : Addr).add j = ⟨b, o + j, none⟩ := by unfold Addr.add; split <;> simp_all
  rw [e]
  exact hc j x hx
theorem iallone (l : List Int) : ∀ u ∈ l.map (Value.int .i64), u.oneCell' = true := by intro u hu; simp at hu; obtain ⟨x, _, rfl⟩ := hu; rfl
set_option maxHeartbeats 800000 in
theorem l2Ints_any (A : Option Addr) (c : Nat) (l : List Int) (B : Nat) (w : World) (hll : l.length ≤ 2000000) (hin : IIn w B A c l) (hB : B ≤ w.heap.size) : Calls Tryz.prog 97 #[.slice A l.length c] w (RetI l w) := by
  have hcap := hin.cap
  obtain ⟨i0, hi, hz0, hz1, hz2⟩ := info_parts infoI
  have hown0 : (w.alloc (.cells #[] 3)).ownsRow w.heap.size 3 1 (.slice (some ⟨w.heap.size, 0, none⟩) 0 0) 0 [] := World.ownsRow_made w #[] 0 (Nat.le_refl _) (by unfold maxLen; omega) (by simp)
  have b0 : Below w.heap.size w (w.alloc (.cells #[] 3)) := (Below.refl _ _).alloc (Nat.le_refl _) _
  by_cases hn : A = none
  · obtain rfl := hn
    obtain rfl := hin.nil rfl
    have hl : l = [] := by
      cases l with
      | nil => rfl
      | cons _ _ => simp at hcap
    subst hl
    go_enter Tryz.func97, Tryz.ntmps97
    go_wp2_with (at_builtin; refine wpList_append_own_none rfl _ _ 22 rfl w.heap.size 3 i0 1 Tryz.underlying22 hi _ 0 [] rfl hown0 rfl ?_)
    go_ret
    exact ⟨_, _, rfl, IOwn.nil_ (by omega) (by simp), b0⟩
  · obtain ⟨a, rfl⟩ := Option.ne_none_iff_exists'.1 hn
    have hnews : ∀ j u, (l.map (Value.int .i64))[j]? = some u → (w.alloc (.cells #[] 3)).cell? (a.add j) = some u := by
      intro j u hu
      have hne : l ≠ [] := by rintro rfl; simp at hu
      obtain ⟨b, o, e, _, _⟩ := hin.mem hne
      obtain rfl := Option.some.inj e
      exact iall (hin.alloc hB _) j u hu
    go_enter Tryz.func97, Tryz.ntmps97
    go_wp2_with (at_builtin; refine wpList_append_own _ rfl _ _ 22 rfl w.heap.size 3 i0 (.int .i64 0) 1 8 Tryz.underlying22 hi hz0 hz1 hz2 rfl (by decide) _ 0 [] rfl hown0 a l.length c (l.map (Value.int .i64)) rfl (by simp) hnews (iallone l) (by unfold maxLen; omega) (by omega) (by simp) ?_)
    intro v' w1 hown' hgr _
    have hown2 : w1.ownsRow w.heap.size 3 1 v' l.length (l.map (Value.int .i64)) := by simpa using hown'
    have hb1 : Below w.heap.size w w1 := b0.grown hgr (by simp) (fun k hk => (hown0.lt k hk).1)
    obtain ⟨A', c', rfl, ho⟩ := own_of_row hown2
    clear hown' hgr hnews hown0
    go_wp2_with fail
    go_ret
    exact ⟨_, _, rfl, ho, hb1⟩
end Go.Proofs.YtpigpncbjckbcaaGreat
namespace Go.Proofs.YtpigpncbjckbcaaGreat
open Go.RowKit
end Go.Proofs.YtpigpncbjckbcaaGreat
