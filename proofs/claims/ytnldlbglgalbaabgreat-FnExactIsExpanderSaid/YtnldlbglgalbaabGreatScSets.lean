/-
  Scopes: kinds and sets; the model's and the program's functions on them.
-/
import Derived.Test.YtnldlbglgalbaabGreatInts
import Derived.Deep.RegionLaw
import Derived.Laws.AppendOwn
import Derived.Laws.AppendOwnNone
namespace Go.Proofs.YtnldlbglgalbaabGreat
open Go.RowKit

/-- The kind of a scope, or 0. -/
def kindI (n : Int) : Int := if 1 ≤ n ∧ n ≤ 99999 then (if n % 3 = 0 then 3 else n % 3) else 0
theorem kindI_zero {n : Int} : kindI n = 0 ↔ ¬ (1 ≤ n ∧ n ≤ 99999) := by
  unfold kindI
  split
  · split <;> omega
  · simp [*]
def setFrom : Int → List Int → Bool | _, [] => true | p, n :: r => decide (p < n) && (decide (n ≤ 99999) && setFrom n r)
/-- A set of scopes. -/
def isSetI (l : List Int) : Bool := setFrom 0 l
def prevI (l : List Int) : Nat → Int | 0 => 0 | j + 1 => l.getD j 0

theorem setFrom_pairwise : ∀ (l : List Int) (p : Int), setFrom p l = true → l.Pairwise (· < ·) ∧ ∀ x ∈ l, p < x ∧ x ≤ 99999 := by
  intro l
  induction l with
  | nil => intro p _; simp
  | cons n r ih =>
    intro p h
    simp [setFrom] at h
    obtain ⟨h1, h2, h3⟩ := h
    obtain ⟨i1, i2⟩ := ih n h3
    refine ⟨List.pairwise_cons.2 ⟨fun x hx => (i2 x hx).1, i1⟩, fun x hx => ?_⟩
    rcases List.mem_cons.1 hx with rfl | hx
    · exact ⟨h1, h2⟩
    · have := i2 x hx
      omega

set_option maxHeartbeats 400000 in
theorem specKind_any (n : Int) (w : World) : Calls Tryz.prog 128 #[.int .i64 n] w fun e w' => e = .returned (.int .i64 (kindI n)) ∧ Below w.heap.size w w' := by
  by_cases h : 1 ≤ n ∧ n ≤ 99999
  · obtain ⟨h1, h2⟩ := h
    obtain ⟨m, rfl⟩ := Int.eq_ofNat_of_zero_le (show 0 ≤ n by omega)
    have hk : kindI m = if (m : Int) % 3 = 0 then 3 else (m : Int) % 3 := by unfold kindI; rw [if_pos ⟨h1, h2⟩]
    have Hk := Lib.hid hk
    clear hk
    have e : (m : Int) % 3 = 0 ∨ (m : Int) % 3 = 1 ∨ (m : Int) % 3 = 2 := by omega
    rcases e with e | e | e
    all_goals
      rw [e] at Hk
      have q0 : ¬ ((m : Int) % 3 < 0) := by omega
      have q1 : (m : Int) % 3 < 3 := by omega
      have ee : m % 3 = ((m : Int) % 3).toNat := by omega
      rw [e] at ee
      go_enter Tryz.func128, Tryz.ntmps128
      go_wp2_with go_in
      go_ret
      refine ⟨ret_int ?_, (Below.refl _ _).alloc (Nat.le_refl _) _⟩
      rw [Hk.out]
      rfl
  · have hk : kindI n = 0 := by unfold kindI; rw [if_neg h]
    have Hk := Lib.hid hk
    clear hk
    by_cases h1 : 1 ≤ n
    · have h2 : ¬ n ≤ 99999 := fun h2 => h ⟨h1, h2⟩
      clear h
      go_enter Tryz.func128, Tryz.ntmps128
      go_wp2_with go_in
      go_ret
      exact ⟨ret_int Hk.out.symm, Below.refl _ _⟩
    · clear h
      go_enter Tryz.func128, Tryz.ntmps128
      go_wp2_with go_in
      go_ret
      exact ⟨ret_int Hk.out.symm, Below.refl _ _⟩

set_option maxHeartbeats 400000 in
theorem implIsScope_any (n : Int) (w : World) : Calls Tryz.prog 143 #[.int .i64 n] w fun e w' => e = .returned (.bool (decide (1 ≤ n) && decide (n ≤ 99999))) ∧ w' = w := by
  by_cases h1 : 1 ≤ n <;> by_cases h2 : n ≤ 99999
  all_goals
    go_enter Tryz.func143, Tryz.ntmps143
    go_wp2_with fail
    go_ret
    exact ⟨ret_bool (by simp [h1, h2]), rfl⟩

end Go.Proofs.YtnldlbglgalbaabGreat

namespace Go.Proofs.YtnldlbglgalbaabGreat
open Go.RowKit

set_option maxHeartbeats 800000 in
theorem specIsSet_any (A : Option Addr) (c : Nat) (l : List Int) (B : Nat) (w : World) (hin : IIn w B A c l) (hB : B ≤ w.heap.size) :
    Calls Tryz.prog 97 #[.slice A l.length c] w fun e w' => e = .returned (.bool (isSetI l)) ∧ Below w.heap.size w w' := by
  have hcap := hin.cap
  go_enter Tryz.func97, Tryz.ntmps97
  go_wp2_with fail
  go_loopw [7] (fun i wr => ∃ j : Nat, j ≤ l.length ∧ i = .int .i64 j ∧ Hid (isSetI l = setFrom (prevI l j) (l.drop j)) ∧ 0 ≤ prevI l j ∧ Below w.heap.size w wr) (fun i _ => l.length - (intOf i).toNat)
  case atStart => exact ⟨0, Nat.zero_le _, rfl, by simp [Hid, isSetI, prevI], by simp [prevI], Below.refl _ _⟩
  case round =>
    obtain ⟨j, hj, rfl, HE, hp, hb⟩ := hrel
    have hs2 := hb.size
    by_cases hlt : j < l.length
    · have hinr := hin.below (hb.mono hB)
      obtain ⟨b, o, rfl, hblk, c0⟩ := hinr.at_ hlt
      have HD : Hid (isSetI l = (decide (prevI l j < l[j]) && (decide (l[j] ≤ 99999) && setFrom l[j] (l.drop (j + 1))))) := by
        show _ = _
        rw [HE.out, List.drop_eq_getElem_cons hlt]; rfl
      have HN : Hid (prevI l (j + 1) = l[j]) := by show l.getD j 0 = _; simp [hlt]
      by_cases hk : kindI l[j] = 0
      · have Hk := Lib.hid hk
        clear hk
        have HF : Hid (isSetI l = false) := by
          show _ = _
          have := kindI_zero.1 Hk.out
          rw [HD.out]
          by_cases h1 : prevI l j < l[j]
          · have h2 : ¬ l[j] ≤ 99999 := by omega
            simp [h2]
          · simp [h1]
        go_wp2_with fail
        refine (specKind_any _ _).mono ?_
        rintro e w1 ⟨rfl, hb1⟩
        rw [Hk.out]
        go_wp2_with fail
        go_ret
        exact ⟨ret_bool HF.out.symm, hb.trans (hb1.mono hs2)⟩
      · have hr : 1 ≤ l[j] ∧ l[j] ≤ 99999 := by
          have := mt kindI_zero.2 hk
          omega
        obtain ⟨hr1, hr2⟩ := hr
        have hk1 : (kindI l[j] == 0) = false := by simpa using hk
        clear hk
        by_cases hj0 : j = 0
        · have gz : ¬ (0 : Int) < (j : Int) := by omega
          have h1 : prevI l j < l[j] := by
            have : prevI l j = 0 := by rw [hj0]; rfl
            omega
          subst hj0
          have c1 : wr.cell? ⟨b, o, none⟩ = some (.int .i64 l[0]) := by simpa using c0
          go_wp2_with fail
          refine (specKind_any _ _).mono ?_
          rintro e w1 ⟨rfl, hb1⟩
          go_wp2_with fail
          have hR : isSetI l = setFrom (prevI l (0 + 1)) (l.drop (0 + 1)) := by
            rw [HN.out, HD.out]
            simp [h1, hr2]
          have hR2 : 0 ≤ prevI l (0 + 1) := by rw [HN.out]; omega
          exact ⟨⟨1, by omega, rfl, hR, hR2, hb.trans (hb1.mono hs2)⟩, by simp [intOf]; omega⟩
        · obtain ⟨j, rfl⟩ : ∃ i, j = i + 1 := ⟨j - 1, by omega⟩
          have hlt' : j < l.length := by omega
          have HP : Hid (prevI l (j + 1) = l[j]) := by show l.getD j 0 = _; simp [hlt']
          obtain ⟨b', o', e', hblk', c0'⟩ := hinr.at_ hlt'
          obtain ⟨rfl, rfl, _⟩ := Addr.mk.inj (Option.some.inj e')
          have g1 : ¬ (((j + 1 : Nat) : Int) - 1 < 0) := by omega
          have g2 : ((j + 1 : Nat) : Int) - 1 < (l.length : Int) := by omega
          have gj : (((j + 1 : Nat) : Int) - 1) = (j : Int) := by omega
          have gz : (0 : Int) < ((j + 1 : Nat) : Int) := by omega
          by_cases hle : l[j + 1] ≤ l[j]
          · have HF : Hid (isSetI l = false) := by
              show _ = _
              rw [HD.out, HP.out]
              have : ¬ l[j] < l[j + 1] := by omega
              simp [this]
            go_wp2_with fail
            refine (specKind_any _ _).mono ?_
            rintro e w1 ⟨rfl, hb1⟩
            have c1 := (hb1.cell (p := ⟨b, o + j, none⟩) (show b < wr.heap.size by omega)).trans c0'
            go_wp2_with fail
            go_ret
            exact ⟨ret_bool HF.out.symm, hb.trans (hb1.mono hs2)⟩
          · have hle' : l[j] < l[j + 1] := by omega
            go_wp2_with fail
            refine (specKind_any _ _).mono ?_
            rintro e w1 ⟨rfl, hb1⟩
            have c1 := (hb1.cell (p := ⟨b, o + j, none⟩) (show b < wr.heap.size by omega)).trans c0'
            go_wp2_with fail
            refine ⟨⟨j + 1 + 1, by omega, by go_num, ?_, by rw [HN.out]; omega, hb.trans (hb1.mono hs2)⟩, by simp [intOf]; omega⟩
            show _ = _
            rw [HN.out, HD.out, HP.out]
            simp [hle', hr2]
    · have hj' : j = l.length := by omega
      subst hj'
      have HF : Hid (isSetI l = true) := by
        show _ = _
        rw [HE.out, List.drop_length]; rfl
      go_wp2_with fail
      go_ret
      exact ⟨ret_bool HF.out.symm, hb⟩

set_option maxHeartbeats 800000 in
theorem implIsSet_any (A : Option Addr) (c : Nat) (l : List Int) (B : Nat) (w : World) (hin : IIn w B A c l) :
    Calls Tryz.prog 123 #[.slice A l.length c] w fun e w' => e = .returned (.bool (isSetI l)) ∧ w' = w := by
  have hcap := hin.cap
  go_enter Tryz.func123, Tryz.ntmps123
  go_wp2_with fail
  go_loopw [3, 8] (fun p i wr => ∃ (j : Nat) (pr : Int), j ≤ l.length ∧ i = .int .i64 j ∧ p = .int .i64 pr ∧ Hid (isSetI l = setFrom pr (l.drop j)) ∧ 0 ≤ pr ∧ wr = w) (fun _ i _ => l.length - (intOf i).toNat)
  case atStart => exact ⟨0, 0, Nat.zero_le _, rfl, rfl, by simp [Hid, isSetI], by omega, rfl⟩
  case round =>
    obtain ⟨j, pr, hj, rfl, rfl, HE, hp, rfl⟩ := hrel
    by_cases hlt : j < l.length
    · obtain ⟨b, o, rfl, hblk, c0⟩ := hin.at_ hlt
      have HD : Hid (isSetI l = (decide (pr < l[j]) && (decide (l[j] ≤ 99999) && setFrom l[j] (l.drop (j + 1))))) := by
        show _ = _
        rw [HE.out, List.drop_eq_getElem_cons hlt]; rfl
      by_cases hle : l[j] ≤ pr
      · have HF : Hid (isSetI l = false) := by
          show _ = _
          have : ¬ pr < l[j] := by omega
          rw [HD.out]
          simp [this]
        go_wp2_with fail
        go_ret
        exact ⟨ret_bool HF.out.symm, rfl⟩
      · have hle' : pr < l[j] := by omega
        have h1 : 1 ≤ l[j] := by omega
        by_cases h2 : l[j] ≤ 99999
        · have hq : (decide (1 ≤ l[j]) && decide (l[j] ≤ 99999)) = true := by simp [h1, h2]
          go_wp2_with (go_at_call 143; refine (implIsScope_any _ _).mono ?_; rintro e' w' ⟨rfl, rfl⟩; rw [hq])
          refine ⟨⟨j + 1, l[j], by omega, by go_num, rfl, ?_, by omega, by first | rfl | trivial⟩, by simp [intOf]; omega⟩
          show _ = _
          rw [HD.out]
          simp [hle', h2]
        · have hq : (decide (1 ≤ l[j]) && decide (l[j] ≤ 99999)) = false := by simp [h2]
          have HF : Hid (isSetI l = false) := by
            show _ = _
            rw [HD.out]
            simp [h2]
          go_wp2_with (go_at_call 143; refine (implIsScope_any _ _).mono ?_; rintro e' w' ⟨rfl, rfl⟩; rw [hq])
          go_ret
          exact ⟨ret_bool HF.out.symm, rfl⟩
    · have hj' : j = l.length := by omega
      subst hj'
      have HF : Hid (isSetI l = true) := by
        show _ = _
        rw [HE.out, List.drop_length]; rfl
      go_wp2_with fail
      go_ret
      exact ⟨ret_bool HF.out.symm, rfl⟩

theorem implIsSetB_any (A : Option Addr) (c : Nat) (l : List Int) (B : Nat) (w : World) (hin : IIn w B A c l) :
    Calls Tryz.prog 123 #[.slice A l.length c] w fun e w' => e = .returned (.bool (isSetI l)) ∧ Below w.heap.size w w' :=
  (implIsSet_any A c l B w hin).mono fun e w' ⟨h1, h2⟩ => ⟨h1, by rw [h2]; exact Below.refl _ _⟩
theorem contains_step {l : List Int} {j : Nat} (h : j < l.length) (x : Int) : (l.drop j).contains x = (x == l[j] || (l.drop (j + 1)).contains x) := by
  rw [List.drop_eq_getElem_cons h, List.contains_cons]

set_option maxHeartbeats 800000 in
theorem specHas_any (A : Option Addr) (c : Nat) (l : List Int) (n : Int) (B : Nat) (w : World) (hin : IIn w B A c l) :
    Calls Tryz.prog 146 #[.slice A l.length c, .int .i64 n] w fun e w' => e = .returned (.bool (l.contains n)) ∧ w' = w := by
  have hcap := hin.cap
  go_enter Tryz.func146, Tryz.ntmps146
  go_wp2_with fail
  go_loopw [9] (fun i wr => ∃ j : Nat, j ≤ l.length ∧ i = .int .i64 j ∧ Hid (l.contains n = (l.drop j).contains n) ∧ wr = w) (fun i _ => l.length - (intOf i).toNat)
  case atStart => exact ⟨0, Nat.zero_le _, rfl, by simp [Hid], rfl⟩
  case round =>
    obtain ⟨j, hj, rfl, HE, rfl⟩ := hrel
    by_cases hlt : j < l.length
    · obtain ⟨b, o, rfl, hblk, c0⟩ := hin.at_ hlt
      have HD : Hid (l.contains n = (n == l[j] || (l.drop (j + 1)).contains n)) := by
        show _ = _
        rw [HE.out, contains_step hlt]
      by_cases hq : l[j] = n
      · have hq1 : (l[j] == n) = true := by simpa using hq
        have HF : Hid (l.contains n = true) := by
          show _ = _
          rw [HD.out]; simp [hq]
        clear hq
        go_wp2_with fail
        go_ret
        exact ⟨ret_bool HF.out.symm, rfl⟩
      · have hq1 : (l[j] == n) = false := by simpa using hq
        have HF : Hid (l.contains n = (l.drop (j + 1)).contains n) := by
          show _ = _
          have : (n == l[j]) = false := by simpa using fun e => hq e.symm
          rw [HD.out, this]; rfl
        clear hq
        go_wp2_with fail
        exact ⟨⟨j + 1, by omega, by go_num, HF, by first | rfl | trivial⟩, by simp [intOf]; omega⟩
    · have hj' : j = l.length := by omega
      subst hj'
      have HF : Hid (l.contains n = false) := by
        show _ = _
        rw [HE.out, List.drop_length]; rfl
      go_wp2_with fail
      go_ret
      exact ⟨ret_bool HF.out.symm, rfl⟩
end Go.Proofs.YtnldlbglgalbaabGreat

namespace Go.Proofs.YtnldlbglgalbaabGreat
open Go.RowKit

/-- What owns a row is a list of the call's own. -/
theorem own_of_row {w : World} {base : Nat} {v : Value} {ds : List Int} (h : w.ownsRow base 3 1 v ds.length (ds.map (Value.int .i64))) : ∃ A c, v = .slice A ds.length c ∧ IOwn base w.heap.size w A c ds := by
  rcases h.2 with ⟨rfl, h0⟩ | ⟨g, cap, cur, rfl, hb, hg, hn, hc, hs, ht⟩
  · have : ds = [] := List.length_eq_zero_iff.1 h0
    subst this
    exact ⟨none, 0, rfl, IOwn.nil_ (by omega) (by simp)⟩
  · refine ⟨some ⟨g, 0, none⟩, cap, rfl, ⟨⟨hn, hc⟩, by simp, fun _ => ⟨g, 0, rfl, (Array.getElem?_eq_some_iff.1 hg).1, fun j u hu => ?_⟩⟩, fun _ b o e => ?_⟩
    · rw [Nat.zero_add, cell_of_row w g j cur _ (0, 0) hg]
      have h1 : (cur.toList.take (ds.length * 1))[j]? = some (.int .i64 u) := by rw [ht]; simp [hu]
      rw [List.getElem?_take] at h1
      split at h1
      · simpa using h1
      · cases h1
    · obtain ⟨rfl, rfl, _⟩ := Addr.mk.inj (Option.some.inj e)
      refine ⟨hb, fun q => ?_⟩
      simp [World.frozen?, hg]
theorem irow_len {w : World} {base : Nat} {v : Value} {ds : List Int} (h : w.ownsRow base 3 1 v ds.length (ds.map (Value.int .i64))) : ∃ A c, v = .slice A ds.length c := by
  obtain ⟨A, c, h, _⟩ := own_of_row h
  exact ⟨A, c, h⟩

/-- What an append of one int leaves. -/
theorem igrow {base : Nat} {W wr w1 : World} {v v' : Value} {ds : List Int} {x : Int} {o : Obj} (hb : Below base W wr) (hbase : base ≤ wr.heap.size) (hown : wr.ownsRow base 3 1 v ds.length (ds.map (Value.int .i64)))
    (hown' : w1.ownsRow base 3 1 v' (ds.length + 1) (ds.map (Value.int .i64) ++ [.int .i64 x])) (hgr : (wr.alloc o).grownBy w1 v.ownBlock) :
    w1.ownsRow base 3 1 v' (ds ++ [x]).length ((ds ++ [x]).map (Value.int .i64)) ∧ Below base W w1 ∧ base ≤ w1.heap.size := by
  have hz := hgr.size
  simp at hz
  refine ⟨by simpa using hown', (hb.alloc hbase o).grown hgr (by simp; omega) (fun k hk => (hown.lt k hk).1), by omega⟩
theorem inews (w : World) (x : Int) : ∀ j u, [Value.int .i64 x][j]? = some u → (w.alloc (.cells #[.int .i64 x] 3)).cell? ((⟨w.heap.size, 0, none⟩ : Addr).add j) = some u := by
  intro j u hj
  match j, hj with
  | 0, hj => simp at hj; subst hj; simp [Addr.add, cell_of_row _ _ _ _ _ _ (heap_alloc_new w _)]
theorem ione (x : Int) : ∀ u ∈ [Value.int .i64 x], u.oneCell' = true := by intro u hu; simp at hu; subst hu; rfl

/-- A list that is appended whole. -/
theorem iall {w : World} {B b o c : Nat} {l : List Int} (h : IIn w B (some ⟨b, o, none⟩) c l) : ∀ j u, (l.map (Value.int .i64))[j]? = some u → w.cell? ((⟨b, o, none⟩ : Addr).add j) = some u := by
  intro j u hu
  rw [List.getElem?_map, Option.map_eq_some_iff] at hu
  obtain ⟨x, hx, rfl⟩ := hu
  obtain ⟨b', o', e, _, hc⟩ := h.mem (by rintro rfl; simp at hx)
  obtain ⟨rfl, rfl, _⟩ := Addr.mk.inj (Option.some.inj e)
  have e : (⟨b, o, none⟩ : Addr).add j = ⟨b, o + j, none⟩ := by unfold Addr.add; split <;> simp_all
  rw [e]
  exact hc j x hx
theorem iallone (l : List Int) : ∀ u ∈ l.map (Value.int .i64), u.oneCell' = true := by intro u hu; simp at hu; obtain ⟨x, _, rfl⟩ := hu; rfl

set_option maxHeartbeats 800000 in
theorem l2Ints_any (A : Option Addr) (c : Nat) (l : List Int) (B : Nat) (w : World) (hll : l.length ≤ 2000000) (hin : IIn w B A c l) (hB : B ≤ w.heap.size) : Calls Tryz.prog 129 #[.slice A l.length c] w (RetI l w) := by
  have hcap := hin.cap
  obtain ⟨i0, hi, hz0, hz1, hz2⟩ := info_parts infoI
  have hown0 : (w.alloc (.cells #[] 3)).ownsRow w.heap.size 3 1 (.slice (some ⟨w.heap.size, 0, none⟩) 0 0) 0 [] := World.ownsRow_made w #[] 0 (Nat.le_refl _) (by unfold maxLen; omega) (by simp)
  have b0 : Below w.heap.size w (w.alloc (.cells #[] 3)) := (Below.refl _ _).alloc (Nat.le_refl _) _
  by_cases hn : A = none
  · obtain rfl := hn
    obtain rfl := hin.nil rfl
    have hl : l = [] := by
      cases l with
      | nil => rfl
      | cons _ _ => simp at hcap
    subst hl
    go_enter Tryz.func129, Tryz.ntmps129
    go_wp2_with (at_builtin; refine wpList_append_own_none rfl _ _ 33 rfl w.heap.size 3 i0 1 Tryz.underlying33 hi _ 0 [] rfl hown0 rfl ?_)
    go_ret
    exact ⟨_, _, rfl, IOwn.nil_ (by omega) (by simp), b0⟩
  · obtain ⟨a, rfl⟩ := Option.ne_none_iff_exists'.1 hn
    have hnews : ∀ j u, (l.map (Value.int .i64))[j]? = some u → (w.alloc (.cells #[] 3)).cell? (a.add j) = some u := by
      intro j u hu
      have hne : l ≠ [] := by rintro rfl; simp at hu
      obtain ⟨b, o, e, _, _⟩ := hin.mem hne
      obtain rfl := Option.some.inj e
      exact iall (hin.alloc hB _) j u hu
    go_enter Tryz.func129, Tryz.ntmps129
    go_wp2_with (at_builtin; refine wpList_append_own _ rfl _ _ 33 rfl w.heap.size 3 i0 (.int .i64 0) 1 8 Tryz.underlying33 hi hz0 hz1 hz2 rfl (by decide) _ 0 [] rfl hown0 a l.length c (l.map (Value.int .i64)) rfl (by simp) hnews (iallone l) (by unfold maxLen; omega) (by omega) (by simp) ?_)
    intro v' w1 hown' hgr _
    have hown2 : w1.ownsRow w.heap.size 3 1 v' l.length (l.map (Value.int .i64)) := by simpa using hown'
    have hb1 : Below w.heap.size w w1 := b0.grown hgr (by simp) (fun k hk => (hown0.lt k hk).1)
    obtain ⟨A', c', rfl, ho⟩ := own_of_row hown2
    clear hown' hgr hnews hown0
    go_wp2_with fail
    go_ret
    exact ⟨_, _, rfl, ho, hb1⟩

set_option maxHeartbeats 800000 in
theorem copyScopes_any (A : Option Addr) (c : Nat) (l : List Int) (B : Nat) (w : World) (hll : l.length ≤ 2000000) (hin : IIn w B A c l) (_hB : B ≤ w.heap.size) : Calls Tryz.prog 186 #[.slice A l.length c] w (RetI l w) := by
  have hcap := hin.cap
  obtain ⟨i0, hi, hz0, hz1, hz2⟩ := info_parts infoI
  have hown0 : w.ownsRow w.heap.size 3 1 (.slice none 0 0) 0 [] := World.ownsRow_nil _ _ _ _
  by_cases hn : A = none
  · obtain rfl := hn
    obtain rfl := hin.nil rfl
    have hl : l = [] := by
      cases l with
      | nil => rfl
      | cons _ _ => simp at hcap
    subst hl
    go_enter Tryz.func186, Tryz.ntmps186
    go_wp2_with (at_builtin; refine wpList_append_own_none rfl _ _ 33 rfl w.heap.size 3 i0 1 Tryz.underlying33 hi _ 0 [] rfl hown0 rfl ?_)
    go_ret
    exact ⟨_, _, rfl, IOwn.nil_ (by omega) (by simp), Below.refl _ _⟩
  · obtain ⟨a, rfl⟩ := Option.ne_none_iff_exists'.1 hn
    have hnews : ∀ j u, (l.map (Value.int .i64))[j]? = some u → w.cell? (a.add j) = some u := by
      intro j u hu
      have hne : l ≠ [] := by rintro rfl; simp at hu
      obtain ⟨b, o, e, _, _⟩ := hin.mem hne
      obtain rfl := Option.some.inj e
      exact iall hin j u hu
    go_enter Tryz.func186, Tryz.ntmps186
    go_wp2_with (at_builtin; refine wpList_append_own _ rfl _ _ 33 rfl w.heap.size 3 i0 (.int .i64 0) 1 8 Tryz.underlying33 hi hz0 hz1 hz2 rfl (by decide) _ 0 [] rfl hown0 a l.length c (l.map (Value.int .i64)) rfl (by simp) hnews (iallone l) (by unfold maxLen; omega) (by omega) (Nat.le_refl _) ?_)
    intro v' w1 hown' hgr _
    have hown2 : w1.ownsRow w.heap.size 3 1 v' l.length (l.map (Value.int .i64)) := by simpa using hown'
    have hb1 : Below w.heap.size w w1 := (Below.refl _ _).grown hgr (Nat.le_refl _) (fun k hk => (hown0.lt k hk).1)
    obtain ⟨A', c', rfl, ho⟩ := own_of_row hown2
    clear hown' hgr hnews hown0
    go_wp2_with fail
    go_ret
    exact ⟨_, _, rfl, ho, hb1⟩
end Go.Proofs.YtnldlbglgalbaabGreat

namespace Go.Proofs.YtnldlbglgalbaabGreat
open Go.RowKit

/-- The list with n at its place. -/
def putL (n : Int) : List Int → List Int | [] => [n] | x :: r => if n ≤ x then (if n < x then n :: x :: r else x :: r) else x :: putL n r

set_option maxHeartbeats 1600000 in
theorem l2Put_any (A : Option Addr) (c : Nat) (l : List Int) (n : Int) (B : Nat) (w : World) (hll : l.length ≤ 2000000) (hin : IIn w B A c l) (hB : B ≤ w.heap.size) : Calls Tryz.prog 130 #[.slice A l.length c, .int .i64 n] w (RetI (putL n l) w) := by
  have hcap := hin.cap
  obtain ⟨i0, hi, hz0, hz1, hz2⟩ := info_parts infoI
  have hown0 : (w.alloc (.cells #[] 3)).ownsRow w.heap.size 3 1 (.slice (some ⟨w.heap.size, 0, none⟩) 0 0) ([] : List Int).length (([] : List Int).map (Value.int .i64)) := World.ownsRow_made w #[] 0 (Nat.le_refl _) (by unfold maxLen; omega) (by simp)
  have b0 : Below w.heap.size w (w.alloc (.cells #[] 3)) := (Below.refl _ _).alloc (Nat.le_refl _) _
  go_enter Tryz.func130, Tryz.ntmps130
  go_wp2_with fail
  go_loopw [5, 6, 12] (fun v p i wr => ∃ (j : Nat) (ds : List Int) (q : Bool), j ≤ l.length ∧ i = .int .i64 j ∧ p = .bool q ∧ wr.ownsRow w.heap.size 3 1 v ds.length (ds.map (Value.int .i64)) ∧ Hid (putL n l = ds ++ (if q then l.drop j else putL n (l.drop j))) ∧ ds.length ≤ j + (if q then 1 else 0) ∧ Below w.heap.size w wr) (fun _ _ i _ => l.length - (intOf i).toNat)
  case atStart => exact ⟨0, [], false, Nat.zero_le _, rfl, rfl, hown0, by simp [Hid], by simp, b0⟩
  case round =>
    obtain ⟨j, ds, q, hj, rfl, rfl, hown, HE, hdl, hb⟩ := hrel
    have hs2 := hb.size
    by_cases hlt : j < l.length
    · obtain ⟨b, o, rfl, hblk, c0⟩ := (hin.below (hb.mono hB)).at_ hlt
      have hd := List.drop_eq_getElem_cons hlt
      have HD := Lib.hid hd
      clear hd
      cases q
      · simp only [Bool.false_eq_true, if_false, Nat.add_zero] at HE hdl
        rcases Int.lt_trichotomy l[j] n with hc | hc | hc
        · have h1 : ¬ n ≤ l[j] := by omega
          go_wp2_with (at_builtin; refine wpList_append_own _ rfl _ _ 33 rfl w.heap.size 3 i0 (.int .i64 0) 1 8 Tryz.underlying33 hi hz0 hz1 hz2 rfl (by decide) _ ds.length (ds.map (Value.int .i64)) rfl (hown.alloc _) ⟨wr.heap.size, 0, none⟩ 1 1 [.int .i64 l[j]] rfl rfl (inews _ _) (ione _) (by unfold maxLen; omega) (by omega) (by simp; omega) ?_)
          intro v' w1 hown' hgr _
          obtain ⟨r1, r2, r3⟩ := igrow hb hs2 hown hown' hgr
          clear hown' hgr hown
          go_wp2_with fail
          refine ⟨⟨j + 1, ds ++ [l[j]], false, by omega, by go_num, rfl, r1, ?_, by simp; omega, r2⟩, by simp [intOf]; omega⟩
          show _ = _
          rw [HE.out, HD.out, putL, if_neg (by omega)]
          simp only [Bool.false_eq_true, if_false, List.append_assoc, List.singleton_append]
        · have h1 : n ≤ l[j] := by omega
          have h2 : ¬ n < l[j] := by omega
          have HC := Lib.hid hc
          clear hc
          go_wp2_with (at_builtin; refine wpList_append_own _ rfl _ _ 33 rfl w.heap.size 3 i0 (.int .i64 0) 1 8 Tryz.underlying33 hi hz0 hz1 hz2 rfl (by decide) _ ds.length (ds.map (Value.int .i64)) rfl (hown.alloc _) ⟨wr.heap.size, 0, none⟩ 1 1 [.int .i64 l[j]] rfl rfl (inews _ _) (ione _) (by unfold maxLen; omega) (by omega) (by simp; omega) ?_)
          intro v' w1 hown' hgr _
          obtain ⟨r1, r2, r3⟩ := igrow hb hs2 hown hown' hgr
          clear hown' hgr hown
          go_wp2_with fail
          refine ⟨⟨j + 1, ds ++ [l[j]], true, by omega, by go_num, rfl, r1, ?_, by simp; omega, r2⟩, by simp [intOf]; omega⟩
          show _ = _
          rw [HE.out, HD.out, putL, if_pos h1, if_neg (by have := HC.out; omega)]
          simp only [if_true, List.append_assoc, List.singleton_append]
        · have h1 : n ≤ l[j] := by omega
          go_wp2_with (at_builtin; refine wpList_append_own _ rfl (.tmp 26) (.tmp 28) 33 rfl w.heap.size 3 i0 (.int .i64 0) 1 8 Tryz.underlying33 hi hz0 hz1 hz2 rfl (by decide) _ ds.length (ds.map (Value.int .i64)) rfl (hown.alloc _) ⟨wr.heap.size, 0, none⟩ 1 1 [.int .i64 n] rfl rfl (inews _ _) (ione _) (by unfold maxLen; omega) (by omega) (by simp; omega) ?_)
          intro v' w1 hown' hgr _
          obtain ⟨r1, r2, r3⟩ := igrow hb hs2 hown hown' hgr
          clear hown' hgr hown
          have hdl2 : (ds ++ [n]).length ≤ j + 1 := by simp; omega
          obtain ⟨es, he⟩ : ∃ es, es = ds ++ [n] := ⟨_, rfl⟩
          rw [← he] at r1 hdl2
          have HS := Lib.hid he
          clear he
          go_wp2_with (at_builtin; refine wpList_append_own _ rfl (.tmp 30) (.tmp 32) 33 rfl w.heap.size 3 i0 (.int .i64 0) 1 8 Tryz.underlying33 hi hz0 hz1 hz2 rfl (by decide) _ es.length (es.map (Value.int .i64)) rfl (r1.alloc _) ⟨w1.heap.size, 0, none⟩ 1 1 [.int .i64 l[j]] rfl rfl (inews _ _) (ione _) (by unfold maxLen; omega) (by omega) (by simp; omega) ?_)
          intro v'' w2 hown' hgr _
          obtain ⟨s1, s2, s3⟩ := igrow r2 r3 r1 hown' hgr
          clear hown' hgr r1
          go_wp2_with fail
          refine ⟨⟨j + 1, es ++ [l[j]], true, by omega, by go_num, rfl, s1, ?_, by simp; omega, s2⟩, by simp [intOf]; omega⟩
          show _ = _
          rw [HS.out, HE.out, HD.out, putL, if_pos h1, if_pos (by omega)]
          simp only [if_true, List.append_assoc, List.cons_append, List.nil_append]
      · simp only [if_true] at HE hdl
        go_wp2_with (at_builtin; refine wpList_append_own _ rfl _ _ 33 rfl w.heap.size 3 i0 (.int .i64 0) 1 8 Tryz.underlying33 hi hz0 hz1 hz2 rfl (by decide) _ ds.length (ds.map (Value.int .i64)) rfl (hown.alloc _) ⟨wr.heap.size, 0, none⟩ 1 1 [.int .i64 l[j]] rfl rfl (inews _ _) (ione _) (by unfold maxLen; omega) (by omega) (by simp; omega) ?_)
        intro v' w1 hown' hgr _
        obtain ⟨r1, r2, r3⟩ := igrow hb hs2 hown hown' hgr
        clear hown' hgr hown
        go_wp2_with fail
        refine ⟨⟨j + 1, ds ++ [l[j]], true, by omega, by go_num, rfl, r1, ?_, by simp; omega, r2⟩, by simp [intOf]; omega⟩
        show _ = _
        rw [HE.out, HD.out]
        simp only [if_true, List.append_assoc, List.singleton_append]
    · have hj' : j = l.length := by omega
      subst hj'
      cases q
      · simp only [Bool.false_eq_true, if_false, List.drop_length, Nat.add_zero] at HE hdl
        go_wp2_with (at_builtin; refine wpList_append_own _ rfl _ _ 33 rfl w.heap.size 3 i0 (.int .i64 0) 1 8 Tryz.underlying33 hi hz0 hz1 hz2 rfl (by decide) _ ds.length (ds.map (Value.int .i64)) rfl (hown.alloc _) ⟨wr.heap.size, 0, none⟩ 1 1 [.int .i64 n] rfl rfl (inews _ _) (ione _) (by unfold maxLen; omega) (by omega) (by simp; omega) ?_)
        intro v' w1 hown' hgr _
        obtain ⟨r1, r2, r3⟩ := igrow hb hs2 hown hown' hgr
        clear hown' hgr hown
        obtain ⟨A', c', rfl, ho⟩ := own_of_row r1
        have HQ : Hid (putL n l = ds ++ [n]) := HE.out
        clear r1
        go_wp2_with fail
        go_ret
        exact ⟨A', c', by rw [HQ.out]; rfl, by rw [HQ.out]; exact ho, r2⟩
      · simp only [if_true, List.drop_length, List.append_nil] at HE
        obtain ⟨A', c', rfl, ho⟩ := own_of_row hown
        clear hown
        go_wp2_with fail
        go_ret
        exact ⟨A', c', by rw [HE.out]; rfl, by rw [HE.out]; exact ho, hb⟩

/-- The list without n. -/
def cutL (n : Int) (l : List Int) : List Int := l.filter (fun x => !(x == n))
theorem filter_take_succ {p : Int → Bool} {l : List Int} {j : Nat} (h : j < l.length) : (l.take (j + 1)).filter p = (l.take j).filter p ++ (if p l[j] then [l[j]] else []) := by
  rw [List.take_succ_eq_append_getElem h, List.filter_append]
  cases hp : p l[j] <;> simp [hp]
theorem filter_take_len {p : Int → Bool} (l : List Int) (j : Nat) : ((l.take j).filter p).length ≤ j := by
  have := List.length_filter_le p (l.take j)
  rw [List.length_take] at this
  omega

set_option maxHeartbeats 1600000 in
theorem l2Flip_any (A : Option Addr) (c : Nat) (l : List Int) (n : Int) (B : Nat) (w : World) (hll : l.length ≤ 2000000) (hin : IIn w B A c l) (hB : B ≤ w.heap.size) : Calls Tryz.prog 131 #[.slice A l.length c, .int .i64 n] w (RetI (if l.contains n then cutL n l else putL n l) w) := by
  have hcap := hin.cap
  obtain ⟨i0, hi, hz0, hz1, hz2⟩ := info_parts infoI
  cases hq : l.contains n
  · have Hq := Lib.hid hq
    clear hq
    simp only [Bool.false_eq_true, if_false]
    go_enter Tryz.func131, Tryz.ntmps131
    go_wp2_with (go_at_call 146; refine (specHas_any A c l n B _ hin).mono ?_; rintro e' w' ⟨rfl, hw⟩; obtain rfl := hw.symm; rw [Hq.out])
    refine (l2Put_any A c l n B _ hll hin hB).mono ?_
    rintro e w1 ⟨A', c', rfl, ho, hb⟩
    go_wp2_with fail
    go_ret
    exact ⟨A', c', rfl, ho, hb⟩
  · have Hq := Lib.hid hq
    clear hq
    simp only [if_true]
    have hown0 : (w.alloc (.cells #[] 3)).ownsRow w.heap.size 3 1 (.slice (some ⟨w.heap.size, 0, none⟩) 0 0) ([] : List Int).length (([] : List Int).map (Value.int .i64)) := World.ownsRow_made w #[] 0 (Nat.le_refl _) (by unfold maxLen; omega) (by simp)
    have b0 : Below w.heap.size w (w.alloc (.cells #[] 3)) := (Below.refl _ _).alloc (Nat.le_refl _) _
    go_enter Tryz.func131, Tryz.ntmps131
    go_wp2_with (go_at_call 146; refine (specHas_any A c l n B _ hin).mono ?_; rintro e' w' ⟨rfl, hw⟩; obtain rfl := hw.symm; rw [Hq.out])
    go_loopw [5, 18] (fun v i wr => ∃ (j : Nat) (ds : List Int), j ≤ l.length ∧ i = .int .i64 j ∧ wr.ownsRow w.heap.size 3 1 v ds.length (ds.map (Value.int .i64)) ∧ Hid (ds = (l.take j).filter (fun x => !(x == n))) ∧ ds.length ≤ j ∧ Below w.heap.size w wr) (fun _ i _ => l.length - (intOf i).toNat)
    case atStart => exact ⟨0, [], Nat.zero_le _, rfl, hown0, by simp [Hid], by simp, b0⟩
    case round =>
      obtain ⟨j, ds, hj, rfl, hown, HE, hdl, hb⟩ := hrel
      have hs2 := hb.size
      by_cases hlt : j < l.length
      · obtain ⟨b, o, rfl, hblk, c0⟩ := (hin.below (hb.mono hB)).at_ hlt
        have HT := Lib.hid (filter_take_succ (p := fun x => !(x == n)) hlt)
        by_cases hc : l[j] = n
        · have h1 : (l[j] != n) = false := by simp [hc]
          have HR : Hid (ds = (l.take (j + 1)).filter (fun x => !(x == n))) := by
            show _ = _
            rw [HT.out, HE.out]; simp [hc]
          clear hc
          go_wp2_with fail
          exact ⟨⟨j + 1, ds, by omega, by go_num, hown, HR, by omega, hb⟩, by simp [intOf]; omega⟩
        · have h1 : (l[j] != n) = true := by simpa using hc
          have HR : Hid (ds ++ [l[j]] = (l.take (j + 1)).filter (fun x => !(x == n))) := by
            show _ = _
            rw [HT.out, HE.out]; simp [hc]
          clear hc
          go_wp2_with (at_builtin; refine wpList_append_own _ rfl _ _ 33 rfl w.heap.size 3 i0 (.int .i64 0) 1 8 Tryz.underlying33 hi hz0 hz1 hz2 rfl (by decide) _ ds.length (ds.map (Value.int .i64)) rfl (hown.alloc _) ⟨wr.heap.size, 0, none⟩ 1 1 [.int .i64 l[j]] rfl rfl (inews _ _) (ione _) (by unfold maxLen; omega) (by omega) (by simp; omega) ?_)
          intro v' w1 hown' hgr _
          obtain ⟨r1, r2, r3⟩ := igrow hb hs2 hown hown' hgr
          clear hown' hgr hown
          go_wp2_with fail
          exact ⟨⟨j + 1, ds ++ [l[j]], by omega, by go_num, r1, HR, by simp; omega, r2⟩, by simp [intOf]; omega⟩
      · have hj' : j = l.length := by omega
        subst hj'
        have HQ : Hid (cutL n l = ds) := by
          show _ = _
          have := HE.out
          rw [List.take_length] at this
          exact this.symm
        obtain ⟨A', c', rfl, ho⟩ := own_of_row hown
        clear hown
        go_wp2_with fail
        go_ret
        exact ⟨A', c', by rw [HQ.out]; rfl, by rw [HQ.out]; exact ho, hb⟩

/-- The list without the scopes of the third kind. -/
def nousesL (l : List Int) : List Int := l.filter (fun x => !(kindI x == 3))
set_option maxHeartbeats 1600000 in
theorem l2NoUses_any (A : Option Addr) (c : Nat) (l : List Int) (B : Nat) (w : World) (hll : l.length ≤ 2000000) (hin : IIn w B A c l) (hB : B ≤ w.heap.size) : Calls Tryz.prog 132 #[.slice A l.length c] w (RetI (nousesL l) w) := by
  have hcap := hin.cap
  obtain ⟨i0, hi, hz0, hz1, hz2⟩ := info_parts infoI
  have hown0 : (w.alloc (.cells #[] 3)).ownsRow w.heap.size 3 1 (.slice (some ⟨w.heap.size, 0, none⟩) 0 0) ([] : List Int).length (([] : List Int).map (Value.int .i64)) := World.ownsRow_made w #[] 0 (Nat.le_refl _) (by unfold maxLen; omega) (by simp)
  have b0 : Below w.heap.size w (w.alloc (.cells #[] 3)) := (Below.refl _ _).alloc (Nat.le_refl _) _
  go_enter Tryz.func132, Tryz.ntmps132
  go_wp2_with fail
  go_loopw [3, 9] (fun v i wr => ∃ (j : Nat) (ds : List Int), j ≤ l.length ∧ i = .int .i64 j ∧ wr.ownsRow w.heap.size 3 1 v ds.length (ds.map (Value.int .i64)) ∧ Hid (ds = (l.take j).filter (fun x => !(kindI x == 3))) ∧ ds.length ≤ j ∧ Below w.heap.size w wr) (fun _ i _ => l.length - (intOf i).toNat)
  case atStart => exact ⟨0, [], Nat.zero_le _, rfl, hown0, by simp [Hid], by simp, b0⟩
  case round =>
    obtain ⟨j, ds, hj, rfl, hown, HE, hdl, hb⟩ := hrel
    have hs2 := hb.size
    by_cases hlt : j < l.length
    · obtain ⟨b, o, rfl, hblk, c0⟩ := (hin.below (hb.mono hB)).at_ hlt
      have HT := Lib.hid (filter_take_succ (p := fun x => !(kindI x == 3)) hlt)
      by_cases hc : kindI l[j] = 3
      · have h1 : (kindI l[j] != 3) = false := by simp [hc]
        have HR : Hid (ds = (l.take (j + 1)).filter (fun x => !(kindI x == 3))) := by
          show _ = _
          rw [HT.out, HE.out]; simp [hc]
        clear hc
        go_wp2_with fail
        refine (specKind_any _ _).mono ?_
        rintro e w1 ⟨rfl, hb1⟩
        have r1 : w1.ownsRow w.heap.size 3 1 _ ds.length (ds.map (Value.int .i64)) := hown.kept (row := none) ⟨hb1.os, hb1.tape, hb1.output, hb1.size, fun k hk _ => hb1.block k hk⟩ (by cases Value.ownBlock _ <;> simp)
        have r2 := hb.trans (hb1.mono hs2)
        go_wp2_with fail
        exact ⟨⟨j + 1, ds, by omega, by go_num, r1, HR, by omega, r2⟩, by simp [intOf]; omega⟩
      · have h1 : (kindI l[j] != 3) = true := by simpa using hc
        have HR : Hid (ds ++ [l[j]] = (l.take (j + 1)).filter (fun x => !(kindI x == 3))) := by
          show _ = _
          rw [HT.out, HE.out]; simp [hc]
        clear hc
        go_wp2_with fail
        refine (specKind_any _ _).mono ?_
        rintro e w1 ⟨rfl, hb1⟩
        have hown1 : w1.ownsRow w.heap.size 3 1 _ ds.length (ds.map (Value.int .i64)) := hown.kept (row := none) ⟨hb1.os, hb1.tape, hb1.output, hb1.size, fun k hk _ => hb1.block k hk⟩ (by cases Value.ownBlock _ <;> simp)
        have hbx := hb.trans (hb1.mono hs2)
        have hs3 := hbx.size
        clear hown
        go_wp2_with (at_builtin; refine wpList_append_own _ rfl _ _ 33 rfl w.heap.size 3 i0 (.int .i64 0) 1 8 Tryz.underlying33 hi hz0 hz1 hz2 rfl (by decide) _ ds.length (ds.map (Value.int .i64)) rfl (hown1.alloc _) ⟨w1.heap.size, 0, none⟩ 1 1 [.int .i64 l[j]] rfl rfl (inews _ _) (ione _) (by unfold maxLen; omega) (by omega) (by simp; omega) ?_)
        intro v' w2 hown' hgr _
        obtain ⟨r1, r2, r3⟩ := igrow hbx hs3 hown1 hown' hgr
        clear hown' hgr hown1
        go_wp2_with fail
        exact ⟨⟨j + 1, ds ++ [l[j]], by omega, by go_num, r1, HR, by simp; omega, r2⟩, by simp [intOf]; omega⟩
    · have hj' : j = l.length := by omega
      subst hj'
      have HQ : Hid (nousesL l = ds) := by
        show _ = _
        have := HE.out
        rw [List.take_length] at this
        exact this.symm
      obtain ⟨A', c', rfl, ho⟩ := own_of_row hown
      clear hown
      go_wp2_with fail
      go_ret
      exact ⟨A', c', by rw [HQ.out]; rfl, by rw [HQ.out]; exact ho, hb⟩

def subL (a b : List Int) : Bool := a.all (b.contains ·)
end Go.Proofs.YtnldlbglgalbaabGreat
