/-
  Rows of strings: where they lie, equality and marks.
-/
import Derived.Test.YtiopophoioiafaaInts
import Derived.Test.YtiopophoioiafaaMarks
import Derived.Deep.RegionHeld3
namespace Go.Proofs.Ytiopophoioiafaa
open Go.RowKit

/-- The strings l lie at A, below block B. -/
structure TIn (w : World) (B : Nat) (A : Option Addr) (c : Nat) (l : List ByteArray) : Prop where
  cap : l.length ≤ c ∧ c ≤ 9223372036854775807
  nil : A = none → c = 0
  mem : l ≠ [] → ∃ b o : Nat, A = some ⟨b, o, none⟩ ∧ b < B ∧ ∀ j u, l[j]? = some u → w.cell? ⟨b, o + j, none⟩ = some (.string u)
/-- The block of a row. -/
def tblk (A : Option Addr) (l : List ByteArray) : List Nat := if l.isEmpty then [] else (A.map (·.block)).toList
/-- In memory of the call's own. -/
structure TOwn (lo hi : Nat) (w : World) (A : Option Addr) (c : Nat) (l : List ByteArray) : Prop where
  inn : TIn w hi A c l
  own : l ≠ [] → ∀ b o, A = some ⟨b, o, none⟩ → lo ≤ b ∧ ∀ q, w.frozen? ⟨b, q, none⟩ = false

section
variable {w w' : World} {B B' lo hi lo' hi' : Nat} {A : Option Addr} {c : Nat} {l : List ByteArray}
theorem tblk_some {b o : Nat} (hl : l ≠ []) : tblk (some ⟨b, o, none⟩) l = [b] := by
  cases l with
  | nil => exact absurd rfl hl
  | cons _ _ => rfl
theorem TIn.keep (h : TIn w B A c l) (hk : ∀ k, k ∈ tblk A l → w'.heap[k]? = w.heap[k]?) : TIn w' B A c l := by
  refine ⟨h.cap, h.nil, fun hl => ?_⟩
  obtain ⟨b, o, rfl, hb, hc⟩ := h.mem hl
  exact ⟨b, o, rfl, hb, fun j u hu => (World.cell?_of_block (a := ⟨b, o + j, none⟩) (hk b (by simp [tblk_some hl]))).trans (hc j u hu)⟩
theorem TIn.blk_lt (h : TIn w B A c l) : ∀ b ∈ tblk A l, b < B := by
  intro k hk
  by_cases hl : l = []
  · subst hl; simp [tblk] at hk
  · obtain ⟨b, o, rfl, hb, _⟩ := h.mem hl
    simp [tblk_some hl] at hk
    omega
theorem TIn.below (h : TIn w B A c l) (hb : Below B w w') : TIn w' B A c l := h.keep fun k hk => hb.block k (h.blk_lt k hk)
theorem TIn.more (h : TIn w B A c l) (hB : B ≤ B') : TIn w B' A c l := by
  refine ⟨h.cap, h.nil, fun hl => ?_⟩
  obtain ⟨b, o, rfl, hb, hc⟩ := h.mem hl
  exact ⟨b, o, rfl, by omega, hc⟩
theorem TIn.alloc (h : TIn w B A c l) (hB : B ≤ w.heap.size) (o : Obj) : TIn (w.alloc o) B A c l := h.below ((Below.refl _ _).alloc hB o)
theorem TIn.drew (h : TIn w B A c l) : TIn w.drew B A c l := h.keep fun _ _ => rfl
theorem TIn.drewN (h : TIn w B A c l) (k : Nat) : TIn (w.drewN k) B A c l := h.keep fun _ _ => rfl
theorem TIn.nil_ (hc : c ≤ 9223372036854775807) (hn : A = none → c = 0) : TIn w B A c [] := ⟨⟨Nat.zero_le _, hc⟩, hn, fun h => absurd rfl h⟩
theorem TIn.at_ (h : TIn w B A c l) {i : Nat} (hi : i < l.length) : ∃ b o : Nat, A = some ⟨b, o, none⟩ ∧ b < B ∧ w.cell? ⟨b, o + i, none⟩ = some (.string l[i]) := by
  obtain ⟨b, o, rfl, hb, hc⟩ := h.mem (by rintro rfl; simp at hi)
  exact ⟨b, o, rfl, hb, hc i _ (List.getElem?_eq_getElem hi)⟩
theorem TOwn.keep (h : TOwn lo hi w A c l) (hk : ∀ k, k ∈ tblk A l → w'.heap[k]? = w.heap[k]?) : TOwn lo hi w' A c l := by
  refine ⟨h.inn.keep hk, fun hl b o e => ?_⟩
  obtain ⟨h1, h2⟩ := h.own hl b o e
  subst e
  exact ⟨h1, fun q => (World.frozen?_of_block (a := ⟨b, q, none⟩) (hk b (by simp [tblk_some hl]))).trans (h2 q)⟩
theorem TOwn.below (h : TOwn lo hi w A c l) (hb : Below hi w w') : TOwn lo hi w' A c l := h.keep fun k hk => hb.block k (h.inn.blk_lt k hk)
theorem TOwn.lo_ (h : TOwn lo hi w A c l) : ∀ b ∈ tblk A l, lo ≤ b := by
  intro k hk
  by_cases hl : l = []
  · subst hl; simp [tblk] at hk
  · obtain ⟨b, o, rfl, hb, _⟩ := h.inn.mem hl
    simp [tblk_some hl] at hk
    have := (h.own hl b o rfl).1
    omega
theorem TOwn.fr (h : TOwn lo hi w A c l) : ∀ b ∈ tblk A l, ∀ q, w.frozen? ⟨b, q, none⟩ = false := by
  intro k hk
  by_cases hl : l = []
  · subst hl; simp [tblk] at hk
  · obtain ⟨b, o, rfl, hb, _⟩ := h.inn.mem hl
    simp [tblk_some hl] at hk
    subst hk
    exact (h.own hl _ o rfl).2
theorem TOwn.far (h : TOwn lo hi w A c l) {p : Addr} (hp : p.block < lo) (u : Value) : TOwn lo hi (w.setCell p u) A c l :=
  h.keep fun k hk => Below.heap_setCell _ _ _ _ (by have := h.lo_ k hk; omega)
theorem TOwn.wide (h : TOwn lo hi w A c l) (h1 : lo' ≤ lo) (h2 : hi ≤ hi') : TOwn lo' hi' w A c l :=
  ⟨h.inn.more h2, fun hl b o e => ⟨Nat.le_trans h1 (h.own hl b o e).1, (h.own hl b o e).2⟩⟩
theorem TOwn.nil_ (hc : c ≤ 9223372036854775807) (hn : A = none → c = 0) : TOwn lo hi w A c [] := ⟨TIn.nil_ hc hn, fun h => absurd rfl h⟩
/-- Written elsewhere. -/
theorem TIn.chg {S : List Nat} (h : TIn w B A c l) (hc : Chg S w w') (hB : B ≤ w.heap.size) (hS : ∀ k ∈ tblk A l, k ∉ S) : TIn w' B A c l :=
  h.keep fun k hk => hc.block k (by have := h.blk_lt k hk; omega) (hS k hk)
theorem TOwn.chg {S : List Nat} (h : TOwn lo hi w A c l) (hc : Chg S w w') (hB : hi ≤ w.heap.size) (hS : ∀ k ∈ tblk A l, k ∉ S) : TOwn lo hi w' A c l :=
  h.keep fun k hk => hc.block k (by have := h.inn.blk_lt k hk; omega) (hS k hk)
end

/-- Row g of n places bears these strings at its head. -/
def TRow (w : World) (g n : Nat) (ds : List ByteArray) : Prop := ∃ cs : Array Value, D.Blk w g 9 cs ∧ cs.size = n ∧ ∀ (i : Nat) (u : ByteArray), ds[i]? = some u → cs[i]? = some (.string u)
section
variable {w w' : World} {g n : Nat} {ds : List ByteArray}
theorem TRow.below {B : Nat} (h : TRow w g n ds) (hb : Below B w w') (hg : g < B) : TRow w' g n ds := by
  obtain ⟨cs, h1, h2⟩ := h
  exact ⟨cs, h1.below hb hg, h2⟩
theorem TRow.lt (h : TRow w g n ds) : g < w.heap.size := by
  obtain ⟨cs, h1, _⟩ := h
  exact h1.lt
theorem TRow.old (h : TRow w g n ds) {i : Nat} (hi : i < n) : ∃ u, w.cell? ⟨g, i, none⟩ = some u := by
  obtain ⟨cs, h1, h2, _⟩ := h
  exact ⟨cs[i], by rw [h1.cell]; exact Array.getElem?_eq_getElem (by omega)⟩
theorem TRow.frozen (h : TRow w g n ds) (i : Nat) : w.frozen? ⟨g, i, none⟩ = false := by
  obtain ⟨cs, h1, _⟩ := h
  exact h1.frozen i
theorem TRow.step (h : TRow w g n ds) {j : Nat} (hj : ds.length = j) (hn : j < n) (x : ByteArray) : TRow (w.setCell ⟨g, j, none⟩ (.string x)) g n (ds ++ [x]) := by
  obtain ⟨cs, h1, h2, h3⟩ := h
  refine ⟨_, h1.set_ _ _, by simp [h2], fun i u hu => ?_⟩
  by_cases hi : i < j
  · rw [List.getElem?_append_left (by omega)] at hu
    simp only [Array.getElem?_setIfInBounds]
    rw [if_neg (by omega)]
    exact h3 i u hu
  · have e : i = j := by
      have := (List.getElem?_eq_some_iff.1 hu).1
      simp at this
      omega
    subst e
    rw [List.getElem?_append_right (by omega), hj] at hu
    simp at hu
    subst hu
    simp [Array.getElem?_setIfInBounds, h2, hn]
theorem TRow.own {lo hi c : Nat} (h : TRow w g n ds) (hc : ds.length ≤ c ∧ c ≤ 9223372036854775807) (hlo : lo ≤ g) (hhi : g < hi) : TOwn lo hi w (some ⟨g, 0, none⟩) c ds := by
  obtain ⟨cs, h1, h2, h3⟩ := h
  refine ⟨⟨hc, (by simp), fun _ => ⟨g, 0, rfl, hhi, fun j u hu => ?_⟩⟩, fun _ b o e => ?_⟩
  · rw [Nat.zero_add, h1.cell]; exact h3 j u hu
  · have e' := Addr.mk.inj (Option.some.inj e)
    obtain ⟨rfl, rfl, _⟩ := e'
    exact ⟨hlo, fun q => h1.frozen q⟩
end

/-- Returned: strings of the call's own. -/
def RetT (l : List ByteArray) (w : World) (e : Ending) (w' : World) : Prop := ∃ (A : Option Addr) (c : Nat), e = .returned (.slice A l.length c) ∧ TOwn w.heap.size w'.heap.size w' A c l ∧ Below w.heap.size w w'


theorem infoT : (Try.prog.info? 9).map (fun i => (i.zero, i.size, i.bytes)) = some (some (.string ⟨#[]⟩), 1, 16) := by kernel_rfl

set_option maxHeartbeats 400000 in
/-- Two rows with the same strings are equal. -/
theorem eqT_any (A : Option Addr) (c : Nat) (l : List ByteArray) (A' : Option Addr) (c' : Nat) (B : Nat) (w : World) (hin : TIn w B A c l) (hin' : TIn w B A' c' l) (hB : B ≤ w.heap.size) :
    Calls Try.prog 35 #[.slice A l.length c, .slice A' l.length c'] w fun e w' => e = .returned (.bool true) ∧ Below w.heap.size w w' := by
  have hcap := hin.cap
  have hn1 : ((l.length : Int) != (l.length : Int)) = false := by simp
  go_enter Try.func35, Try.ntmps35
  go_wp2_with fail
  go_loopw [5] (fun i wr => ∃ j : Nat, j ≤ l.length ∧ i = .int .i64 j ∧ Below w.heap.size w wr) (fun i _ => l.length - (intOf i).toNat)
  case atStart => exact ⟨0, Nat.zero_le _, rfl, Below.refl _ _⟩
  case round =>
    obtain ⟨j, hj, rfl, hb⟩ := hrel
    by_cases hlt : j < l.length
    · obtain ⟨b, o, rfl, hblk, c0⟩ := (hin.below (hb.mono hB)).at_ hlt
      obtain ⟨b', o', rfl, hblk', c0'⟩ := (hin'.below (hb.mono hB)).at_ hlt
      have g2 : (j : Int) < (l.length : Int) := by omega
      have hq1 : (l[j].toList != l[j].toList) = false := by simp
      go_wp2_with fail
      go_region
      all_goals go_wp2_with fail
      all_goals refine ⟨⟨j + 1, by omega, by go_num, hb.drew⟩, by simp [intOf]; omega⟩
    · have hj' : j = l.length := by omega
      subst hj'
      go_wp2_with fail
      go_ret
      exact ⟨rfl, hb⟩

/-- The marks of a row. -/
def markT : List ByteArray → Int → List ByteArray | [], _ => [] | _ :: r, q => markB q :: markT r (q + 1)
theorem markT_length (l : List ByteArray) : ∀ q, (markT l q).length = l.length := by
  induction l with
  | nil => intro q; rfl
  | cons d r ih => intro q; simp [markT, ih]
theorem markT_append (a b : List ByteArray) : ∀ q, markT (a ++ b) q = markT a q ++ markT b (q + a.length) := by
  induction a with
  | nil => intro q; simp [markT]
  | cons d r ih => intro q; simp [markT, ih]; congr 1; omega
theorem markT_get (l : List ByteArray) : ∀ (q : Int) (j : Nat) (h : j < (markT l q).length), (markT l q)[j] = markB (q + j) := by
  induction l with
  | nil => intro q j h; simp [markT] at h
  | cons d r ih =>
    intro q j h
    cases j with
    | zero => simp [markT]
    | succ j => simp only [markT, List.getElem_cons_succ]; rw [ih]; congr 1; omega
theorem markT_nil {l : List ByteArray} {q : Int} : markT l q = [] ↔ l = [] := by cases l <;> simp [markT]
theorem tblk_mark (A : Option Addr) (l : List ByteArray) (q : Int) : tblk A (markT l q) = tblk A l := by cases l <;> rfl

set_option maxHeartbeats 400000 in
theorem markT_any (A : Option Addr) (c : Nat) (l : List ByteArray) (lo hi : Nat) (w : World) (q : Int) (hll : l.length ≤ 2000000) (hq0 : 0 ≤ q) (hq : q ≤ 100000000) (ho : TOwn lo hi w A c l) (hhi : hi ≤ w.heap.size) :
    Calls Try.prog 36 #[.slice A l.length c, .int .i64 q] w fun e w' => e = .returned (.int .i64 (q + l.length)) ∧ TOwn lo hi w' A c (markT l q) ∧ Chg (tblk A l) w w' := by
  have hcap := ho.inn.cap
  by_cases hl : l = []
  · subst hl
    go_enter Try.func36, Try.ntmps36
    go_wp2_with fail
    go_loopw [1, 5] (fun v i wr => v = .int .i64 q ∧ i = .int .i64 0 ∧ wr = w) (fun _ _ _ => 0)
    case atStart => exact ⟨rfl, rfl, rfl⟩
    case round =>
      obtain ⟨rfl, rfl, rfl⟩ := hrel
      go_wp2_with fail
      go_ret
      exact ⟨ret_int (by simp), ho, Chg.refl _ _⟩
  · obtain ⟨b, o, rfl, hb, hc⟩ := ho.inn.mem hl
    obtain ⟨hlo, hfz⟩ := ho.own hl b o rfl
    have Hbl := Lib.hid (tblk_some (b := b) (o := o) hl)
    go_enter Try.func36, Try.ntmps36
    go_wp2_with fail
    go_loopw [1, 5] (fun v i wr => ∃ j : Nat, j ≤ l.length ∧ i = .int .i64 j ∧ v = .int .i64 (q + j) ∧ Hid (∀ p u, (markT (l.take j) q ++ l.drop j)[p]? = some u → wr.cell? ⟨b, o + p, none⟩ = some (.string u)) ∧ Hid (∀ q, wr.frozen? ⟨b, q, none⟩ = false) ∧ Chg [b] w wr) (fun _ i _ => l.length - (intOf i).toNat)
    case atStart => exact ⟨0, Nat.zero_le _, rfl, by simp, by simpa [markT, Hid] using hc, hfz, Chg.refl _ _⟩
    case round =>
      obtain ⟨j, hj, rfl, rfl, HC, HF, hch⟩ := hrel
      by_cases hlt : j < l.length
      · have hpl : (markT (l.take j) q).length = j := by rw [markT_length, List.length_take]; omega
        have c0 := HC.out j l[j] (by rw [List.getElem?_append_right (by omega), hpl, List.drop_eq_getElem_cons hlt]; simp)
        have f0 := HF.out (o + j)
        have hbl' : b < wr.heap.size := by have := hch.size; omega
        go_wp2_with fail
        refine (markText_any _ _ (by omega)).mono ?_
        rintro e w1 ⟨rfl, hb1⟩
        have hcc : ∀ p, w1.cell? ⟨b, p, none⟩ = wr.cell? ⟨b, p, none⟩ := fun p => hb1.cell (p := ⟨b, p, none⟩) hbl'
        have hff : ∀ p, w1.frozen? ⟨b, p, none⟩ = wr.frozen? ⟨b, p, none⟩ := fun p => hb1.frozen (p := ⟨b, p, none⟩) hbl'
        have c1 := (hcc (o + j)).trans c0
        have f1 := (hff (o + j)).trans f0
        have HC' : Hid (∀ p u, (markT (l.take (j + 1)) q ++ l.drop (j + 1))[p]? = some u → (w1.setCell ⟨b, o + j, none⟩ (.string (markB (q + j)))).cell? ⟨b, o + p, none⟩ = some (.string u)) := by
          intro p u hu
          rw [List.take_succ_eq_append_getElem hlt, markT_append, List.append_assoc] at hu
          have hm : (l.take j).length = j := by rw [List.length_take]; omega
          simp only [markT, hm, List.singleton_append] at hu
          by_cases hp : p = j
          · subst hp
            rw [List.getElem?_append_right (by omega), hpl] at hu
            simp at hu
            subst hu
            exact icell_eq c1
          · rw [icell_ne _ _ _ _ _ (by omega), hcc]
            refine HC.out p u ?_
            by_cases hp2 : p < j
            · rw [List.getElem?_append_left (by omega)] at hu ⊢; exact hu
            · rw [List.getElem?_append_right (by omega), hpl] at hu ⊢
              rw [List.drop_eq_getElem_cons hlt]
              obtain ⟨r, hr⟩ : ∃ r, p - j = r + 1 := ⟨p - j - 1, by omega⟩
              rw [hr] at hu ⊢
              simpa [Nat.add_assoc, Nat.add_comm 1 r] using hu
        have HF' : Hid (∀ r, (w1.setCell ⟨b, o + j, none⟩ (.string (markB (q + j)))).frozen? ⟨b, r, none⟩ = false) := by
          intro r
          rw [World.frozen?_setCell, hff]
          exact HF.out r
        have hch1 := hch.trans (Chg.of_below hb1)
        clear hpl hcc hff hb1
        go_wp2_with fail
        refine ⟨⟨j + 1, by omega, by go_num, by go_num, HC', HF', hch1.setCell (.inl (by simp)) _⟩, by simp [intOf]; omega⟩
      · have hj' : j = l.length := by omega
        subst hj'
        have HC' := HC.out
        rw [List.take_length, List.drop_length, List.append_nil] at HC'
        have HC2 := Lib.hid HC'
        clear HC'
        go_wp2_with fail
        go_ret
        refine ⟨rfl, ⟨⟨by rw [markT_length]; exact hcap, (by simp), fun _ => ⟨b, o, rfl, hb, HC2.out⟩⟩, fun _ b' o' e => ?_⟩, by rw [Hbl.out]; exact hch⟩
        obtain ⟨rfl, rfl, _⟩ := Addr.mk.inj (Option.some.inj e)
        exact ⟨hlo, HF.out⟩


set_option maxHeartbeats 400000 in
theorem heldT_any (A : Option Addr) (c : Nat) (l : List ByteArray) (B : Nat) (w : World) (q : Int) (hll : l.length ≤ 2000000) (hq0 : 0 ≤ q) (hq : q ≤ 100000000) (hin : TIn w B A c (markT l q)) (hB : B ≤ w.heap.size) :
    Calls Try.prog 37 #[.slice A l.length c, .int .i64 q] w fun e w' => e = .returned (.int .i64 (q + l.length)) ∧ Below w.heap.size w w' := by
  have hcap := hin.cap
  rw [markT_length] at hcap
  go_enter Try.func37, Try.ntmps37
  go_wp2_with fail
  go_loopw [1, 5] (fun v i wr => ∃ j : Nat, j ≤ l.length ∧ i = .int .i64 j ∧ v = .int .i64 (q + j) ∧ Below w.heap.size w wr) (fun _ i _ => l.length - (intOf i).toNat)
  case atStart => exact ⟨0, Nat.zero_le _, rfl, by simp, Below.refl _ _⟩
  case round =>
    obtain ⟨j, hj, rfl, rfl, hb⟩ := hrel
    by_cases hlt : j < l.length
    · obtain ⟨b, o, rfl, hblk, c0⟩ := (hin.below (hb.mono hB)).at_ (i := j) (by rw [markT_length]; exact hlt)
      rw [markT_get] at c0
      have g2 : (j : Int) < (l.length : Int) := by omega
      have q1 : b < wr.heap.size := by have := hb.size; omega
      have hq1 : ((markB (q + j)).toList != (markB (q + j)).toList) = false := by simp
      go_wp2_with fail
      go_region_held3 (fun w' => w'.cell? ⟨b, o + j, none⟩ = some (.string (markB (q + j)))) (go_keep)
        ((go_at_call 104; refine (markText_any _ _ ?_).mono ?_; omega; rintro e w1 ⟨rfl, hb1⟩; have a2 := (hb1.cell (p := ⟨b, o + j, none⟩) q1).trans c0))
      all_goals go_wp2_with fail
      all_goals refine ⟨⟨j + 1, by omega, by go_num, by go_num, hb.trans ((below_undrew hb1).mono (show w.heap.size ≤ wr.heap.size from hb.size))⟩, by simp [intOf]; omega⟩
    · have hj' : j = l.length := by omega
      subst hj'
      go_wp2_with fail
      go_ret
      exact ⟨rfl, hb⟩
end Go.Proofs.Ytiopophoioiafaa
