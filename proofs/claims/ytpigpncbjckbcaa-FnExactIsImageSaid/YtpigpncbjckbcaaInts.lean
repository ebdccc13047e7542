/-
  Rows of ints: where they lie, copies, equality and marks.
-/
import Derived.Test.YtpigpncbjckbcaaBase
import Derived.Test.YtpigpncbjckbcaaProg
import Derived.Handy
import Derived.WalkSpells
import Derived.Laws.MakeOwn
namespace Go.Proofs.Ytpigpncbjckbcaa
open Go.RowKit

/-- The ints l lie at A, below block B. -/
structure IIn (w : World) (B : Nat) (A : Option Addr) (c : Nat) (l : List Int) : Prop where
  cap : l.length ≤ c ∧ c ≤ 9223372036854775807
  nil : A = none → c = 0
  mem : l ≠ [] → ∃ b o : Nat, A = some ⟨b, o, none⟩ ∧ b < B ∧ ∀ j u, l[j]? = some u → w.cell? ⟨b, o + j, none⟩ = some (.int .i64 u)
/-- The block of a row. -/
def iblk (A : Option Addr) (l : List Int) : List Nat := if l.isEmpty then [] else (A.map (·.block)).toList
/-- In memory of the call's own. -/
structure IOwn (lo hi : Nat) (w : World) (A : Option Addr) (c : Nat) (l : List Int) : Prop where
  inn : IIn w hi A c l
  own : l ≠ [] → ∀ b o, A = some ⟨b, o, none⟩ → lo ≤ b ∧ ∀ q, w.frozen? ⟨b, q, none⟩ = false

section
variable {w w' : World} {B B' lo hi lo' hi' : Nat} {A : Option Addr} {c : Nat} {l : List Int}
theorem iblk_some {b o : Nat} (hl : l ≠ []) : iblk (some ⟨b, o, none⟩) l = [b] := by
  cases l with
  | nil => exact absurd rfl hl
  | cons _ _ => rfl
theorem IIn.keep (h : IIn w B A c l) (hk : ∀ k, k ∈ iblk A l → w'.heap[k]? = w.heap[k]?) : IIn w' B A c l := by
  refine ⟨h.cap, h.nil, fun hl => ?_⟩
  obtain ⟨b, o, rfl, hb, hc⟩ := h.mem hl
  exact ⟨b, o, rfl, hb, fun j u hu => (World.cell?_of_block (a := ⟨b, o + j, none⟩) (hk b (by simp [iblk_some hl]))).trans (hc j u hu)⟩
theorem IIn.blk_lt (h : IIn w B A c l) : ∀ b ∈ iblk A l, b < B := by
  intro k hk
  by_cases hl : l = []
  · subst hl; simp [iblk] at hk
  · obtain ⟨b, o, rfl, hb, _⟩ := h.mem hl
    simp [iblk_some hl] at hk
    omega
theorem IIn.below (h : IIn w B A c l) (hb : Below B w w') : IIn w' B A c l := h.keep fun k hk => hb.block k (h.blk_lt k hk)
theorem IIn.more (h : IIn w B A c l) (hB : B ≤ B') : IIn w B' A c l := by
  refine ⟨h.cap, h.nil, fun hl => ?_⟩
  obtain ⟨b, o, rfl, hb, hc⟩ := h.mem hl
  exact ⟨b, o, rfl, by omega, hc⟩
theorem IIn.alloc (h : IIn w B A c l) (hB : B ≤ w.heap.size) (o : Obj) : IIn (w.alloc o) B A c l := h.below ((Below.refl _ _).alloc hB o)
theorem IIn.drew (h : IIn w B A c l) : IIn w.drew B A c l := h.keep fun _ _ => rfl
theorem IIn.drewN (h : IIn w B A c l) (k : Nat) : IIn (w.drewN k) B A c l := h.keep fun _ _ => rfl
theorem IIn.nil_ (hc : c ≤ 9223372036854775807) (hn : A = none → c = 0) : IIn w B A c [] := ⟨⟨Nat.zero_le _, hc⟩, hn, fun h => absurd rfl h⟩
theorem IIn.at_ (h : IIn w B A c l) {i : Nat} (hi : i < l.length) : ∃ b o : Nat, A = some ⟨b, o, none⟩ ∧ b < B ∧ w.cell? ⟨b, o + i, none⟩ = some (.int .i64 l[i]) := by
  obtain ⟨b, o, rfl, hb, hc⟩ := h.mem (by rintro rfl; simp at hi)
  exact ⟨b, o, rfl, hb, hc i _ (List.getElem?_eq_getElem hi)⟩
theorem IOwn.keep (h : IOwn lo hi w A c l) (hk : ∀ k, k ∈ iblk A l → w'.heap[k]? = w.heap[k]?) : IOwn lo hi w' A c l := by
  refine ⟨h.inn.keep hk, fun hl b o e => ?_⟩
  obtain ⟨h1, h2⟩ := h.own hl b o e
  subst e
  exact ⟨h1, fun q => (World.frozen?_of_block (a := ⟨b, q, none⟩) (hk b (by simp [iblk_some hl]))).trans (h2 q)⟩
theorem IOwn.below (h : IOwn lo hi w A c l) (hb : Below hi w w') : IOwn lo hi w' A c l := h.keep fun k hk => hb.block k (h.inn.blk_lt k hk)
theorem IOwn.lo_ (h : IOwn lo hi w A c l) : ∀ b ∈ iblk A l, lo ≤ b := by
  intro k hk
  by_cases hl : l = []
  · subst hl; simp [iblk] at hk
  · obtain ⟨b, o, rfl, hb, _⟩ := h.inn.mem hl
    simp [iblk_some hl] at hk
    have := (h.own hl b o rfl).1
    omega
theorem IOwn.fr (h : IOwn lo hi w A c l) : ∀ b ∈ iblk A l, ∀ q, w.frozen? ⟨b, q, none⟩ = false := by
  intro k hk
  by_cases hl : l = []
  · subst hl; simp [iblk] at hk
  · obtain ⟨b, o, rfl, hb, _⟩ := h.inn.mem hl
    simp [iblk_some hl] at hk
    subst hk
    exact (h.own hl _ o rfl).2
theorem IOwn.far (h : IOwn lo hi w A c l) {p : Addr} (hp : p.block < lo) (u : Value) : IOwn lo hi (w.setCell p u) A c l :=
  h.keep fun k hk => Below.heap_setCell _ _ _ _ (by have := h.lo_ k hk; omega)
theorem IOwn.wide (h : IOwn lo hi w A c l) (h1 : lo' ≤ lo) (h2 : hi ≤ hi') : IOwn lo' hi' w A c l :=
  ⟨h.inn.more h2, fun hl b o e => ⟨Nat.le_trans h1 (h.own hl b o e).1, (h.own hl b o e).2⟩⟩
theorem IOwn.nil_ (hc : c ≤ 9223372036854775807) (hn : A = none → c = 0) : IOwn lo hi w A c [] := ⟨IIn.nil_ hc hn, fun h => absurd rfl h⟩
/-- Written elsewhere. -/
theorem IIn.chg {S : List Nat} (h : IIn w B A c l) (hc : Chg S w w') (hB : B ≤ w.heap.size) (hS : ∀ k ∈ iblk A l, k ∉ S) : IIn w' B A c l :=
  h.keep fun k hk => hc.block k (by have := h.blk_lt k hk; omega) (hS k hk)
theorem IOwn.chg {S : List Nat} (h : IOwn lo hi w A c l) (hc : Chg S w w') (hB : hi ≤ w.heap.size) (hS : ∀ k ∈ iblk A l, k ∉ S) : IOwn lo hi w' A c l :=
  h.keep fun k hk => hc.block k (by have := h.inn.blk_lt k hk; omega) (hS k hk)
end

theorem run_make_rowI {P : Program} (t e : TypeId) (i : TypeInfo) (z : Value) (ht : P.underlying t = some (.slice e)) (hi : P.info? e = some i) (hz : i.zero = some z)
    (kl kc : IntKind) (n c : Nat) (hnc : n ≤ c) (hbytes : i.bytes * c ≤ 281474976710656) (h63 : c ≤ 9223372036854775807) (w : World) :
    (Instr.makeSlice t (.int kl (n : Int)) (.int kc (c : Int))).run P w = .ok (.slice (some ⟨w.heap.size, 0, none⟩) n c) (w.alloc (.cells (madeCells z.cells (c * i.size)) e)) := by
  have hb : (i.bytes : Int) * (c : Int) ≤ 281474976710656 := by
    have h : ((i.bytes * c : Nat) : Int) ≤ 281474976710656 := by omega
    rwa [Int.natCast_mul] at h
  have hr := run_make (P := P) w t e i z ht hi hz kl kc n c (by omega) (by omega) hb (by omega)
  simp only [Int.toNat_natCast] at hr
  exact hr
theorem ret_isl {A : Option Addr} {m n c : Nat} (h : m = n) : Ending.returned (.slice A m c) = .returned (.slice A n c) := by rw [h]
theorem infoI : (Try.prog.info? 3).map (fun i => (i.zero, i.size, i.bytes)) = some (some (.int .i64 0), 1, 8) := by kernel_rfl

/-- Row g of n places bears these ints at its head. -/
def IRow (w : World) (g n : Nat) (ds : List Int) : Prop := ∃ cs : Array Value, D.Blk w g 3 cs ∧ cs.size = n ∧ ∀ (i : Nat) (u : Int), ds[i]? = some u → cs[i]? = some (.int .i64 u)
section
variable {w w' : World} {g n : Nat} {ds : List Int}
theorem IRow.below {B : Nat} (h : IRow w g n ds) (hb : Below B w w') (hg : g < B) : IRow w' g n ds := by
  obtain ⟨cs, h1, h2⟩ := h
  exact ⟨cs, h1.below hb hg, h2⟩
theorem IRow.lt (h : IRow w g n ds) : g < w.heap.size := by
  obtain ⟨cs, h1, _⟩ := h
  exact h1.lt
theorem IRow.old (h : IRow w g n ds) {i : Nat} (hi : i < n) : ∃ u, w.cell? ⟨g, i, none⟩ = some u := by
  obtain ⟨cs, h1, h2, _⟩ := h
  exact ⟨cs[i], by rw [h1.cell]; exact Array.getElem?_eq_getElem (by omega)⟩
theorem IRow.frozen (h : IRow w g n ds) (i : Nat) : w.frozen? ⟨g, i, none⟩ = false := by
  obtain ⟨cs, h1, _⟩ := h
  exact h1.frozen i
theorem IRow.step (h : IRow w g n ds) {j : Nat} (hj : ds.length = j) (hn : j < n) (x : Int) : IRow (w.setCell ⟨g, j, none⟩ (.int .i64 x)) g n (ds ++ [x]) := by
  obtain ⟨cs, h1, h2, h3⟩ := h
  refine ⟨_, h1.set_ _ _, by simp [h2], fun i u hu => ?_⟩
  by_cases hi : i < j
  · rw [List.getElem?_append_left (by omega)] at hu
    simp only [Array.getElem?_setIfInBounds]
    rw [if_neg (by omega)]
    exact h3 i u hu
  · have e : i = j := by
      have := (List.getElem?_eq_some_iff.1 hu).1
      simp at this
      omega
    subst e
    rw [List.getElem?_append_right (by omega), hj] at hu
    simp at hu
    subst hu
    simp [h2, hn]
theorem IRow.own {lo hi c : Nat} (h : IRow w g n ds) (hc : ds.length ≤ c ∧ c ≤ 9223372036854775807) (hlo : lo ≤ g) (hhi : g < hi) : IOwn lo hi w (some ⟨g, 0, none⟩) c ds := by
  obtain ⟨cs, h1, h2, h3⟩ := h
  refine ⟨⟨hc, (by simp), fun _ => ⟨g, 0, rfl, hhi, fun j u hu => ?_⟩⟩, fun _ b o e => ?_⟩
  · rw [Nat.zero_add, h1.cell]; exact h3 j u hu
  · have e' := Addr.mk.inj (Option.some.inj e)
    obtain ⟨rfl, rfl, _⟩ := e'
    exact ⟨hlo, fun q => h1.frozen q⟩
end

/-- Returned: ints of the call's own. -/
def RetI (l : List Int) (w : World) (e : Ending) (w' : World) : Prop := ∃ (A : Option Addr) (c : Nat), e = .returned (.slice A l.length c) ∧ IOwn w.heap.size w'.heap.size w' A c l ∧ Below w.heap.size w w'

set_option maxHeartbeats 400000 in
theorem eqI_any (A : Option Addr) (c : Nat) (l : List Int) (A' : Option Addr) (c' : Nat) (l' : List Int) (B : Nat) (w : World) (hin : IIn w B A c l) (hin' : IIn w B A' c' l') (hB : B ≤ w.heap.size) :
    Calls Try.prog 18 #[.slice A l.length c, .slice A' l'.length c'] w fun e w' => e = .returned (.bool (l == l')) ∧ Below w.heap.size w w' := by
  have hcap := hin.cap
  have hcap' := hin'.cap
  by_cases hlen : l.length = l'.length
  · have hn1 : ((l.length : Int) != (l'.length : Int)) = false := by simp [hlen]
    have Hlen := Lib.hid hlen
    have hlen1 : l'.length ≤ l.length := by omega
    have hlen2 : l.length ≤ l'.length := by omega
    clear hlen
    go_enter Try.func18, Try.ntmps18
    go_wp2_with fail
    go_loopw [5] (fun i wr => ∃ j : Nat, j ≤ l.length ∧ i = .int .i64 j ∧ Hid (l.take j = l'.take j) ∧ Below w.heap.size w wr) (fun i _ => l.length - (intOf i).toNat)
    case atStart => exact ⟨0, Nat.zero_le _, rfl, by simp [Hid], Below.refl _ _⟩
    case round =>
      obtain ⟨j, hj, rfl, HE, hb⟩ := hrel
      by_cases hlt : j < l.length
      · have hlt' : j < l'.length := by omega
        obtain ⟨b, o, rfl, hblk, c0⟩ := (hin.below (hb.mono hB)).at_ hlt
        obtain ⟨b', o', rfl, hblk', c0'⟩ := (hin'.below (hb.mono hB)).at_ hlt'
        have g2 : (j : Int) < (l.length : Int) := by omega
        have g3 : (j : Int) < (l'.length : Int) := by omega
        by_cases hq : l[j] = l'[j]
        · have hq1 : (l[j] != l'[j]) = false := by simp [hq]
          have HT : Hid (l.take (j + 1) = l'.take (j + 1)) := by
            show _ = _
            rw [List.take_succ_eq_append_getElem hlt, List.take_succ_eq_append_getElem hlt', HE.out, hq]
          clear hq
          go_wp2_with fail
          go_region
          all_goals go_wp2_with fail
          all_goals refine ⟨⟨j + 1, by omega, by go_num, HT, hb.drew⟩, by simp [intOf]; omega⟩
        · have hq1 : (l[j] != l'[j]) = true := by simpa using hq
          have HF : Hid ((l == l') = false) := by
            show _ = _
            rw [beq_eq_false_iff_ne]
            rintro rfl
            exact hq rfl
          clear hq
          go_wp2_with fail
          go_region
          all_goals go_wp2_with fail
          all_goals go_ret
          all_goals exact ⟨ret_bool HF.out.symm, hb.drew⟩
      · have hj' : j = l.length := by omega
        subst hj'
        have HF : Hid ((l == l') = true) := by
          show _ = _
          have := HE.out
          rw [List.take_length, List.take_of_length_le (by omega)] at this
          simp [this]
        go_wp2_with fail
        go_ret
        exact ⟨ret_bool HF.out.symm, hb⟩
  · have hn1 : ((l.length : Int) != (l'.length : Int)) = true := by simpa using (by omega : ¬ (l.length : Int) = (l'.length : Int))
    have HF : Hid ((l == l') = false) := by
      show _ = _
      rw [beq_eq_false_iff_ne]
      rintro rfl
      exact hlen rfl
    go_enter Try.func18, Try.ntmps18
    go_wp2_with fail
    go_ret
    exact ⟨ret_bool HF.out.symm, Below.refl _ _⟩

theorem icell_ne (w : World) (b q r : Nat) (u : Value) (h : q ≠ r) : (w.setCell ⟨b, r, none⟩ u).cell? ⟨b, q, none⟩ = w.cell? ⟨b, q, none⟩ := World.cell?_setCell_other w ⟨b, r, none⟩ ⟨b, q, none⟩ u (fun e => h (Addr.mk.inj e).2.1.symm)
theorem icell_eq {w : World} {b q : Nat} {u v : Value} (h : w.cell? ⟨b, q, none⟩ = some v) : (w.setCell ⟨b, q, none⟩ u).cell? ⟨b, q, none⟩ = some u := by
  simp [go_sem, h]
/-- The marks of a row. -/
def markI : List Int → Int → List Int | [], _ => [] | _ :: r, q => q :: markI r (q + 1)
theorem markI_length (l : List Int) : ∀ q, (markI l q).length = l.length := by
  induction l with
  | nil => intro q; rfl
  | cons d r ih => intro q; simp [markI, ih]
theorem markI_append (a b : List Int) : ∀ q, markI (a ++ b) q = markI a q ++ markI b (q + a.length) := by
  induction a with
  | nil => intro q; simp [markI]
  | cons d r ih => intro q; simp [markI, ih]; congr 1; omega
theorem markI_get (l : List Int) : ∀ (q : Int) (j : Nat) (h : j < (markI l q).length), (markI l q)[j] = q + j := by
  induction l with
  | nil => intro q j h; simp [markI] at h
  | cons d r ih =>
    intro q j h
    cases j with
    | zero => simp [markI]
    | succ j => simp only [markI, List.getElem_cons_succ]; rw [ih]; omega
theorem markI_nil {l : List Int} {q : Int} : markI l q = [] ↔ l = [] := by cases l <;> simp [markI]
theorem iblk_mark (A : Option Addr) (l : List Int) (q : Int) : iblk A (markI l q) = iblk A l := by cases l <;> rfl

set_option maxHeartbeats 400000 in
theorem markI_any (A : Option Addr) (c : Nat) (l : List Int) (lo hi : Nat) (w : World) (q : Int) (hll : l.length ≤ 2000000) (hq0 : 0 ≤ q) (hq : q ≤ 100000000) (ho : IOwn lo hi w A c l) :
    Calls Try.prog 20 #[.slice A l.length c, .int .i64 q] w fun e w' => e = .returned (.int .i64 (q + l.length)) ∧ IOwn lo hi w' A c (markI l q) ∧ Chg (iblk A l) w w' := by
  have hcap := ho.inn.cap
  by_cases hl : l = []
  · subst hl
    go_enter Try.func20, Try.ntmps20
    go_wp2_with fail
    go_loopw [1, 5] (fun v i wr => v = .int .i64 q ∧ i = .int .i64 0 ∧ wr = w) (fun _ _ _ => 0)
    case atStart => exact ⟨rfl, rfl, rfl⟩
    case round =>
      obtain ⟨rfl, rfl, rfl⟩ := hrel
      go_wp2_with fail
      go_ret
      exact ⟨ret_int (by simp), ho, Chg.refl _ _⟩
  · obtain ⟨b, o, rfl, hb, hc⟩ := ho.inn.mem hl
    obtain ⟨hlo, hfz⟩ := ho.own hl b o rfl
    have Hbl := Lib.hid (iblk_some (b := b) (o := o) hl)
    go_enter Try.func20, Try.ntmps20
    go_wp2_with fail
    go_loopw [1, 5] (fun v i wr => ∃ j : Nat, j ≤ l.length ∧ i = .int .i64 j ∧ v = .int .i64 (q + j) ∧ Hid (∀ p u, (markI (l.take j) q ++ l.drop j)[p]? = some u → wr.cell? ⟨b, o + p, none⟩ = some (.int .i64 u)) ∧ Hid (∀ q, wr.frozen? ⟨b, q, none⟩ = false) ∧ Chg [b] w wr) (fun _ i _ => l.length - (intOf i).toNat)
    case atStart => exact ⟨0, Nat.zero_le _, rfl, by simp, by simpa [markI, Hid] using hc, hfz, Chg.refl _ _⟩
    case round =>
      obtain ⟨j, hj, rfl, rfl, HC, HF, hch⟩ := hrel
      by_cases hlt : j < l.length
      · have hpl : (markI (l.take j) q).length = j := by rw [markI_length, List.length_take]; omega
        have c0 := HC.out j l[j] (by rw [List.getElem?_append_right (by omega), hpl, List.drop_eq_getElem_cons hlt]; simp)
        have f0 := HF.out (o + j)
        have HC' : Hid (∀ p u, (markI (l.take (j + 1)) q ++ l.drop (j + 1))[p]? = some u → (wr.setCell ⟨b, o + j, none⟩ (.int .i64 (q + j))).cell? ⟨b, o + p, none⟩ = some (.int .i64 u)) := by
          intro p u hu
          rw [List.take_succ_eq_append_getElem hlt, markI_append, List.append_assoc] at hu
          have hm : (l.take j).length = j := by rw [List.length_take]; omega
          simp only [markI, hm, List.singleton_append] at hu
          by_cases hp : p = j
          · subst hp
            rw [List.getElem?_append_right (by omega), hpl] at hu
            simp at hu
            subst hu
            exact icell_eq c0
          · rw [icell_ne _ _ _ _ _ (by omega)]
            refine HC.out p u ?_
            by_cases hp2 : p < j
            · rw [List.getElem?_append_left (by omega)] at hu ⊢; exact hu
            · rw [List.getElem?_append_right (by omega), hpl] at hu ⊢
              rw [List.drop_eq_getElem_cons hlt]
              obtain ⟨r, hr⟩ : ∃ r, p - j = r + 1 := ⟨p - j - 1, by omega⟩
              rw [hr] at hu ⊢
              simpa [Nat.add_assoc, Nat.add_comm 1 r] using hu
        have HF' : Hid (∀ r, (wr.setCell ⟨b, o + j, none⟩ (.int .i64 (q + j))).frozen? ⟨b, r, none⟩ = false) := by
          intro r
          rw [World.frozen?_setCell]
          exact HF.out r
        clear hpl
        go_wp2_with fail
        refine ⟨⟨j + 1, by omega, by go_num, by go_num, HC', HF', hch.setCell (.inl (by simp)) _⟩, by simp [intOf]; omega⟩
      · have hj' : j = l.length := by omega
        subst hj'
        have HC' := HC.out
        rw [List.take_length, List.drop_length, List.append_nil] at HC'
        have HC2 := Lib.hid HC'
        clear HC'
        go_wp2_with fail
        go_ret
        refine ⟨rfl, ⟨⟨by rw [markI_length]; exact hcap, (by simp), fun _ => ⟨b, o, rfl, hb, HC2.out⟩⟩, fun _ b' o' e => ?_⟩, by rw [Hbl.out]; exact hch⟩
        obtain ⟨rfl, rfl, _⟩ := Addr.mk.inj (Option.some.inj e)
        exact ⟨hlo, HF.out⟩

set_option maxHeartbeats 400000 in
theorem heldI_any (A : Option Addr) (c : Nat) (l : List Int) (B : Nat) (w : World) (q : Int) (hll : l.length ≤ 2000000) (hq0 : 0 ≤ q) (hq : q ≤ 100000000) (hin : IIn w B A c (markI l q)) :
    Calls Try.prog 21 #[.slice A l.length c, .int .i64 q] w fun e w' => e = .returned (.int .i64 (q + l.length)) ∧ w' = w := by
  have hcap := hin.cap
  rw [markI_length] at hcap
  go_enter Try.func21, Try.ntmps21
  go_wp2_with fail
  go_loopw [1, 5] (fun v i wr => ∃ j : Nat, j ≤ l.length ∧ i = .int .i64 j ∧ v = .int .i64 (q + j) ∧ wr = w) (fun _ i _ => l.length - (intOf i).toNat)
  case atStart => exact ⟨0, Nat.zero_le _, rfl, by simp, rfl⟩
  case round =>
    obtain ⟨j, hj, rfl, rfl, rfl⟩ := hrel
    by_cases hlt : j < l.length
    · obtain ⟨b, o, rfl, hblk, c0⟩ := hin.at_ (i := j) (by rw [markI_length]; exact hlt)
      rw [markI_get] at c0
      have g2 : (j : Int) < (l.length : Int) := by omega
      go_wp2_with fail
      refine ⟨⟨j + 1, by omega, by go_num, by go_num, by first | rfl | trivial⟩, by simp [intOf]; omega⟩
    · have hj' : j = l.length := by omega
      subst hj'
      go_wp2_with fail
      go_ret
      exact ⟨rfl, rfl⟩

end Go.Proofs.Ytpigpncbjckbcaa
