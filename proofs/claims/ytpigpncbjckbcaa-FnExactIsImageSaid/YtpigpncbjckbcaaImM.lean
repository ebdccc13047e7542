/-
  The depths of the stack: the math; where the code goes on (written by gen/imd.py).
-/
import Derived.Test.YtpigpncbjckbcaaImC
import Derived.Test.YtpigpncbjckbcaaBase
import Derived.Test.YtpigpncbjckbcaaInts
import Derived.Deep.DeepCutAuto
namespace Go.Proofs.Ytpigpncbjckbcaa
open Go.RowKit

theorem Cd.okAt_sp {cs : List Cd} {k : Nat} {c : Cd} (h : ∀ j : Nat, j < k → (Cd.at' cs (j : Int)).p ≤ 8) : Cd.okAt true cs k c = Cd.okAt false cs k c := by
  unfold Cd.okAt
  congr 1
  have hx : ∀ x : Nt, Nt.good true cs k c x = Nt.good false cs k c x := fun x => by
    cases hok : x.ok
    · unfold Nt.good; rw [hok]; rfl
    · obtain ⟨_, hi0, _⟩ := Nt.ok_out hok
      unfold Nt.good Nt.within wthn
      congr 1
      by_cases h11 : x.o = 11
      · by_cases hk : x.i < (k : Int)
        · have := h x.i.toNat (by omega)
          rw [Int.toNat_of_nonneg hi0] at this
          simp [h11, hk, this]
        · simp [h11, hk]
      · simp [h11]
  rw [funext hx]
theorem Cd.okTo_sp (cs : List Cd) (n : Nat) : Cd.okTo true cs n = Cd.okTo false cs n := by
  induction n with
  | zero => rfl
  | succ n ih =>
    rw [Cd.okTo_succ, Cd.okTo_succ, ih]
    cases h : Cd.okTo false cs n
    · rfl
    · congr 1
      refine Cd.okAt_sp fun j hj => ?_
      have := Cd.okTo_le false cs h hj
      unfold Cd.okAt at this
      simp only [Bool.and_eq_true] at this
      exact (Cd.hdr_out this.1).1.2
/-- A way arrives at an instruction. -/
def dArr (ds : List Int) (i nx d : Int) : Option (List Int) :=
  if nx ≤ i ∨ (ds.length : Int) ≤ nx then none else if 0 ≤ ds.getD nx.toNat 0 ∧ ds.getD nx.toNat 0 ≠ d then none else some (ds.set nx.toNat d)
/-- Where the code goes on. -/
def dFol (ds : List Int) (i o a d : Int) : Option (List Int) :=
  if o = 14 ∨ o = 13 then (if d = 0 then some ds else none) else if o = 15 then dArr ds i a d
  else if o = 16 then (dArr ds i (i + 1) d).bind fun ds' => dArr ds' i a d else dArr ds i (i + 1) d
def dStep (cs : List Cd) (ds : List Int) (i : Nat) (x : Nt) : Option (List Int) :=
  if ds.getD i 0 < 0 then some ds
  else if ds.getD i 0 < (x.eff cs).1 ∨ 500 < ds.getD i 0 - (x.eff cs).1 + (x.eff cs).2 then none
  else dFol ds i x.o x.i (ds.getD i 0 - (x.eff cs).1 + (x.eff cs).2)
def dRun (cs : List Cd) : List Nt → Nat → List Int → Option (List Int) | [], _, ds => some ds | x :: r, i, ds => (dStep cs ds i x).bind (dRun cs r (i + 1))
/-- The depths of a code's stack. -/
def Cd.depths (cs : List Cd) (c : Cd) : Option (List Int) := if c.l.length = 0 then Option.none else dRun cs c.l 0 (0 :: List.replicate (c.l.length - 1) (-1))
theorem dArr_len {ds ds' : List Int} {i nx d : Int} (h : dArr ds i nx d = some ds') : ds'.length = ds.length := by
  unfold dArr at h
  split at h
  · cases h
  · split at h
    · cases h
    · cases h; simp
theorem dFol_len {ds ds' : List Int} {i o a d : Int} (h : dFol ds i o a d = some ds') : ds'.length = ds.length := by
  unfold dFol at h
  split at h
  · split at h
    · cases h; rfl
    · cases h
  · split at h
    · exact dArr_len h
    · split at h
      · cases h1 : dArr ds i (i + 1) d with
        | none => rw [h1] at h; cases h
        | some e => rw [h1] at h; rw [← dArr_len h1]; exact dArr_len h
      · exact dArr_len h
theorem dStep_len {cs : List Cd} {ds ds' : List Int} {i : Nat} {x : Nt} (h : dStep cs ds i x = some ds') : ds'.length = ds.length := by
  unfold dStep at h
  split at h
  · cases h; rfl
  · split at h
    · cases h
    · exact dFol_len h
/-- Every depth is an honest one. -/
def dOk (ds : List Int) : Prop := ∀ v ∈ ds, -1 ≤ v ∧ v ≤ 500
theorem dOk_getD {ds : List Int} (h : dOk ds) (i : Nat) : -1 ≤ ds.getD i 0 ∧ ds.getD i 0 ≤ 500 := by
  rw [List.getD_eq_getElem?_getD]
  cases e : ds[i]? with
  | none => exact ⟨by decide, by decide⟩
  | some v => exact h v (List.mem_of_getElem? e)
theorem dOk_set {ds : List Int} (h : dOk ds) (i : Nat) {v : Int} (hv : -1 ≤ v ∧ v ≤ 500) : dOk (ds.set i v) := fun u hu => by
  rcases List.mem_or_eq_of_mem_set hu with hu | rfl
  · exact h u hu
  · exact hv
theorem dArr_ok {ds ds' : List Int} {i nx d : Int} (hd : -1 ≤ d ∧ d ≤ 500) (hk : dOk ds) (h : dArr ds i nx d = some ds') : dOk ds' := by
  unfold dArr at h
  split at h
  · cases h
  · split at h
    · cases h
    · cases h; exact dOk_set hk _ hd
theorem dFol_ok {ds ds' : List Int} {i o a d : Int} (hd : -1 ≤ d ∧ d ≤ 500) (hk : dOk ds) (h : dFol ds i o a d = some ds') : dOk ds' := by
  unfold dFol at h
  split at h
  · split at h
    · cases h; exact hk
    · cases h
  · split at h
    · exact dArr_ok hd hk h
    · split at h
      · cases h1 : dArr ds i (i + 1) d with
        | none => rw [h1] at h; cases h
        | some e => rw [h1] at h; exact dArr_ok hd (dArr_ok hd hk h1) h
      · exact dArr_ok hd hk h
theorem dStep_ok {cs : List Cd} {ds ds' : List Int} {i : Nat} {x : Nt} (he : 0 ≤ (x.eff cs).1 ∧ 0 ≤ (x.eff cs).2) (hk : dOk ds) (h : dStep cs ds i x = some ds') : dOk ds' := by
  unfold dStep at h
  split at h
  · cases h; exact hk
  · split at h
    · cases h
    · rename_i h1 h2
      rw [not_or] at h2
      exact dFol_ok ⟨by omega, by omega⟩ hk h
/-- A row of ints in a block of its own. -/
def MR (w : World) (g : Nat) (ds : List Int) : Prop := D.Blk w g 3 (ds.map (Value.int .i64)).toArray
theorem MR.lt {w : World} {g : Nat} {ds : List Int} (h : MR w g ds) : g < w.heap.size := D.Blk.lt h
theorem MR.cell {w : World} {g : Nat} {ds : List Int} (h : MR w g ds) {i : Nat} (hi : i < ds.length) : w.cell? ⟨g, i, none⟩ = some (.int .i64 (ds.getD i 0)) := by
  rw [D.Blk.cell h]
  simp [hi, List.getD_eq_getElem?_getD]
theorem MR.frozen {w : World} {g : Nat} {ds : List Int} (h : MR w g ds) (i : Nat) : w.frozen? ⟨g, i, none⟩ = false := D.Blk.frozen h i
theorem MR.set {w : World} {g : Nat} {ds : List Int} (h : MR w g ds) (i : Nat) (v : Int) : MR (w.setCell ⟨g, i, none⟩ (.int .i64 v)) g (ds.set i v) := by
  have := D.Blk.set_ h i (.int .i64 v)
  unfold MR
  simpa using this
theorem MR.below {w w' : World} {g B : Nat} {ds : List Int} (h : MR w g ds) (hb : Below B w w') (hg : g < B) : MR w' g ds := D.Blk.below h hb hg
theorem MR.keep {w w' : World} {g : Nat} {ds : List Int} (h : MR w g ds) (e : w'.heap[g]? = w.heap[g]?) : MR w' g ds := e.trans h
theorem MR.own {w : World} {g lo hi : Nat} {ds : List Int} (h : MR w g ds) (hlo : lo ≤ g) (hhi : g < hi) (hn : ds.length ≤ 9223372036854775807) : IOwn lo hi w (some ⟨g, 0, none⟩) ds.length ds := by
  refine ⟨⟨⟨Nat.le_refl _, hn⟩, fun e => (by cases e), fun _ => ⟨g, 0, rfl, hhi, fun j u hu => ?_⟩⟩, fun _ b o e => ?_⟩
  · rw [Nat.zero_add, D.Blk.cell h]
    simp [hu]
  · cases e
    exact ⟨hlo, fun q => D.Blk.frozen h q⟩
/-- What a call answers that writes into the row. -/
def RetArr (r : Option (List Int)) (g : Nat) (w : World) (e : Ending) (w' : World) : Prop := e = .returned (.bool r.isSome) ∧ Chg [g] w w' ∧ ∀ ds', r = some ds' → MR w' g ds'
theorem RetArr.no {g : Nat} {w w' : World} (h : Chg [g] w w') : RetArr none g w (.returned (.bool false)) w' := ⟨rfl, h, fun _ h => (by cases h)⟩
theorem RetArr.yes {g : Nat} {w w' : World} {ds : List Int} (h : Chg [g] w w') (hm : MR w' g ds) : RetArr (some ds) g w (.returned (.bool true)) w' := ⟨rfl, h, fun _ h => (by cases h; exact hm)⟩
theorem RetArr.to {r : Option (List Int)} {g : Nat} {a w w' : World} {e : Ending} (h : RetArr r g w e w') (hc : Chg [g] a w) : RetArr r g a e w' := ⟨h.1, hc.trans h.2.1, h.2.2⟩

set_option maxRecDepth 100000 in
set_option maxHeartbeats 2000000 in
theorem arrive_any (ds : List Int) (g : Nat) (i nx d : Int) (w : World) (hi : 0 ≤ i) (_hn : ds.length ≤ 4000) (hm : MR w g ds) :
    Calls Try.prog 66 #[.slice (some ⟨g, 0, none⟩) ds.length ds.length, .int .i64 i, .int .i64 nx, .int .i64 d] w (RetArr (dArr ds i nx d) g w) := by
  by_cases h1 : nx ≤ i
  · have HQ : Hid (dArr ds i nx d = none) := by show _ = _; unfold dArr; rw [if_pos (.inl h1)]
    have h1d := decide_eq_true h1
    rw [HQ.out]
    go_enter Try.func66, Try.ntmps66
    go_wp2_with fail
    go_ret
    exact RetArr.no (Chg.refl _ _)
  · by_cases h2 : (ds.length : Int) ≤ nx
    · have HQ : Hid (dArr ds i nx d = none) := by show _ = _; unfold dArr; rw [if_pos (.inr h2)]
      rw [HQ.out]
      go_enter Try.func66, Try.ntmps66
      go_wp2_with fail
      go_ret
      exact RetArr.no (Chg.refl _ _)
    · obtain ⟨j, rfl⟩ : ∃ j : Nat, nx = j := ⟨nx.toNat, by omega⟩
      have hj : j < ds.length := by omega
      have hcl := hm.cell hj
      have hf := hm.frozen j
      have hj0 : (0 : Int) ≤ (j : Int) := by omega
      have hj1 : (j : Int) < (ds.length : Int) := by omega
      have HD : Hid (dArr ds i j d = if 0 ≤ ds.getD j 0 ∧ ds.getD j 0 ≠ d then none else some (ds.set j d)) := by show _ = _; unfold dArr; rw [if_neg (by omega), Int.toNat_natCast]
      have HM := Lib.hid hm
      obtain ⟨v, hv⟩ : ∃ v, v = ds.getD j 0 := ⟨_, rfl⟩
      rw [← hv] at hcl HD
      clear hv hm
      by_cases h3 : 0 ≤ v
      · by_cases h4 : v = d
        · subst h4
          have hq : (v != v) = false := by simp
          have HQ : Hid (dArr ds i j v = some (ds.set j v)) := by show _ = _; rw [HD.out, if_neg (by simp)]
          rw [HQ.out]
          clear HD
          go_enter Try.func66, Try.ntmps66
          go_wp2_with fail
          go_ret
          exact RetArr.yes ((Chg.refl _ _).setCell (.inl (by simp)) _) (HM.out.set j v)
        · have hq : (v != d) = true := by simpa using h4
          have HQ : Hid (dArr ds i j d = none) := by show _ = _; rw [HD.out, if_pos ⟨h3, h4⟩]
          rw [HQ.out]
          clear HD
          go_enter Try.func66, Try.ntmps66
          go_wp2_with fail
          go_ret
          exact RetArr.no (Chg.refl _ _)
      · have HQ : Hid (dArr ds i j d = some (ds.set j d)) := by show _ = _; rw [HD.out, if_neg (fun h => h3 h.1)]
        rw [HQ.out]
        clear HD
        go_enter Try.func66, Try.ntmps66
        go_wp2_with fail
        go_ret
        exact RetArr.yes ((Chg.refl _ _).setCell (.inl (by simp)) _) (HM.out.set j d)

set_option maxRecDepth 100000 in
set_option maxHeartbeats 2000000 in
theorem follow_ret (ds : List Int) (g : Nat) (i d : Int) (x : Nt) (w : World) (_hi : 0 ≤ i) (_hi2 : i ≤ 4000) (_hn : ds.length ≤ 4000) (hm : MR w g ds) (ho : x.o = 14 ∨ x.o = 13) :
    Calls Try.prog 51 #[.slice (some ⟨g, 0, none⟩) ds.length ds.length, .int .i64 i, Nt.val x, .int .i64 d] w (RetArr (dFol ds i x.o x.i d) g w) := by
  obtain ⟨W1, hW1⟩ : ∃ W1, W1 = w.alloc (.cells #[.int .i64 x.o, .int .i64 x.i, .int .i64 x.t.k, .int .i64 x.t.n, .string x.t.t, .slice x.t.A x.t.l.length x.t.c] 53) := ⟨_, rfl⟩
  have b1 : Below w.heap.size w W1 := by rw [hW1]; exact (Below.refl _ _).alloc (Nat.le_refl _) _
  have z1 : w.heap.size < W1.heap.size := by rw [hW1]; simp
  have xb : Nt.Box W1 w.heap.size x := by rw [hW1]; exact Nt.Box.new _ _ _
  have hm1 := hm.below b1 hm.lt
  have hgl := hm.lt
  have c1 : Chg [g] w W1 := Chg.of_below b1
  have XB := Lib.hid xb
  unfold Nt.val
  obtain ⟨d0, d1, d2, d3, d4, d5⟩ := xb
  have HD : Hid (dFol ds i x.o x.i d = if d = 0 then some ds else none) := by show _ = _; unfold dFol; rw [if_pos ho]
  have HM := Lib.hid hm1
  clear hm1 hm
  by_cases hd : d = 0
  · skip
    have hdb : (d == 0) = true := by simp [hd]
    have HQ : Hid (dFol ds i x.o x.i d = some ds) := by show _ = _; rw [HD.out, if_pos hd]
    rw [HQ.out]
    clear HD hd
    rcases ho with ho | ho
    · skip
      have e14 : (x.o == 14) = true := by rw [ho]; rfl
      clear ho
      go_enter Try.func51, Try.ntmps51
      go_upto_region 1 with fail
      rw [← hW1]
      clear hW1
      go_wp2_with fail
      go_ret
      exact RetArr.yes c1 HM.out
    · skip
      have e14 : (x.o == 14) = false := by rw [ho]; rfl
      have e13 : (x.o == 13) = true := by rw [ho]; rfl
      clear ho
      go_enter Try.func51, Try.ntmps51
      go_upto_region 1 with fail
      rw [← hW1]
      clear hW1
      go_wp2_with fail
      go_ret
      exact RetArr.yes c1 HM.out
  · skip
    have hdb : (d == 0) = false := by simp [hd]
    have HQ : Hid (dFol ds i x.o x.i d = none) := by show _ = _; rw [HD.out, if_neg hd]
    rw [HQ.out]
    clear HD hd
    rcases ho with ho | ho
    · skip
      have e14 : (x.o == 14) = true := by rw [ho]; rfl
      clear ho
      go_enter Try.func51, Try.ntmps51
      go_upto_region 1 with fail
      rw [← hW1]
      clear hW1
      go_wp2_with fail
      go_ret
      exact RetArr.no c1
    · skip
      have e14 : (x.o == 14) = false := by rw [ho]; rfl
      have e13 : (x.o == 13) = true := by rw [ho]; rfl
      clear ho
      go_enter Try.func51, Try.ntmps51
      go_upto_region 1 with fail
      rw [← hW1]
      clear hW1
      go_wp2_with fail
      go_ret
      exact RetArr.no c1

set_option maxRecDepth 100000 in
set_option maxHeartbeats 2000000 in
theorem follow_jump (ds : List Int) (g : Nat) (i d : Int) (x : Nt) (w : World) (hi : 0 ≤ i) (_hi2 : i ≤ 4000) (hn : ds.length ≤ 4000) (hm : MR w g ds) (ho : x.o = 15) :
    Calls Try.prog 51 #[.slice (some ⟨g, 0, none⟩) ds.length ds.length, .int .i64 i, Nt.val x, .int .i64 d] w (RetArr (dFol ds i x.o x.i d) g w) := by
  obtain ⟨W1, hW1⟩ : ∃ W1, W1 = w.alloc (.cells #[.int .i64 x.o, .int .i64 x.i, .int .i64 x.t.k, .int .i64 x.t.n, .string x.t.t, .slice x.t.A x.t.l.length x.t.c] 53) := ⟨_, rfl⟩
  have b1 : Below w.heap.size w W1 := by rw [hW1]; exact (Below.refl _ _).alloc (Nat.le_refl _) _
  have z1 : w.heap.size < W1.heap.size := by rw [hW1]; simp
  have xb : Nt.Box W1 w.heap.size x := by rw [hW1]; exact Nt.Box.new _ _ _
  have hm1 := hm.below b1 hm.lt
  have hgl := hm.lt
  have c1 : Chg [g] w W1 := Chg.of_below b1
  have XB := Lib.hid xb
  unfold Nt.val
  obtain ⟨d0, d1, d2, d3, d4, d5⟩ := xb
  have e14 : (x.o == 14) = false := by rw [ho]; rfl
  have e13 : (x.o == 13) = false := by rw [ho]; rfl
  have e15 : (x.o == 15) = true := by rw [ho]; rfl
  have HD : Hid (dFol ds i x.o x.i d = dArr ds i x.i d) := by show _ = _; unfold dFol; rw [if_neg (by omega), if_pos ho]
  clear ho
  have hc := arrive_any ds g i x.i d W1 hi hn hm1
  clear hm1 hm
  rw [HD.out]
  clear HD
  go_enter Try.func51, Try.ntmps51
  go_upto_region 1 with fail
  rw [← hW1]
  clear hW1
  go_wp2_with fail
  (with_reducible refine hc.mono ?_)
  clear hc
  rintro e w2 hh
  have HH := Lib.hid (hh.to c1)
  obtain ⟨rfl, hb2, hr⟩ := hh
  clear hr
  go_wp2_with fail
  go_ret
  exact HH.out

set_option maxRecDepth 100000 in
set_option maxHeartbeats 2000000 in
theorem follow_go (ds : List Int) (g : Nat) (i d : Int) (x : Nt) (w : World) (hi : 0 ≤ i) (hi2 : i ≤ 4000) (hn : ds.length ≤ 4000) (hm : MR w g ds) (ho : x.o ≠ 13 ∧ x.o ≠ 14 ∧ x.o ≠ 15 ∧ x.o ≠ 16) :
    Calls Try.prog 51 #[.slice (some ⟨g, 0, none⟩) ds.length ds.length, .int .i64 i, Nt.val x, .int .i64 d] w (RetArr (dFol ds i x.o x.i d) g w) := by
  obtain ⟨W1, hW1⟩ : ∃ W1, W1 = w.alloc (.cells #[.int .i64 x.o, .int .i64 x.i, .int .i64 x.t.k, .int .i64 x.t.n, .string x.t.t, .slice x.t.A x.t.l.length x.t.c] 53) := ⟨_, rfl⟩
  have b1 : Below w.heap.size w W1 := by rw [hW1]; exact (Below.refl _ _).alloc (Nat.le_refl _) _
  have z1 : w.heap.size < W1.heap.size := by rw [hW1]; simp
  have xb : Nt.Box W1 w.heap.size x := by rw [hW1]; exact Nt.Box.new _ _ _
  have hm1 := hm.below b1 hm.lt
  have hgl := hm.lt
  have c1 : Chg [g] w W1 := Chg.of_below b1
  have XB := Lib.hid xb
  unfold Nt.val
  obtain ⟨d0, d1, d2, d3, d4, d5⟩ := xb
  obtain ⟨h13, h14, h15, h16⟩ := ho
  have e14 : (x.o == 14) = false := by simpa using h14
  have e13 : (x.o == 13) = false := by simpa using h13
  have e15 : (x.o == 15) = false := by simpa using h15
  have e16 : (x.o == 16) = false := by simpa using h16
  have HD : Hid (dFol ds i x.o x.i d = dArr ds i (i + 1) d) := by show _ = _; unfold dFol; rw [if_neg (by omega), if_neg h15, if_neg h16]
  clear h13 h14 h15 h16
  have hc := arrive_any ds g i (i + 1) d W1 hi hn hm1
  clear hm1 hm
  rw [HD.out]
  clear HD
  go_enter Try.func51, Try.ntmps51
  go_upto_region 1 with fail
  rw [← hW1]
  clear hW1
  go_wp2_with fail
  (with_reducible refine hc.mono ?_)
  clear hc
  rintro e w2 hh
  have HH := Lib.hid (hh.to c1)
  obtain ⟨rfl, hb2, hr⟩ := hh
  clear hr
  go_wp2_with fail
  go_ret
  exact HH.out

set_option maxRecDepth 100000 in
set_option maxHeartbeats 2000000 in
theorem follow_if (ds : List Int) (g : Nat) (i d : Int) (x : Nt) (w : World) (hi : 0 ≤ i) (hi2 : i ≤ 4000) (hn : ds.length ≤ 4000) (hm : MR w g ds) (ho : x.o = 16) :
    Calls Try.prog 51 #[.slice (some ⟨g, 0, none⟩) ds.length ds.length, .int .i64 i, Nt.val x, .int .i64 d] w (RetArr (dFol ds i x.o x.i d) g w) := by
  obtain ⟨W1, hW1⟩ : ∃ W1, W1 = w.alloc (.cells #[.int .i64 x.o, .int .i64 x.i, .int .i64 x.t.k, .int .i64 x.t.n, .string x.t.t, .slice x.t.A x.t.l.length x.t.c] 53) := ⟨_, rfl⟩
  have b1 : Below w.heap.size w W1 := by rw [hW1]; exact (Below.refl _ _).alloc (Nat.le_refl _) _
  have z1 : w.heap.size < W1.heap.size := by rw [hW1]; simp
  have xb : Nt.Box W1 w.heap.size x := by rw [hW1]; exact Nt.Box.new _ _ _
  have hm1 := hm.below b1 hm.lt
  have hgl := hm.lt
  have c1 : Chg [g] w W1 := Chg.of_below b1
  have XB := Lib.hid xb
  unfold Nt.val
  obtain ⟨d0, d1, d2, d3, d4, d5⟩ := xb
  have e14 : (x.o == 14) = false := by rw [ho]; rfl
  have e13 : (x.o == 13) = false := by rw [ho]; rfl
  have e15 : (x.o == 15) = false := by rw [ho]; rfl
  have e16 : (x.o == 16) = true := by rw [ho]; rfl
  have HD : Hid (dFol ds i x.o x.i d = (dArr ds i (i + 1) d).bind fun ds' => dArr ds' i x.i d) := by show _ = _; unfold dFol; rw [if_neg (by omega), if_neg (by omega), if_pos ho]
  clear ho
  have hc := arrive_any ds g i (i + 1) d W1 hi hn hm1
  clear hm1 hm
  rw [HD.out]
  cases hR : dArr ds i (i + 1) d with
  | none =>
    rw [hR] at hc
    have HR := Lib.hid hR
    clear hR
    go_enter Try.func51, Try.ntmps51
    go_upto_region 1 with fail
    rw [← hW1]
    clear hW1
    go_wp2_with fail
    clear d0 d1 d2 d3 d4 d5
    (with_reducible refine hc.mono ?_)
    clear hc
    rintro e w2 ⟨rfl, hb2, hr⟩
    clear hr
    obtain ⟨d0, d1, d2, d3, d4, d5⟩ := XB.out.chg hb2 z1 (by simp; omega)
    go_wp2_with fail
    go_ret
    exact RetArr.no (c1.trans hb2)
  | some es =>
    have hlen := dArr_len hR
    rw [hR] at hc
    clear hR
    go_enter Try.func51, Try.ntmps51
    go_upto_region 1 with fail
    rw [← hW1]
    clear hW1
    go_wp2_with fail
    clear d0 d1 d2 d3 d4 d5
    (with_reducible refine hc.mono ?_)
    clear hc
    rintro e w2 ⟨rfl, hb2, hr⟩
    have hm2 := hr es rfl
    have hc2 := arrive_any es g i x.i d w2 hi (by omega) hm2
    rw [hlen] at hc2
    clear hr hm2
    obtain ⟨d0, d1, d2, d3, d4, d5⟩ := XB.out.chg hb2 z1 (by simp; omega)
    go_wp2_with fail
    (with_reducible refine hc2.mono ?_)
    clear hc2
    rintro e w3 hh
    have HH := Lib.hid (hh.to (c1.trans hb2))
    obtain ⟨rfl, hb3, hr3⟩ := hh
    clear hr3
    go_wp2_with fail
    go_ret
    exact HH.out

theorem follow_any (ds : List Int) (g : Nat) (i d : Int) (x : Nt) (w : World) (hi : 0 ≤ i) (hi2 : i ≤ 4000) (hn : ds.length ≤ 4000) (hm : MR w g ds) :
    Calls Try.prog 51 #[.slice (some ⟨g, 0, none⟩) ds.length ds.length, .int .i64 i, Nt.val x, .int .i64 d] w (RetArr (dFol ds i x.o x.i d) g w) := by
  by_cases h1 : x.o = 14 ∨ x.o = 13
  · exact follow_ret ds g i d x w hi hi2 hn hm h1
  · by_cases h2 : x.o = 15
    · exact follow_jump ds g i d x w hi hi2 hn hm h2
    · by_cases h3 : x.o = 16
      · exact follow_if ds g i d x w hi hi2 hn hm h3
      · exact follow_go ds g i d x w hi hi2 hn hm ⟨fun h => h1 (.inr h), fun h => h1 (.inl h), h2, h3⟩
end Go.Proofs.Ytpigpncbjckbcaa
