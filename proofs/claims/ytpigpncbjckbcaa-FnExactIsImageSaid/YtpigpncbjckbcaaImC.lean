/-
  Valid codes: the program (written by gen/imc.py).
-/
import Derived.Test.YtpigpncbjckbcaaImW
import Derived.Test.YtpigpncbjckbcaaNtV
import Derived.Laws.EntriesVeiled
import Derived.Deep.DeepCutAuto
namespace Go.Proofs.Ytpigpncbjckbcaa
open Go.RowKit

theorem inone_succ {α : Type} {p : α → Bool} {l : List α} {j : Nat} (h : j < l.length) (hn : ∀ x ∈ l.take j, p x = false) (hy : p l[j] = false) : ∀ x ∈ l.take (j + 1), p x = false := by
  intro x hx
  rw [List.take_succ_eq_append_getElem h] at hx
  rcases List.mem_append.1 hx with hx | hx
  · exact hn x hx
  · simp only [List.mem_singleton] at hx
    rw [hx]; exact hy
theorem iany_none {α : Type} {p : α → Bool} {l : List α} (h : ∀ x ∈ l, p x = false) : l.any p = false := by
  rw [List.any_eq_false]
  intro x hx
  simp [h x hx]
theorem iany_yes {α : Type} {p : α → Bool} {l : List α} {j : Nat} (h : j < l.length) (hy : p l[j] = true) : l.any p = true := List.any_eq_true.2 ⟨_, List.getElem_mem h, hy⟩
theorem iall_any {α : Type} (p : α → Bool) (l : List α) : (!(l.any fun x => !p x)) = l.all p := by
  induction l with
  | nil => rfl
  | cons a r ih => simp only [List.any_cons, List.all_cons, Bool.not_or, Bool.not_not, ih]
/-- The bounds of a code. -/
def Cd.hdr (c : Cd) : Bool := decide (0 ≤ c.p ∧ c.p ≤ 8) && (decide (c.p ≤ c.s ∧ c.s ≤ 500) && (decide (0 ≤ c.c ∧ c.c ≤ 500) && decide (1 ≤ c.l.length ∧ c.l.length ≤ 4000)))
theorem Cd.hdr_out {c : Cd} (h : c.hdr = true) : (0 ≤ c.p ∧ c.p ≤ 8) ∧ (c.p ≤ c.s ∧ c.s ≤ 500) ∧ (0 ≤ c.c ∧ c.c ≤ 500) ∧ 1 ≤ c.l.length ∧ c.l.length ≤ 4000 := by
  unfold Cd.hdr at h
  simpa only [Bool.and_eq_true, decide_eq_true_eq] using h
theorem Cd.hdr_no {c : Cd} (h : ¬ ((0 ≤ c.p ∧ c.p ≤ 8) ∧ (c.p ≤ c.s ∧ c.s ≤ 500) ∧ (0 ≤ c.c ∧ c.c ≤ 500) ∧ 1 ≤ c.l.length ∧ c.l.length ≤ 4000)) : c.hdr = false := by
  cases hh : c.hdr
  · rfl
  · exact absurd (Cd.hdr_out hh) h
theorem Cd.hdr_in {c : Cd} (h : (0 ≤ c.p ∧ c.p ≤ 8) ∧ (c.p ≤ c.s ∧ c.s ≤ 500) ∧ (0 ≤ c.c ∧ c.c ≤ 500) ∧ 1 ≤ c.l.length ∧ c.l.length ≤ 4000) : c.hdr = true := by
  unfold Cd.hdr
  simpa only [Bool.and_eq_true, decide_eq_true_eq] using h
/-- An instruction is valid where it stands. -/
def Nt.good (sp : Bool) (cs : List Cd) (k : Nat) (c : Cd) (x : Nt) : Bool := x.ok && x.within sp cs k c
def Cd.okAt (sp : Bool) (cs : List Cd) (k : Nat) (c : Cd) : Bool := c.hdr && c.l.all (Nt.good sp cs k c)
theorem Nt.ok_out {x : Nt} (h : x.ok = true) : (1 ≤ x.o ∧ x.o ≤ 20) ∧ 0 ≤ x.i ∧ x.i ≤ 4000 := by
  by_cases hr : 1 ≤ x.o ∧ x.o ≤ 20
  · by_cases h1 : x.o = 1
    · rw [Nt.ok_one h1] at h
      simp only [Bool.and_eq_true, beq_iff_eq] at h
      exact ⟨hr, by omega, by omega⟩
    · rw [Nt.ok_else hr h1] at h
      simp only [Bool.and_eq_true, decide_eq_true_eq] at h
      have := h.1.2
      unfold Nt.top at this
      exact ⟨hr, h.1.1, by split at this <;> omega⟩
  · rw [Nt.ok_no hr] at h; exact absurd h (by decide)
theorem Im.bulk_code {m : Im} {c : Cd} (h : c ∈ m.l) : c.bulk ≤ m.bulk := by
  have := Row.bulk_mem (f := Cd.bulk) h
  unfold Im.bulk
  omega
theorem Cd.bulk_instr {c : Cd} {x : Nt} (h : x ∈ c.l) : x.t.bulk ≤ c.bulk := by
  have := Row.bulk_mem (f := Nt.bulk) h
  unfold Cd.bulk
  show x.bulk ≤ _
  omega

set_option maxRecDepth 100000 in
set_option maxHeartbeats 2000000 in
theorem conBad_any (V0 V1 : Value) (p : Nt → Bool) (A : Option Addr) (c : Nat) (l : List Nt) (B : Nat) (w : World) (hin : Nt.E.LIn w B A c l) (hB : B ≤ w.heap.size)
    (hcall : Hid (∀ (u : World) (x : Nt), Below w.heap.size w u → x ∈ l → Nt.E.In u B x → Calls Try.prog 67 #[Nt.val x, V0, V1] u fun e w' => e = .returned (.bool (p x)) ∧ Below u.heap.size u w')) :
    Calls Try.prog 70 #[.slice A l.length c, .func (.func 67) #[] #[V0, V1]] w fun e w' => e = .returned (.bool (l.any p)) ∧ Below w.heap.size w w' := by
  have hcap := hin.cap
  have key : Calls Try.prog 85 #[.slice A l.length c, .func (.func 67) #[] #[V0, V1]] w fun e w' => (∃ r : Int, e = .returned (.int .i64 r) ∧ decide (0 ≤ r) = l.any p) ∧ Below w.heap.size w w' := by
    go_enter Try.func85, Try.ntmps85
    go_wp2_with fail
    go_loopw [5, 8] (fun _ i wr => ∃ j : Nat, j ≤ l.length ∧ i = .int .i64 j ∧ Hid (∀ x ∈ l.take j, p x = false) ∧ Below w.heap.size w wr) (fun _ i _ => l.length - (intOf i).toNat)
    case atStart => exact ⟨0, Nat.zero_le _, rfl, by simp [Hid], Below.refl _ _⟩
    case round =>
      obtain ⟨j, hj, rfl, HN, hb⟩ := hrel
      by_cases hlt : j < l.length
      · have hsz := hb.size
        obtain ⟨b, o, rfl, hblk, c0, c1, c2, c3, c4, c5, hix⟩ := Nt.at_ (hin.below (hb.mono hB)) (i := j) (x := l[j]) (List.getElem?_eq_getElem hlt)
        have g2 : (j : Int) < (l.length : Int) := by omega
        have hc := hcall.out wr l[j] hb (List.getElem_mem hlt) hix
        obtain ⟨PB, hPB⟩ : ∃ z, z = p l[j] := ⟨_, rfl⟩
        rw [← hPB] at hc
        have HPB := Lib.hid hPB
        clear hPB
        unfold Nt.val at hc
        go_wp2_with fail
        (with_reducible refine hc.mono ?_)
        clear hc
        rintro e w1 ⟨rfl, hb1⟩
        have hb3 := hb.trans (hb1.mono (by omega))
        clear c0 c1 c2 c3 c4 c5 hb1
        cases PB
        · have HN2 : Hid (∀ x ∈ l.take (j + 1), p x = false) := inone_succ hlt HN.out HPB.out.symm
          go_wp2_with fail
          refine ⟨⟨j + 1, by omega, by go_num, HN2, hb3⟩, by simp [intOf]; omega⟩
        · have HY : Hid (l.any p = true) := iany_yes (p := p) hlt HPB.out.symm
          go_wp2_with fail
          go_ret
          exact ⟨⟨j, rfl, by rw [HY.out]; simp⟩, hb3⟩
      · have hj' : j = l.length := by omega
        subst hj'
        have HF : Hid (l.any p = false) := iany_none (p := p) (by have := HN.out; rwa [List.take_length] at this)
        go_wp2_with fail
        go_ret
        exact ⟨⟨-1, rfl, by rw [HF.out]; rfl⟩, hb⟩
  go_enter Try.func70, Try.ntmps70
  go_wp2_with fail
  (with_reducible refine key.mono ?_)
  rintro e w1 ⟨⟨r, rfl, hr⟩, hb1⟩
  have HR := Lib.hid hr
  clear hr key
  go_wp2_with fail
  go_ret
  exact ⟨ret_bool HR.out, hb1⟩

set_option maxRecDepth 100000 in
set_option maxHeartbeats 2000000 in
theorem isBad_any (m : Im) (c : Cd) (k : Nat) (x : Nt) (pm pk B : Nat) (w : World) (hc : m.l[k]? = some c) (hm : Im.E.In w B m) (hx : Nt.E.In w B x) (hB : B ≤ w.heap.size) (xa : Im.Box w pm m) (hpm : pm < w.heap.size) (xk : w.cell? ⟨pk, 0, none⟩ = some (.int .i64 (k : Int))) (hpk : pk < w.heap.size) :
    Calls Try.prog 67 #[Nt.val x, .pointer (some ⟨pm, 0, none⟩), .pointer (some ⟨pk, 0, none⟩)] w fun e w' => e = .returned (.bool (!(Nt.good false m.l k c x))) ∧ Below w.heap.size w w' := by
  obtain ⟨W1, hW1⟩ : ∃ W1, W1 = w.alloc (.cells #[.int .i64 x.o, .int .i64 x.i, .int .i64 x.t.k, .int .i64 x.t.n, .string x.t.t, .slice x.t.A x.t.l.length x.t.c] 53) := ⟨_, rfl⟩
  have b1 : Below w.heap.size w W1 := by rw [hW1]; exact (Below.refl _ _).alloc (Nat.le_refl _) _
  have z1 : w.heap.size < W1.heap.size := by rw [hW1]; simp
  have xb : Nt.Box W1 w.heap.size x := by rw [hW1]; exact Nt.Box.new _ _ _
  have XM := xa.below b1 hpm
  have XK := (b1.cell (p := ⟨pk, 0, none⟩) hpk).trans xk
  have hv := isValid_any x B W1 (hx.below (b1.mono hB)) (by omega)
  have HM := Lib.hid (hm.below (b1.mono hB))
  have XB := Lib.hid xb
  have XMh := Lib.hid XM
  have XKh := Lib.hid XK
  cases hok : x.ok
  · have HQ : Hid ((!(Nt.good false m.l k c x)) = true) := by show _ = _; unfold Nt.good; rw [hok]; rfl
    rw [hok] at hv
    unfold Nt.val at hv ⊢
    obtain ⟨d0, d1, d2, d3, d4, d5⟩ := xb
    clear hok XM XK
    go_enter Try.func67, Try.ntmps67
    go_upto_region 1 with fail
    rw [← hW1]
    clear hW1
    go_wp2_with fail
    (with_reducible refine hv.mono ?_)
    rintro e w2 ⟨rfl, hb2⟩
    go_wp2_with fail
    go_ret
    exact ⟨ret_bool HQ.out.symm, b1.trans (hb2.mono (by omega))⟩
  · obtain ⟨ho, hi0, hi1⟩ := Nt.ok_out hok
    have HQ : Hid ((!(Nt.good false m.l k c x)) = !(x.within false m.l k c)) := by show _ = _; unfold Nt.good; rw [hok]; rfl
    have HW : Hid (∀ u : World, Below W1.heap.size W1 u → Calls Try.prog 69 #[Im.val m, .int .i64 (k : Int), Nt.val x] u fun e w' => e = .returned (.bool (x.within false m.l k c)) ∧ Below u.heap.size u w') :=
      fun u hu => implWi_any m c k x B u hc ho hi0 hi1 (HM.out.below (hu.mono (by omega))) (by have := hu.size; omega)
    obtain ⟨X, hX⟩ : ∃ X, X = x.within false m.l k c := ⟨_, rfl⟩
    rw [← hX] at HQ HW
    clear hX ho hi0 hi1
    rw [hok] at hv
    unfold Nt.val at hv HW ⊢
    unfold Im.val at HW
    obtain ⟨d0, d1, d2, d3, d4, d5⟩ := xb
    clear hok XM XK
    go_enter Try.func67, Try.ntmps67
    go_upto_region 1 with fail
    rw [← hW1]
    clear hW1
    go_wp2_with fail
    clear d0 d1 d2 d3 d4 d5
    (with_reducible refine hv.mono ?_)
    rintro e w2 ⟨rfl, hb2⟩
    have z2 := hb2.size
    obtain ⟨d0, d1, d2, d3, d4, d5⟩ := XB.out.below hb2 z1
    obtain ⟨a0, a1⟩ := XMh.out.below hb2 (by omega)
    have k0 := (hb2.cell (p := ⟨pk, 0, none⟩) (show pk < W1.heap.size by omega)).trans XKh.out
    go_wp2_with fail
    (with_reducible refine (HW.out _ hb2).mono ?_)
    rintro e w3 ⟨rfl, hb3⟩
    go_wp2_with fail
    go_ret
    exact ⟨ret_bool HQ.out.symm, b1.trans ((hb2.trans (hb3.mono z2)).mono (by omega))⟩

set_option maxRecDepth 100000 in
set_option maxHeartbeats 4000000 in
theorem isCode_any (m : Im) (c : Cd) (k : Nat) (B : Nat) (w : World) (hc : m.l[k]? = some c) (hin : Im.E.In w B m) (hB : B ≤ w.heap.size) :
    Calls Try.prog 52 #[Im.val m, .int .i64 (k : Int)] w fun e w' => e = .returned (.bool (Cd.okAt false m.l k c)) ∧ Below w.heap.size w w' := by
  obtain ⟨W1, hW1⟩ : ∃ W1, W1 = (w.alloc (.cells #[.slice m.lA m.l.length m.lC, .int .i64 m.m] 31)).alloc (.cells #[.int .i64 (k : Int)] 3) := ⟨_, rfl⟩
  have b1 : Below w.heap.size w W1 := by rw [hW1]; exact ((Below.refl _ _).alloc (Nat.le_refl _) _).alloc (by simp) _
  have z1 : w.heap.size + 2 ≤ W1.heap.size := by rw [hW1]; simp
  have xa : Im.Box W1 w.heap.size m := by rw [hW1]; exact (Im.Box.new w m _).below ((Below.refl (w.heap.size + 1) _).alloc (by simp) _) (by omega)
  have xk : W1.cell? ⟨w.heap.size + 1, 0, none⟩ = some (.int .i64 (k : Int)) := by rw [hW1]; simp
  have hcs := (Im.E_in (hin.below (b1.mono hB))).l
  have hkl : k < m.l.length := (List.getElem?_eq_some_iff.1 hc).1
  obtain ⟨cb, co, eC, hblk, c0, c1, c2, c3, hci⟩ := Cd.at_ hcs (i := k) (x := c) hc
  obtain ⟨W2, hW2⟩ : ∃ W2, W2 = W1.alloc (.cells #[.int .i64 c.p, .int .i64 c.s, .int .i64 c.c, .slice c.lA c.l.length c.lC] 48) := ⟨_, rfl⟩
  have b2 : Below W1.heap.size W1 W2 := by rw [hW2]; exact (Below.refl _ _).alloc (Nat.le_refl _) _
  have z2 : W1.heap.size + 1 ≤ W2.heap.size := by rw [hW2]; simp
  have xc : Cd.Box W2 W1.heap.size c := by rw [hW2]; exact Cd.Box.new _ _ _
  have xa2 := xa.below b2 (by omega)
  have XA := Lib.hid xa2
  have HI2 := Lib.hid ((hin.below (b1.mono hB)).below (b2.mono (by omega)))
  have HL2 := Lib.hid ((Cd.E_in (hci.below (b2.mono (by omega)))).l)
  have b3 : Below w.heap.size w W2 := b1.trans (b2.mono (by omega))
  have hcap := hcs.cap
  have hcapl := HL2.out.cap
  obtain ⟨a0, a1⟩ := xa
  rw [eC] at a0
  clear eC hci
  have lk0 : (0 : Int) ≤ (k : Int) := by omega
  have lk : (k : Int) < (m.l.length : Int) := by omega
  have lb : cb < W1.heap.size := by omega
  have la : w.heap.size < W1.heap.size := by omega
  have XK := Lib.hid ((b2.cell (p := ⟨w.heap.size + 1, 0, none⟩) (show w.heap.size + 1 < W1.heap.size by omega)).trans xk)
  have lx : w.heap.size + 1 < W1.heap.size := by omega
  unfold Im.val
  by_cases h0 : c.p < 0
  · skip
    have HH : c.hdr = false := Cd.hdr_no (by omega)
    have HQ : Hid (Cd.okAt false m.l k c = false) := by show _ = _; unfold Cd.okAt; rw [HH]; rfl
    clear HH
    go_enter Try.func52, Try.ntmps52
    go_upto_region 1 with fail
    rw [← hW1]
    clear hW1
    go_upto_region 2 with fail
    rw [← hW2]
    clear hW2 a0 a1 xk c0 c1 c2 c3 lb la lx
    obtain ⟨c0, c1, c2, c3⟩ := xc
    go_wp2_with fail
    go_ret
    exact ⟨ret_bool HQ.out.symm, b3⟩
  · skip
    by_cases h1 : 8 < c.p
    · skip
      have HH : c.hdr = false := Cd.hdr_no (by omega)
      have HQ : Hid (Cd.okAt false m.l k c = false) := by show _ = _; unfold Cd.okAt; rw [HH]; rfl
      clear HH
      go_enter Try.func52, Try.ntmps52
      go_upto_region 1 with fail
      rw [← hW1]
      clear hW1
      go_upto_region 2 with fail
      rw [← hW2]
      clear hW2 a0 a1 xk c0 c1 c2 c3 lb la lx
      obtain ⟨c0, c1, c2, c3⟩ := xc
      go_wp2_with fail
      go_ret
      exact ⟨ret_bool HQ.out.symm, b3⟩
    · skip
      by_cases h2 : c.s < c.p
      · skip
        have HH : c.hdr = false := Cd.hdr_no (by omega)
        have HQ : Hid (Cd.okAt false m.l k c = false) := by show _ = _; unfold Cd.okAt; rw [HH]; rfl
        clear HH
        go_enter Try.func52, Try.ntmps52
        go_upto_region 1 with fail
        rw [← hW1]
        clear hW1
        go_upto_region 2 with fail
        rw [← hW2]
        clear hW2 a0 a1 xk c0 c1 c2 c3 lb la lx
        obtain ⟨c0, c1, c2, c3⟩ := xc
        go_wp2_with fail
        go_ret
        exact ⟨ret_bool HQ.out.symm, b3⟩
      · skip
        by_cases h3 : 500 < c.s
        · skip
          have HH : c.hdr = false := Cd.hdr_no (by omega)
          have HQ : Hid (Cd.okAt false m.l k c = false) := by show _ = _; unfold Cd.okAt; rw [HH]; rfl
          clear HH
          go_enter Try.func52, Try.ntmps52
          go_upto_region 1 with fail
          rw [← hW1]
          clear hW1
          go_upto_region 2 with fail
          rw [← hW2]
          clear hW2 a0 a1 xk c0 c1 c2 c3 lb la lx
          obtain ⟨c0, c1, c2, c3⟩ := xc
          go_wp2_with fail
          go_ret
          exact ⟨ret_bool HQ.out.symm, b3⟩
        · skip
          by_cases h4 : c.c < 0
          · skip
            have HH : c.hdr = false := Cd.hdr_no (by omega)
            have HQ : Hid (Cd.okAt false m.l k c = false) := by show _ = _; unfold Cd.okAt; rw [HH]; rfl
            clear HH
            go_enter Try.func52, Try.ntmps52
            go_upto_region 1 with fail
            rw [← hW1]
            clear hW1
            go_upto_region 2 with fail
            rw [← hW2]
            clear hW2 a0 a1 xk c0 c1 c2 c3 lb la lx
            obtain ⟨c0, c1, c2, c3⟩ := xc
            go_wp2_with fail
            go_ret
            exact ⟨ret_bool HQ.out.symm, b3⟩
          · skip
            by_cases h5 : 500 < c.c
            · skip
              have HH : c.hdr = false := Cd.hdr_no (by omega)
              have HQ : Hid (Cd.okAt false m.l k c = false) := by show _ = _; unfold Cd.okAt; rw [HH]; rfl
              clear HH
              go_enter Try.func52, Try.ntmps52
              go_upto_region 1 with fail
              rw [← hW1]
              clear hW1
              go_upto_region 2 with fail
              rw [← hW2]
              clear hW2 a0 a1 xk c0 c1 c2 c3 lb la lx
              obtain ⟨c0, c1, c2, c3⟩ := xc
              go_wp2_with fail
              go_ret
              exact ⟨ret_bool HQ.out.symm, b3⟩
            · skip
              by_cases h6 : c.l.length = 0
              · skip
                have HH : c.hdr = false := Cd.hdr_no (by omega)
                have HQ : Hid (Cd.okAt false m.l k c = false) := by show _ = _; unfold Cd.okAt; rw [HH]; rfl
                clear HH
                have h6b : ((c.l.length : Int) == 0) = true := by simp [h6]
                have H6 := Lib.hid h6
                clear h6
                go_enter Try.func52, Try.ntmps52
                go_upto_region 1 with fail
                rw [← hW1]
                clear hW1
                go_upto_region 2 with fail
                rw [← hW2]
                clear hW2 a0 a1 xk c0 c1 c2 c3 lb la lx
                obtain ⟨c0, c1, c2, c3⟩ := xc
                have h6c := H6.out
                go_wp2_with fail
                go_ret
                exact ⟨ret_bool HQ.out.symm, b3⟩
              · skip
                by_cases h7 : 4000 < c.l.length
                · skip
                  have HH : c.hdr = false := Cd.hdr_no (by omega)
                  have HQ : Hid (Cd.okAt false m.l k c = false) := by show _ = _; unfold Cd.okAt; rw [HH]; rfl
                  clear HH
                  go_enter Try.func52, Try.ntmps52
                  go_upto_region 1 with fail
                  rw [← hW1]
                  clear hW1
                  go_upto_region 2 with fail
                  rw [← hW2]
                  clear hW2 a0 a1 xk c0 c1 c2 c3 lb la lx
                  obtain ⟨c0, c1, c2, c3⟩ := xc
                  go_wp2_with fail
                  go_ret
                  exact ⟨ret_bool HQ.out.symm, b3⟩
                · skip
                  have HH : c.hdr = true := Cd.hdr_in (by omega)
                  have h6b : ((c.l.length : Int) == 0) = false := beq_eq_false_iff_ne.2 (by omega)
                  obtain ⟨X, hX⟩ : ∃ X, X = c.l.any (fun x => !(Nt.good false m.l k c x)) := ⟨_, rfl⟩
                  have HQ : Hid (Cd.okAt false m.l k c = !X) := by show _ = _; unfold Cd.okAt; rw [HH, hX, iall_any]; rfl
                  clear HH
                  have HCON : Hid (Calls Try.prog 70 #[.slice c.lA c.l.length c.lC, .func (.func 67) #[] #[.pointer (some ⟨w.heap.size, 0, none⟩), .pointer (some ⟨w.heap.size + 1, 0, none⟩)]] W2 fun e w' => e = .returned (.bool X) ∧ Below W2.heap.size W2 w') := by
                    show Calls _ _ _ _ _
                    rw [hX]
                    refine conBad_any (.pointer (some ⟨w.heap.size, 0, none⟩)) (.pointer (some ⟨w.heap.size + 1, 0, none⟩)) (fun x => !(Nt.good false m.l k c x)) c.lA c.lC c.l B W2 HL2.out (by omega) (Lib.hid fun u x hu _ hxi => ?_)
                    have hz := hu.size
                    exact isBad_any m c k x w.heap.size (w.heap.size + 1) B u hc (HI2.out.below (hu.mono (by omega))) hxi (by omega) (XA.out.below hu (by omega)) (by omega) ((hu.cell (p := ⟨w.heap.size + 1, 0, none⟩) (show w.heap.size + 1 < W2.heap.size by omega)).trans XK.out) (by omega)
                  clear hX
                  go_enter Try.func52, Try.ntmps52
                  go_upto_region 1 with fail
                  rw [← hW1]
                  clear hW1
                  go_upto_region 2 with fail
                  rw [← hW2]
                  clear hW2 a0 a1 xk c0 c1 c2 c3 lb la lx
                  obtain ⟨c0, c1, c2, c3⟩ := xc
                  go_wp2_with fail
                  clear c0 c1 c2 c3
                  (with_reducible refine HCON.out.mono ?_)
                  rintro e w3 ⟨rfl, hb3⟩
                  go_wp2_with fail
                  go_ret
                  exact ⟨ret_bool HQ.out.symm, b3.trans (hb3.mono (by omega))⟩

/-- The codes up to n are valid. -/
def Cd.okTo (sp : Bool) (cs : List Cd) (n : Nat) : Bool := (List.range n).all fun k => Cd.okAt sp cs k (Cd.at' cs (k : Int))
theorem Cd.okTo_succ (sp : Bool) (cs : List Cd) (n : Nat) : Cd.okTo sp cs (n + 1) = (Cd.okTo sp cs n && Cd.okAt sp cs n (Cd.at' cs (n : Int))) := by
  unfold Cd.okTo
  rw [List.range_succ, List.all_append]
  simp
theorem Cd.okTo_le (sp : Bool) (cs : List Cd) {n k : Nat} (h : Cd.okTo sp cs n = true) (hk : k < n) : Cd.okAt sp cs k (Cd.at' cs (k : Int)) = true := by
  unfold Cd.okTo at h
  exact List.all_eq_true.1 h k (List.mem_range.2 hk)
theorem Cd.okTo_no (sp : Bool) (cs : List Cd) {n k : Nat} (h : Cd.okAt sp cs k (Cd.at' cs (k : Int)) = false) (hk : k < n) : Cd.okTo sp cs n = false := by
  cases hh : Cd.okTo sp cs n
  · rfl
  · have := Cd.okTo_le sp cs hh hk; rw [h] at this; exact absurd this (by decide)
set_option maxRecDepth 100000 in
set_option maxHeartbeats 2000000 in
theorem areCodes_any (m : Im) (n : Nat) (B : Nat) (w : World) (hn : n < m.l.length) (hin : Im.E.In w B m) (hB : B ≤ w.heap.size) :
    Calls Try.prog 36 #[Im.val m, .int .i64 (n : Int)] w fun e w' => e = .returned (.bool (Cd.okTo false m.l (n + 1))) ∧ Below w.heap.size w w' := by
  have hcap := (Im.E_in hin).l.cap
  obtain ⟨W1, hW1⟩ : ∃ W1, W1 = w.alloc (.cells #[.slice m.lA m.l.length m.lC, .int .i64 m.m] 31) := ⟨_, rfl⟩
  have b1 : Below w.heap.size w W1 := by rw [hW1]; exact (Below.refl _ _).alloc (Nat.le_refl _) _
  have z1 : w.heap.size < W1.heap.size := by rw [hW1]; simp
  have xa : Im.Box W1 w.heap.size m := by rw [hW1]; exact Im.Box.new _ _ _
  have XA := Lib.hid xa
  unfold Im.val
  obtain ⟨a0, a1⟩ := xa
  go_enter Try.func36, Try.ntmps36
  go_upto_region 1 with fail
  rw [← hW1]
  clear hW1 a0 a1
  go_wp2_with fail
  go_loopw [8] (fun i wr => ∃ j : Nat, j ≤ n + 1 ∧ i = .int .i64 j ∧ Hid (Cd.okTo false m.l j = true) ∧ Below W1.heap.size W1 wr) (fun i _ => n + 1 - (intOf i).toNat)
  case atStart => exact ⟨0, Nat.zero_le _, rfl, rfl, Below.refl _ _⟩
  case round =>
    obtain ⟨j, hj, rfl, HE, hbr⟩ := hrel
    have zr := hbr.size
    obtain ⟨a0, a1⟩ := XA.out.below hbr z1
    by_cases hlt : j < n + 1
    · have hjl : j < m.l.length := by omega
      have lj : (j : Int) < (n : Int) + 1 := by omega
      have HAT := Lib.hid (Cd.at'_get hjl)
      have hc := isCode_any m m.l[j] j B wr (List.getElem?_eq_getElem hjl) ((hin.below (b1.mono hB)).below (hbr.mono (by omega))) (by omega)
      rw [← HAT.out] at hc
      obtain ⟨X, hX⟩ : ∃ X, X = Cd.okAt false m.l j (Cd.at' m.l (j : Int)) := ⟨_, rfl⟩
      rw [← hX] at hc
      have HX := Lib.hid hX
      clear hX
      unfold Im.val at hc
      go_wp2_with fail
      clear a0 a1
      (with_reducible refine hc.mono ?_)
      clear hc
      rintro e w2 ⟨rfl, hb2⟩
      have hb3 := hbr.trans (hb2.mono zr)
      cases X
      · have HN : Hid (Cd.okTo false m.l (n + 1) = false) := Cd.okTo_no false m.l HX.out.symm hlt
        go_wp2_with fail
        go_ret
        exact ⟨ret_bool HN.out.symm, b1.trans (hb3.mono (by omega))⟩
      · have HN : Hid (Cd.okTo false m.l (j + 1) = true) := by show _ = _; rw [Cd.okTo_succ, HE.out, ← HX.out]; rfl
        go_wp2_with fail
        go_roundw
        case rel => exact ⟨j + 1, by omega, by go_num, HN, hb3⟩
        case measure => simp [intOf]; omega
    · have hj' : j = n + 1 := by omega
      subst hj'
      go_wp2_with fail
      go_ret
      exact ⟨ret_bool HE.out.symm, b1.trans (hbr.mono (by omega))⟩
end Go.Proofs.Ytpigpncbjckbcaa
