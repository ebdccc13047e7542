/-
  EqualCaptures: the model walked (written by gen/eqcap.py).
-/
import Derived.Test.YtikjipkhebedfaaKaQ
import Derived.Test.YtikjipkhebedfaaSEqs
import Derived.Test.YtikjipkhebedfaaNear
namespace Go.Proofs.Ytikjipkhebedfaa
open Go.RowKit

def KaSpecOk (m : Nat) : Prop := ∀ (A : Option Addr) (c : Nat) (l : List (Tr Ka)) (A' : Option Addr) (c' : Nat) (l' : List (Tr Ka)) (B : Nat) (w : World), Tr.sizeL l ≤ m → Ka.E.LIn w B A c l → Ka.E.LIn w B A' c' l' → B ≤ w.heap.size →
    Calls Try.prog 54 #[.slice A l.length c, .slice A' l'.length c'] w fun x w' => x = .returned (.bool (Tr.eqL Ka.eqB l l')) ∧ Below w.heap.size w w'
theorem cap_eq_no1 {x y : Tr Ka} (h : S.eqB x.a.N y.a.N = false) : Tr.eqB Ka.eqB x y = false := by rw [Tr.eqB_eq]; simp [Ka.eqB, h]
theorem cap_eq_no2 {x y : Tr Ka} (h : (x.a.dep != y.a.dep) = true) : Tr.eqB Ka.eqB x y = false := by
  have : (x.a.dep == y.a.dep) = false := by simpa using h
  rw [Tr.eqB_eq]; simp [Ka.eqB, this]
theorem cap_eq_no3 {x y : Tr Ka} (h : S.eqB x.a.F y.a.F = false) : Tr.eqB Ka.eqB x y = false := by rw [Tr.eqB_eq]; simp [Ka.eqB, h]
theorem cap_eq_no4 {x y : Tr Ka} (h : Tr.eqL Ka.eqB x.l y.l = false) : Tr.eqB Ka.eqB x y = false := by rw [Tr.eqB_eq]; simp [h]
theorem cap_eq_yes {x y : Tr Ka} (h1 : S.eqB x.a.N y.a.N = true) (h2 : (x.a.dep != y.a.dep) = false) (h3 : S.eqB x.a.F y.a.F = true) (h4 : Tr.eqL Ka.eqB x.l y.l = true) : Tr.eqB Ka.eqB x y = true := by
  have : (x.a.dep == y.a.dep) = true := by simpa using h2
  rw [Tr.eqB_eq]; simp [Ka.eqB, h1, h3, h4, this]

set_option maxRecDepth 100000 in
set_option maxHeartbeats 8000000 in
theorem specCaps_step (m : Nat) (ih : ∀ m', m' < m → KaSpecOk m') : KaSpecOk m := by
  intro A c l A' c' l' B w hm hin hin' hB
  have hcap := hin.cap
  have hcap' := hin'.cap
  by_cases hlen : l.length = l'.length
  · have hn1 : ((l.length : Int) != (l'.length : Int)) = false := by simp [hlen]
    have hlen1 : l'.length ≤ l.length := by omega
    have hlen2 : l.length ≤ l'.length := by omega
    clear hlen
    go_enter Try.func54, Try.ntmps54
    go_wp2_with fail
    go_loopw [13] (fun i wr => ∃ j : Nat, j ≤ l.length ∧ i = .int .i64 j ∧ Hid (Tr.eqL Ka.eqB (l.take j) (l'.take j) = true) ∧ Below w.heap.size w wr) (fun i _ => l.length - (intOf i).toNat)
    case atStart => exact ⟨0, Nat.zero_le _, rfl, by simp [Hid, Tr.eqL], Below.refl _ _⟩
    case round =>
      obtain ⟨j, hj, rfl, HE, hb⟩ := hrel
      have hs2 := hb.size
      by_cases hlt : j < l.length
      · have hlt' : j < l'.length := by omega
        obtain ⟨b, o, rfl, hblk, c0, c1, c2, c3, c4, c5, c6, c7, c8, c9, c10, c11, hix⟩ := Ka.at_ (hin.below (hb.mono hB)) (i := j) (x := l[j]) (List.getElem?_eq_getElem hlt)
        obtain ⟨b', o', rfl, hblk', c0', c1', c2', c3', c4', c5', c6', c7', c8', c9', c10', c11', hix'⟩ := Ka.at_ (hin'.below (hb.mono hB)) (i := j) (x := l'[j]) (List.getElem?_eq_getElem hlt')
        have hsz := Tr.sizeL_mem (l := l) (List.getElem_mem hlt)
        have hsq := Tr.size_eq l[j]
        have hsz2 : Tr.sizeL l[j].l < m := by omega
        clear hsq
        have gg1 : (0 : Int) ≤ (j : Int) := by omega
        have gg2 : (j : Int) < (l.length : Int) := by omega
        have gg3 : (j : Int) < (l'.length : Int) := by omega
        have hN := (Ka.E_in hix).1.N
        have hN' := (Ka.E_in hix').1.N
        have hF := (Ka.E_in hix).1.F
        have hF' := (Ka.E_in hix').1.F
        have hK := (Ka.E_in hix).2
        have hK' := (Ka.E_in hix').2
        clear hix hix'
        have lb : b < wr.heap.size := by omega
        have lb' : b' < wr.heap.size := by omega
        have hBr : B ≤ wr.heap.size := by omega
        have hc1 : ∀ x : Near wr, Calls Try.prog 109 #[S.val l[j].a.N, S.val l'[j].a.N] x.at_ fun e w' => e = .returned (.bool (S.eqB l[j].a.N l'[j].a.N)) ∧ Below x.at_.heap.size x.at_ w' :=
          fun x => specSEqual_any _ l[j].a.N l'[j].a.N B _ (Nat.le_refl _) (hN.below (x.below.mono hBr)) (hN'.below (x.below.mono hBr)) (Nat.le_trans hBr x.size)
        have hc2 : ∀ x : Near wr, Calls Try.prog 109 #[S.val l[j].a.F, S.val l'[j].a.F] x.at_ fun e w' => e = .returned (.bool (S.eqB l[j].a.F l'[j].a.F)) ∧ Below x.at_.heap.size x.at_ w' :=
          fun x => specSEqual_any _ l[j].a.F l'[j].a.F B _ (Nat.le_refl _) (hF.below (x.below.mono hBr)) (hF'.below (x.below.mono hBr)) (Nat.le_trans hBr x.size)
        have hc3 : ∀ x : Near wr, Calls Try.prog 54 #[.slice l[j].A l[j].l.length l[j].c, .slice l'[j].A l'[j].l.length l'[j].c] x.at_ fun e w' => e = .returned (.bool (Tr.eqL Ka.eqB l[j].l l'[j].l)) ∧ Below x.at_.heap.size x.at_ w' :=
          fun x => ih (Tr.sizeL l[j].l) hsz2 l[j].A l[j].c l[j].l l'[j].A l'[j].c l'[j].l B _ (Nat.le_refl _) (hK.below (x.below.mono hBr)) (hK'.below (x.below.mono hBr)) (Nat.le_trans hBr x.size)
        clear hN hN' hF hF' hK hK'
        simp only [S.val] at hc1 hc2
        have dc0 : ∀ x : Near wr, x.at_.cell? ⟨b, o + j * 12, none⟩ = some (.int .i64 l[j].a.N.k) := fun x => x.cell _ c0 lb
        have dc1 : ∀ x : Near wr, x.at_.cell? ⟨b, o + j * 12 + 1, none⟩ = some (.int .i64 l[j].a.N.n) := fun x => x.cell _ c1 lb
        have dc2 : ∀ x : Near wr, x.at_.cell? ⟨b, o + j * 12 + 2, none⟩ = some (.string l[j].a.N.t) := fun x => x.cell _ c2 lb
        have dc3 : ∀ x : Near wr, x.at_.cell? ⟨b, o + j * 12 + 3, none⟩ = some (.slice l[j].a.N.sa l[j].a.N.s.length l[j].a.N.sc) := fun x => x.cell _ c3 lb
        have dc4 : ∀ x : Near wr, x.at_.cell? ⟨b, o + j * 12 + 4, none⟩ = some (.slice l[j].a.N.A l[j].a.N.l.length l[j].a.N.c) := fun x => x.cell _ c4 lb
        have dc5 : ∀ x : Near wr, x.at_.cell? ⟨b, o + j * 12 + 5, none⟩ = some (.int .i64 l[j].a.dep) := fun x => x.cell _ c5 lb
        have dc6 : ∀ x : Near wr, x.at_.cell? ⟨b, o + j * 12 + 6, none⟩ = some (.int .i64 l[j].a.F.k) := fun x => x.cell _ c6 lb
        have dc7 : ∀ x : Near wr, x.at_.cell? ⟨b, o + j * 12 + 7, none⟩ = some (.int .i64 l[j].a.F.n) := fun x => x.cell _ c7 lb
        have dc8 : ∀ x : Near wr, x.at_.cell? ⟨b, o + j * 12 + 8, none⟩ = some (.string l[j].a.F.t) := fun x => x.cell _ c8 lb
        have dc9 : ∀ x : Near wr, x.at_.cell? ⟨b, o + j * 12 + 9, none⟩ = some (.slice l[j].a.F.sa l[j].a.F.s.length l[j].a.F.sc) := fun x => x.cell _ c9 lb
        have dc10 : ∀ x : Near wr, x.at_.cell? ⟨b, o + j * 12 + 10, none⟩ = some (.slice l[j].a.F.A l[j].a.F.l.length l[j].a.F.c) := fun x => x.cell _ c10 lb
        have dc11 : ∀ x : Near wr, x.at_.cell? ⟨b, o + j * 12 + 11, none⟩ = some (.slice l[j].A l[j].l.length l[j].c) := fun x => x.cell _ c11 lb
        have dc0' : ∀ x : Near wr, x.at_.cell? ⟨b', o' + j * 12, none⟩ = some (.int .i64 l'[j].a.N.k) := fun x => x.cell _ c0' lb'
        have dc1' : ∀ x : Near wr, x.at_.cell? ⟨b', o' + j * 12 + 1, none⟩ = some (.int .i64 l'[j].a.N.n) := fun x => x.cell _ c1' lb'
        have dc2' : ∀ x : Near wr, x.at_.cell? ⟨b', o' + j * 12 + 2, none⟩ = some (.string l'[j].a.N.t) := fun x => x.cell _ c2' lb'
        have dc3' : ∀ x : Near wr, x.at_.cell? ⟨b', o' + j * 12 + 3, none⟩ = some (.slice l'[j].a.N.sa l'[j].a.N.s.length l'[j].a.N.sc) := fun x => x.cell _ c3' lb'
        have dc4' : ∀ x : Near wr, x.at_.cell? ⟨b', o' + j * 12 + 4, none⟩ = some (.slice l'[j].a.N.A l'[j].a.N.l.length l'[j].a.N.c) := fun x => x.cell _ c4' lb'
        have dc5' : ∀ x : Near wr, x.at_.cell? ⟨b', o' + j * 12 + 5, none⟩ = some (.int .i64 l'[j].a.dep) := fun x => x.cell _ c5' lb'
        have dc6' : ∀ x : Near wr, x.at_.cell? ⟨b', o' + j * 12 + 6, none⟩ = some (.int .i64 l'[j].a.F.k) := fun x => x.cell _ c6' lb'
        have dc7' : ∀ x : Near wr, x.at_.cell? ⟨b', o' + j * 12 + 7, none⟩ = some (.int .i64 l'[j].a.F.n) := fun x => x.cell _ c7' lb'
        have dc8' : ∀ x : Near wr, x.at_.cell? ⟨b', o' + j * 12 + 8, none⟩ = some (.string l'[j].a.F.t) := fun x => x.cell _ c8' lb'
        have dc9' : ∀ x : Near wr, x.at_.cell? ⟨b', o' + j * 12 + 9, none⟩ = some (.slice l'[j].a.F.sa l'[j].a.F.s.length l'[j].a.F.sc) := fun x => x.cell _ c9' lb'
        have dc10' : ∀ x : Near wr, x.at_.cell? ⟨b', o' + j * 12 + 10, none⟩ = some (.slice l'[j].a.F.A l'[j].a.F.l.length l'[j].a.F.c) := fun x => x.cell _ c10' lb'
        have dc11' : ∀ x : Near wr, x.at_.cell? ⟨b', o' + j * 12 + 11, none⟩ = some (.slice l'[j].A l'[j].l.length l'[j].c) := fun x => x.cell _ c11' lb'
        clear c0 c1 c2 c3 c4 c5 c6 c7 c8 c9 c10 c11 c0' c1' c2' c3' c4' c5' c6' c7' c8' c9' c10' c11'
        cases q1 : S.eqB l[j].a.N l'[j].a.N
        · have Q1 := Lib.hid q1
          clear q1
          simp only [Q1.out] at hc1
          have HC1 := Lib.hid hc1
          have HC2 := Lib.hid hc2
          have HC3 := Lib.hid hc3
          clear hc1 hc2 hc3
          go_wp2_with fail
          refine wp_region_near (by kernel_rfl) (by kernel_rfl) ?_
          repeat (go_big_quiet_step ((first | (go_at_call 109; with_reducible exact Calls.near (HC1.out _)) | (go_at_call 109; with_reducible exact Calls.near (HC2.out _)) | (go_at_call 54; with_reducible exact Calls.near (HC3.out _)))))
          refine wpQuiet_nil ?_
          intro _ hw1
          obtain ⟨nx, hw2⟩ := hw1
          subst hw2
          have hbx : Below w.heap.size w nx.at_ := hb.trans (nx.below.mono hs2)
          go_wp2_with fail
          go_ret
          exact ⟨ret_bool (Tr.eqL_take_no l l' j hlt hlt' HE.out (cap_eq_no1 Q1.out)).symm, hbx⟩
        have Q1 := Lib.hid q1
        clear q1
        simp only [Q1.out] at hc1
        cases qd : (l[j].a.dep != l'[j].a.dep)
        rotate_left
        · have Qd := Lib.hid qd
          have HC1 := Lib.hid hc1
          have HC2 := Lib.hid hc2
          have HC3 := Lib.hid hc3
          clear hc1 hc2 hc3
          go_wp2_with fail
          refine wp_region_near (by kernel_rfl) (by kernel_rfl) ?_
          repeat (go_big_quiet_step ((first | (go_at_call 109; with_reducible exact Calls.near (HC1.out _)) | (go_at_call 109; with_reducible exact Calls.near (HC2.out _)) | (go_at_call 54; with_reducible exact Calls.near (HC3.out _)))))
          refine wpQuiet_nil ?_
          intro _ hw1
          obtain ⟨nx, hw2⟩ := hw1
          subst hw2
          have hbx : Below w.heap.size w nx.at_ := hb.trans (nx.below.mono hs2)
          go_wp2_with fail
          go_ret
          exact ⟨ret_bool (Tr.eqL_take_no l l' j hlt hlt' HE.out (cap_eq_no2 Qd.out)).symm, hbx⟩
        have Qd := Lib.hid qd
        cases q2 : S.eqB l[j].a.F l'[j].a.F
        · have Q2 := Lib.hid q2
          clear q2
          simp only [Q2.out] at hc2
          have HC1 := Lib.hid hc1
          have HC2 := Lib.hid hc2
          have HC3 := Lib.hid hc3
          clear hc1 hc2 hc3
          go_wp2_with fail
          refine wp_region_near (by kernel_rfl) (by kernel_rfl) ?_
          repeat (go_big_quiet_step ((first | (go_at_call 109; with_reducible exact Calls.near (HC1.out _)) | (go_at_call 109; with_reducible exact Calls.near (HC2.out _)) | (go_at_call 54; with_reducible exact Calls.near (HC3.out _)))))
          refine wpQuiet_nil ?_
          intro _ hw1
          obtain ⟨nx, hw2⟩ := hw1
          subst hw2
          have hbx : Below w.heap.size w nx.at_ := hb.trans (nx.below.mono hs2)
          go_wp2_with fail
          go_ret
          exact ⟨ret_bool (Tr.eqL_take_no l l' j hlt hlt' HE.out (cap_eq_no3 Q2.out)).symm, hbx⟩
        have Q2 := Lib.hid q2
        clear q2
        simp only [Q2.out] at hc2
        cases q3 : Tr.eqL Ka.eqB l[j].l l'[j].l
        · have Q3 := Lib.hid q3
          clear q3
          simp only [Q3.out] at hc3
          have HC1 := Lib.hid hc1
          have HC2 := Lib.hid hc2
          have HC3 := Lib.hid hc3
          clear hc1 hc2 hc3
          go_wp2_with fail
          refine wp_region_near (by kernel_rfl) (by kernel_rfl) ?_
          repeat (go_big_quiet_step ((first | (go_at_call 109; with_reducible exact Calls.near (HC1.out _)) | (go_at_call 109; with_reducible exact Calls.near (HC2.out _)) | (go_at_call 54; with_reducible exact Calls.near (HC3.out _)))))
          refine wpQuiet_nil ?_
          intro _ hw1
          obtain ⟨nx, hw2⟩ := hw1
          subst hw2
          have hbx : Below w.heap.size w nx.at_ := hb.trans (nx.below.mono hs2)
          go_wp2_with fail
          go_ret
          exact ⟨ret_bool (Tr.eqL_take_no l l' j hlt hlt' HE.out (cap_eq_no4 Q3.out)).symm, hbx⟩
        have Q3 := Lib.hid q3
        clear q3
        simp only [Q3.out] at hc3
        have HC1 := Lib.hid hc1
        have HC2 := Lib.hid hc2
        have HC3 := Lib.hid hc3
        clear hc1 hc2 hc3
        go_wp2_with fail
        refine wp_region_near (by kernel_rfl) (by kernel_rfl) ?_
        repeat (go_big_quiet_step ((first | (go_at_call 109; with_reducible exact Calls.near (HC1.out _)) | (go_at_call 109; with_reducible exact Calls.near (HC2.out _)) | (go_at_call 54; with_reducible exact Calls.near (HC3.out _)))))
        refine wpQuiet_nil ?_
        intro _ hw1
        obtain ⟨nx, hw2⟩ := hw1
        subst hw2
        have hbx : Below w.heap.size w nx.at_ := hb.trans (nx.below.mono hs2)
        go_wp2_with fail
        refine ⟨⟨j + 1, by omega, by go_num, by (show _ = _); rw [Tr.eqL_take_succ l l' j hlt hlt', HE.out, cap_eq_yes Q1.out Qd.out Q2.out Q3.out]; rfl, hbx⟩, by simp [intOf]; omega⟩
      · have hj' : j = l.length := by omega
        subst hj'
        go_wp2_with fail
        go_ret
        exact ⟨ret_bool (by have := HE.out; rwa [List.take_length, List.take_of_length_le (by omega), eq_comm] at this), hb⟩
  · have hn1 : ((l.length : Int) != (l'.length : Int)) = true := by simpa using (by omega : ¬ (l.length : Int) = (l'.length : Int))
    have Hn := Lib.hid (Tr.eqL_length (f := Ka.eqB) l l' hlen)
    go_enter Try.func54, Try.ntmps54
    go_wp2_with fail
    go_ret
    exact ⟨ret_bool Hn.out.symm, Below.refl _ _⟩
theorem specCaps_any (m : Nat) : KaSpecOk m := by
  induction m using Nat.strongRecOn with
  | _ m ih => exact specCaps_step m ih
end Go.Proofs.Ytikjipkhebedfaa
