/-
  Rows of Instr: the laws' own comparison of what reads the same (written by gen/rec.py).
-/
import Derived.Test.YtpigpncbjckbcaaNtQ
import Derived.Deep.RegionHeld3
namespace Go.Proofs.Ytpigpncbjckbcaa
open Go.RowKit

set_option maxRecDepth 100000 in
set_option maxHeartbeats 4000000 in
theorem Nt_eqL_any (A : Option Addr) (c : Nat) (l : List Nt) (A' : Option Addr) (c' : Nat) (l' : List Nt) (B : Nat) (w : World) (he : l.map Nt.er = l'.map Nt.er) (hin : Nt.E.LIn w B A c l) (hin' : Nt.E.LIn w B A' c' l') (hB : B ≤ w.heap.size) :
    Calls Try.prog 61 #[.slice A l.length c, .slice A' l'.length c'] w fun e w' => e = .returned (.bool true) ∧ Below w.heap.size w w' := by
  have hcap := hin.cap
  have hcap' := hin'.cap
  have hlen : l.length = l'.length := by have := congrArg List.length he; simpa using this
  have hn1 : ((l.length : Int) != (l'.length : Int)) = false := by simp [hlen]
  have hlen1 : l'.length ≤ l.length := by omega
  have hlen2 : l.length ≤ l'.length := by omega
  clear hlen
  have HE := Lib.hid he
  clear he
  go_enter Try.func61, Try.ntmps61
  go_wp2_with fail
  go_loopw [5] (fun i wr => ∃ j : Nat, j ≤ l.length ∧ i = .int .i64 j ∧ Below w.heap.size w wr) (fun i _ => l.length - (intOf i).toNat)
  case atStart => exact ⟨0, Nat.zero_le _, rfl, Below.refl _ _⟩
  case round =>
    obtain ⟨j, hj, rfl, hb⟩ := hrel
    by_cases hlt : j < l.length
    · have hlt' : j < l'.length := by omega
      have hs2 := hb.size
      obtain ⟨b, o, rfl, hblk, c0, c1, c2, c3, c4, c5, hix⟩ := Nt.at_ (hin.below (hb.mono hB)) (i := j) (x := l[j]) (List.getElem?_eq_getElem hlt)
      obtain ⟨b', o', rfl, hblk', c0', c1', c2', c3', c4', c5', hix'⟩ := Nt.at_ (hin'.below (hb.mono hB)) (i := j) (x := l'[j]) (List.getElem?_eq_getElem hlt')
      have g1 : (0 : Int) ≤ (j : Int) := by omega
      have g2 : (j : Int) < (l.length : Int) := by omega
      have g3 : (j : Int) < (l'.length : Int) := by omega
      have heq := Row.er_get HE.out hlt hlt'
      have Heq := Lib.hid heq
      clear heq
      have lc : b < wr.heap.size := by omega
      have ld : b' < wr.heap.size := by omega
      go_wp2_with fail
      first
      | go_region_held3 (fun w' => w'.cell? ⟨b, o + j * 6, none⟩ = some (.int .i64 l[j].o) ∧ w'.cell? ⟨b, o + j * 6 + 1, none⟩ = some (.int .i64 l[j].i) ∧ w'.cell? ⟨b, o + j * 6 + 2, none⟩ = some (.int .i64 l[j].t.k) ∧ w'.cell? ⟨b, o + j * 6 + 3, none⟩ = some (.int .i64 l[j].t.n) ∧ w'.cell? ⟨b, o + j * 6 + 4, none⟩ = some (.string l[j].t.t) ∧ w'.cell? ⟨b, o + j * 6 + 5, none⟩ = some (.slice l[j].t.A l[j].t.l.length l[j].t.c) ∧ w'.cell? ⟨b', o' + j * 6, none⟩ = some (.int .i64 l'[j].o) ∧ w'.cell? ⟨b', o' + j * 6 + 1, none⟩ = some (.int .i64 l'[j].i) ∧ w'.cell? ⟨b', o' + j * 6 + 2, none⟩ = some (.int .i64 l'[j].t.k) ∧ w'.cell? ⟨b', o' + j * 6 + 3, none⟩ = some (.int .i64 l'[j].t.n) ∧ w'.cell? ⟨b', o' + j * 6 + 4, none⟩ = some (.string l'[j].t.t) ∧ w'.cell? ⟨b', o' + j * 6 + 5, none⟩ = some (.slice l'[j].t.A l'[j].t.l.length l'[j].t.c)) (go_keep)
          ((go_at_call 76; refine (Nt_eq_any l[j] l'[j] B _ Heq.out ?_ ?_ ?_).mono ?_; exact Elem.In.drew hix; exact Elem.In.drew hix'; (show B ≤ wr.heap.size); omega; rintro e w1 ⟨rfl, hb1⟩; have hb1 : Below wr.heap.size wr w1 := below_undrew hb1; have a0 := (hb1.cell (p := ⟨b, o + j * 6, none⟩) lc).trans c0; have a1 := (hb1.cell (p := ⟨b, o + j * 6 + 1, none⟩) lc).trans c1; have a2 := (hb1.cell (p := ⟨b, o + j * 6 + 2, none⟩) lc).trans c2; have a3 := (hb1.cell (p := ⟨b, o + j * 6 + 3, none⟩) lc).trans c3; have a4 := (hb1.cell (p := ⟨b, o + j * 6 + 4, none⟩) lc).trans c4; have a5 := (hb1.cell (p := ⟨b, o + j * 6 + 5, none⟩) lc).trans c5; have d0 := (hb1.cell (p := ⟨b', o' + j * 6, none⟩) ld).trans c0'; have d1 := (hb1.cell (p := ⟨b', o' + j * 6 + 1, none⟩) ld).trans c1'; have d2 := (hb1.cell (p := ⟨b', o' + j * 6 + 2, none⟩) ld).trans c2'; have d3 := (hb1.cell (p := ⟨b', o' + j * 6 + 3, none⟩) ld).trans c3'; have d4 := (hb1.cell (p := ⟨b', o' + j * 6 + 4, none⟩) ld).trans c4'; have d5 := (hb1.cell (p := ⟨b', o' + j * 6 + 5, none⟩) ld).trans c5'))
      | fail
      all_goals go_wp2_with fail
      all_goals refine ⟨⟨j + 1, by omega, by go_num, hb.trans (hb1.mono (by omega))⟩, by simp [intOf]; omega⟩
    · have hj' : j = l.length := by omega
      subst hj'
      go_wp2_with fail
      go_ret
      exact ⟨rfl, hb⟩
end Go.Proofs.Ytpigpncbjckbcaa
