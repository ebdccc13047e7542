/-
  Rows of identifiers: whether one is there.
-/
import Derived.Test.YtiopophoioiafaaElem
import Derived.Test.YtiopophoioiafaaGrew
import Derived.Test.YtiopophoioiafaaSSame
import Derived.Test.YtiopophoioiafaaSMpC
import Derived.Test.YtiopophoioiafaaSMarks
namespace Go.Proofs.Ytiopophoioiafaa
open Go.RowKit

namespace S
def E : Elem S where
  cells := cells
  n := 5
  pos := by decide
  len := fun _ => rfl
  one := by
    intro b u hu
    simp only [cells, List.mem_cons, List.not_mem_nil, or_false] at hu
    rcases hu with rfl | rfl | rfl | rfl | rfl <;> rfl
  In := fun w B d => In w B d
  blks := blks
  lt := fun h => h.blk_lt
  keepB := fun h hk => h.keepB hk
  more := fun h hB => h.more hB
theorem ownE {lo hi : Nat} {w : World} {d : S} (h : d.Own lo hi w) : E.Own lo hi w d := ⟨h.inn, h.lo_, h.nd, h.fr⟩
/-- The cells of element i. -/
theorem atE {w : World} {B : Nat} {A : Option Addr} {c : Nat} {l : List S} (h : E.LIn w B A c l) {i : Nat} {x : S} (hi : l[i]? = some x) :
    ∃ b o : Nat, A = some ⟨b, o, none⟩ ∧ b < B ∧ w.cell? ⟨b, o + i * 5, none⟩ = some (.int .i64 x.k) ∧ w.cell? ⟨b, o + i * 5 + 1, none⟩ = some (.int .i64 x.n) ∧ w.cell? ⟨b, o + i * 5 + 2, none⟩ = some (.string x.t) ∧ w.cell? ⟨b, o + i * 5 + 3, none⟩ = some (.slice x.sa x.s.length x.sc) ∧ w.cell? ⟨b, o + i * 5 + 4, none⟩ = some (.slice x.A x.l.length x.c) ∧ In w B x := by
  obtain ⟨b, o, e, hb, hc, hx⟩ := h.at_ hi
  exact ⟨b, o, e, hb, hc 0 _ rfl, hc 1 _ rfl, hc 2 _ rfl, hc 3 _ rfl, hc 4 _ rfl, hx⟩
/-- An identifier without its places. -/
def idS (p : ByteArray × List Int) : S := .mk 1 0 p.1 none 0 p.2 none 0 []
theorem er_idS {x : S} {p : ByteArray × List Int} (h : er x = idS p) : x.t = p.1 ∧ x.s = p.2 ∧ x.k = 1 ∧ x.n = 0 ∧ x.l = [] := by
  cases x with
  | mk k n t sa sc s A c l =>
    simp only [er, idS, S.mk.injEq] at h
    obtain ⟨h1, h2, h3, _, _, h6, _, _, h9⟩ := h
    refine ⟨h3, h6, h1, h2, ?_⟩
    cases l with
    | nil => rfl
    | cons _ _ => simp [erL] at h9
theorem eqB_id {x d : S} {p : ByteArray × List Int} (h : er x = idS p) (h1 : d.k = 1) (h2 : d.n = 0) (h3 : d.l = []) : eqB x d = (p.1.toList == d.t.toList && p.2 == d.s) := by
  obtain ⟨e1, e2, e3, e4, e5⟩ := er_idS h
  cases x with
  | mk k n t sa sc s A c l =>
    cases d with
    | mk k' n' t' sa' sc' s' A' c' l' =>
      simp only [S.t, S.s, S.k, S.n, S.l] at *
      subst e1 e2 e3 e4 e5 h1 h2 h3
      simp [eqB, eqL]
end S
/-- Whether the identifier stands in acc. -/
def hasI (acc : List (ByteArray × List Int)) (t : ByteArray) (s : List Int) : Bool := acc.any fun p => p.1.toList == t.toList && p.2 == s
theorem hasI_step {acc : List (ByteArray × List Int)} {j : Nat} (h : j < acc.length) (t : ByteArray) (s : List Int) : hasI (acc.take (j + 1)) t s = (hasI (acc.take j) t s || (acc[j].1.toList == t.toList && acc[j].2 == s)) := by
  unfold hasI
  rw [List.take_succ_eq_append_getElem h, List.any_append]
  simp
theorem hasI_yes {acc : List (ByteArray × List Int)} {j : Nat} (h : j < acc.length) {t : ByteArray} {s : List Int} (he : (acc[j].1.toList == t.toList && acc[j].2 == s) = true) : hasI acc t s = true := by
  unfold hasI
  rw [List.any_eq_true]
  exact ⟨acc[j], List.getElem_mem h, he⟩
theorem ids_get {ds : List S} {acc : List (ByteArray × List Int)} (h : ds.map S.er = acc.map S.idS) {j : Nat} (hj : j < ds.length) (hj2 : j < acc.length) : S.er ds[j] = S.idS acc[j] := by
  have h1 : (ds.map S.er)[j]? = (acc.map S.idS)[j]? := by rw [h]
  simpa [List.getElem?_map, List.getElem?_eq_getElem hj, List.getElem?_eq_getElem hj2] using h1
theorem ids_len {ds : List S} {acc : List (ByteArray × List Int)} (h : ds.map S.er = acc.map S.idS) : ds.length = acc.length := by
  have := congrArg List.length h
  simpa using this

set_option maxRecDepth 100000 in
set_option maxHeartbeats 1000000 in
theorem l2HasId_any (A : Option Addr) (c : Nat) (ds : List S) (acc : List (ByteArray × List Int)) (d : S) (B : Nat) (w : World) (hids : ds.map S.er = acc.map S.idS) (hin : S.E.LIn w B A c ds) (hd : d.In w B) (hB : B ≤ w.heap.size) :
    Calls Try.prog 177 #[.slice A ds.length c, d.val] w fun e w' => e = .returned (.bool (hasI acc d.t d.s)) ∧ Below w.heap.size w w' := by
  have hcap := hin.cap
  have hlen := ids_len hids
  have hlen1 : ds.length ≤ acc.length := by omega
  have hlen2 : acc.length ≤ ds.length := by omega
  have HI := Lib.hid hids
  clear hlen hids
  obtain ⟨W1, hW1⟩ : ∃ W1, W1 = w.alloc (.cells #[.int .i64 d.k, .int .i64 d.n, .string d.t, .slice d.sa d.s.length d.sc, .slice d.A d.l.length d.c] 52) := ⟨_, rfl⟩
  have z1 : W1.heap.size = w.heap.size + 1 := by rw [hW1]; simp
  have B1 : Below w.heap.size w W1 := by rw [hW1]; exact (Below.refl _ _).alloc (Nat.le_refl _) _
  have x0 : S.Box W1 w.heap.size d := by rw [hW1]; exact S.Box.new w d _
  unfold S.val
  go_enter Try.func177, Try.ntmps177
  go_wp2_with fail
  rw [← hW1]
  clear hW1
  go_loopw [9] (fun i wr => ∃ j : Nat, j ≤ ds.length ∧ i = .int .i64 j ∧ Hid (hasI (acc.take j) d.t d.s = false) ∧ S.Box wr w.heap.size d ∧ w.heap.size < wr.heap.size ∧ Below w.heap.size w wr) (fun i _ => ds.length - (intOf i).toNat)
  case atStart => exact ⟨0, Nat.zero_le _, rfl, by simp [Hid, hasI], x0, by omega, B1⟩
  case round =>
    obtain ⟨j, hj, rfl, HN, hx, hsz, hb⟩ := hrel
    by_cases hlt : j < ds.length
    · have hlt2 : j < acc.length := by omega
      obtain ⟨b, o, rfl, hblk, c0, c1, c2, c3, c4, hix⟩ := S.atE (hin.below (hb.mono hB)) (i := j) (x := ds[j]) (List.getElem?_eq_getElem hlt)
      have g2 : (j : Int) < (ds.length : Int) := by omega
      have hid := ids_get HI.out hlt hlt2
      obtain ⟨e1, e2, e3, e4, e5⟩ := S.er_idS hid
      clear e3 e4 e5
      have hs := hasI_step hlt2 d.t d.s
      have bA : Below wr.heap.size wr (wr.alloc (.cells #[.int .i64 ds[j].k, .int .i64 ds[j].n, .string ds[j].t, .slice ds[j].sa ds[j].s.length ds[j].sc, .slice ds[j].A ds[j].l.length ds[j].c] 52)) := (Below.refl _ _).alloc (Nat.le_refl _) _
      have y0 := S.Box.new wr ds[j] 52
      have xA := hx.below (w' := wr.alloc (.cells #[.int .i64 ds[j].k, .int .i64 ds[j].n, .string ds[j].t, .slice ds[j].sa ds[j].s.length ds[j].sc, .slice ds[j].A ds[j].l.length ds[j].c] 52)) bA hsz
      obtain ⟨a0, a1, a2, a3, a4⟩ := xA
      obtain ⟨d0, d1, d2, d3, d4⟩ := y0
      have hT : Hid (ds[j].t = acc[j].1) := e1
      have hS : Hid (ds[j].s = acc[j].2) := e2
      have HS := Lib.hid hs
      clear hid e1 e2 hs
      go_wp2_with fail
      refine (l2Same_any ds[j] d B _ (hix.below (bA.mono (by omega))) ((hd.below (hb.mono hB)).below (bA.mono (by omega))) (by simp; omega)).mono ?_
      rintro e w1 ⟨rfl, hb1⟩
      have hb2 : Below wr.heap.size wr w1 := bA.trans (hb1.mono (by simp))
      have hx1 := hx.below hb2 hsz
      have zz := hb2.size
      have hb3 := hb.trans (hb2.mono (by omega))
      clear a0 a1 a2 a3 a4 d0 d1 d2 d3 d4 c0 c1 c2 c3 c4 hb1 hb2 bA hx
      cases hq : (ds[j].t.toList == d.t.toList && ds[j].s == d.s)
      · have HN2 : Hid (hasI (acc.take (j + 1)) d.t d.s = false) := by show _ = _; rw [HS.out, HN.out, ← hT.out, ← hS.out, hq]; rfl
        clear hq
        go_wp2_with fail
        refine ⟨⟨j + 1, by omega, by go_num, HN2, hx1, by omega, hb3⟩, by simp [intOf]; omega⟩
      · have HY := Lib.hid (hasI_yes hlt2 (t := d.t) (s := d.s) (by rw [← hT.out, ← hS.out, hq]))
        clear hq
        go_wp2_with fail
        go_ret
        exact ⟨ret_bool HY.out.symm, hb3⟩
    · have hj' : j = ds.length := by omega
      subst hj'
      have HF : Hid (hasI acc d.t d.s = false) := by have := HN.out; rwa [List.take_of_length_le (by omega)] at this
      go_wp2_with fail
      go_ret
      exact ⟨ret_bool HF.out.symm, hb⟩

set_option maxRecDepth 100000 in
set_option maxHeartbeats 1000000 in
theorem isThis_any (x d : S) (g B : Nat) (w : World) (hs : x.size ≤ 2000000) (hx : x.In w B) (hd : d.In w B) (hB : B ≤ w.heap.size) (hbx : S.Box w g d) (hg : g < w.heap.size) :
    Calls Try.prog 179 #[x.val, .pointer (some ⟨g, 0, none⟩)] w fun e w' => e = .returned (.bool (S.eqB x d)) ∧ Below w.heap.size w w' := by
  have bA : Below w.heap.size w (w.alloc (.cells #[.int .i64 x.k, .int .i64 x.n, .string x.t, .slice x.sa x.s.length x.sc, .slice x.A x.l.length x.c] 52)) := (Below.refl _ _).alloc (Nat.le_refl _) _
  have y0 := S.Box.new w x 52
  obtain ⟨d0, d1, d2, d3, d4⟩ := y0
  obtain ⟨a0, a1, a2, a3, a4⟩ := hbx.below bA hg
  unfold S.val
  go_enter Try.func179, Try.ntmps179
  go_wp2_with fail
  refine (implSEqual_any 2000000 x d B _ hs (hx.below (bA.mono hB)) (hd.below (bA.mono hB)) (by simp; omega)).mono ?_
  rintro e w1 ⟨rfl, hb1⟩
  have hb2 : Below w.heap.size w w1 := bA.trans (hb1.mono (by simp))
  clear hb1 a0 a1 a2 a3 a4 d0 d1 d2 d3 d4
  go_wp2_with fail
  go_ret
  exact ⟨rfl, hb2⟩

set_option maxRecDepth 100000 in
set_option maxHeartbeats 1000000 in
theorem containsId_any (A : Option Addr) (c : Nat) (ds : List S) (acc : List (ByteArray × List Int)) (d : S) (g B : Nat) (w : World) (hids : ds.map S.er = acc.map S.idS) (hin : S.E.LIn w B A c ds) (hd : d.In w B) (hB : B ≤ w.heap.size) (hbx : S.Box w g d) (hg : g < w.heap.size) (h1 : d.k = 1) (h2 : d.n = 0) (h3 : d.l = []) :
    Calls Try.prog 181 #[.slice A ds.length c, .func (.func 179) #[] #[.pointer (some ⟨g, 0, none⟩)]] w fun e w' => e = .returned (.bool (hasI acc d.t d.s)) ∧ Below w.heap.size w w' := by
  have hcap := hin.cap
  have hlen := ids_len hids
  have hlen1 : ds.length ≤ acc.length := by omega
  have hlen2 : acc.length ≤ ds.length := by omega
  have HI := Lib.hid hids
  have H1 := Lib.hid h1
  have H2 := Lib.hid h2
  have H3 := Lib.hid h3
  clear hlen hids h1 h2 h3
  have key : Calls Try.prog 213 #[.slice A ds.length c, .func (.func 179) #[] #[.pointer (some ⟨g, 0, none⟩)]] w fun e w' => (∃ r : Int, e = .returned (.int .i64 r) ∧ decide (0 ≤ r) = hasI acc d.t d.s) ∧ Below w.heap.size w w' := by
    go_enter Try.func213, Try.ntmps213
    go_wp2_with fail
    go_loopw [5, 8] (fun _ i wr => ∃ j : Nat, j ≤ ds.length ∧ i = .int .i64 j ∧ Hid (hasI (acc.take j) d.t d.s = false) ∧ Below w.heap.size w wr) (fun _ i _ => ds.length - (intOf i).toNat)
    case atStart => exact ⟨0, Nat.zero_le _, rfl, by simp [Hid, hasI], Below.refl _ _⟩
    case round =>
      obtain ⟨j, hj, rfl, HN, hb⟩ := hrel
      by_cases hlt : j < ds.length
      · have hlt2 : j < acc.length := by omega
        have hsz := hb.size
        obtain ⟨b, o, rfl, hblk, c0, c1, c2, c3, c4, hix⟩ := S.atE (hin.below (hb.mono hB)) (i := j) (x := ds[j]) (List.getElem?_eq_getElem hlt)
        have g2 : (j : Int) < (ds.length : Int) := by omega
        have hid := ids_get HI.out hlt hlt2
        have he := S.eqB_id hid H1.out H2.out H3.out
        have hs := hasI_step hlt2 d.t d.s
        have hl1 : ds[j].size ≤ 2000000 := by
          obtain ⟨_, _, _, _, e5⟩ := S.er_idS hid
          rw [S.size_eq, e5]; simp [S.sizeL]
        have HE := Lib.hid he
        have HS := Lib.hid hs
        clear hid he hs
        go_wp2_with fail
        refine (isThis_any ds[j] d g B _ hl1 hix (hd.below (hb.mono hB)) (by omega) (hbx.below hb hg) (by omega)).mono ?_
        rintro e w1 ⟨rfl, hb1⟩
        have hb3 := hb.trans (hb1.mono (by omega))
        clear c0 c1 c2 c3 c4 hb1
        rw [HE.out]
        cases hq : (acc[j].1.toList == d.t.toList && acc[j].2 == d.s)
        · have HN2 : Hid (hasI (acc.take (j + 1)) d.t d.s = false) := by show _ = _; rw [HS.out, HN.out, hq]; rfl
          clear hq
          go_wp2_with fail
          refine ⟨⟨j + 1, by omega, by go_num, HN2, hb3⟩, by simp [intOf]; omega⟩
        · have HY := Lib.hid (hasI_yes hlt2 hq)
          clear hq
          go_wp2_with fail
          go_ret
          exact ⟨⟨j, rfl, by rw [HY.out]; simp⟩, hb3⟩
      · have hj' : j = ds.length := by omega
        subst hj'
        have HF : Hid (hasI acc d.t d.s = false) := by have := HN.out; rwa [List.take_of_length_le (by omega)] at this
        go_wp2_with fail
        go_ret
        exact ⟨⟨-1, rfl, by rw [HF.out]; rfl⟩, hb⟩
  go_enter Try.func181, Try.ntmps181
  go_wp2_with fail
  refine key.mono ?_
  rintro e w1 ⟨⟨r, rfl, hr⟩, hb1⟩
  have HR := Lib.hid hr
  clear hr key
  go_wp2_with fail
  go_ret
  exact ⟨ret_bool HR.out, hb1⟩
end Go.Proofs.Ytiopophoioiafaa
