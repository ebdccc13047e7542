/-
  A row of captures handed on: what is left; where an ellipsis stands. Nothing of the walks.
-/
import Derived.Test.YtnldlbglgalbaabGreatGPvF
import Derived.Test.YtnldlbglgalbaabGreatTfModel
import Derived.Test.YtnldlbglgalbaabGreatGPvD
import Derived.Maps.AppendAt
import Derived.Deep.DeepCutAuto
import Derived.Test.YtnldlbglgalbaabGreatGPvE
namespace Go.Proofs.YtnldlbglgalbaabGreat
open Go.RowKit
/-- What l4Vars leaves of the row v: R what it has found. -/
def GV (base : Nat) (R : Option (List (S × Int))) (v : Value) (w : World) (e : Ending) (w' : World) : Prop := match R with
  | none => e = .returned (.tuple #[.slice none 0 0, .bool false]) ∧ Chg v.ownBlock.toList w w'
  | some V => ∃ v' ds', e = .returned (.tuple #[v', .bool true]) ∧ Ka.E.Grown 82 base w' v' ds' ∧ Tr.erL Ka.er ds' = V.map S.kaOf ∧ Chg v.ownBlock.toList w w' ∧ (v'.ownBlock = v.ownBlock ∨ ∀ g, v'.ownBlock = some g → w.heap.size ≤ g)
namespace S
theorem samM_samN (d : S) (x : Tr Ka) : Ka.samM d x = samN d x.a.N := rfl
theorem samN_er2 (d n : S) : samN d n.er = samN d n := by
  unfold samN
  rw [t_of_er (er_er n), isI_of_er (er_er n)]
  cases n; rfl
theorem find_any {ds : List (Tr Ka)} {out : List (S × Int)} (h : Tr.erL Ka.er ds = out.map kaOf) (d : S) : decide (0 ≤ fidx (Ka.samM d) ds) = out.any fun x => samN d x.1 := by
  have h1 : (ds.any (Ka.samM d)) = out.any fun x => samN d x.1 := by
    have e1 : ds.any (Ka.samM d) = (Tr.erL Ka.er ds).any (Ka.samM d) := by
      rw [Tr.erL_map, List.any_map]
      congr 1
      funext x
      obtain ⟨a, A, c, l⟩ := x
      show samN d a.N = samN d a.N.er
      rw [samN_er2]
    rw [e1, h, List.any_map]
    rfl
  rw [← h1]
  rcases fidx_find (Ka.samM d) ds with ⟨h2, h3⟩ | ⟨j, hj, h2, h3⟩
  · rw [h2, any_none fun x hx => ?_]
    · rfl
    · rw [List.find?_eq_none] at h3
      simpa using h3 x hx
  · rw [h2, any_yes hj (List.find?_some h3)]
    simp
/-- The ellipsis is where l4At says. -/
theorem at_dots {l : List S} (h : okDots l = true) {j : Nat} (hj : j < l.length) : l[j].isDots = decide ((j : Int) = atOf l) := by
  rcases okDots_cases h with hn | ⟨a, y, b, rfl, hne, hy, ha, hb⟩
  · rw [hn _ (List.getElem_mem hj)]
    unfold atOf
    rw [rep_none hn]
    symm
    rw [decide_eq_false_iff_not]
    simp
  · have e : atOf (a ++ y :: b) = a.length := by
      unfold atOf
      have := List.length_pos_iff.2 hne
      rw [rep_one hy ha hne, if_neg (by omega)]
      omega
    rw [e]
    by_cases h1 : j < a.length
    · rw [List.getElem_append_left h1, ha _ (List.getElem_mem h1)]
      symm
      rw [decide_eq_false_iff_not]
      omega
    · by_cases h2 : j = a.length
      · subst h2
        rw [List.getElem_append_right (Nat.le_refl _)]
        simp [hy]
      · have h3 : j - a.length - 1 < b.length := by simp at hj; omega
        have : (a ++ y :: b)[j] = b[j - a.length - 1] := by
          rw [List.getElem_append_right (by omega), List.getElem_cons]
          rw [dif_neg (by omega)]
        rw [this, hb _ (List.getElem_mem h3)]
        symm
        rw [decide_eq_false_iff_not]
        omega
theorem at_head {l : List S} (h : okDots l = true) {j : Nat} (hj : j < l.length) : headDots (l.drop (j + 1)) = decide ((j : Int) + 1 = atOf l) := by
  by_cases h1 : j + 1 < l.length
  · rw [List.drop_eq_getElem_cons h1]
    show l[j + 1].isDots = _
    rw [at_dots h h1]
    apply decide_eq_decide.2
    omega
  · rw [List.drop_eq_nil_of_le (by omega)]
    show false = _
    symm
    rw [decide_eq_false_iff_not]
    intro e
    have h0 : 0 < l.length := by omega
    have : (atOf l) = l.length := by omega
    rcases okDots_cases h with hn | ⟨a, y, b, rfl, hne, hy, ha, hb⟩
    · unfold atOf at this
      rw [rep_none hn] at this
      simp at this
    · unfold atOf at this
      have hp := List.length_pos_iff.2 hne
      rw [rep_one hy ha hne, if_neg (by omega)] at this
      simp only [List.length_append, List.length_cons] at this
      omega
end S
end Go.Proofs.YtnldlbglgalbaabGreat

namespace Go.Proofs.YtnldlbglgalbaabGreat
open Go.RowKit
theorem chg_below {S : List Nat} {w w' : World} (h : Below w.heap.size w w') : Chg S w w' := Chg.of_below h

set_option maxRecDepth 100000 in
set_option maxHeartbeats 8000000 in
theorem l4VarsSym_any (lits : List S) (LA : Option Addr) (Lc : Nat) (d : S) (B base : Nat) (w : World) (v : Int) (u : Value) (ds : List (Tr Ka)) (out : List (S × Int)) (hs : d.size ≤ 2000000) (hbk : d.bulk ≤ 2000000) (hL : S.Row w B LA Lc lits) (hd : d.In w B) (hB : B ≤ base) (hbase : base ≤ w.heap.size)
    (hG : Ka.E.Grown 82 base w u ds) (he : Tr.erL Ka.er ds = out.map S.kaOf) (hw : S.wV out ≤ 1500000) (hl : out.length ≤ 2000000) (hk : d.k = 1) :
    Calls Tryz.prog 33 #[.slice LA lits.length Lc, d.val, .int .i64 v, u] w (GV base (S.varsM (S.litM lits) d v out) u w) := by
  obtain ⟨i0, hi, hz0, hz1, hz2⟩ := info_parts Ka_info
  have HR : Hid (S.varsM (S.litM lits) d v out = (if d.isWild || S.litM lits d then some out else if (d.isDots || out.any fun x => S.samN d x.1) || decide (3 < v) then none else some (out ++ [(d.er, v)]))) := by show _ = _; rw [S.varsM_eq, if_pos hk]
  obtain ⟨R, hR⟩ : ∃ z, z = S.varsM (S.litM lits) d v out := ⟨_, rfl⟩
  rw [← hR] at HR ⊢
  clear hR
  have HWD : Hid (d.isWild = (d.t.toList == [95])) := by show _ = _; unfold S.isWild; rw [decide_eq_true hk]; rfl
  have E1 : Hid ((d.k == 1) = true) := by show _ = _; simp [hk]
  clear hk
  obtain ⟨W1, hW1⟩ : ∃ W1, W1 = w.alloc (.cells #[.int .i64 d.k, .int .i64 d.n, .string d.t, .slice d.sa d.s.length d.sc, .slice d.A d.l.length d.c] 43) := ⟨_, rfl⟩
  have b1 : Below w.heap.size w W1 := by rw [hW1]; exact (Below.refl _ _).alloc (Nat.le_refl _) _
  have z1 : W1.heap.size = w.heap.size + 1 := by rw [hW1]; simp
  have X1 : S.Box W1 w.heap.size d := by rw [hW1]; exact S.Box.new _ _ _
  have HE := Lib.hid he
  have HDL : Hid (ds.length = out.length) := by have := congrArg List.length he; rw [Tr.erL_length, List.length_map] at this; exact this
  have HSome : Hid (∀ w', R = some out → Below w.heap.size w w' → GV base R u w (.returned (.tuple #[u, .bool true])) w') := fun w' hr hb => by rw [hr]; exact ⟨u, ds, rfl, hG.below hb, HE.out, chg_below hb, .inl rfl⟩
  have HNone : Hid (∀ w', R = none → Below w.heap.size w w' → GV base R u w (.returned (.tuple #[.slice none 0 0, .bool false])) w') := fun w' hr hb => by rw [hr]; exact ⟨rfl, chg_below hb⟩
  unfold S.val
  go_enter Tryz.func33, Tryz.ntmps33
  go_upto_region 1 with fail
  rw [← hW1]
  clear hW1
  have e1 := E1.out
  have X1q := X1
  obtain ⟨x0, x1, x2, x3, x4⟩ := X1q
  cases q0 : (d.t.toList == [95])
  · have hc1 := l2HasIdL_any LA Lc lits d B W1 (hL.below (b1.mono (by omega))) (hd.below (b1.mono (by omega))) (by omega)
    have HW0 : Hid (d.isWild = false) := by show _ = _; rw [HWD.out, q0]
    unfold S.val at hc1
    go_wp2_with fail
    clear x0 x1 x2 x3 x4
    cases q1 : S.litM lits d
    · rw [q1] at hc1
      have HR2 : Hid (R = (if (d.isDots || out.any fun x => S.samN d x.1) || decide (3 < v) then none else some (out ++ [(d.er, v)]))) := by show _ = _; rw [HR.out, HW0.out, q1]; rfl
      clear q1 q0
      (with_reducible refine hc1.mono ?_)
      clear hc1
      rintro e w2 ⟨rfl, hb2⟩
      have z2 := hb2.size
      have b2 := b1.trans (hb2.mono (by omega))
      have X2 := X1.below hb2 (by omega)
      have X2q := X2
      obtain ⟨x0, x1, x2, x3, x4⟩ := X2q
      have hc2 := specDots_any d w2
      unfold S.val at hc2
      go_wp2_with fail
      clear x0 x1 x2 x3 x4
      cases q2 : d.isDots
      · rw [q2] at hc2
        have HR3 : Hid (R = (if (out.any fun x => S.samN d x.1) || decide (3 < v) then none else some (out ++ [(d.er, v)]))) := by show _ = _; rw [HR2.out, q2, Bool.false_or]
        clear q2
        (with_reducible refine hc2.mono ?_)
        clear hc2
        rintro e w3 ⟨rfl, hb3⟩
        have z3 := hb3.size
        have b3 := b2.trans (hb3.mono (by omega))
        have X3 := X2.below hb3 (by omega)
        have X3q := X3
        obtain ⟨x0, x1, x2, x3, x4⟩ := X3q
        have hG3 := hG.below b3
        obtain ⟨A, c, hu, hown⟩ := hG3.out
        have hcf := l4Find_any A c ds d w3.heap.size w3 hown.inn ((hd.below (b3.mono (by omega))).more (by omega)) (Nat.le_refl _) (by rw [S.bulk_kaOf HE.out]; exact hw)
        rw [← hu] at hcf
        obtain ⟨FI, hFI⟩ : ∃ z, z = fidx (Ka.samM d) ds := ⟨_, rfl⟩
        have HFI : Hid (decide (0 ≤ FI) = out.any fun x => S.samN d x.1) := by show _ = _; rw [hFI]; exact S.find_any HE.out d
        rw [← hFI] at hcf
        clear hFI hown hu
        unfold S.val at hcf
        go_wp2_with fail
        clear x0 x1 x2 x3 x4
        (with_reducible refine hcf.mono ?_)
        clear hcf
        rintro e w4 ⟨rfl, hb4⟩
        have z4 := hb4.size
        have b4 := b3.trans (hb4.mono (by omega))
        have X4 := X3.below hb4 (by omega)
        obtain ⟨x0, x1, x2, x3, x4⟩ := X4
        by_cases hf : 0 ≤ FI
        · have HQ : Hid (R = none) := by show _ = _; rw [HR3.out, ← HFI.out, decide_eq_true hf]; rfl
          go_wp2_with fail
          go_ret2
          exact HNone.out _ HQ.out b4
        · by_cases hv : 3 < v
          · have HQ : Hid (R = none) := by show _ = _; rw [HR3.out, decide_eq_true hv, Bool.or_true]; rfl
            have hf2 : ¬ 0 ≤ FI := hf
            go_wp2_with fail
            go_ret2
            exact HNone.out _ HQ.out b4
          · have HQ : Hid (R = some (out ++ [(d.er, v)])) := by show _ = _; rw [HR3.out, ← HFI.out, decide_eq_false hf, decide_eq_false hv]; rfl
            have hcc := specCopyS_any d B w4 hs hbk (hd.below (b4.mono (by omega))) (by omega)
            unfold S.val at hcc
            go_wp2_with fail
            clear x0 x1 x2 x3 x4
            (with_reducible refine hcc.mono ?_)
            clear hcc
            rintro e w5 ⟨N, rfl, hNe, hN, hb5⟩
            have z5 := hb5.size
            have b5 := b4.trans (hb5.mono (by omega))
            unfold S.val
            have hG4 := hG.below b4
            have bA : Below w5.heap.size w5 (w5.alloc (.cells #[.int .i64 N.k, .int .i64 N.n, .string N.t, .slice N.sa N.s.length N.sc, .slice N.A N.l.length N.c, .int .i64 v, .int .i64 0, .int .i64 0, .string ⟨#[]⟩, .slice none 0 0, .slice none 0 0, .slice none 0 0] 82)) := (Below.refl _ _).alloc (Nat.le_refl _) _
            have hG6 := (hG4.below hb5).below bA
            have hrow6 := hG6.row
            have PP : Ka.E.Own w4.heap.size w5.heap.size (w5.alloc (.cells #[.int .i64 N.k, .int .i64 N.n, .string N.t, .slice N.sa N.s.length N.sc, .slice N.A N.l.length N.c, .int .i64 v, .int .i64 0, .int .i64 0, .string ⟨#[]⟩, .slice none 0 0, .slice none 0 0, .slice none 0 0] 82)) (Tr.mk (⟨N, v, zeroS⟩ : Ka) none 0 []) := Tr.own_of (Ka.own_head (x := ⟨N, v, zeroS⟩) (hN.below bA) (own_zeroS _ w5.heap.size _) (by omega) (Nat.le_refl _)) (Elem.LOwn.nil_ (by omega) (by simp)) (by omega) (Nat.le_refl _)
            have PL : Ka.E.OwnL w4.heap.size (w5.alloc (.cells #[.int .i64 N.k, .int .i64 N.n, .string N.t, .slice N.sa N.s.length N.sc, .slice N.A N.l.length N.c, .int .i64 v, .int .i64 0, .int .i64 0, .string ⟨#[]⟩, .slice none 0 0, .slice none 0 0, .slice none 0 0] 82)).heap.size (w5.alloc (.cells #[.int .i64 N.k, .int .i64 N.n, .string N.t, .slice N.sa N.s.length N.sc, .slice N.A N.l.length N.c, .int .i64 v, .int .i64 0, .int .i64 0, .string ⟨#[]⟩, .slice none 0 0, .slice none 0 0, .slice none 0 0] 82)) [Tr.mk (⟨N, v, zeroS⟩ : Ka) none 0 []] := by
              have := (Elem.OwnL.nil_ (E := Ka.E) (lo := w4.heap.size) (hi := w4.heap.size) (w := w5.alloc (.cells #[.int .i64 N.k, .int .i64 N.n, .string N.t, .slice N.sa N.s.length N.sc, .slice N.A N.l.length N.c, .int .i64 v, .int .i64 0, .int .i64 0, .string ⟨#[]⟩, .slice none 0 0, .slice none 0 0, .slice none 0 0] 82))).snoc PP (by omega) (Nat.le_refl _)
              rw [List.nil_append] at this
              exact this.wide (Nat.le_refl _) bA.size
            have hnews : ∀ j x, (Ka.E.cellsL [Tr.mk (⟨N, v, zeroS⟩ : Ka) none 0 []])[j]? = some x → (w5.alloc (.cells #[.int .i64 N.k, .int .i64 N.n, .string N.t, .slice N.sa N.s.length N.sc, .slice N.A N.l.length N.c, .int .i64 v, .int .i64 0, .int .i64 0, .string ⟨#[]⟩, .slice none 0 0, .slice none 0 0, .slice none 0 0] 82)).cell? ((⟨w5.heap.size, 0, none⟩ : Addr).add j) = some x := by
              intro j x hx
              rw [Elem.cellsL_one] at hx
              have e4 : (⟨w5.heap.size, 0, none⟩ : Addr).add j = ⟨w5.heap.size, j, none⟩ := by unfold Addr.add; split <;> simp_all
              rw [e4, cell_of_row _ _ _ _ _ _ (heap_alloc_new w5 _), ← Array.getElem?_toList]
              exact hx
            have hdl : ds.length ≤ 2000000 := by have := HDL.out; omega
            go_wp2_with (at_builtin; refine wpList_append_own_at _ rfl _ _ 38 rfl base 82 i0 _ 12 192 Tryz.underlying38 hi hz0 hz1 hz2 rfl (by decide) _ ds.length (Ka.E.cellsL ds) rfl hrow6 ⟨w5.heap.size, 0, none⟩ 1 1 (Ka.E.cellsL [Tr.mk (⟨N, v, zeroS⟩ : Ka) none 0 []]) rfl rfl hnews (Elem.cellsL_one' _) (by unfold maxLen; omega) (by omega) (by have := bA.size; omega) ?_)
            intro v' w7 hown' hgr _ hat
            have hG7 := hG4.app (hb5.trans (bA.mono z5)) PL (by omega) hown' hgr (by simpa using hat)
            have hch : Chg u.ownBlock.toList w w7 := by
              have bw := b5.trans (bA.mono (by omega))
              refine ⟨hgr.os.trans bw.os, hgr.tape.trans bw.tape, hgr.output.trans bw.output, Nat.le_trans bw.size hgr.size, fun b hb hn => ?_⟩
              rw [hgr.block b (Nat.lt_of_lt_of_le hb bw.size) (fun e => hn (by rw [← e]; simp))]
              exact bw.block b hb
            have hat2 : v'.ownBlock = u.ownBlock ∨ ∀ g, v'.ownBlock = some g → w.heap.size ≤ g := by
              rcases hat with e | e
              · exact .inl e
              · refine .inr fun g hg => ?_
                rw [e] at hg
                have := Option.some.inj hg
                first | omega | (simp at this; omega)
            have hfin : GV base R u w (.returned (.tuple #[v', .bool true])) w7 := by
              rw [HQ.out]
              refine ⟨v', _, rfl, hG7, ?_, hch, hat2⟩
              rw [Tr.erL_append, HE.out, List.map_append]
              congr 1
              show [Tr.mk _ _ _ _] = [S.kaOf _]
              unfold S.kaOf Ka.er
              rw [show N.er = d.er from hNe]
              rfl
            have HF := Lib.hid hfin
            clear hfin hch hat2 hG7 hown' hgr hat hrow6 hG6
            go_wp2_with fail
            go_ret2
            exact HF.out
      · rw [q2] at hc2
        have HQ : Hid (R = none) := by show _ = _; rw [HR2.out, q2]; rfl
        clear q2
        (with_reducible refine hc2.mono ?_)
        clear hc2
        rintro e w3 ⟨rfl, hb3⟩
        go_wp2_with fail
        go_ret2
        exact HNone.out _ HQ.out (b2.trans (hb3.mono (by omega)))
    · rw [q1] at hc1
      have HQ : Hid (R = some out) := by show _ = _; rw [HR.out, q1, Bool.or_true]; rfl
      clear q1
      (with_reducible refine hc1.mono ?_)
      clear hc1
      rintro e w2 ⟨rfl, hb2⟩
      go_wp2_with fail
      go_ret2
      exact HSome.out _ HQ.out (b1.trans (hb2.mono (by omega)))
  · have HQ : Hid (R = some out) := by show _ = _; rw [HR.out, HWD.out, q0]; rfl
    go_wp2_with fail
    go_ret2
    exact HSome.out _ HQ.out b1
end Go.Proofs.YtnldlbglgalbaabGreat

namespace Go.Proofs.YtnldlbglgalbaabGreat
open Go.RowKit
theorem chg_trans2 {u q : Value} {w w1 w2 : World} (h : Chg u.ownBlock.toList w w1) (h3 : q.ownBlock = u.ownBlock ∨ ∀ g, q.ownBlock = some g → w.heap.size ≤ g) (k : Chg q.ownBlock.toList w1 w2) : Chg u.ownBlock.toList w w2 := by
  refine ⟨k.os.trans h.os, k.tape.trans h.tape, k.output.trans h.output, Nat.le_trans h.size k.size, fun b hb hn => ?_⟩
  refine (k.block b (Nat.lt_of_lt_of_le hb h.size) fun hm => ?_).trans (h.block b hb hn)
  rcases h3 with e | e
  · rw [e] at hm; exact hn hm
  · have := e b (by simpa using hm); omega
theorem chg_below2 {S : List Nat} {w w1 w2 : World} (h : Chg S w w1) (k : Below w1.heap.size w1 w2) : Chg S w w2 :=
  ⟨k.os.trans h.os, k.tape.trans h.tape, k.output.trans h.output, Nat.le_trans h.size k.size, fun b hb hn => (k.block b (Nat.lt_of_lt_of_le hb h.size)).trans (h.block b hb hn)⟩
theorem S.atOf_range (l : List S) : -1 ≤ S.atOf l ∧ S.atOf l ≤ l.length := by
  have h : -1 ≤ S.repOf l ∧ S.repOf l < l.length := by
    unfold S.repOf
    rcases fidx_find S.isDots l with ⟨h1, _⟩ | ⟨j, hj, h1, _⟩
    · rw [h1]
      simp
      omega
    · rw [h1, if_neg (by omega)]
      omega
  unfold S.atOf
  split <;> omega
def L4VOk (lits : List S) (LA : Option Addr) (Lc m : Nat) : Prop := ∀ (d : S) (B base : Nat) (w : World) (v : Int) (u : Value) (ds : List (Tr Ka)) (out : List (S × Int)), d.size ≤ m → d.size ≤ 2000000 → d.bulk ≤ 2000000 → S.Row w B LA Lc lits → d.In w B → B ≤ base → base ≤ w.heap.size →
  Ka.E.Grown 82 base w u ds → Tr.erL Ka.er ds = out.map S.kaOf → S.wV out + (1 + d.bulk) ≤ 1500000 → out.length + d.size ≤ 2000000 → 0 ≤ v → v + d.size ≤ 9000000 →
  Calls Tryz.prog 33 #[.slice LA lits.length Lc, d.val, .int .i64 v, u] w (GV base (S.varsM (S.litM lits) d v out) u w)

set_option maxRecDepth 100000 in
set_option maxHeartbeats 8000000 in
theorem l4VarsList_any (lits : List S) (LA : Option Addr) (Lc m : Nat) (ih : L4VOk lits LA Lc m) (d : S) (B base : Nat) (w : World) (v : Int) (u : Value) (ds : List (Tr Ka)) (out : List (S × Int)) (hm : d.size ≤ m + 1) (hs : d.size ≤ 2000000) (hbk : d.bulk ≤ 2000000) (hL : S.Row w B LA Lc lits) (hd : d.In w B) (hB : B ≤ base) (hbase : base ≤ w.heap.size)
    (hG : Ka.E.Grown 82 base w u ds) (he : Tr.erL Ka.er ds = out.map S.kaOf) (hw : S.wV out + (1 + d.bulk) ≤ 1500000) (hl : out.length + d.size ≤ 2000000) (hv : 0 ≤ v) (hvs : v + d.size ≤ 9000000) (hk : d.k ≠ 1) :
    Calls Tryz.prog 33 #[.slice LA lits.length Lc, d.val, .int .i64 v, u] w (GV base (S.varsM (S.litM lits) d v out) u w) := by
  have HR : Hid (S.varsM (S.litM lits) d v out = if S.okDots d.l then S.varsML (S.litM lits) d.l v out else none) := by show _ = _; rw [S.varsM_eq, if_neg hk]
  obtain ⟨R, hR⟩ : ∃ z, z = S.varsM (S.litM lits) d v out := ⟨_, rfl⟩
  rw [← hR] at HR ⊢
  clear hR
  have E1 : Hid ((d.k == 1) = false) := by show _ = _; simpa using hk
  clear hk
  have hub : ∀ t ∈ u.ownBlock.toList, B ≤ t := fun t ht => by have := (hG.row.lt t (by simpa using ht)).1; omega
  have hll : d.l.length ≤ 2000000 := by have := S.length_le_sizeL d.l; have := S.size_eq d; omega
  have hse := S.size_eq d
  have hbl : S.bulkL d.l ≤ d.bulk := by
    obtain ⟨k, n, t, sa, sc, s, A, c, l⟩ := d
    show S.bulkL l ≤ t.size + (s.length + S.bulkL l)
    omega
  have hcd := hd.cap
  obtain ⟨W1, hW1⟩ : ∃ W1, W1 = w.alloc (.cells #[.int .i64 d.k, .int .i64 d.n, .string d.t, .slice d.sa d.s.length d.sc, .slice d.A d.l.length d.c] 43) := ⟨_, rfl⟩
  have b1 : Below w.heap.size w W1 := by rw [hW1]; exact (Below.refl _ _).alloc (Nat.le_refl _) _
  have z1 : W1.heap.size = w.heap.size + 1 := by rw [hW1]; simp
  have X1 : S.Box W1 w.heap.size d := by rw [hW1]; exact S.Box.new _ _ _
  have hrow : S.Row W1 B d.A d.c d.l := S.Row.of_itm (by
    obtain ⟨k, n, t, sa, sc, s, A, c, l⟩ := d
    have h := hd.below (b1.mono (by omega))
    unfold S.In at h
    unfold S.itm S.In
    exact ⟨⟨h.1.1, h.1.2.1, by show 0 ≤ _; omega⟩, IIn.nil_ (by omega) (by simp), h.2.2⟩)
  have hca := l4At_any d.A d.c d.l B W1 hrow (by omega) hll
  obtain ⟨OD, hOD⟩ : ∃ z, z = S.okDots d.l := ⟨_, rfl⟩
  obtain ⟨Z, hZ⟩ : ∃ z, z = (if OD then S.atOf d.l else -1) := ⟨_, rfl⟩
  rw [← hOD, ← hZ] at hca
  have HOD := Lib.hid hOD
  have HZ : Hid (OD = true → Z = S.atOf d.l) := fun h => by rw [hZ, h]; rfl
  have hZr : -1 ≤ Z ∧ Z ≤ 9000000 := by
    rw [hZ]
    split
    · have := S.atOf_range d.l; omega
    · omega
  clear hOD hZ hrow
  have HE := Lib.hid he
  clear he
  unfold S.val
  go_enter Tryz.func33, Tryz.ntmps33
  go_upto_region 1 with fail
  rw [← hW1]
  clear hW1
  have e1 := E1.out
  obtain ⟨x0, x1, x2, x3, x4⟩ := X1
  go_wp2_with fail
  (with_reducible refine hca.mono ?_)
  clear hca
  rintro e w2 ⟨rfl, hb2⟩
  have z2 := hb2.size
  have b2 := b1.trans (hb2.mono (by omega))
  have y4 : w2.cell? ⟨w.heap.size, 4, none⟩ = some (.slice d.A d.l.length d.c) := (hb2.cell (p := ⟨w.heap.size, 4, none⟩) (show w.heap.size < _ by omega)).trans x4
  clear x0 x1 x2 x3 x4
  have hG2 := hG.below b2
  have hch2 : Chg u.ownBlock.toList w w2 := chg_below b2
  have S0 : Hid (OD = true → ∃ (ds' : List (Tr Ka)) (o : List (S × Int)), Ka.E.Grown 82 base w2 u ds' ∧ Tr.erL Ka.er ds' = o.map S.kaOf ∧ S.varsML (S.litM lits) (d.l.drop 0) v o = R ∧ S.wV o + S.bulkL (d.l.drop 0) ≤ 1500000 ∧ o.length + S.sizeL (d.l.drop 0) ≤ 2000000 ∧ (u.ownBlock = u.ownBlock ∨ ∀ g, u.ownBlock = some g → w.heap.size ≤ g)) := by
    intro h
    refine ⟨ds, out, hG2, HE.out, ?_, by rw [List.drop_zero]; omega, by rw [List.drop_zero]; omega, .inl rfl⟩
    rw [HR.out, ← HOD.out, h, List.drop_zero]
    rfl
  have S1 : Hid (OD = false → R = none) := by
    intro h
    rw [HR.out, ← HOD.out, h]
    rfl
  have S2 : Hid (OD = true → S.okDots d.l = true) := fun h => by rw [← HOD.out, h]
  have g2 : w.heap.size < w2.heap.size := by omega
  clear hG2 hG
  go_wp2_with fail
  go_loopw [3, 11, 55] (fun q0 ok i wr => ∃ (q : Value) (j : Nat) (b : Bool), q = q0 ∧ j ≤ d.l.length ∧ i = .int .i64 j ∧ ok = .bool b ∧ Hid (b = true → ∃ (ds' : List (Tr Ka)) (o : List (S × Int)), Ka.E.Grown 82 base wr q ds' ∧ Tr.erL Ka.er ds' = o.map S.kaOf ∧ S.varsML (S.litM lits) (d.l.drop j) v o = R ∧ S.wV o + S.bulkL (d.l.drop j) ≤ 1500000 ∧ o.length + S.sizeL (d.l.drop j) ≤ 2000000 ∧ (q.ownBlock = u.ownBlock ∨ ∀ g, q.ownBlock = some g → w.heap.size ≤ g)) ∧ Hid (b = false → R = none) ∧ Hid (b = true → OD = true) ∧ Chg u.ownBlock.toList w wr) (fun _ _ i _ => d.l.length - (intOf i).toNat)
  case atStart => exact ⟨u, 0, OD, rfl, Nat.zero_le _, rfl, rfl, fun h => by obtain ⟨a, b, c1, c2, c3, c4, c5, _⟩ := S0.out h; exact ⟨a, b, c1, c2, c3, c4, c5, .inl rfl⟩, S1, fun h => h, hch2⟩
  case round =>
    clear S0 S1 hch2
    obtain ⟨q, j, b, hq, hj, rfl, rfl, HS, HF, HO, hch⟩ := hrel
    subst hq
    have hs2 := hch.size
    have hbB : Below B w _ := hch.below (B := B) hub (by omega)
    by_cases hlt : j < d.l.length
    · obtain ⟨pb, po, hA, hblk, c0, c1, c2, c3, c4, hix⟩ := (hd.below hbB).at_ (i := j) (x := d.l[j]) (List.getElem?_eq_getElem hlt)
      have g1 : (j : Int) < (d.l.length : Int) := by omega
      have hsz := S.size_item (d := d) (x := d.l[j]) (List.getElem_mem hlt)
      have hbi := S.bulk_get hlt
      have hLr := hL.below hbB
      rw [hA]
      clear hA
      obtain ⟨W4, hW4⟩ : ∃ W4, W4 = wr.alloc (.cells #[.int .i64 d.l[j].k, .int .i64 d.l[j].n, .string d.l[j].t, .slice d.l[j].sa d.l[j].s.length d.l[j].sc, .slice d.l[j].A d.l[j].l.length d.l[j].c] 43) := ⟨_, rfl⟩
      have bA : Below wr.heap.size wr W4 := by rw [hW4]; exact (Below.refl _ _).alloc (Nat.le_refl _) _
      have z4 : W4.heap.size = wr.heap.size + 1 := by rw [hW4]; simp
      have Y4 : S.Box W4 wr.heap.size d.l[j] := by rw [hW4]; exact S.Box.new _ _ _
      have hch4 := chg_below2 hch bA
      have hix4 := hix.below (bA.mono (by omega))
      have hL4 := hLr.below (bA.mono (by omega))
      go_upto_region 11 with fail
      rw [← hW4]
      clear hW4 c0 c1 c2 c3 c4
      cases b
      · have HQ : Hid (R = none) := HF.out rfl
        obtain ⟨y0, y1, y2, y3, y5⟩ := Y4
        go_wp2_with fail
        go_ret2
        rw [HQ.out]
        exact ⟨rfl, hch4⟩
      · obtain ⟨ds', o, q1, q2, q3, q5, q6, q4⟩ := HS.out rfl
        have hod : S.okDots d.l = true := S2.out (HO.out rfl)
        have hZ2 := HZ.out (HO.out rfl)
        have hdt := S.at_dots hod hlt
        have hhd := S.at_head hod hlt
        rw [← hZ2] at hdt hhd
        rw [List.drop_eq_getElem_cons hlt, S.varsML] at q3
        rw [List.drop_eq_getElem_cons hlt, S.bulkL] at q5
        rw [List.drop_eq_getElem_cons hlt, S.sizeL] at q6
        have qG := q1.below bA
        by_cases hz : (j : Int) = Z
        · have hz2 : ((j : Int) == Z) = true := by simp [hz]
          have hdd : d.l[j].isDots = true := by rw [hdt, decide_eq_true hz]
          rw [if_pos hdd] at q3
          have HS2 : Hid (true = true → ∃ (ds' : List (Tr Ka)) (o : List (S × Int)), Ka.E.Grown 82 base W4 q ds' ∧ Tr.erL Ka.er ds' = o.map S.kaOf ∧ S.varsML (S.litM lits) (d.l.drop (j + 1)) v o = R ∧ S.wV o + S.bulkL (d.l.drop (j + 1)) ≤ 1500000 ∧ o.length + S.sizeL (d.l.drop (j + 1)) ≤ 2000000 ∧ (q.ownBlock = u.ownBlock ∨ ∀ g, q.ownBlock = some g → w.heap.size ≤ g)) := fun _ => ⟨ds', o, qG, q2, q3, by omega, by omega, q4⟩
          have HZZ := Lib.hid hz
          clear q1 q2 q3 q4 q5 q6 hz hZ2 hdt hhd hdd qG HS
          obtain ⟨y0, y1, y2, y3, y5⟩ := Y4
          go_wp2_with fail
          exact ⟨⟨_, j + 1, true, rfl, by omega, by go_num, rfl, HS2, fun h => (by cases h), HO, hch4⟩, by simp [intOf]; omega⟩
        · have hz2 : ((j : Int) == Z) = false := by simpa using hz
          have hdd : d.l[j].isDots = false := by rw [hdt, decide_eq_false hz]
          rw [if_neg (by rw [hdd]; simp), hhd] at q3
          have HZZ := Lib.hid hz
          have H2 := Lib.hid q2
          have H4 := Lib.hid q4
          have HGq := Lib.hid qG
          clear hz hZ2 hdt hhd hdd q1 q4 HS q2 qG
          by_cases hn : (j : Int) + 1 = Z
          · rw [decide_eq_true hn] at q3
            simp only [if_true] at q3
            have hn2 : ((j : Int) + 1 == Z) = true := by simp [hn]
            have hw1 : wrap64 (v + 1) = v + 1 := by unfold wrap64; omega
            have hc := ih d.l[j] B base W4 (v + 1) q ds' o (by omega) (by omega) (by omega) hL4 hix4 hB (by omega) HGq.out H2.out (by omega) (by omega) (by omega) (by omega)
            have hwt := S.varsM_w (S.litM lits) d.l[j] (v + 1) o
            obtain ⟨M, hM⟩ : ∃ z, z = S.varsM (S.litM lits) d.l[j] (v + 1) o := ⟨_, rfl⟩
            rw [← hM] at hc q3 hwt
            clear hM hn H2 HGq
            unfold S.val at hc
            have HC := Lib.hid hc
            have HQ3 := Lib.hid q3
            have HQ5 := Lib.hid q5
            have HQ6 := Lib.hid q6
            have HWT := Lib.hid hwt
            clear hc q3 q5 q6 hwt
            obtain ⟨y0, y1, y2, y3, y5⟩ := Y4
            go_wp2_with fail
            clear y0 y1 y2 y3 y5
            have hc := HC.out
            clear HC
            cases M with
            | none =>
              have HQ : Hid (R = none) := HQ3.out.symm
              clear HQ3 HQ5 HQ6 HWT
              refine hc.mono ?_
              clear hc
              intro e w5 h
              obtain ⟨rfl, hcq⟩ := h
              have hch5 := chg_trans2 hch4 H4.out hcq
              clear hcq
              go_wp2_with fail
              exact ⟨⟨_, j + 1, false, rfl, by omega, by go_num, rfl, fun h => (by cases h), fun _ => HQ.out, fun h => (by cases h), hch5⟩, by simp [intOf]; omega⟩
            | some V =>
              have hwt2 := HWT.out V rfl
              have q5 := HQ5.out
              have q6 := HQ6.out
              have HQ : Hid (S.varsML (S.litM lits) (d.l.drop (j + 1)) v V = R) := HQ3.out
              clear HQ3 HWT HQ5 HQ6
              refine hc.mono ?_
              clear hc
              intro e w5 h
              obtain ⟨v', ds2, rfl, hG5, he5, hcq, hat5⟩ := h
              have hch5 := chg_trans2 hch4 H4.out hcq
              have h45 := hcq.size
              have hat6 : v'.ownBlock = u.ownBlock ∨ ∀ g, v'.ownBlock = some g → w.heap.size ≤ g := by
                rcases hat5 with e5 | e5
                · rw [e5]; exact H4.out
                · exact .inr fun g hg => by have := e5 g hg; omega
              have HS2 : Hid (true = true → ∃ (ds' : List (Tr Ka)) (o : List (S × Int)), Ka.E.Grown 82 base w5 v' ds' ∧ Tr.erL Ka.er ds' = o.map S.kaOf ∧ S.varsML (S.litM lits) (d.l.drop (j + 1)) v o = R ∧ S.wV o + S.bulkL (d.l.drop (j + 1)) ≤ 1500000 ∧ o.length + S.sizeL (d.l.drop (j + 1)) ≤ 2000000 ∧ (v'.ownBlock = u.ownBlock ∨ ∀ g, v'.ownBlock = some g → w.heap.size ≤ g)) := fun _ => ⟨ds2, V, hG5, he5, HQ.out, by omega, by omega, hat6⟩
              clear hcq hat5 hat6 hG5 he5 hwt2 q5 q6
              go_wp2_with fail
              exact ⟨⟨_, j + 1, true, rfl, by omega, by go_num, rfl, (fun _ => HS2.out (by first | rfl | trivial)), fun h => (by cases h), (fun _ => HO.out (by first | rfl | trivial)), hch5⟩, by simp [intOf]; omega⟩
          · rw [decide_eq_false hn] at q3
            simp only [Bool.false_eq_true, if_false] at q3
            have hn2 : ((j : Int) + 1 == Z) = false := by simpa using hn
            have hc := ih d.l[j] B base W4 v q ds' o (by omega) (by omega) (by omega) hL4 hix4 hB (by omega) HGq.out H2.out (by omega) (by omega) (by omega) (by omega)
            have hwt := S.varsM_w (S.litM lits) d.l[j] v o
            obtain ⟨M, hM⟩ : ∃ z, z = S.varsM (S.litM lits) d.l[j] v o := ⟨_, rfl⟩
            rw [← hM] at hc q3 hwt
            clear hM hn H2 HGq
            unfold S.val at hc
            have HC := Lib.hid hc
            have HQ3 := Lib.hid q3
            have HQ5 := Lib.hid q5
            have HQ6 := Lib.hid q6
            have HWT := Lib.hid hwt
            clear hc q3 q5 q6 hwt
            obtain ⟨y0, y1, y2, y3, y5⟩ := Y4
            go_wp2_with fail
            clear y0 y1 y2 y3 y5
            have hc := HC.out
            clear HC
            cases M with
            | none =>
              have HQ : Hid (R = none) := HQ3.out.symm
              clear HQ3 HQ5 HQ6 HWT
              refine hc.mono ?_
              clear hc
              intro e w5 h
              obtain ⟨rfl, hcq⟩ := h
              have hch5 := chg_trans2 hch4 H4.out hcq
              clear hcq
              go_wp2_with fail
              exact ⟨⟨_, j + 1, false, rfl, by omega, by go_num, rfl, fun h => (by cases h), fun _ => HQ.out, fun h => (by cases h), hch5⟩, by simp [intOf]; omega⟩
            | some V =>
              have hwt2 := HWT.out V rfl
              have q5 := HQ5.out
              have q6 := HQ6.out
              have HQ : Hid (S.varsML (S.litM lits) (d.l.drop (j + 1)) v V = R) := HQ3.out
              clear HQ3 HWT HQ5 HQ6
              refine hc.mono ?_
              clear hc
              intro e w5 h
              obtain ⟨v', ds2, rfl, hG5, he5, hcq, hat5⟩ := h
              have hch5 := chg_trans2 hch4 H4.out hcq
              have h45 := hcq.size
              have hat6 : v'.ownBlock = u.ownBlock ∨ ∀ g, v'.ownBlock = some g → w.heap.size ≤ g := by
                rcases hat5 with e5 | e5
                · rw [e5]; exact H4.out
                · exact .inr fun g hg => by have := e5 g hg; omega
              have HS2 : Hid (true = true → ∃ (ds' : List (Tr Ka)) (o : List (S × Int)), Ka.E.Grown 82 base w5 v' ds' ∧ Tr.erL Ka.er ds' = o.map S.kaOf ∧ S.varsML (S.litM lits) (d.l.drop (j + 1)) v o = R ∧ S.wV o + S.bulkL (d.l.drop (j + 1)) ≤ 1500000 ∧ o.length + S.sizeL (d.l.drop (j + 1)) ≤ 2000000 ∧ (v'.ownBlock = u.ownBlock ∨ ∀ g, v'.ownBlock = some g → w.heap.size ≤ g)) := fun _ => ⟨ds2, V, hG5, he5, HQ.out, by omega, by omega, hat6⟩
              clear hcq hat5 hat6 hG5 he5 hwt2 q5 q6
              go_wp2_with fail
              exact ⟨⟨_, j + 1, true, rfl, by omega, by go_num, rfl, (fun _ => HS2.out (by first | rfl | trivial)), fun h => (by cases h), (fun _ => HO.out (by first | rfl | trivial)), hch5⟩, by simp [intOf]; omega⟩
    · have hj' : d.l.length ≤ j := by omega
      cases b
      · have HQ : Hid (R = none) := HF.out rfl
        go_wp2_with fail
        go_ret2
        rw [HQ.out]
        exact ⟨rfl, hch⟩
      · obtain ⟨ds', o, q1, q2, q3, _, _, q4⟩ := HS.out rfl
        have HQ : Hid (R = some o) := by show _ = _; rw [← q3, List.drop_eq_nil_of_le hj', S.varsML]
        have HP := Lib.hid q1
        have HE2 := Lib.hid q2
        have H4 := Lib.hid q4
        clear q1 q2 q3 q4
        go_wp2_with fail
        go_ret2
        rw [HQ.out]
        exact ⟨_, ds', rfl, HP.out, HE2.out, hch, H4.out⟩

theorem l4Vars_any (lits : List S) (LA : Option Addr) (Lc : Nat) : ∀ m, L4VOk lits LA Lc m := by
  intro m
  induction m with
  | zero =>
    intro d B base w v u ds out hm
    have := S.size_pos d
    omega
  | succ m ih =>
    intro d B base w v u ds out hm hs hbk hL hd hB hbase hG he hw hl hv hvs
    by_cases hk : d.k = 1
    · exact l4VarsSym_any lits LA Lc d B base w v u ds out hs hbk hL hd hB hbase hG he (by omega) (by omega) hk
    · exact l4VarsList_any lits LA Lc m ih d B base w v u ds out hm hs hbk hL hd hB hbase hG he hw hl hv hvs hk
end Go.Proofs.YtnldlbglgalbaabGreat

namespace Go.Proofs.YtnldlbglgalbaabGreat
open Go.RowKit
theorem S.wild_isI {x : S} (h : x.isI = true) : x.isWild = (x.t.toList == [95]) := by
  unfold S.isWild
  rw [decide_eq_true (S.isI_parts h).1, Bool.true_and]
set_option maxRecDepth 100000 in
set_option maxHeartbeats 4000000 in
theorem l4Literals_any (A : Option Addr) (c : Nat) (l : List S) (B : Nat) (w : World) (hin : S.Row w B A c l) (hB : B ≤ w.heap.size) (hs : ∀ x ∈ l, x.size ≤ 2000000) :
    Calls Tryz.prog 29 #[.slice A l.length c] w fun e w' => e = .returned (.bool (S.areLits l)) ∧ Below w.heap.size w w' := by
  have hcap := hin.cap
  have HM : Hid (S.areLits l = (decide (l.length ≤ 8) && !l.any S.isNoneL)) := rfl
  obtain ⟨OK, hOK⟩ : ∃ z, z = S.areLits l := ⟨_, rfl⟩
  rw [← hOK] at HM ⊢
  clear hOK
  go_enter Tryz.func29, Tryz.ntmps29
  go_wp2_with fail
  go_loopw [7] (fun i wr => ∃ j : Nat, j ≤ l.length ∧ i = .int .i64 j ∧ Hid (∀ x ∈ l.take j, S.isNoneL x = false) ∧ Below w.heap.size w wr) (fun i _ => l.length - (intOf i).toNat)
  case atStart => exact ⟨0, Nat.zero_le _, rfl, by simp [Hid], Below.refl _ _⟩
  case round =>
    obtain ⟨j, hj, rfl, HN, hb⟩ := hrel
    have hs2 := hb.size
    by_cases hlt : j < l.length
    · obtain ⟨b, o, hA, hblk, c0, c1, c2, c3, c4, hix⟩ := S.atE ((hin.below (hb.mono hB)).2 (by rintro rfl; simp at hlt)) (i := j) (x := l[j]) (List.getElem?_eq_getElem hlt)
      have g1 : (j : Int) < (l.length : Int) := by omega
      have hsz := hs _ (List.getElem_mem hlt)
      rw [hA]
      clear hA
      have HX : Hid (S.isNoneL l[j] = (!l[j].isI || (l[j].isDots || l[j].isWild))) := rfl
      have HBAD : Hid (S.isNoneL l[j] = true → OK = false) := fun h => by rw [HM.out, any_yes hlt h]; simp
      obtain ⟨W2, hW2⟩ : ∃ W2, W2 = wr.alloc (.cells #[.int .i64 l[j].k, .int .i64 l[j].n, .string l[j].t, .slice l[j].sa l[j].s.length l[j].sc, .slice l[j].A l[j].l.length l[j].c] 43) := ⟨_, rfl⟩
      have bA : Below wr.heap.size wr W2 := by rw [hW2]; exact (Below.refl _ _).alloc (Nat.le_refl _) _
      have z2 : W2.heap.size = wr.heap.size + 1 := by rw [hW2]; simp
      have Y2 : S.Box W2 wr.heap.size l[j] := by rw [hW2]; exact S.Box.new _ _ _
      have b2 := hb.trans (bA.mono hs2)
      have hi2 := hix.below (bA.mono (by omega))
      have hc1 := specIdent_any l[j] B W2 hi2 (by omega) hsz
      unfold S.val at hc1
      go_upto_region 4 with fail
      rw [← hW2]
      clear hW2 c0 c1 c2 c3 c4
      have Y2q := Y2
      obtain ⟨y0, y1, y2, y3, y4⟩ := Y2q
      go_wp2_with fail
      clear y0 y1 y2 y3 y4
      cases q1 : l[j].isI
      · rw [q1] at hc1
        have HQ : Hid (OK = false) := HBAD.out (by rw [HX.out, q1]; rfl)
        clear q1
        (with_reducible refine hc1.mono ?_)
        clear hc1
        rintro e w3 ⟨rfl, hb3⟩
        have b3 := b2.trans (hb3.mono (by omega))
        obtain ⟨y0, y1, y2, y3, y4⟩ := Y2.below hb3 (by omega)
        go_wp2_with fail
        go_ret
        exact ⟨ret_bool HQ.out.symm, b3⟩
      · rw [q1] at hc1
        have HQ1 := Lib.hid q1
        clear q1
        (with_reducible refine hc1.mono ?_)
        clear hc1
        rintro e w3 ⟨rfl, hb3⟩
        have z3 := hb3.size
        have b3 := b2.trans (hb3.mono (by omega))
        have Y3 := Y2.below hb3 (by omega)
        have Y3q := Y3
        obtain ⟨y0, y1, y2, y3, y4⟩ := Y3q
        have hc2 := specDots_any l[j] w3
        unfold S.val at hc2
        go_wp2_with fail
        clear y0 y1 y2 y3 y4
        cases q2 : l[j].isDots
        · rw [q2] at hc2
          have HX2 : Hid (S.isNoneL l[j] = (l[j].t.toList == [95])) := by show _ = _; rw [HX.out, HQ1.out, q2, S.wild_isI HQ1.out]; rfl
          clear q2
          (with_reducible refine hc2.mono ?_)
          clear hc2
          rintro e w4 ⟨rfl, hb4⟩
          have b4 := b3.trans (hb4.mono (by omega))
          obtain ⟨y0, y1, y2, y3, y4⟩ := Y3.below hb4 (by omega)
          cases q3 : (l[j].t.toList == [95])
          · have HN2 : Hid (∀ x ∈ l.take (j + 1), S.isNoneL x = false) := none_succ hlt HN.out (by rw [HX2.out, q3])
            go_wp2_with fail
            exact ⟨⟨j + 1, by omega, by go_num, HN2, b4⟩, by simp [intOf]; omega⟩
          · have HQ : Hid (OK = false) := HBAD.out (by rw [HX2.out, q3])
            go_wp2_with fail
            go_ret
            exact ⟨ret_bool HQ.out.symm, b4⟩
        · rw [q2] at hc2
          have HQ : Hid (OK = false) := HBAD.out (by rw [HX.out, HQ1.out, q2]; rfl)
          clear q2
          (with_reducible refine hc2.mono ?_)
          clear hc2
          rintro e w4 ⟨rfl, hb4⟩
          have b4 := b3.trans (hb4.mono (by omega))
          obtain ⟨y0, y1, y2, y3, y4⟩ := Y3.below hb4 (by omega)
          go_wp2_with fail
          go_ret
          exact ⟨ret_bool HQ.out.symm, b4⟩
    · have hj' : j = l.length := by omega
      subst hj'
      have HQ : Hid (OK = decide ((l.length : Int) ≤ 8)) := by
        show _ = _
        rw [HM.out, any_none (by have := HN.out; rwa [List.take_length] at this)]
        simp
        omega
      go_wp2_with fail
      go_ret
      exact ⟨ret_bool HQ.out.symm, hb⟩
end Go.Proofs.YtnldlbglgalbaabGreat
