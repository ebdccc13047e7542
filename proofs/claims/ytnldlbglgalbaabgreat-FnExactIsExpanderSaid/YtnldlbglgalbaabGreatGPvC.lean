/-
  The variables of a part of a pattern that is no list (the methods walked).
-/
import Derived.Test.YtnldlbglgalbaabGreatGPvA
import Derived.Test.YtnldlbglgalbaabGreatGPvB
import Derived.Test.YtnldlbglgalbaabGreatGElT
import Derived.Deep.DeepCutAuto
import Derived.Deep.AppendLies
import Derived.Maps.AppendAt
namespace Go.Proofs.YtnldlbglgalbaabGreat
open Go.RowKit
theorem retKaL_nil {w w' : World} {e : Ending} (he : e = .returned (.slice none 0 0)) (hb : Below w.heap.size w w') : RetKaL [] w e w' :=
  ⟨none, 0, [], he, rfl, Elem.LOwn.nil_ (by omega) (by simp), hb⟩

theorem own_zeroS (lo hi : Nat) (w : World) : zeroS.Own lo hi w := by
  have e : S.blks zeroS = [] := by simp [zeroS, S.blks, iblk, S.blksL]
  refine ⟨?_, by rw [e]; simp, by rw [e]; exact List.nodup_nil, by rw [e]; simp⟩
  unfold zeroS S.In
  exact ⟨⟨Nat.le_refl _, by unfold maxLen; omega, by unfold maxLen; show 0 ≤ _; omega⟩, IIn.nil_ (by omega) (by simp), fun h => absurd rfl h, trivial⟩

set_option maxRecDepth 100000 in
set_option maxHeartbeats 1000000 in
theorem wildV_any (w : World) : Calls Tryz.prog 179 #[.agg #[]] w (RetKaL [] w) := by
  go_enter Tryz.func179, Tryz.ntmps179
  go_wp2_with fail
  go_ret
  exact retKaL_nil rfl ((Below.refl _ _).alloc (Nat.le_refl _) _)

set_option maxRecDepth 100000 in
set_option maxHeartbeats 1000000 in
theorem litV_any (x : S) (w : World) : Calls Tryz.prog 181 #[x.val] w (RetKaL [] w) := by
  unfold S.val
  go_enter Tryz.func181, Tryz.ntmps181
  go_wp2_with fail
  go_ret
  exact retKaL_nil rfl ((Below.refl _ _).alloc (Nat.le_refl _) _)

set_option maxRecDepth 100000 in
set_option maxHeartbeats 1000000 in
theorem conV_any (x : D) (w : World) : Calls Tryz.prog 177 #[x.val] w (RetKaL [] w) := by
  unfold D.val
  go_enter Tryz.func177, Tryz.ntmps177
  go_wp2_with fail
  go_ret
  exact retKaL_nil rfl ((Below.refl _ _).alloc (Nat.le_refl _) _)

set_option maxRecDepth 100000 in
set_option maxHeartbeats 2000000 in
theorem varV_any (d : S) (B : Nat) (w : World) (hin : d.In w B) (hB : B ≤ w.heap.size) (hs : d.size ≤ 2000000) (hbk : d.bulk ≤ 2000000) : Calls Tryz.prog 183 #[d.val] w (RetKaL [S.kaOf (d.er, 0)] w) := by
  obtain ⟨W1, hW1⟩ : ∃ W1, W1 = w.alloc (.cells #[.int .i64 d.k, .int .i64 d.n, .string d.t, .slice d.sa d.s.length d.sc, .slice d.A d.l.length d.c] 151) := ⟨_, rfl⟩
  have b1 : Below w.heap.size w W1 := by rw [hW1]; exact (Below.refl _ _).alloc (Nat.le_refl _) _
  have z1 : W1.heap.size = w.heap.size + 1 := by rw [hW1]; simp
  have X1 : S.Box W1 w.heap.size d := by rw [hW1]; exact S.Box.new _ _ _
  have hc := copySyn_any d B W1 hs hbk (hin.below (b1.mono hB)) (by omega)
  unfold S.val at hc ⊢
  go_enter Tryz.func183, Tryz.ntmps183
  go_upto_region 1 with fail
  rw [← hW1]
  clear hW1
  obtain ⟨x0, x1, x2, x3, x4⟩ := X1
  go_wp2_with fail
  refine hc.mono ?_
  clear hc x0 x1 x2 x3 x4
  rintro e w2 ⟨N, rfl, hNe, hN, hb2⟩
  have z2 := hb2.size
  unfold S.val
  go_wp2_with fail
  go_ret
  obtain ⟨W4, hW4⟩ : ∃ W4, W4 = w2.alloc (.cells #[.int .i64 N.k, .int .i64 N.n, .string N.t, .slice N.sa N.s.length N.sc, .slice N.A N.l.length N.c, .int .i64 0, .int .i64 0, .int .i64 0, .string ⟨#[]⟩, .slice none 0 0, .slice none 0 0, .slice none 0 0] 82) := ⟨_, rfl⟩
  have bA : Below w2.heap.size w2 W4 := by rw [hW4]; exact (Below.refl _ _).alloc (Nat.le_refl _) _
  have z4 : W4.heap.size = w2.heap.size + 1 := by rw [hW4]; simp
  have R4 : W4.heap[w2.heap.size]? = some (.cells #[.int .i64 N.k, .int .i64 N.n, .string N.t, .slice N.sa N.s.length N.sc, .slice N.A N.l.length N.c, .int .i64 0, .int .i64 0, .int .i64 0, .string ⟨#[]⟩, .slice none 0 0, .slice none 0 0, .slice none 0 0] 82 (0, 0)) := by rw [hW4]; exact heap_alloc_new _ _
  rw [← hW4]
  clear hW4
  have P0 := (hN.wide (lo' := w.heap.size) (hi' := w2.heap.size) (by omega) (Nat.le_refl _)).below bA
  have PP : Ka.E.Own w.heap.size w2.heap.size W4 (Tr.mk (⟨N, 0, zeroS⟩ : Ka) none 0 []) := Tr.own_of (Ka.own_head (x := ⟨N, 0, zeroS⟩) P0 (own_zeroS _ w2.heap.size _) (by omega) (Nat.le_refl _)) (Elem.LOwn.nil_ (by omega) (by simp)) (by omega) (Nat.le_refl _)
  have PL : Ka.E.OwnL w.heap.size W4.heap.size W4 [Tr.mk (⟨N, 0, zeroS⟩ : Ka) none 0 []] := by
    have := (Elem.OwnL.nil_ (E := Ka.E) (lo := w.heap.size) (hi := w.heap.size) (w := W4)).snoc PP (by omega) (Nat.le_refl _)
    rw [List.nil_append] at this
    exact this.wide (Nat.le_refl _) (by omega)
  have hrow : Ka.E.LOwn w.heap.size W4.heap.size W4 (some ⟨w2.heap.size, 0, none⟩) 1 [Tr.mk (⟨N, 0, zeroS⟩ : Ka) none 0 []] := by
    refine Elem.LOwn.of_row PL ⟨by simp, by omega⟩ (fun hm => ?_) (by omega) (by omega) (fun q => by simp [World.frozen?, R4]) fun j u hu => ?_
    · rw [Elem.blksL_one] at hm
      have := Ka.E.lt PP.inn _ hm
      omega
    · rw [Elem.cellsL_one] at hu
      rw [cell_of_row _ _ _ _ _ _ R4]
      rw [← Array.getElem?_toList]
      exact hu
  refine ⟨_, 1, [Tr.mk (⟨N, 0, zeroS⟩ : Ka) none 0 []], rfl, ?_, hrow, b1.trans ((hb2.trans (bA.mono (by omega))).mono (by omega))⟩
  show [Tr.mk _ _ _ _] = [S.kaOf _]
  unfold S.kaOf Ka.er
  rw [show N.er = d.er from hNe]
  rfl
end Go.Proofs.YtnldlbglgalbaabGreat

namespace Go.Proofs.YtnldlbglgalbaabGreat
open Go.RowKit
theorem Elem.cellsL_cons {α : Type} {E : Elem α} (x : α) (r : List α) : E.cellsL (x :: r) = E.cells x ++ E.cellsL r := by simp [Elem.cellsL]
theorem Elem.blksL_cons {α : Type} {E : Elem α} (x : α) (r : List α) : E.blksL (x :: r) = E.blks x ++ E.blksL r := by simp [Elem.blksL]
theorem Elem.cellsL_set {α : Type} {E : Elem α} {a' : α} {k : Nat} {u : Value} : ∀ (l : List α) (j : Nat) (h : j < l.length), k < E.n → E.cells a' = (E.cells l[j]).set k u → E.cellsL (l.set j a') = (E.cellsL l).set (E.n * j + k) u
  | x :: r, 0, _, hk, he => by
    simp only [List.getElem_cons_zero] at he
    rw [List.set_cons_zero, Elem.cellsL_cons, Elem.cellsL_cons, he, Nat.mul_zero, Nat.zero_add, List.set_append_left _ _ (by rw [E.len]; exact hk)]
  | x :: r, j + 1, h, hk, he => by
    have hj : j < r.length := by simpa using h
    have ih := Elem.cellsL_set (E := E) (a' := a') (u := u) r j hj hk (by simpa using he)
    rw [List.set_cons_succ, Elem.cellsL_cons, Elem.cellsL_cons, ih, List.set_append_right _ _ (by rw [E.len, Nat.mul_succ]; omega), E.len]
    rw [show E.n * (j + 1) + k - E.n = E.n * j + k by rw [Nat.mul_succ]; omega]
theorem Elem.blksL_set {α : Type} {E : Elem α} {a' : α} : ∀ (l : List α) (j : Nat) (h : j < l.length), E.blks a' = E.blks l[j] → E.blksL (l.set j a') = E.blksL l
  | x :: r, 0, _, he => by
    simp only [List.getElem_cons_zero] at he
    rw [List.set_cons_zero, Elem.blksL_cons, Elem.blksL_cons, he]
  | x :: r, j + 1, h, he => by
    have hj : j < r.length := by simpa using h
    rw [List.set_cons_succ, Elem.blksL_cons, Elem.blksL_cons, Elem.blksL_set (E := E) (a' := a') r j hj (by simpa using he)]
theorem Elem.LOwn.set {α : Type} {E : Elem α} {lo hi : Nat} {w : World} {b o c : Nat} {l : List α} (h : E.LOwn lo hi w (some ⟨b, o, none⟩) c l) {j : Nat} (hj : j < l.length) (a' : α) (k : Nat) (u : Value) (hk : k < E.n)
    (he : E.cells a' = (E.cells l[j]).set k u) (hbl : E.blks a' = E.blks l[j]) (hin : ∀ w B, E.In w B l[j] → E.In w B a') :
    E.LOwn lo hi (w.setCell ⟨b, o + (E.n * j + k), none⟩ u) (some ⟨b, o, none⟩) c (l.set j a') := by
  have hne : l ≠ [] := by rintro rfl; simp at hj
  have hne2 : l.set j a' ≠ [] := by intro e; have := congrArg List.length e; simp at this; exact hne this
  have hb1 := Elem.blksL_set (E := E) l j hj hbl
  have hlb : E.lblks (some ⟨b, o, none⟩) (l.set j a') = E.lblks (some ⟨b, o, none⟩) l := by
    unfold Elem.lblks Elem.lblk
    rw [hb1, List.isEmpty_eq_false_iff.2 hne, List.isEmpty_eq_false_iff.2 hne2]
  have hlk : Elem.lblk (some ⟨b, o, none⟩) l = [b] := by
    unfold Elem.lblk
    rw [List.isEmpty_eq_false_iff.2 hne]
    simp
  have hnb : b ∉ E.blksL l := by
    have := h.nd
    unfold Elem.lblks at this
    rw [hlk] at this
    simp only [List.singleton_append, List.nodup_cons] at this
    exact this.1
  obtain ⟨b', o', e, hlt, hc⟩ := h.inn.mem hne
  simp only [Option.some.injEq, Addr.mk.injEq, and_true] at e
  obtain ⟨rfl, rfl⟩ := e
  have hal : ∀ x ∈ l, E.In (w.setCell ⟨b, o + (E.n * j + k), none⟩ u) hi x := fun x hx => E.keepB (h.inn.all x hx) fun q hq => Below.heap_setCell _ _ _ _ (by
    rintro e
    have e2 : b = q := e.symm
    subst e2
    exact hnb (Elem.blksL_mem.2 ⟨x, hx, hq⟩))
  have hlen : (E.cellsL l).length = E.n * l.length := Elem.cellsL_length l
  have hjk : E.n * j + k < (E.cellsL l).length := by
    rw [hlen]
    have : E.n * (j + 1) ≤ E.n * l.length := Nat.mul_le_mul_left _ hj
    rw [Nat.mul_succ] at this
    omega
  refine ⟨⟨by rw [List.length_set]; exact h.inn.cap, h.inn.nil, fun _ => ⟨b, o, rfl, hlt, fun i v hv => ?_⟩, fun x hx => ?_⟩, ?_, ?_, ?_⟩
  · rw [Elem.cellsL_set l j hj hk he] at hv
    by_cases hi' : i = E.n * j + k
    · subst hi'
      rw [List.getElem?_set_self hjk] at hv
      obtain rfl := Option.some.inj hv
      exact World.cell?_setCell_same _ _ _ (hc _ _ (List.getElem?_eq_getElem hjk))
    · rw [List.getElem?_set_ne (fun e => hi' e.symm)] at hv
      rw [World.cell?_setCell_other _ _ _ _ (by intro e; simp only [Addr.mk.injEq, and_true, true_and] at e; omega)]
      exact hc i v hv
  · rcases List.mem_or_eq_of_mem_set hx with hx | rfl
    · exact hal x hx
    · exact hin _ _ (hal _ (List.getElem_mem hj))
  · rw [hlb]; exact h.lo_
  · rw [hlb]; exact h.nd
  · rw [hlb]; intro q hq p; rw [World.frozen?_setCell]; exact h.fr q hq p
end Go.Proofs.YtnldlbglgalbaabGreat

namespace Go.Proofs.YtnldlbglgalbaabGreat
open Go.RowKit
namespace S
/-- The first j are deeper already. -/
def part1 (V : List (S × Int)) (j : Nat) : List (S × Int) := deeper 1 (V.take j) ++ V.drop j
theorem part1_len (V : List (S × Int)) (j : Nat) : (part1 V j).length = V.length := by simp [part1, deeper]; omega
theorem part1_all (V : List (S × Int)) : part1 V V.length = deeper 1 V := by simp [part1]
theorem part1_zero (V : List (S × Int)) : part1 V 0 = V := by simp [part1, deeper]
theorem part1_get {V : List (S × Int)} {j : Nat} (h : j < V.length) : (part1 V j)[j]? = some V[j] := by
  unfold part1
  have e : (deeper 1 (V.take j)).length = j := by simp [deeper]; omega
  rw [List.getElem?_append_right (by omega), e, Nat.sub_self, List.drop_eq_getElem_cons h]
  rfl
theorem part1_set {V : List (S × Int)} {j : Nat} (h : j < V.length) : (part1 V j).set j (V[j].1, V[j].2 + 1) = part1 V (j + 1) := by
  unfold part1
  have e : (deeper 1 (V.take j)).length = j := by simp [deeper]; omega
  rw [List.set_append_right _ _ (by omega), e, Nat.sub_self, List.drop_eq_getElem_cons h, List.set_cons_zero, List.take_succ_eq_append_getElem h, deeper_append, List.append_assoc]
  rfl
theorem kaOf_of_er {x : Tr Ka} {y : S × Int} (h : x.er Ka.er = kaOf y) : x.a.N.er = y.1 ∧ x.a.dep = y.2 := by
  obtain ⟨a, A, c, l⟩ := x
  unfold kaOf at h
  rw [Tr.er] at h
  injection h with h1 _ _ _
  have h2 := congrArg Ka.N h1
  have h3 := congrArg Ka.dep h1
  exact ⟨h2, h3⟩
/-- One deeper. -/
theorem blks_more {a a' : Ka} (h : Ka.blks a' = Ka.blks a) (A : Option Addr) (c : Nat) (l : List (Tr Ka)) : Ka.E.blks (.mk a' A c l) = Ka.E.blks (.mk a A c l) := by
  show Ka.blks a' ++ _ = Ka.blks a ++ _
  rw [h]
def more1 (x : Tr Ka) : Tr Ka := .mk ⟨x.a.N, x.a.dep + 1, x.a.F⟩ x.A x.c x.l
theorem more1_blks (x : Tr Ka) : Ka.E.blks (more1 x) = Ka.E.blks x := by
  obtain ⟨a, A, c, l⟩ := x
  exact blks_more rfl A c l
theorem more1_er {x : Tr Ka} {y : S × Int} (h : x.er Ka.er = kaOf y) : (more1 x).er Ka.er = kaOf (y.1, y.2 + 1) := by
  obtain ⟨a, A, c, l⟩ := x
  unfold kaOf at h ⊢
  rw [Tr.er] at h
  injection h with h1 h2 h3 h4
  unfold more1
  rw [Tr.er]
  have e1 : a.N.er = y.1 := congrArg Ka.N h1
  have e2 : a.dep = y.2 := congrArg Ka.dep h1
  have e3 : a.F.er = zeroS := congrArg Ka.F h1
  congr 1
  show Ka.er ⟨a.N, a.dep + 1, a.F⟩ = _
  unfold Ka.er
  simp only [e1, e2, e3]
end S

set_option maxRecDepth 100000 in
set_option maxHeartbeats 2000000 in
theorem repV_any (v x : Value) (F : Nat) (hM : Meth v F x) (V : List (S × Int)) (w : World) (hc : Calls Tryz.prog F #[x] w (RetKaL (V.map S.kaOf) w)) (hV : V.length ≤ 9000000) (hd : ∀ y ∈ V, 0 ≤ y.2 ∧ y.2 ≤ 9000000) :
    Calls Tryz.prog 191 #[v] w (RetKaL ((S.deeper 1 V).map S.kaOf) w) := by
  obtain ⟨T, rfl, hmm⟩ := hM
  have hm := fun w => (hmm w).1
  have hf := fun w => (hmm w).2
  clear hmm
  go_enter Tryz.func191, Tryz.ntmps191
  go_wp2_with fail
  refine hc.mono ?_
  clear hc hm hf
  rintro e w1 ⟨A, c, l, rfl, her, hown, hb⟩
  have hlen : l.length = V.length := by have := congrArg List.length her; rw [Tr.erL_length] at this; simpa using this
  have z1 := hb.size
  obtain ⟨n, hn⟩ : ∃ n, n = l.length := ⟨_, rfl⟩
  rw [← hn]
  have hn2 : n = V.length := by omega
  have hn9 : n ≤ 9000000 := by omega
  go_wp2_with fail
  go_loopw [9] (fun i wr => ∃ (j : Nat) (lj : List (Tr Ka)), j ≤ n ∧ i = .int .i64 j ∧ Tr.erL Ka.er lj = (S.part1 V j).map S.kaOf ∧ Ka.E.LOwn w.heap.size wr.heap.size wr A c lj ∧ Below w.heap.size w wr ∧ w1.heap.size ≤ wr.heap.size) (fun i _ => n - (intOf i).toNat)
  case atStart => exact ⟨0, l, Nat.zero_le _, rfl, by rw [S.part1_zero]; exact her, hown, hb, Nat.le_refl _⟩
  case round =>
    obtain ⟨j, lj, hj, rfl, hel, hol, hbw, hz⟩ := hrel
    have hlj : lj.length = n := by have := congrArg List.length hel; rw [Tr.erL_length, List.length_map, S.part1_len] at this; omega
    by_cases hlt : j < n
    · have hltj : j < lj.length := by omega
      have hltV : j < V.length := by omega
      have hget : (lj[j]).er Ka.er = S.kaOf V[j] := by
        have h1 : (Tr.erL Ka.er lj)[j]? = some ((lj[j]).er Ka.er) := by rw [Tr.erL_map, List.getElem?_map, List.getElem?_eq_getElem hltj]; rfl
        rw [hel, List.getElem?_map, S.part1_get hltV] at h1
        exact (Option.some.inj h1).symm
      obtain ⟨hN, hdp⟩ := S.kaOf_of_er hget
      have hb9 := hd V[j] (List.getElem_mem hltV)
      rw [← hdp] at hb9
      obtain ⟨b, o, hA, hblk, -, -, -, -, -, c5, -, -, -, -, -, -, -⟩ := Ka.at_ hol.inn (i := j) (x := lj[j]) (List.getElem?_eq_getElem hltj)
      have hfr : wr.frozen? ⟨b, o + j * 12 + 5, none⟩ = false := hol.fr b (List.mem_append.2 (.inl (by unfold Elem.lblk; rw [List.isEmpty_eq_false_iff.2 (by rintro rfl; simp at hltj), hA]; simp))) _
      have hge : w.heap.size ≤ b := hol.lo_ b (List.mem_append.2 (.inl (by unfold Elem.lblk; rw [List.isEmpty_eq_false_iff.2 (by rintro rfl; simp at hltj), hA]; simp)))
      have g3 : (j : Int) < (n : Int) := by omega
      have hw : wrap64 (lj[j].a.dep + 1) = lj[j].a.dep + 1 := by unfold wrap64; omega
      subst hA
      have HE := Lib.hid hel
      have HG := Lib.hid hget
      have HO := Lib.hid hol
      have HD := Lib.hid hdp
      have HN := Lib.hid hN
      clear hel hget hol hdp hN her hown hd
      go_wp2_with fail
      go_roundw
      case rel =>
        have hs := HO.out.set hltj (S.more1 lj[j]) 5 (.int .i64 (lj[j].a.dep + 1)) (by decide) (by rfl) (S.more1_blks _) (fun w B h => Ka.E_mk ⟨(Ka.E_in h).1.N, (Ka.E_in h).1.F⟩ (Ka.E_in h).2)
        rw [show o + (Ka.E.n * j + 5) = o + j * 12 + 5 from by rw [Ka.E_n]; omega] at hs
        refine ⟨j + 1, lj.set j (S.more1 lj[j]), by omega, by go_num, ?_, by simpa using hs, hbw.setCell hge _, by simpa using hz⟩
        rw [Tr.erL_map, List.map_set, ← Tr.erL_map, HE.out, S.more1_er HG.out, ← S.part1_set hltV, List.map_set]
      case measure => simp [intOf]; omega
    · have hj' : j = n := by omega
      have g3 : ¬ (j : Int) < (n : Int) := by omega
      go_wp2_with fail
      go_ret
      refine ⟨A, c, lj, (by rw [show lj.length = V.length from by omega] <;> rfl), ?_, hol, hbw⟩
      rw [hel, hj', hn2, S.part1_all]
end Go.Proofs.YtnldlbglgalbaabGreat

namespace Go.Proofs.YtnldlbglgalbaabGreat
open Go.RowKit

/-- A row that has grown by append, as a list. -/
theorem Elem.LOwn.of_owns {α : Type} {E : Elem α} {w : World} {base : Nat} {t : TypeId} {v : Value} {ds : List α} (h : w.ownsRow base t E.n v ds.length (E.cellsL ds)) (ho : E.OwnL base w.heap.size w ds) (hap : ∀ g, v.ownBlock = some g → g ∉ E.blksL ds) :
    ∃ A c, v = .slice A ds.length c ∧ E.LOwn base w.heap.size w A c ds := by
  rcases h.2 with ⟨rfl, h0⟩ | ⟨g, cap, cur, rfl, hb, hg, hn, hc, hs, ht⟩
  · have : ds = [] := List.length_eq_zero_iff.1 h0
    subst this
    exact ⟨none, 0, rfl, Elem.LOwn.nil_ (by omega) (by simp)⟩
  · refine ⟨some ⟨g, 0, none⟩, cap, rfl, Elem.LOwn.of_row ho ⟨hn, hc⟩ (hap g rfl) hb (Array.getElem?_eq_some_iff.1 hg).1 (fun q => by simp [World.frozen?, hg]) fun j u hu => ?_⟩
    rw [cell_of_row w g j cur _ (0, 0) hg]
    have h1 : (cur.toList.take (ds.length * E.n))[j]? = some u := by rw [ht]; exact hu
    rw [List.getElem?_take] at h1
    split at h1
    · simpa using h1
    · cases h1
/-- What has been filled, as a row that may grow. -/
theorem Elem.Fill.owns {α : Type} {E : Elem α} {w : World} {g n : Nat} {t : TypeId} {ds : List α} (h : E.Fill w g t n ds) (hn : ds.length = n) (hn2 : n ≤ 9223372036854775807) : w.ownsRow g t E.n (.slice (some ⟨g, 0, none⟩) n n) ds.length (E.cellsL ds) := by
  obtain ⟨cs, h1, h2, h3⟩ := h.row
  refine ⟨by rw [Elem.cellsL_length, Nat.mul_comm], .inr ⟨g, n, cs, by rw [hn], Nat.le_refl _, h1, by omega, hn2, by rw [h2, Nat.mul_comm], ?_⟩⟩
  have e : ds.length * E.n = (E.cellsL ds).length := by rw [Elem.cellsL_length, Nat.mul_comm]
  rw [e]
  apply List.ext_getElem?
  intro i
  rw [List.getElem?_take]
  split
  · rename_i hi
    have hx := List.getElem?_eq_getElem hi
    rw [hx]
    have := h3 i _ hx
    simpa using this
  · rename_i hi
    rw [List.getElem?_eq_none (by omega)]

/-- A row that has grown: nothing else that was there has changed. -/
def Elem.Grew {α : Type} (E : Elem α) (t : TypeId) (base : Nat) (ds : List α) (v : Value) (w : World) (v' : Value) (w' : World) : Prop :=
  w'.ownsRow base t E.n v' ds.length (E.cellsL ds) ∧ Chg v.ownBlock.toList w w' ∧ (v'.ownBlock = v.ownBlock ∨ ∀ g, v'.ownBlock = some g → w.heap.size ≤ g)
theorem Elem.Grew.refl {α : Type} {E : Elem α} {t : TypeId} {base : Nat} {ds : List α} {v : Value} {w : World} (h : w.ownsRow base t E.n v ds.length (E.cellsL ds)) : E.Grew t base ds v w v w := ⟨h, Chg.refl _ _, .inl rfl⟩
theorem Elem.Grew.trans {α : Type} {E : Elem α} {t : TypeId} {base : Nat} {ds ds2 : List α} {v v1 v2 : Value} {w w1 w2 : World} (h : E.Grew t base ds v w v1 w1) (k : E.Grew t base ds2 v1 w1 v2 w2) : E.Grew t base ds2 v w v2 w2 := by
  obtain ⟨h1, h2, h3⟩ := h
  obtain ⟨k1, k2, k3⟩ := k
  refine ⟨k1, ⟨k2.os.trans h2.os, k2.tape.trans h2.tape, k2.output.trans h2.output, Nat.le_trans h2.size k2.size, fun b hb hn => ?_⟩, ?_⟩
  · refine (k2.block b (Nat.lt_of_lt_of_le hb h2.size) fun hm => ?_).trans (h2.block b hb hn)
    rcases h3 with e | e
    · rw [e] at hm; exact hn hm
    · have := e b (by simpa using hm); omega
  · rcases k3 with e | e
    · rw [e]; exact h3
    · exact .inr fun g hg => Nat.le_trans h2.size (e g hg)
/-- One element more, appended out of a new block. -/
theorem Elem.Grew.snoc {α : Type} {E : Elem α} {t : TypeId} {base : Nat} {ds : List α} {x : α} {v v' : Value} {w w1 : World} {o : Obj}
    (hown' : w1.ownsRow base t E.n v' (ds.length + 1) (E.cellsL ds ++ E.cells x)) (hgr : (w.alloc o).grownBy w1 v.ownBlock) (hat : v'.ownBlock = v.ownBlock ∨ ∀ g, v'.ownBlock = some g → w.heap.size ≤ g) : E.Grew t base (ds ++ [x]) v w v' w1 := by
  refine ⟨by rw [List.length_append, Elem.cellsL_append, Elem.cellsL_one]; exact hown', ⟨hgr.os, hgr.tape, hgr.output, by have := hgr.size; simp at this; omega, fun b hb hn => ?_⟩, hat⟩
  rw [hgr.block b (by simp; omega) (fun e => hn (by rw [← e]; simp))]
  exact Below.heap_alloc _ _ _ hb

end Go.Proofs.YtnldlbglgalbaabGreat

namespace Go.Proofs.YtnldlbglgalbaabGreat
open Go.RowKit
theorem Elem.LOwn.ownL {α : Type} {E : Elem α} {lo hi : Nat} {w : World} {A : Option Addr} {c : Nat} {l : List α} (h : E.LOwn lo hi w A c l) : E.OwnL lo hi w l :=
  ⟨h.inn.all, fun b hb => h.lo_ b (List.mem_append.2 (.inr hb)), (List.nodup_append.1 h.nd).2.1, fun b hb => h.fr b (List.mem_append.2 (.inr hb))⟩
theorem Elem.OwnL.append {α : Type} {E : Elem α} {lo mid hi : Nat} {w : World} {a b : List α} (h : E.OwnL lo mid w a) (k : E.OwnL mid hi w b) (h1 : lo ≤ mid) (h2 : mid ≤ hi) : E.OwnL lo hi w (a ++ b) := by
  refine ⟨fun x hx => ?_, fun q hq => ?_, ?_, fun q hq => ?_⟩
  · rcases List.mem_append.1 hx with hx | hx
    · exact E.more (h.inn x hx) h2
    · exact k.inn x hx
  · rw [Elem.blksL_append] at hq
    rcases List.mem_append.1 hq with hq | hq
    · exact h.lo_ q hq
    · have := k.lo_ q hq; omega
  · rw [Elem.blksL_append]
    refine List.nodup_append.2 ⟨h.nd, k.nd, fun p hp q hq e => ?_⟩
    have := h.blk_lt p hp
    have := k.lo_ q hq
    omega
  · rw [Elem.blksL_append] at hq
    rcases List.mem_append.1 hq with hq | hq
    · exact h.fr q hq
    · exact k.fr q hq
/-- A row that has grown, of elements of the call's own. -/
structure Elem.Grown {α : Type} (E : Elem α) (t : TypeId) (base : Nat) (w : World) (v : Value) (ds : List α) : Prop where
  row : w.ownsRow base t E.n v ds.length (E.cellsL ds)
  own : E.OwnL base w.heap.size w ds
  ap : ∀ g, v.ownBlock = some g → g ∉ E.blksL ds
theorem Elem.Grown.nil {α : Type} {E : Elem α} {t : TypeId} {base : Nat} {w : World} : E.Grown t base w (.slice none 0 0) [] := ⟨World.ownsRow_nil _ _ _ _, Elem.OwnL.nil_, by simp [Elem.blksL]⟩
theorem Elem.Grown.out {α : Type} {E : Elem α} {t : TypeId} {base : Nat} {w : World} {v : Value} {ds : List α} (h : E.Grown t base w v ds) : ∃ A c, v = .slice A ds.length c ∧ E.LOwn base w.heap.size w A c ds := Elem.LOwn.of_owns h.row h.own h.ap
theorem Elem.Grown.below {α : Type} {E : Elem α} {t : TypeId} {base : Nat} {w w' : World} {v : Value} {ds : List α} (h : E.Grown t base w v ds) (hb : Below w.heap.size w w') : E.Grown t base w' v ds :=
  ⟨h.row.kept (w' := w') (row := none) ⟨hb.os, hb.tape, hb.output, hb.size, fun k hk _ => hb.block k hk⟩ (by cases v.ownBlock <;> simp), (h.own.below hb).wide (Nat.le_refl _) hb.size, h.ap⟩
theorem Elem.Grown.app {α : Type} {E : Elem α} {t : TypeId} {base : Nat} {w0 w w3 : World} {v v' : Value} {ds ns : List α} (h : E.Grown t base w0 v ds) (hb : Below w0.heap.size w0 w) (hn : E.OwnL w0.heap.size w.heap.size w ns) (hbase : base ≤ w0.heap.size)
    (hown : w3.ownsRow base t E.n v' (ds.length + ns.length) (E.cellsL ds ++ E.cellsL ns)) (hgr : w.grownBy w3 v.ownBlock) (hat : v'.ownBlock = v.ownBlock ∨ v'.ownBlock = some w.heap.size) : E.Grown t base w3 v' (ds ++ ns) := by
  have hds : E.OwnL base w0.heap.size w ds := h.own.below hb
  have hall := hds.append hn hbase hb.size
  have hnr : ∀ k ∈ E.blksL (ds ++ ns), some k ≠ v.ownBlock := by
    intro k hk e
    rw [Elem.blksL_append] at hk
    rcases List.mem_append.1 hk with hk | hk
    · exact h.ap k e.symm hk
    · have := hn.lo_ k hk
      have := (h.row.lt k e.symm).2
      omega
  have hk : ∀ k ∈ E.blksL (ds ++ ns), w3.heap[k]? = w.heap[k]? := fun k hk => hgr.block k (hall.blk_lt k hk) (hnr k hk)
  refine ⟨by rw [List.length_append, Elem.cellsL_append]; exact hown, (hall.keepB hk).wide (Nat.le_refl _) hgr.size, fun g hg hm2 => ?_⟩
  rcases hat with e | e
  · rw [e] at hg; exact hnr g hm2 hg.symm
  · rw [e] at hg
    obtain rfl := Option.some.inj hg
    have := hall.blk_lt _ hm2
    omega
end Go.Proofs.YtnldlbglgalbaabGreat

namespace Go.Proofs.YtnldlbglgalbaabGreat
open Go.RowKit
namespace S
theorem deeper_len (v : Int) (l : List (S × Int)) : (deeper v l).length = l.length := by simp [deeper]
theorem kaOf_map_append (a b : List (S × Int)) : (a ++ b).map kaOf = a.map kaOf ++ b.map kaOf := List.map_append
/-- So many variables, so deep, at the most. -/
theorem varsV_few (g : S → Bool) : ∀ d : S, (varsV g d).length ≤ d.size ∧ ∀ y ∈ varsV g d, 0 ≤ y.2 ∧ y.2 ≤ d.size := by
  have hL : ∀ l : List S, (∀ x ∈ l, (varsV g x).length ≤ x.size ∧ ∀ y ∈ varsV g x, 0 ≤ y.2 ∧ y.2 ≤ x.size) → (varsVL g l).length ≤ sizeL l ∧ ∀ y ∈ varsVL g l, 0 ≤ y.2 ∧ y.2 ≤ 1 + sizeL l := by
    intro l
    induction l with
    | nil => intro _; simp [varsVL, sizeL]
    | cons x r ih =>
      intro h
      obtain ⟨i1, i2⟩ := ih fun y hy => h y (by simp [hy])
      obtain ⟨h1, h2⟩ := h x (by simp)
      have e : sizeL (x :: r) = x.size + sizeL r := by rw [sizeL]
      rw [varsVL, e]
      split
      · refine ⟨by omega, fun y hy => ?_⟩
        have := i2 y hy
        omega
      · refine ⟨by rw [List.length_append, deeper_len]; omega, fun y hy => ?_⟩
        rcases List.mem_append.1 hy with hy | hy
        · unfold deeper at hy
          obtain ⟨z, hz, rfl⟩ := List.mem_map.1 hy
          have := h2 z hz
          simp only
          split <;> omega
        · have := i2 y hy
          omega
  intro d
  induction d using ind with
  | h d ih =>
    have := hL d.l ih
    have e := size_eq d
    rw [varsV_eq]
    split
    · split
      · simp
      · simp; omega
    · split
      · refine ⟨by omega, fun y hy => ?_⟩
        have := this.2 y hy
        omega
      · simp
end S
end Go.Proofs.YtnldlbglgalbaabGreat

namespace Go.Proofs.YtnldlbglgalbaabGreat
open Go.RowKit
namespace S
theorem catV_append (g : S → Bool) (rep : Int) : ∀ (k : Nat) (a b : List S), catV g rep k (a ++ b) = catV g rep k a ++ catV g rep (k + a.length) b
  | k, [], b => by simp [catV]
  | k, x :: r, b => by
    rw [List.cons_append, catV, catV_append g rep (k + 1) r b, catV, List.append_assoc, show k + 1 + r.length = k + (x :: r).length from by rw [List.length_cons]; omega]
theorem catV_take_le (g : S → Bool) (rep : Int) (F : List S) (j : Nat) : (catV g rep 0 (F.take j)).length ≤ (catV g rep 0 F).length := by
  conv => rhs; rw [← List.take_append_drop j F]
  rw [catV_append, List.length_append]
  omega
end S
def VarsOk (g : S → Bool) (m : Nat) : Prop := ∀ (d : S) (v : Value) (B : Nat) (Q : Nat → Prop) (w : World), d.size ≤ m → d.size ≤ 2000000 → S.PartOf g w B Q d v → B ≤ w.heap.size → (∀ b, Q b → b < w.heap.size) → ∃ F x, Meth v F x ∧ Calls Tryz.prog F #[x] w (RetKaL ((S.varsV g d).map S.kaOf) w)

set_option maxRecDepth 100000 in
set_option maxHeartbeats 4000000 in
theorem listV_any (g : S → Bool) (m : Nat) (ih : VarsOk g m) (d : S) (A : Option Addr) (c : Nat) (vs : List Value) (B : Nat) (Q : Nat → Prop) (w : World) (hm : d.size ≤ m + 1) (hs : d.size ≤ 2000000) (hB : B ≤ w.heap.size) (hQ : ∀ b, Q b → b < w.heap.size)
    (hk : d.k = 0) (hok : S.okDots d.l = true) (hl : vs.length = (S.kept d.l).length) (hcap : vs.length ≤ c ∧ c ≤ 9223372036854775807)
    (hrow : ∀ j (h : j < vs.length), ∃ b o : Nat, A = some ⟨b, o, none⟩ ∧ Q b ∧ w.cell? ⟨b, o + j, none⟩ = some vs[j])
    (hsub : ∀ j (h : j < vs.length) (h' : j < (S.kept d.l).length), S.PartOf g w B Q (S.kept d.l)[j] vs[j]) :
    Calls Tryz.prog 190 #[.agg #[.slice A vs.length c, .int .i64 (S.repOf d.l)]] w (RetKaL ((S.varsV g d).map S.kaOf) w) := by
  obtain ⟨i0, hi, hz0, hz1, hz2⟩ := info_parts Ka_info
  have HV : Hid (S.varsV g d = S.catV g (S.repOf d.l) 0 (S.kept d.l)) := by
    show _ = _
    rw [S.varsV_eq, if_neg (by omega), if_pos hk, S.varsVL_cat g hok]
  have hfew := (S.varsV_few g d).1
  rw [HV.out] at hfew
  have hitem : ∀ x ∈ S.kept d.l, x.size ≤ m ∧ x.size ≤ 2000000 := by
    intro x hx
    have := S.size_item (List.mem_filter.1 hx).1
    omega
  obtain ⟨F, hF⟩ : ∃ F, F = S.kept d.l := ⟨_, rfl⟩
  obtain ⟨rep, hrep⟩ : ∃ r, r = S.repOf d.l := ⟨_, rfl⟩
  rw [← hF] at hl hsub HV hfew hitem
  rw [← hrep] at HV hfew
  rw [← hrep]
  obtain ⟨N, hN⟩ : ∃ N, N = vs.length := ⟨_, rfl⟩
  rw [← hN] at hl hcap
  rw [← hN]
  have hN2 : N ≤ 2000000 := by
    have h1 : (S.kept d.l).length ≤ d.l.length := List.length_filter_le _ _
    have h2 := S.length_le_sizeL d.l
    have h3 := S.size_eq d
    rw [hl, hF]
    omega
  have l1 : N ≤ F.length := by omega
  have l2 : F.length ≤ N := by omega
  have l3 : N ≤ vs.length := by omega
  clear hF hrep hN hl hk hok hm
  obtain ⟨W1, hW1⟩ : ∃ W1, W1 = w.alloc (.cells #[.slice A N c, .int .i64 rep] 165) := ⟨_, rfl⟩
  have b1 : Below w.heap.size w W1 := by rw [hW1]; exact (Below.refl _ _).alloc (Nat.le_refl _) _
  have z1 : W1.heap.size = w.heap.size + 1 := by rw [hW1]; simp
  have X1 : D.Blk W1 w.heap.size 165 #[.slice A N c, .int .i64 rep] := by rw [hW1]; exact D.Blk.new _ _ _
  go_enter Tryz.func190, Tryz.ntmps190
  go_upto_region 1 with fail
  rw [← hW1]
  clear hW1
  have x0 := X1.cell 0
  go_wp2_with fail
  clear x0
  go_loopw [3, 9] (fun q i wr => ∃ (j : Nat) (ds : List (Tr Ka)), j ≤ N ∧ i = .int .i64 j ∧ Hid (Tr.erL Ka.er ds = (S.catV g rep 0 (F.take j)).map S.kaOf) ∧ Ka.E.Grown 82 W1.heap.size wr q ds ∧ Below W1.heap.size W1 wr) (fun _ i _ => N - (intOf i).toNat)
  case atStart => exact ⟨0, [], Nat.zero_le _, rfl, by simp [S.catV, Hid, Tr.erL], Elem.Grown.nil, Below.refl _ _⟩
  case round =>
    obtain ⟨j, ds, hj, rfl, HE, hG, hb⟩ := hrel
    have hs2 := hb.size
    by_cases hlt : j < N
    · have hltv : j < vs.length := by omega
      have hltF : j < F.length := by omega
      have g1 : (j : Int) < (N : Int) := by omega
      obtain ⟨b, o, hA, hqb, hcell⟩ := hrow j hltv
      have hblk := hQ b hqb
      have hP := (hsub j hltv hltF).kept_ b1 hB hQ
      have hP := hP.kept_ hb (by omega) (fun k hk => by have := hQ k hk; omega)
      have hcell := (World.cell?_of_block (b1.block b (by omega))).trans hcell
      have hcell := (World.cell?_of_block (hb.block b (by omega))).trans hcell
      obtain ⟨hi1, hi2⟩ := hitem F[j] (List.getElem_mem hltF)
      obtain ⟨Fn, x, hM, hc⟩ := ih F[j] vs[j] B Q wr hi1 hi2 hP (by omega) (fun k hk => by have := hQ k hk; omega)
      have Xr := X1.below hb (by omega)
      have x1 := Xr.cell 1
      -- round
      subst hA
      obtain ⟨Tj, hv, hmm⟩ := hM
      have hm1 := fun w => (hmm w).1
      have hm2 := fun w => (hmm w).2
      rw [hv] at hcell
      by_cases hr : (j : Int) = rep
      · have hV9 := S.varsV_few g F[j]
        have HC : Hid (Calls Tryz.prog 191 #[.iface Tj x] wr (RetKaL ((S.deeper 1 (S.varsV g F[j])).map S.kaOf) wr)) := repV_any (.iface Tj x) x Fn ⟨Tj, rfl, hmm⟩ (S.varsV g F[j]) wr hc (by omega) (fun y hy => by have := hV9.2 y hy; omega)
        clear hc hm1 hm2 hmm hV9 hv hP
        have HR := Lib.hid hr
        subst hr
        go_wp2_with fail
        (with_reducible refine HC.out.mono ?_)
        clear HC
        rintro e w2 ⟨A2, c2, ns, rfl, hne, hown, hb2⟩
        have z2 := hb2.size
        have hbW := hb.trans (hb2.mono (by omega))
        have hnl : ns.length = (S.varsV g F[j]).length := by have := congrArg List.length hne; rw [Tr.erL_length, List.length_map, S.deeper_len] at this; exact this
        have hdl : ds.length = (S.catV g (j : Int) 0 (F.take j)).length := by have := congrArg List.length HE.out; rw [Tr.erL_length, List.length_map] at this; exact this
        have hle := S.catV_take_le g (j : Int) F (j + 1)
        have hst := S.catV_step g (j : Int) hltF
        rw [hst, List.length_append, S.deeper_len] at hle
        have hbd : ds.length + ns.length ≤ 2000000 := by omega
        have HE2 : Hid (Tr.erL Ka.er (ds ++ ns) = (S.catV g (j : Int) 0 (F.take (j + 1))).map S.kaOf) := by
          show _ = _
          rw [Tr.erL_append, HE.out, hne, hst, if_pos rfl, List.map_append]
        clear hne hst hnl hdl hle HE
        by_cases hn : A2 = none
        · obtain rfl := hn
          obtain rfl := hown.inn.nil rfl
          have hl0 : ns = [] := by
            have := hown.inn.cap
            cases ns with
            | nil => rfl
            | cons _ _ => simp at this
          subst hl0
          have hG2 := hG.below hb2
          have hrow2 := hG2.row
          go_wp2_with (at_builtin; refine wpList_append_own_none rfl _ _ 38 rfl W1.heap.size 82 i0 12 Tryz.underlying38 hi _ ds.length (Ka.E.cellsL ds) rfl hrow2 rfl ?_)
          exact ⟨⟨j + 1, ds, by omega, by go_num, by simpa [Hid] using HE2.out, hG2, hbW⟩, by simp [intOf]; omega⟩
        · obtain ⟨a, rfl⟩ := Option.ne_none_iff_exists'.1 hn
          have hnews : ∀ j u, (Ka.E.cellsL ns)[j]? = some u → w2.cell? (a.add j) = some u := by
            intro j u hu
            have hne : ns ≠ [] := by rintro rfl; simp [Elem.cellsL] at hu
            obtain ⟨b3, o3, e, _, h3⟩ := hown.inn.mem hne
            obtain rfl := Option.some.inj e
            have e4 : (⟨b3, o3, none⟩ : Addr).add j = ⟨b3, o3 + j, none⟩ := by unfold Addr.add; split <;> simp_all
            rw [e4]
            exact h3 j u hu
          have hG2 := hG.below hb2
          have hrow2 := hG2.row
          have hll : (Ka.E.cellsL ns).length = ns.length * 12 := by rw [Elem.cellsL_length, Ka.E_n]; omega
          go_wp2_with (at_builtin; refine wpList_append_own_at _ rfl _ _ 38 rfl W1.heap.size 82 i0 _ 12 192 Tryz.underlying38 hi hz0 hz1 hz2 rfl (by decide) _ ds.length (Ka.E.cellsL ds) rfl hrow2 a ns.length c2 (Ka.E.cellsL ns) rfl hll hnews (Elem.cellsL_one' ns) (by unfold maxLen; omega) (by omega) (by omega) ?_)
          intro v' w3 hown' hgr _ hat
          have hG3 := hG.app hb2 hown.ownL (by omega) (by rw [z1]; exact hown') hgr (by simpa using hat)
          have hbW3 : Below W1.heap.size W1 w3 := hbW.grown hgr hbW.size (fun k hk => (hrow2.lt k hk).1)
          clear hown' hgr hat hnews hrow2 hG2 hown
          go_wp2_with fail
          exact ⟨⟨j + 1, ds ++ ns, by omega, by go_num, HE2, hG3, hbW3⟩, by simp [intOf]; omega⟩
      · have HC := Lib.hid hc
        clear hc hmm hv hP
        have HR := Lib.hid hr
        go_wp2_with fail
        (with_reducible refine HC.out.mono ?_)
        clear HC
        rintro e w2 ⟨A2, c2, ns, rfl, hne, hown, hb2⟩
        have z2 := hb2.size
        have hbW := hb.trans (hb2.mono (by omega))
        have hnl : ns.length = (S.varsV g F[j]).length := by have := congrArg List.length hne; rw [Tr.erL_length, List.length_map] at this; exact this
        have hdl : ds.length = (S.catV g rep 0 (F.take j)).length := by have := congrArg List.length HE.out; rw [Tr.erL_length, List.length_map] at this; exact this
        have hle := S.catV_take_le g rep F (j + 1)
        have hst := S.catV_step g rep hltF
        rw [hst, List.length_append, S.deeper_len] at hle
        have hbd : ds.length + ns.length ≤ 2000000 := by omega
        have HE2 : Hid (Tr.erL Ka.er (ds ++ ns) = (S.catV g rep 0 (F.take (j + 1))).map S.kaOf) := by
          show _ = _
          rw [Tr.erL_append, HE.out, hne, hst, if_neg HR.out, List.map_append, S.deeper_zero]
        clear hne hst hnl hdl hle HE
        by_cases hn : A2 = none
        · obtain rfl := hn
          obtain rfl := hown.inn.nil rfl
          have hl0 : ns = [] := by
            have := hown.inn.cap
            cases ns with
            | nil => rfl
            | cons _ _ => simp at this
          subst hl0
          have hG2 := hG.below hb2
          have hrow2 := hG2.row
          go_wp2_with (at_builtin; refine wpList_append_own_none rfl _ _ 38 rfl W1.heap.size 82 i0 12 Tryz.underlying38 hi _ ds.length (Ka.E.cellsL ds) rfl hrow2 rfl ?_)
          exact ⟨⟨j + 1, ds, by omega, by go_num, by simpa [Hid] using HE2.out, hG2, hbW⟩, by simp [intOf]; omega⟩
        · obtain ⟨a, rfl⟩ := Option.ne_none_iff_exists'.1 hn
          have hnews : ∀ j u, (Ka.E.cellsL ns)[j]? = some u → w2.cell? (a.add j) = some u := by
            intro j u hu
            have hne : ns ≠ [] := by rintro rfl; simp [Elem.cellsL] at hu
            obtain ⟨b3, o3, e, _, h3⟩ := hown.inn.mem hne
            obtain rfl := Option.some.inj e
            have e4 : (⟨b3, o3, none⟩ : Addr).add j = ⟨b3, o3 + j, none⟩ := by unfold Addr.add; split <;> simp_all
            rw [e4]
            exact h3 j u hu
          have hG2 := hG.below hb2
          have hrow2 := hG2.row
          have hll : (Ka.E.cellsL ns).length = ns.length * 12 := by rw [Elem.cellsL_length, Ka.E_n]; omega
          go_wp2_with (at_builtin; refine wpList_append_own_at _ rfl _ _ 38 rfl W1.heap.size 82 i0 _ 12 192 Tryz.underlying38 hi hz0 hz1 hz2 rfl (by decide) _ ds.length (Ka.E.cellsL ds) rfl hrow2 a ns.length c2 (Ka.E.cellsL ns) rfl hll hnews (Elem.cellsL_one' ns) (by unfold maxLen; omega) (by omega) (by omega) ?_)
          intro v' w3 hown' hgr _ hat
          have hG3 := hG.app hb2 hown.ownL (by omega) (by rw [z1]; exact hown') hgr (by simpa using hat)
          have hbW3 : Below W1.heap.size W1 w3 := hbW.grown hgr hbW.size (fun k hk => (hrow2.lt k hk).1)
          clear hown' hgr hat hnews hrow2 hG2 hown
          go_wp2_with fail
          exact ⟨⟨j + 1, ds ++ ns, by omega, by go_num, HE2, hG3, hbW3⟩, by simp [intOf]; omega⟩
      -- end
    · have hj' : j = N := by omega
      have g1 : ¬ (j : Int) < (N : Int) := by omega
      have HE2 : Hid (Tr.erL Ka.er ds = (S.varsV g d).map S.kaOf) := by
        show _ = _
        rw [HE.out, HV.out, List.take_of_length_le (by omega)]
      obtain ⟨A', c', rfl, ho⟩ := hG.out
      clear hG HE
      go_wp2_with fail
      go_ret
      exact ⟨A', c', ds, rfl, HE2.out, ho.wide (by omega) (Nat.le_refl _), b1.trans (hb.mono (by omega))⟩
theorem vars_any (g : S → Bool) : ∀ m, VarsOk g m := by
  intro m
  induction m with
  | zero =>
    intro d v B Q w hm
    have := S.size_pos d
    omega
  | succ m ih =>
    intro d v B Q w hm hs hP hB hQ
    cases hP with
    | wild hk h =>
      refine ⟨_, _, meth_wild, ?_⟩
      rw [S.varsV_eq, if_pos hk, h, Bool.true_or, if_pos rfl]
      exact wildV_any w
    | lit hk hw h =>
      refine ⟨_, _, meth_lit _, ?_⟩
      rw [S.varsV_eq, if_pos hk, h, Bool.or_true, if_pos rfl]
      exact litV_any d w
    | var hk hw h hin hs2 hbk =>
      refine ⟨_, _, meth_var _, ?_⟩
      rw [S.varsV_eq, if_pos hk, h, hw, if_neg (by simp)]
      exact varV_any d B w hin hB hs2 hbk
    | con hk h0 x =>
      refine ⟨_, _, meth_con _, ?_⟩
      rw [S.varsV_eq, if_neg hk, if_neg h0]
      exact conV_any x w
    | list hk hok hl hc hrow hsub =>
      exact ⟨_, _, meth_list _, listV_any g m ih d _ _ _ B Q w hm hs hB hQ hk hok hl hc hrow hsub⟩
end Go.Proofs.YtnldlbglgalbaabGreat
