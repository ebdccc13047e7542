/-
  The identifiers of a syntax object: the model's l2Ids and the program's addIdentifiers.
-/
import Derived.Test.YtiopophoioiafaaSIdsB
namespace Go.Proofs.Ytiopophoioiafaa
open Go.RowKit

namespace S
mutual
/-- The identifiers, behind those that are known. -/
def idA : S → List (ByteArray × List Int) → List (ByteArray × List Int) | .mk k _ t _ _ s _ _ l, acc => idLA l (if k = 1 ∧ hasI acc t s = false then acc ++ [(t, s)] else acc)
def idLA : List S → List (ByteArray × List Int) → List (ByteArray × List Int) | [], acc => acc | d :: r, acc => idLA r (idA d acc)
end
theorem idLA_append (a b : List S) : ∀ acc, idLA (a ++ b) acc = idLA b (idLA a acc) := by
  induction a with
  | nil => intro acc; rfl
  | cons d r ih => intro acc; simp only [List.cons_append, idLA, ih]
theorem idA_er (d : S) : ∀ acc, idA d.er acc = idA d acc := by
  induction d using ind with
  | h d ih =>
    cases d with
    | mk k n t sa sc s A c l =>
      have key : ∀ (a : List S), (∀ x ∈ a, x ∈ l) → ∀ acc, idLA (erL a) acc = idLA a acc := by
        intro a
        induction a with
        | nil => intro _ acc; rfl
        | cons x r ih2 => intro hs acc; simp only [erL, idLA, ih x (hs x (by simp)), ih2 fun y hy => hs y (by simp [hy])]
      intro acc
      simp only [er, idA, key l (fun _ h => h)]
theorem idA_len (d : S) : ∀ acc, (idA d acc).length ≤ acc.length + d.size := by
  induction d using ind with
  | h d ih =>
    cases d with
    | mk k n t sa sc s A c l =>
      have key : ∀ (a : List S), (∀ x ∈ a, x ∈ l) → ∀ acc, (idLA a acc).length ≤ acc.length + sizeL a := by
        intro a
        induction a with
        | nil => intro _ acc; simp [idLA]
        | cons x r ih2 =>
          intro hs acc
          have h1 := ih x (hs x (by simp)) acc
          have h2 := ih2 (fun y hy => hs y (by simp [hy])) (idA x acc)
          simp only [idLA, sizeL]
          omega
      intro acc
      have hi : (if k = 1 ∧ hasI acc t s = false then acc ++ [(t, s)] else acc).length ≤ acc.length + 1 := by split <;> simp
      have h := key l (fun _ h => h) (if k = 1 ∧ hasI acc t s = false then acc ++ [(t, s)] else acc)
      simp only [idA, size]
      omega
theorem idLA_len (l : List S) : ∀ acc, (idLA l acc).length ≤ acc.length + sizeL l := by
  induction l with
  | nil => intro acc; simp [idLA]
  | cons x r ih =>
    intro acc
    have h1 := idA_len x acc
    have h2 := ih (idA x acc)
    simp only [idLA, sizeL]
    omega
theorem valid_sym {k n : Int} {t : ByteArray} {sa : Option Addr} {sc : Nat} {s : List Int} {A : Option Addr} {c : Nat} {l : List S} (h : valid (.mk k n t sa sc s A c l) = true) (hk : k = 1) : n = 0 ∧ l = [] := by
  subst hk
  simp only [valid, sNodeOk, Bool.and_eq_true] at h
  have h4 := h.1.1
  unfold nodeOk at h4
  rw [if_neg (by decide), if_pos rfl] at h4
  simp only [Bool.and_eq_true, decide_eq_true_eq] at h4
  exact ⟨h4.1, List.length_eq_zero_iff.1 h4.2.2⟩
theorem validL_get {l : List S} (h : validL l = true) {j : Nat} (hj : j < l.length) : valid l[j] = true := by
  have e := List.take_append_drop j l
  rw [← e, validL_append, List.drop_eq_getElem_cons hj] at h
  simp only [validL, Bool.and_eq_true] at h
  exact h.2.1
end S
/-- A row of identifiers of the call's own. -/
def SRow (base : Nat) (acc : List (ByteArray × List Int)) (v : Value) (w : World) : Prop :=
  ∃ ds : List S, w.ownsRow base 52 5 v ds.length (S.E.cellsL ds) ∧ S.E.OwnL base w.heap.size w ds ∧ (∀ g, v.ownBlock = some g → g ∉ S.E.blksL ds) ∧ ds.map S.er = acc.map S.idS
/-- What a collecting call leaves. -/
def GrewI (base : Nat) (acc : List (ByteArray × List Int)) (v : Value) (w : World) (v' : Value) (w' : World) : Prop :=
  SRow base acc v' w' ∧ Chg v.ownBlock.toList w w' ∧ (v'.ownBlock = v.ownBlock ∨ ∀ g, v'.ownBlock = some g → w.heap.size ≤ g)
def RetGI (base : Nat) (acc : List (ByteArray × List Int)) (v : Value) (w : World) (e : Ending) (w' : World) : Prop := ∃ v', e = .returned v' ∧ GrewI base acc v w v' w'
theorem SRow.lt {base : Nat} {acc : List (ByteArray × List Int)} {v : Value} {w : World} (h : SRow base acc v w) : ∀ g, v.ownBlock = some g → base ≤ g ∧ g < w.heap.size := by
  obtain ⟨ds, h1, _⟩ := h
  exact fun g hg => h1.lt g hg
theorem SRow.below {base : Nat} {acc : List (ByteArray × List Int)} {v : Value} {w w1 : World} (h : SRow base acc v w) (hb : Below w.heap.size w w1) : SRow base acc v w1 := by
  obtain ⟨ds, h1, h2, h3, h4⟩ := h
  refine ⟨ds, ?_, (h2.below hb).wide (Nat.le_refl _) hb.size, h3, h4⟩
  rcases h1 with ⟨h0, ⟨e1, e2⟩ | ⟨g, cap, cur, e, hbb, hg, hn, hc, hs, ht⟩⟩
  · exact ⟨h0, .inl ⟨e1, e2⟩⟩
  · exact ⟨h0, .inr ⟨g, cap, cur, e, hbb, (hb.block g (Array.getElem?_eq_some_iff.1 hg).1).trans hg, hn, hc, hs, ht⟩⟩
theorem GrewI.below {base : Nat} {acc : List (ByteArray × List Int)} {v : Value} {w w1 : World} (h : SRow base acc v w) (hb : Below w.heap.size w w1) : GrewI base acc v w v w1 := ⟨h.below hb, Chg.of_below hb, .inl rfl⟩
theorem GrewI.trans {base : Nat} {acc acc2 : List (ByteArray × List Int)} {v v1 v2 : Value} {w w1 w2 : World} (h : GrewI base acc v w v1 w1) (k : GrewI base acc2 v1 w1 v2 w2) : GrewI base acc2 v w v2 w2 := by
  obtain ⟨h1, h2, h3⟩ := h
  obtain ⟨k1, k2, k3⟩ := k
  refine ⟨k1, ⟨k2.os.trans h2.os, k2.tape.trans h2.tape, k2.output.trans h2.output, Nat.le_trans h2.size k2.size, fun b hb hn => ?_⟩, ?_⟩
  · refine (k2.block b (Nat.lt_of_lt_of_le hb h2.size) fun hm => ?_).trans (h2.block b hb hn)
    rcases h3 with e | e
    · rw [e] at hm; exact hn hm
    · have := e b (by simpa using hm); omega
  · rcases k3 with e | e
    · rw [e]; exact h3
    · exact .inr fun g hg => Nat.le_trans h2.size (e g hg)
theorem GrewI.keepS {base B : Nat} {acc : List (ByteArray × List Int)} {v v1 : Value} {w w1 : World} {d : S} (h : GrewI base acc v w v1 w1) (hv : ∀ g, v.ownBlock = some g → base ≤ g) (hB : B ≤ base) (hz : B ≤ w.heap.size) (hin : d.In w B) : d.In w1 B :=
  S.E.keepB hin fun k hk => h.2.1.block k (by have := hin.blk_lt k hk; omega) (fun hm => by have := hv _ (by simpa using hm); have := hin.blk_lt k hk; omega)
theorem GrewI.alloc {base : Nat} {acc : List (ByteArray × List Int)} {v v1 : Value} {w w1 : World} (h : GrewI base acc v w v1 w1) (o : Obj) : GrewI base acc v w v1 (w1.alloc o) := h.trans (GrewI.below h.1 ((Below.refl _ _).alloc (Nat.le_refl _) o))
/-- One identifier more: copied, then appended. -/
theorem GrewI.snoc {base g cap : Nat} {acc : List (ByteArray × List Int)} {p : ByteArray × List Int} {v : Value} {w w1 w9 : World} {o : Obj} {ds : List S} {d : S} (hbase : base ≤ w.heap.size) (h2 : S.E.OwnL base w.heap.size w ds) (h3 : ∀ g, v.ownBlock = some g → g ∉ S.E.blksL ds) (h4 : ds.map S.er = acc.map S.idS) (hlt : ∀ g, v.ownBlock = some g → g < w.heap.size)
    (hb : Below w.heap.size w w1) (hd : S.E.Own w.heap.size w1.heap.size w1 d) (hp : S.er d = S.idS p)
    (hown' : w9.ownsRow base 52 5 (.slice (some ⟨g, 0, none⟩) (ds.length + 1) cap) (ds.length + 1) (S.E.cellsL ds ++ d.cells)) (hgr : (w1.alloc o).grownBy w9 v.ownBlock) (hat : v.ownBlock = some g ∨ g = w1.heap.size + 1) : GrewI base (acc ++ [p]) v w (.slice (some ⟨g, 0, none⟩) (ds.length + 1) cap) w9 := by
  have hz := hb.size
  have hz9 := hgr.size
  simp only [World.size_alloc] at hz9
  have hO : S.E.OwnL base w1.heap.size w1 (ds ++ [d]) := (h2.below hb).snoc hd hz hbase
  have hgno : g ∉ S.E.blksL (ds ++ [d]) := by
    intro hm
    rw [Elem.blksL_append, Elem.blksL_one, List.mem_append] at hm
    rcases hat with e | e
    · rcases hm with hm | hm
      · exact h3 g e hm
      · have := hd.lo_ g hm; have := hlt g e; omega
    · rcases hm with hm | hm
      · have := h2.blk_lt g hm; omega
      · have := hd.blk_lt g hm; omega
  refine ⟨⟨ds ++ [d], by rw [List.length_append, Elem.cellsL_append, Elem.cellsL_one]; exact hown', ?_, fun g' hg' hm => ?_, by rw [List.map_append, List.map_append, h4]; simp [hp]⟩, ⟨(hgr.os.trans hb.os), hgr.tape.trans hb.tape, hgr.output.trans hb.output, by omega, fun b hbb hn => ?_⟩, ?_⟩
  · refine (hO.keepB (w' := w9) fun k hk => ?_).wide (Nat.le_refl _) (by omega)
    have hk1 := hO.blk_lt k hk
    rw [hgr.block k (by simp; omega) (fun e => ?_)]
    · exact Below.heap_alloc _ _ _ hk1
    · rcases hat with e2 | e2
      · rw [e2] at e; have := Option.some.inj e; subst this; exact hgno hk
      · have hkk := hlt k e.symm
        rw [Elem.blksL_append, Elem.blksL_one, List.mem_append] at hk
        rcases hk with hk | hk
        · exact h3 k e.symm hk
        · have := hd.lo_ k hk; omega
  · have e : g = g' := Option.some.inj hg'
    subst e
    exact hgno hm
  · rw [hgr.block b (by simp; omega) (fun e => hn (by rw [← e]; simp))]
    exact (Below.heap_alloc _ _ _ (by omega)).trans (hb.block b hbb)
  · rcases hat with e | e
    · exact .inl e.symm
    · exact .inr fun g' hg' => by have e' : g = g' := Option.some.inj hg'; omega
theorem SRow.lin {base : Nat} {v : Value} {w : World} {ds : List S} (h1 : w.ownsRow base 52 5 v ds.length (S.E.cellsL ds)) (h2 : S.E.OwnL base w.heap.size w ds) (h3 : ∀ g, v.ownBlock = some g → g ∉ S.E.blksL ds) : ∃ A c, v = .slice A ds.length c ∧ S.E.LOwn base w.heap.size w A c ds := Elem.LOwn.of_owns h1 h2 h3

def l2IdsOk (m : Nat) : Prop := ∀ (d : S) (B base : Nat) (acc : List (ByteArray × List Int)) (v : Value) (w : World), d.size ≤ m → m ≤ 2000000 → d.bulk ≤ 2000000 → S.valid d = true → d.In w B → B ≤ w.heap.size → B ≤ base → base ≤ w.heap.size → SRow base acc v w → acc.length + d.size ≤ 4000000 →
    Calls Try.prog 122 #[d.val, v] w (RetGI base (d.idA acc) v w)

set_option maxRecDepth 100000 in
set_option maxHeartbeats 2000000 in
theorem l2Ids_any : ∀ m, l2IdsOk m := by
  intro m
  induction m with
  | zero => intro d B base acc v w h; have := d.size_pos; omega
  | succ m ih =>
  intro d B base acc v w hm hm2 hbk hval hin hBw hB hbw hrow hacc
  obtain ⟨k, n, t, sa, sc, s, A, c, l⟩ := d
  have hcap := hin.cap
  simp only [S.l, S.c, S.t] at hcap
  have hdsz : (S.mk k n t sa sc s A c l).size ≤ 2000000 := by omega
  have hdbk := hbk
  simp only [S.size] at hm hacc
  have hbl : S.bulkL l ≤ 2000000 := by simp only [S.bulk] at hbk; omega
  have hll := S.length_le_sizeL l
  have hvl : S.validL l = true := by simp only [S.valid, Bool.and_eq_true] at hval; exact hval.2
  obtain ⟨i0, hi, hz0, hz1, hz2⟩ := info_parts infoS
  obtain ⟨acc0, hacc0⟩ : ∃ a, a = if k = 1 ∧ hasI acc t s = false then acc ++ [(t, s)] else acc := ⟨_, rfl⟩
  have K : Hid (S.idA (.mk k n t sa sc s A c l) acc = S.idLA l acc0) := by rw [hacc0]; rfl
  have hal : acc0.length ≤ acc.length + 1 := by rw [hacc0]; split <;> simp
  have Hacc := Lib.hid hacc0
  clear hacc0 hbk
  have hv : ∀ g, v.ownBlock = some g → base ≤ g := fun g hg => (hrow.lt g hg).1
  have hvlt : ∀ g, v.ownBlock = some g → g < w.heap.size := fun g hg => (hrow.lt g hg).2
  have hrow0 := hrow
  obtain ⟨ds, hro, hoo, hap, hids⟩ := hrow0
  obtain ⟨Av, cv, ev, hL⟩ := SRow.lin hro hoo hap
  have hidl := ids_len hids
  have hdl : ds.length ≤ acc.length := by omega
  have HI := Lib.hid hids
  obtain ⟨W1, hW1⟩ : ∃ W1, W1 = w.alloc (.cells #[.int .i64 k, .int .i64 n, .string t, .slice sa s.length sc, .slice A l.length c] 52) := ⟨_, rfl⟩
  have z1 : W1.heap.size = w.heap.size + 1 := by rw [hW1]; simp
  have B1 : Below w.heap.size w W1 := by rw [hW1]; exact (Below.refl _ _).alloc (Nat.le_refl _) _
  have x0 : S.Box W1 w.heap.size (.mk k n t sa sc s A c l) := by rw [hW1]; exact S.Box.new w (.mk k n t sa sc s A c l) _
  have hinl := hL.inn.below B1
  have hi1 := hin.below (B1.mono hBw)
  have HG := Lib.hid (GrewI.below hrow B1)
  have x0q := x0
  obtain ⟨a0, a1, a2, a3, a4⟩ := x0q
  have el : (S.mk k n t sa sc s A c l).l = l := rfl
  simp only [S.k, S.n, S.t, S.sa, S.sc, S.s, S.A, S.c] at a0 a1 a2 a3 a4
  rw [el] at a4
  clear hidl hids
  simp only [S.val, S.k, S.n, S.t, S.sa, S.sc, S.s, S.A, S.l, S.c]
  by_cases hk : k = 1
  · obtain ⟨hn0, hl0⟩ := S.valid_sym hval hk
    cases hh : hasI acc t s
    · have h0 : acc0 = acc ++ [(t, s)] := by rw [Hacc.out, if_pos ⟨hk, hh⟩]
      have hidd : S.er (.mk k n t sa sc s A c l) = S.idS (t, s) := by subst hk hn0 hl0; rfl
      have HD := Lib.hid hidd
      have H0 := Lib.hid h0
      have HH := Lib.hid hh
      have hkb : (k == 1) = true := by simp [hk]
      have HK1 := Lib.hid hk
      have HN0 := Lib.hid hn0
      have HL0 := Lib.hid hl0
      clear h0 hh hidd hk hn0 hl0
      subst ev
      go_enter Try.func122, Try.ntmps122
      go_wp2_with fail
      rw [← hW1]
      clear hW1
      refine (l2HasId_any Av cv ds acc (.mk k n t sa sc s A c l) w.heap.size _ HI.out hinl (hi1.more hBw) (by omega)).mono ?_
      rintro e w2 ⟨rfl, hb2⟩
      simp only [S.t, S.s]
      rw [HH.out]
      have z2 := hb2.size
      have b0 := (hb2.cell (p := ⟨w.heap.size, 0, none⟩) (show w.heap.size < W1.heap.size by omega)).trans a0
      have b1 := (hb2.cell (p := ⟨w.heap.size, 1, none⟩) (show w.heap.size < W1.heap.size by omega)).trans a1
      have b2 := (hb2.cell (p := ⟨w.heap.size, 2, none⟩) (show w.heap.size < W1.heap.size by omega)).trans a2
      have b3 := (hb2.cell (p := ⟨w.heap.size, 3, none⟩) (show w.heap.size < W1.heap.size by omega)).trans a3
      have b4 := (hb2.cell (p := ⟨w.heap.size, 4, none⟩) (show w.heap.size < W1.heap.size by omega)).trans a4
      go_wp2_with fail
      refine (specCopyS_any (.mk k n t sa sc s A c l) B _ hdsz hdbk (hi1.below (hb2.mono (by omega))) (by omega)).mono ?_
      rintro e w3 ⟨d3, rfl, hd3, ho3, hb3⟩
      have z3 := hb3.size
      rw [HD.out] at hd3
      have hb13 := hb2.trans (hb3.mono (by omega))
      have hbw3 := B1.trans (hb13.mono (by omega))
      have hro3 : w3.ownsRow base 52 5 (.slice Av ds.length cv) ds.length (S.E.cellsL ds) := by
        rcases hro with ⟨h0, ⟨e1, e2⟩ | ⟨g, cap, cur, e, hbb, hg, hn, hc, hs, ht⟩⟩
        · exact ⟨h0, .inl ⟨e1, e2⟩⟩
        · exact ⟨h0, .inr ⟨g, cap, cur, e, hbb, (hbw3.block g (Array.getElem?_eq_some_iff.1 hg).1).trans hg, hn, hc, hs, ht⟩⟩
      have HD3 := Lib.hid hd3
      have b4 := (hb13.cell (p := ⟨w.heap.size, 4, none⟩) (show w.heap.size < W1.heap.size by omega)).trans a4
      clear hd3 hb2 hb3 a0 a1 a2 a3 a4
      simp only [S.val]
      go_wp2_with (at_builtin; refine wpList_append_lies _ rfl (.tmp 16) (.tmp 19) 50 rfl base 52 i0 (.agg #[.int .i64 0, .int .i64 0, .string ⟨#[]⟩, .slice none 0 0, .slice none 0 0]) 5 80 Try.underlying50 hi hz0 hz1 hz2 rfl (by decide) _ ds.length (S.E.cellsL ds) rfl (hro3.alloc _) ⟨w3.heap.size, 0, none⟩ 1 1 d3.cells rfl rfl (show ∀ q u, (#[Value.int .i64 d3.k, .int .i64 d3.n, .string d3.t, .slice d3.sa d3.s.length d3.sc, .slice d3.A d3.l.length d3.c].toList)[q]? = some u → _ from World.news_of_block (heap_alloc_new _ _)) (S.E.one d3) (by decide) (by unfold maxLen; omega) (by omega) (by simp; omega) (w3.heap.size + 1) ?c2 ?_)
      case c2 => simp
      intro g cap w9 hown' hgr hat hlt9
      have hS := GrewI.snoc (p := (t, s)) hbw hoo hap HI.out hvlt hbw3 (S.ownE (ho3.wide (lo' := w.heap.size) (by omega) (Nat.le_refl _))) HD3.out hown' hgr hat
      have HG0 : Hid (GrewI base (S.idLA (l.take 0) acc0) (.slice Av ds.length cv) w (.slice (some ⟨g, 0, none⟩) (ds.length + 1) cap) w9) := by rw [H0.out]; exact hS
      have c4w : w9.cell? ⟨w.heap.size, 4, none⟩ = some (.slice A l.length c) := by
        have hne : some w.heap.size ≠ (Value.slice Av ds.length cv).ownBlock := fun e => by have := hvlt _ e.symm; omega
        rw [World.cell?_of_block (a := ⟨w.heap.size, 4, none⟩) (hgr.block w.heap.size (by simp; omega) hne)]
        exact (World.cell?_alloc_lt w3 _ ⟨w.heap.size, 4, none⟩ (show w.heap.size < w3.heap.size by omega)).trans b4
      clear hS hown' hgr hat HG hro3 b4
      go_wp2_with fail
      go_loopw [1, 24] (fun q i wr => ∃ (j : Nat) (y : Value), y = q ∧ j ≤ l.length ∧ i = .int .i64 j ∧ GrewI base (S.idLA (l.take j) acc0) (.slice Av ds.length cv) w y wr) (fun _ i _ => l.length - (intOf i).toNat)
      case atStart => exact ⟨0, _, rfl, Nat.zero_le _, rfl, HG0.out⟩
      case round =>
        obtain ⟨j, y, rfl, hj, rfl, hG⟩ := hrel
        have hs2 := hG.2.1.size
        by_cases hlt : j < l.length
        · obtain ⟨b, o, rfl, hblk, c0, c1, c2, c3, c4, hix⟩ := (hG.keepS hv hB hBw hin).at_ (i := j) (x := l[j]) (List.getElem?_eq_getElem hlt)
          have hsz := S.sizeL_mem (l := l) (List.getElem_mem hlt)
          have hbj := S.bulkL_get l j hlt
          have hvj := S.validL_get hvl hlt
          have hsl := S.idLA_len (l.take j) acc0
          have hst : S.sizeL (l.take j) + S.sizeL (l.drop j) = S.sizeL l := by rw [← S.sizeL_append, List.take_append_drop]
          have hsd : S.sizeL (l.drop j) = l[j].size + S.sizeL (l.drop (j + 1)) := by rw [List.drop_eq_getElem_cons hlt]; rfl
          have hG1 := hG.alloc (.cells #[.int .i64 l[j].k, .int .i64 l[j].n, .string l[j].t, .slice l[j].sa l[j].s.length l[j].sc, .slice l[j].A l[j].l.length l[j].c] 52)
          have HG := Lib.hid hG
          have HG1 := Lib.hid hG1
          have HVJ := Lib.hid hvj
          clear hG hG1 hvj
          have x0 := S.Box.new wr l[j] 52
          obtain ⟨g0, g1, g2, g3, g4⟩ := x0
          go_wp2_with fail
          refine (ih l[j] B base (S.idLA (l.take j) acc0) _ _ (by omega) (by omega) (by omega) HVJ.out (hix.below ((Below.refl _ _).alloc (by omega) _)) (by simp; omega) hB (by simp; omega) HG1.out.1 (by omega)).mono ?_
          rintro e w1 ⟨v', rfl, hG2⟩
          have hG3 := HG1.out.trans hG2
          have HG3 := Lib.hid hG3
          clear hG3 hG2 g0 g1 g2 g3 g4
          go_wp2_with fail
          refine ⟨⟨j + 1, _, rfl, by omega, by go_num, ?_⟩, by simp [intOf]; omega⟩
          rw [List.take_succ_eq_append_getElem hlt, S.idLA_append]
          exact HG3.out
        · have hj' : j = l.length := by omega
          subst hj'
          rw [List.take_length] at hG
          have HG := Lib.hid hG
          clear hG
          go_wp2_with fail
          go_ret
          exact ⟨_, rfl, by rw [K.out]; exact HG.out⟩
    · have h0 : acc0 = acc := by rw [Hacc.out, if_neg (fun e => by rw [hh] at e; exact absurd e.2 (by decide))]
      have HH := Lib.hid hh
      have hkb : (k == 1) = true := by simp [hk]
      have HK1 := Lib.hid hk
      have HN0 := Lib.hid hn0
      have HL0 := Lib.hid hl0
      clear hh hk hn0 hl0
      subst ev
      go_enter Try.func122, Try.ntmps122
      go_wp2_with fail
      rw [← hW1]
      clear hW1
      refine (l2HasId_any Av cv ds acc (.mk k n t sa sc s A c l) w.heap.size _ HI.out hinl (hi1.more hBw) (by omega)).mono ?_
      rintro e w2 ⟨rfl, hb2⟩
      simp only [S.t, S.s]
      rw [HH.out]
      have z2 := hb2.size
      have b0 := (hb2.cell (p := ⟨w.heap.size, 0, none⟩) (show w.heap.size < W1.heap.size by omega)).trans a0
      have b1 := (hb2.cell (p := ⟨w.heap.size, 1, none⟩) (show w.heap.size < W1.heap.size by omega)).trans a1
      have b2 := (hb2.cell (p := ⟨w.heap.size, 2, none⟩) (show w.heap.size < W1.heap.size by omega)).trans a2
      have b3 := (hb2.cell (p := ⟨w.heap.size, 3, none⟩) (show w.heap.size < W1.heap.size by omega)).trans a3
      have b4 := (hb2.cell (p := ⟨w.heap.size, 4, none⟩) (show w.heap.size < W1.heap.size by omega)).trans a4
      have hG0 : GrewI base (S.idLA (l.take 0) acc0) (.slice Av ds.length cv) w (.slice Av ds.length cv) w2 := by rw [h0]; exact HG.out.trans (GrewI.below HG.out.1 hb2)
      have HG0 := Lib.hid hG0
      have b4 := (hb2.cell (p := ⟨w.heap.size, 4, none⟩) (show w.heap.size < W1.heap.size by omega)).trans a4
      clear h0 hG0 HG hb2 a0 a1 a2 a3 a4
      go_wp2_with fail
      go_loopw [1, 24] (fun q i wr => ∃ (j : Nat) (y : Value), y = q ∧ j ≤ l.length ∧ i = .int .i64 j ∧ GrewI base (S.idLA (l.take j) acc0) (.slice Av ds.length cv) w y wr) (fun _ i _ => l.length - (intOf i).toNat)
      case atStart => exact ⟨0, _, rfl, Nat.zero_le _, rfl, HG0.out⟩
      case round =>
        obtain ⟨j, y, rfl, hj, rfl, hG⟩ := hrel
        have hs2 := hG.2.1.size
        by_cases hlt : j < l.length
        · obtain ⟨b, o, rfl, hblk, c0, c1, c2, c3, c4, hix⟩ := (hG.keepS hv hB hBw hin).at_ (i := j) (x := l[j]) (List.getElem?_eq_getElem hlt)
          have hsz := S.sizeL_mem (l := l) (List.getElem_mem hlt)
          have hbj := S.bulkL_get l j hlt
          have hvj := S.validL_get hvl hlt
          have hsl := S.idLA_len (l.take j) acc0
          have hst : S.sizeL (l.take j) + S.sizeL (l.drop j) = S.sizeL l := by rw [← S.sizeL_append, List.take_append_drop]
          have hsd : S.sizeL (l.drop j) = l[j].size + S.sizeL (l.drop (j + 1)) := by rw [List.drop_eq_getElem_cons hlt]; rfl
          have hG1 := hG.alloc (.cells #[.int .i64 l[j].k, .int .i64 l[j].n, .string l[j].t, .slice l[j].sa l[j].s.length l[j].sc, .slice l[j].A l[j].l.length l[j].c] 52)
          have HG := Lib.hid hG
          have HG1 := Lib.hid hG1
          have HVJ := Lib.hid hvj
          clear hG hG1 hvj
          have x0 := S.Box.new wr l[j] 52
          obtain ⟨g0, g1, g2, g3, g4⟩ := x0
          go_wp2_with fail
          refine (ih l[j] B base (S.idLA (l.take j) acc0) _ _ (by omega) (by omega) (by omega) HVJ.out (hix.below ((Below.refl _ _).alloc (by omega) _)) (by simp; omega) hB (by simp; omega) HG1.out.1 (by omega)).mono ?_
          rintro e w1 ⟨v', rfl, hG2⟩
          have hG3 := HG1.out.trans hG2
          have HG3 := Lib.hid hG3
          clear hG3 hG2 g0 g1 g2 g3 g4
          go_wp2_with fail
          refine ⟨⟨j + 1, _, rfl, by omega, by go_num, ?_⟩, by simp [intOf]; omega⟩
          rw [List.take_succ_eq_append_getElem hlt, S.idLA_append]
          exact HG3.out
        · have hj' : j = l.length := by omega
          subst hj'
          rw [List.take_length] at hG
          have HG := Lib.hid hG
          clear hG
          go_wp2_with fail
          go_ret
          exact ⟨_, rfl, by rw [K.out]; exact HG.out⟩
  · have h0 : acc0 = acc := by rw [Hacc.out, if_neg (fun e => hk e.1)]
    have HG0 : Hid (GrewI base (S.idLA (l.take 0) acc0) v w v W1) := by rw [h0]; exact HG.out
    have hkb : (k == 1) = false := by simp [hk]
    clear h0 HG
    subst ev
    go_enter Try.func122, Try.ntmps122
    go_wp2_with fail
    rw [← hW1]
    clear hW1
    go_loopw [1, 24] (fun q i wr => ∃ (j : Nat) (y : Value), y = q ∧ j ≤ l.length ∧ i = .int .i64 j ∧ GrewI base (S.idLA (l.take j) acc0) (.slice Av ds.length cv) w y wr) (fun _ i _ => l.length - (intOf i).toNat)
    case atStart => exact ⟨0, _, rfl, Nat.zero_le _, rfl, HG0.out⟩
    case round =>
      obtain ⟨j, y, rfl, hj, rfl, hG⟩ := hrel
      have hs2 := hG.2.1.size
      by_cases hlt : j < l.length
      · obtain ⟨b, o, rfl, hblk, c0, c1, c2, c3, c4, hix⟩ := (hG.keepS hv hB hBw hin).at_ (i := j) (x := l[j]) (List.getElem?_eq_getElem hlt)
        have hsz := S.sizeL_mem (l := l) (List.getElem_mem hlt)
        have hbj := S.bulkL_get l j hlt
        have hvj := S.validL_get hvl hlt
        have hsl := S.idLA_len (l.take j) acc0
        have hst : S.sizeL (l.take j) + S.sizeL (l.drop j) = S.sizeL l := by rw [← S.sizeL_append, List.take_append_drop]
        have hsd : S.sizeL (l.drop j) = l[j].size + S.sizeL (l.drop (j + 1)) := by rw [List.drop_eq_getElem_cons hlt]; rfl
        have hG1 := hG.alloc (.cells #[.int .i64 l[j].k, .int .i64 l[j].n, .string l[j].t, .slice l[j].sa l[j].s.length l[j].sc, .slice l[j].A l[j].l.length l[j].c] 52)
        have HG := Lib.hid hG
        have HG1 := Lib.hid hG1
        have HVJ := Lib.hid hvj
        clear hG hG1 hvj
        have x0 := S.Box.new wr l[j] 52
        obtain ⟨g0, g1, g2, g3, g4⟩ := x0
        go_wp2_with fail
        refine (ih l[j] B base (S.idLA (l.take j) acc0) _ _ (by omega) (by omega) (by omega) HVJ.out (hix.below ((Below.refl _ _).alloc (by omega) _)) (by simp; omega) hB (by simp; omega) HG1.out.1 (by omega)).mono ?_
        rintro e w1 ⟨v', rfl, hG2⟩
        have hG3 := HG1.out.trans hG2
        have HG3 := Lib.hid hG3
        clear hG3 hG2 g0 g1 g2 g3 g4
        go_wp2_with fail
        refine ⟨⟨j + 1, _, rfl, by omega, by go_num, ?_⟩, by simp [intOf]; omega⟩
        rw [List.take_succ_eq_append_getElem hlt, S.idLA_append]
        exact HG3.out
      · have hj' : j = l.length := by omega
        subst hj'
        rw [List.take_length] at hG
        have HG := Lib.hid hG
        clear hG
        go_wp2_with fail
        go_ret
        exact ⟨_, rfl, by rw [K.out]; exact HG.out⟩

def addIdsOk (m : Nat) : Prop := ∀ (d : S) (B base : Nat) (acc : List (ByteArray × List Int)) (v : Value) (w : World), d.size ≤ m → m ≤ 2000000 → d.bulk ≤ 2000000 → S.valid d = true → d.In w B → B ≤ w.heap.size → B ≤ base → base ≤ w.heap.size → SRow base acc v w → acc.length + d.size ≤ 4000000 →
    Calls Try.prog 124 #[v, d.val] w (RetGI base (d.idA acc) v w)

set_option maxRecDepth 100000 in
set_option maxHeartbeats 2000000 in
theorem addIds_any : ∀ m, addIdsOk m := by
  intro m
  induction m with
  | zero => intro d B base acc v w h; have := d.size_pos; omega
  | succ m ih =>
  intro d B base acc v w hm hm2 hbk hval hin hBw hB hbw hrow hacc
  obtain ⟨k, n, t, sa, sc, s, A, c, l⟩ := d
  have hcap := hin.cap
  simp only [S.l, S.c, S.t] at hcap
  have hdsz : (S.mk k n t sa sc s A c l).size ≤ 2000000 := by omega
  have hdbk := hbk
  simp only [S.size] at hm hacc
  have hbl : S.bulkL l ≤ 2000000 := by simp only [S.bulk] at hbk; omega
  have hll := S.length_le_sizeL l
  have hvl : S.validL l = true := by simp only [S.valid, Bool.and_eq_true] at hval; exact hval.2
  obtain ⟨i0, hi, hz0, hz1, hz2⟩ := info_parts infoS
  obtain ⟨acc0, hacc0⟩ : ∃ a, a = if k = 1 ∧ hasI acc t s = false then acc ++ [(t, s)] else acc := ⟨_, rfl⟩
  have K : Hid (S.idA (.mk k n t sa sc s A c l) acc = S.idLA l acc0) := by rw [hacc0]; rfl
  have hal : acc0.length ≤ acc.length + 1 := by rw [hacc0]; split <;> simp
  have Hacc := Lib.hid hacc0
  clear hacc0 hbk
  have hv : ∀ g, v.ownBlock = some g → base ≤ g := fun g hg => (hrow.lt g hg).1
  have hvlt : ∀ g, v.ownBlock = some g → g < w.heap.size := fun g hg => (hrow.lt g hg).2
  have hrow0 := hrow
  obtain ⟨ds, hro, hoo, hap, hids⟩ := hrow0
  obtain ⟨Av, cv, ev, hL⟩ := SRow.lin hro hoo hap
  have hidl := ids_len hids
  have hdl : ds.length ≤ acc.length := by omega
  have HI := Lib.hid hids
  obtain ⟨W1, hW1⟩ : ∃ W1, W1 = w.alloc (.cells #[.int .i64 k, .int .i64 n, .string t, .slice sa s.length sc, .slice A l.length c] 52) := ⟨_, rfl⟩
  have z1 : W1.heap.size = w.heap.size + 1 := by rw [hW1]; simp
  have B1 : Below w.heap.size w W1 := by rw [hW1]; exact (Below.refl _ _).alloc (Nat.le_refl _) _
  have x0 : S.Box W1 w.heap.size (.mk k n t sa sc s A c l) := by rw [hW1]; exact S.Box.new w (.mk k n t sa sc s A c l) _
  have hinl := hL.inn.below B1
  have hi1 := hin.below (B1.mono hBw)
  have HG := Lib.hid (GrewI.below hrow B1)
  have x0q := x0
  obtain ⟨a0, a1, a2, a3, a4⟩ := x0q
  have el : (S.mk k n t sa sc s A c l).l = l := rfl
  simp only [S.k, S.n, S.t, S.sa, S.sc, S.s, S.A, S.c] at a0 a1 a2 a3 a4
  rw [el] at a4
  clear hidl hids
  simp only [S.val, S.k, S.n, S.t, S.sa, S.sc, S.s, S.A, S.l, S.c]
  by_cases hk : k = 1
  · obtain ⟨hn0, hl0⟩ := S.valid_sym hval hk
    cases hh : hasI acc t s
    · have h0 : acc0 = acc ++ [(t, s)] := by rw [Hacc.out, if_pos ⟨hk, hh⟩]
      have hidd : S.er (.mk k n t sa sc s A c l) = S.idS (t, s) := by subst hk hn0 hl0; rfl
      have HD := Lib.hid hidd
      have H0 := Lib.hid h0
      have HH := Lib.hid hh
      have hkb : (k == 1) = true := by simp [hk]
      have HK1 := Lib.hid hk
      have HN0 := Lib.hid hn0
      have HL0 := Lib.hid hl0
      clear h0 hh hidd hk hn0 hl0
      subst ev
      go_enter Try.func124, Try.ntmps124
      go_wp2_with fail
      rw [← hW1]
      clear hW1
      refine (containsId_any Av cv ds acc (.mk k n t sa sc s A c l) w.heap.size w.heap.size _ HI.out hinl (hi1.more hBw) (by omega) x0 (by omega) HK1.out HN0.out HL0.out).mono ?_
      rintro e w2 ⟨rfl, hb2⟩
      simp only [S.t, S.s]
      rw [HH.out]
      have z2 := hb2.size
      have b0 := (hb2.cell (p := ⟨w.heap.size, 0, none⟩) (show w.heap.size < W1.heap.size by omega)).trans a0
      have b1 := (hb2.cell (p := ⟨w.heap.size, 1, none⟩) (show w.heap.size < W1.heap.size by omega)).trans a1
      have b2 := (hb2.cell (p := ⟨w.heap.size, 2, none⟩) (show w.heap.size < W1.heap.size by omega)).trans a2
      have b3 := (hb2.cell (p := ⟨w.heap.size, 3, none⟩) (show w.heap.size < W1.heap.size by omega)).trans a3
      have b4 := (hb2.cell (p := ⟨w.heap.size, 4, none⟩) (show w.heap.size < W1.heap.size by omega)).trans a4
      go_wp2_with fail
      refine (copySyn_any (.mk k n t sa sc s A c l) B _ hdsz hdbk (hi1.below (hb2.mono (by omega))) (by omega)).mono ?_
      rintro e w3 ⟨d3, rfl, hd3, ho3, hb3⟩
      have z3 := hb3.size
      rw [HD.out] at hd3
      have hb13 := hb2.trans (hb3.mono (by omega))
      have hbw3 := B1.trans (hb13.mono (by omega))
      have hro3 : w3.ownsRow base 52 5 (.slice Av ds.length cv) ds.length (S.E.cellsL ds) := by
        rcases hro with ⟨h0, ⟨e1, e2⟩ | ⟨g, cap, cur, e, hbb, hg, hn, hc, hs, ht⟩⟩
        · exact ⟨h0, .inl ⟨e1, e2⟩⟩
        · exact ⟨h0, .inr ⟨g, cap, cur, e, hbb, (hbw3.block g (Array.getElem?_eq_some_iff.1 hg).1).trans hg, hn, hc, hs, ht⟩⟩
      have HD3 := Lib.hid hd3
      have b4 := (hb13.cell (p := ⟨w.heap.size, 4, none⟩) (show w.heap.size < W1.heap.size by omega)).trans a4
      clear hd3 hb2 hb3 a0 a1 a2 a3 a4
      simp only [S.val]
      go_wp2_with (at_builtin; refine wpList_append_lies _ rfl (.tmp 18) (.tmp 21) 50 rfl base 52 i0 (.agg #[.int .i64 0, .int .i64 0, .string ⟨#[]⟩, .slice none 0 0, .slice none 0 0]) 5 80 Try.underlying50 hi hz0 hz1 hz2 rfl (by decide) _ ds.length (S.E.cellsL ds) rfl (hro3.alloc _) ⟨w3.heap.size, 0, none⟩ 1 1 d3.cells rfl rfl (show ∀ q u, (#[Value.int .i64 d3.k, .int .i64 d3.n, .string d3.t, .slice d3.sa d3.s.length d3.sc, .slice d3.A d3.l.length d3.c].toList)[q]? = some u → _ from World.news_of_block (heap_alloc_new _ _)) (S.E.one d3) (by decide) (by unfold maxLen; omega) (by omega) (by simp; omega) (w3.heap.size + 1) ?c2 ?_)
      case c2 => simp
      intro g cap w9 hown' hgr hat hlt9
      have hS := GrewI.snoc (p := (t, s)) hbw hoo hap HI.out hvlt hbw3 (S.ownE (ho3.wide (lo' := w.heap.size) (by omega) (Nat.le_refl _))) HD3.out hown' hgr hat
      have HG0 : Hid (GrewI base (S.idLA (l.take 0) acc0) (.slice Av ds.length cv) w (.slice (some ⟨g, 0, none⟩) (ds.length + 1) cap) w9) := by rw [H0.out]; exact hS
      have c4w : w9.cell? ⟨w.heap.size, 4, none⟩ = some (.slice A l.length c) := by
        have hne : some w.heap.size ≠ (Value.slice Av ds.length cv).ownBlock := fun e => by have := hvlt _ e.symm; omega
        rw [World.cell?_of_block (a := ⟨w.heap.size, 4, none⟩) (hgr.block w.heap.size (by simp; omega) hne)]
        exact (World.cell?_alloc_lt w3 _ ⟨w.heap.size, 4, none⟩ (show w.heap.size < w3.heap.size by omega)).trans b4
      clear hS hown' hgr hat HG hro3 b4
      go_wp2_with fail
      go_loopw [0, 26] (fun q i wr => ∃ (j : Nat) (y : Value), y = q ∧ j ≤ l.length ∧ i = .int .i64 j ∧ GrewI base (S.idLA (l.take j) acc0) (.slice Av ds.length cv) w y wr) (fun _ i _ => l.length - (intOf i).toNat)
      case atStart => exact ⟨0, _, rfl, Nat.zero_le _, rfl, HG0.out⟩
      case round =>
        obtain ⟨j, y, rfl, hj, rfl, hG⟩ := hrel
        have hs2 := hG.2.1.size
        by_cases hlt : j < l.length
        · obtain ⟨b, o, rfl, hblk, c0, c1, c2, c3, c4, hix⟩ := (hG.keepS hv hB hBw hin).at_ (i := j) (x := l[j]) (List.getElem?_eq_getElem hlt)
          have hsz := S.sizeL_mem (l := l) (List.getElem_mem hlt)
          have hbj := S.bulkL_get l j hlt
          have hvj := S.validL_get hvl hlt
          have hsl := S.idLA_len (l.take j) acc0
          have hst : S.sizeL (l.take j) + S.sizeL (l.drop j) = S.sizeL l := by rw [← S.sizeL_append, List.take_append_drop]
          have hsd : S.sizeL (l.drop j) = l[j].size + S.sizeL (l.drop (j + 1)) := by rw [List.drop_eq_getElem_cons hlt]; rfl
          have hG1 := hG.alloc (.cells #[.int .i64 l[j].k, .int .i64 l[j].n, .string l[j].t, .slice l[j].sa l[j].s.length l[j].sc, .slice l[j].A l[j].l.length l[j].c] 52)
          have HG := Lib.hid hG
          have HG1 := Lib.hid hG1
          have HVJ := Lib.hid hvj
          clear hG hG1 hvj
          have x0 := S.Box.new wr l[j] 52
          obtain ⟨g0, g1, g2, g3, g4⟩ := x0
          go_wp2_with fail
          refine (ih l[j] B base (S.idLA (l.take j) acc0) _ _ (by omega) (by omega) (by omega) HVJ.out (hix.below ((Below.refl _ _).alloc (by omega) _)) (by simp; omega) hB (by simp; omega) HG1.out.1 (by omega)).mono ?_
          rintro e w1 ⟨v', rfl, hG2⟩
          have hG3 := HG1.out.trans hG2
          have HG3 := Lib.hid hG3
          clear hG3 hG2 g0 g1 g2 g3 g4
          go_wp2_with fail
          refine ⟨⟨j + 1, _, rfl, by omega, by go_num, ?_⟩, by simp [intOf]; omega⟩
          rw [List.take_succ_eq_append_getElem hlt, S.idLA_append]
          exact HG3.out
        · have hj' : j = l.length := by omega
          subst hj'
          rw [List.take_length] at hG
          have HG := Lib.hid hG
          clear hG
          go_wp2_with fail
          go_ret
          exact ⟨_, rfl, by rw [K.out]; exact HG.out⟩
    · have h0 : acc0 = acc := by rw [Hacc.out, if_neg (fun e => by rw [hh] at e; exact absurd e.2 (by decide))]
      have HH := Lib.hid hh
      have hkb : (k == 1) = true := by simp [hk]
      have HK1 := Lib.hid hk
      have HN0 := Lib.hid hn0
      have HL0 := Lib.hid hl0
      clear hh hk hn0 hl0
      subst ev
      go_enter Try.func124, Try.ntmps124
      go_wp2_with fail
      rw [← hW1]
      clear hW1
      refine (containsId_any Av cv ds acc (.mk k n t sa sc s A c l) w.heap.size w.heap.size _ HI.out hinl (hi1.more hBw) (by omega) x0 (by omega) HK1.out HN0.out HL0.out).mono ?_
      rintro e w2 ⟨rfl, hb2⟩
      simp only [S.t, S.s]
      rw [HH.out]
      have z2 := hb2.size
      have b0 := (hb2.cell (p := ⟨w.heap.size, 0, none⟩) (show w.heap.size < W1.heap.size by omega)).trans a0
      have b1 := (hb2.cell (p := ⟨w.heap.size, 1, none⟩) (show w.heap.size < W1.heap.size by omega)).trans a1
      have b2 := (hb2.cell (p := ⟨w.heap.size, 2, none⟩) (show w.heap.size < W1.heap.size by omega)).trans a2
      have b3 := (hb2.cell (p := ⟨w.heap.size, 3, none⟩) (show w.heap.size < W1.heap.size by omega)).trans a3
      have b4 := (hb2.cell (p := ⟨w.heap.size, 4, none⟩) (show w.heap.size < W1.heap.size by omega)).trans a4
      have hG0 : GrewI base (S.idLA (l.take 0) acc0) (.slice Av ds.length cv) w (.slice Av ds.length cv) w2 := by rw [h0]; exact HG.out.trans (GrewI.below HG.out.1 hb2)
      have HG0 := Lib.hid hG0
      have b4 := (hb2.cell (p := ⟨w.heap.size, 4, none⟩) (show w.heap.size < W1.heap.size by omega)).trans a4
      clear h0 hG0 HG hb2 a0 a1 a2 a3 a4
      go_wp2_with fail
      go_loopw [0, 26] (fun q i wr => ∃ (j : Nat) (y : Value), y = q ∧ j ≤ l.length ∧ i = .int .i64 j ∧ GrewI base (S.idLA (l.take j) acc0) (.slice Av ds.length cv) w y wr) (fun _ i _ => l.length - (intOf i).toNat)
      case atStart => exact ⟨0, _, rfl, Nat.zero_le _, rfl, HG0.out⟩
      case round =>
        obtain ⟨j, y, rfl, hj, rfl, hG⟩ := hrel
        have hs2 := hG.2.1.size
        by_cases hlt : j < l.length
        · obtain ⟨b, o, rfl, hblk, c0, c1, c2, c3, c4, hix⟩ := (hG.keepS hv hB hBw hin).at_ (i := j) (x := l[j]) (List.getElem?_eq_getElem hlt)
          have hsz := S.sizeL_mem (l := l) (List.getElem_mem hlt)
          have hbj := S.bulkL_get l j hlt
          have hvj := S.validL_get hvl hlt
          have hsl := S.idLA_len (l.take j) acc0
          have hst : S.sizeL (l.take j) + S.sizeL (l.drop j) = S.sizeL l := by rw [← S.sizeL_append, List.take_append_drop]
          have hsd : S.sizeL (l.drop j) = l[j].size + S.sizeL (l.drop (j + 1)) := by rw [List.drop_eq_getElem_cons hlt]; rfl
          have hG1 := hG.alloc (.cells #[.int .i64 l[j].k, .int .i64 l[j].n, .string l[j].t, .slice l[j].sa l[j].s.length l[j].sc, .slice l[j].A l[j].l.length l[j].c] 52)
          have HG := Lib.hid hG
          have HG1 := Lib.hid hG1
          have HVJ := Lib.hid hvj
          clear hG hG1 hvj
          have x0 := S.Box.new wr l[j] 52
          obtain ⟨g0, g1, g2, g3, g4⟩ := x0
          go_wp2_with fail
          refine (ih l[j] B base (S.idLA (l.take j) acc0) _ _ (by omega) (by omega) (by omega) HVJ.out (hix.below ((Below.refl _ _).alloc (by omega) _)) (by simp; omega) hB (by simp; omega) HG1.out.1 (by omega)).mono ?_
          rintro e w1 ⟨v', rfl, hG2⟩
          have hG3 := HG1.out.trans hG2
          have HG3 := Lib.hid hG3
          clear hG3 hG2 g0 g1 g2 g3 g4
          go_wp2_with fail
          refine ⟨⟨j + 1, _, rfl, by omega, by go_num, ?_⟩, by simp [intOf]; omega⟩
          rw [List.take_succ_eq_append_getElem hlt, S.idLA_append]
          exact HG3.out
        · have hj' : j = l.length := by omega
          subst hj'
          rw [List.take_length] at hG
          have HG := Lib.hid hG
          clear hG
          go_wp2_with fail
          go_ret
          exact ⟨_, rfl, by rw [K.out]; exact HG.out⟩
  · have h0 : acc0 = acc := by rw [Hacc.out, if_neg (fun e => hk e.1)]
    have HG0 : Hid (GrewI base (S.idLA (l.take 0) acc0) v w v W1) := by rw [h0]; exact HG.out
    have hkb : (k == 1) = false := by simp [hk]
    clear h0 HG
    subst ev
    go_enter Try.func124, Try.ntmps124
    go_wp2_with fail
    rw [← hW1]
    clear hW1
    go_loopw [0, 26] (fun q i wr => ∃ (j : Nat) (y : Value), y = q ∧ j ≤ l.length ∧ i = .int .i64 j ∧ GrewI base (S.idLA (l.take j) acc0) (.slice Av ds.length cv) w y wr) (fun _ i _ => l.length - (intOf i).toNat)
    case atStart => exact ⟨0, _, rfl, Nat.zero_le _, rfl, HG0.out⟩
    case round =>
      obtain ⟨j, y, rfl, hj, rfl, hG⟩ := hrel
      have hs2 := hG.2.1.size
      by_cases hlt : j < l.length
      · obtain ⟨b, o, rfl, hblk, c0, c1, c2, c3, c4, hix⟩ := (hG.keepS hv hB hBw hin).at_ (i := j) (x := l[j]) (List.getElem?_eq_getElem hlt)
        have hsz := S.sizeL_mem (l := l) (List.getElem_mem hlt)
        have hbj := S.bulkL_get l j hlt
        have hvj := S.validL_get hvl hlt
        have hsl := S.idLA_len (l.take j) acc0
        have hst : S.sizeL (l.take j) + S.sizeL (l.drop j) = S.sizeL l := by rw [← S.sizeL_append, List.take_append_drop]
        have hsd : S.sizeL (l.drop j) = l[j].size + S.sizeL (l.drop (j + 1)) := by rw [List.drop_eq_getElem_cons hlt]; rfl
        have hG1 := hG.alloc (.cells #[.int .i64 l[j].k, .int .i64 l[j].n, .string l[j].t, .slice l[j].sa l[j].s.length l[j].sc, .slice l[j].A l[j].l.length l[j].c] 52)
        have HG := Lib.hid hG
        have HG1 := Lib.hid hG1
        have HVJ := Lib.hid hvj
        clear hG hG1 hvj
        have x0 := S.Box.new wr l[j] 52
        obtain ⟨g0, g1, g2, g3, g4⟩ := x0
        go_wp2_with fail
        refine (ih l[j] B base (S.idLA (l.take j) acc0) _ _ (by omega) (by omega) (by omega) HVJ.out (hix.below ((Below.refl _ _).alloc (by omega) _)) (by simp; omega) hB (by simp; omega) HG1.out.1 (by omega)).mono ?_
        rintro e w1 ⟨v', rfl, hG2⟩
        have hG3 := HG1.out.trans hG2
        have HG3 := Lib.hid hG3
        clear hG3 hG2 g0 g1 g2 g3 g4
        go_wp2_with fail
        refine ⟨⟨j + 1, _, rfl, by omega, by go_num, ?_⟩, by simp [intOf]; omega⟩
        rw [List.take_succ_eq_append_getElem hlt, S.idLA_append]
        exact HG3.out
      · have hj' : j = l.length := by omega
        subst hj'
        rw [List.take_length] at hG
        have HG := Lib.hid hG
        clear hG
        go_wp2_with fail
        go_ret
        exact ⟨_, rfl, by rw [K.out]; exact HG.out⟩
end Go.Proofs.Ytiopophoioiafaa
