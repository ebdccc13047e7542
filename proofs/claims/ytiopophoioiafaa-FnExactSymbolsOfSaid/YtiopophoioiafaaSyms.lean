/-
  The symbols of a datum: the model's l1Symbols and the program's addSymbols.
-/
import Derived.Test.YtiopophoioiafaaStrG
import Derived.Deep.AppendLies
import Derived.Test.YtiopophoioiafaaTrees
namespace Go.Proofs.Ytiopophoioiafaa
open Go.RowKit

namespace D
mutual
/-- The symbols of a datum, behind those that are known. -/
def symA : D → List ByteArray → List ByteArray | .mk k _ t _ _ l, acc => symLA l (if k = 1 ∧ hasB acc t = false then acc ++ [t] else acc)
def symLA : List D → List ByteArray → List ByteArray | [], acc => acc | d :: r, acc => symLA r (symA d acc)
end
theorem symLA_append (a b : List D) : ∀ acc, symLA (a ++ b) acc = symLA b (symLA a acc) := by
  induction a with
  | nil => intro acc; rfl
  | cons d r ih => intro acc; simp only [List.cons_append, symLA, ih]
theorem symA_er (d : D) : ∀ acc, symA d.er acc = symA d acc := by
  induction d using ind with
  | h d ih =>
    cases d with
    | mk k n t A c l =>
      have key : ∀ (a : List D), (∀ x ∈ a, x ∈ l) → ∀ acc, symLA (erL a) acc = symLA a acc := by
        intro a
        induction a with
        | nil => intro _ acc; rfl
        | cons x r ih2 => intro hs acc; simp only [erL, symLA, ih x (hs x (by simp)), ih2 fun y hy => hs y (by simp [hy])]
      intro acc
      simp only [er, symA, key l (fun _ h => h)]
theorem symA_len (d : D) : ∀ acc, (symA d acc).length ≤ acc.length + d.size := by
  induction d using ind with
  | h d ih =>
    cases d with
    | mk k n t A c l =>
      have key : ∀ (a : List D), (∀ x ∈ a, x ∈ l) → ∀ acc, (symLA a acc).length ≤ acc.length + sizeL a := by
        intro a
        induction a with
        | nil => intro _ acc; simp [symLA]
        | cons x r ih2 =>
          intro hs acc
          have h1 := ih x (hs x (by simp)) acc
          have h2 := ih2 (fun y hy => hs y (by simp [hy])) (symA x acc)
          simp only [symLA, sizeL]
          omega
      intro acc
      have hi : (if k = 1 ∧ hasB acc t = false then acc ++ [t] else acc).length ≤ acc.length + 1 := by split <;> simp
      have h := key l (fun _ h => h) (if k = 1 ∧ hasB acc t = false then acc ++ [t] else acc)
      simp only [symA, size]
      omega
theorem symLA_len (l : List D) : ∀ acc, (symLA l acc).length ≤ acc.length + sizeL l := by
  induction l with
  | nil => intro acc; simp [symLA]
  | cons x r ih =>
    intro acc
    have h1 := symA_len x acc
    have h2 := ih (symA x acc)
    simp only [symLA, sizeL]
    omega
end D
/-- What a collecting call leaves: its row has grown, nothing else that was there has changed. -/
def GrewT (base : Nat) (acc : List ByteArray) (v : Value) (w : World) (v' : Value) (w' : World) : Prop :=
  w'.ownsRow base 9 1 v' acc.length (acc.map Value.string) ∧ Chg v.ownBlock.toList w w' ∧ (v'.ownBlock = v.ownBlock ∨ ∀ g, v'.ownBlock = some g → w.heap.size ≤ g)
def RetG (base : Nat) (acc : List ByteArray) (v : Value) (w : World) (e : Ending) (w' : World) : Prop := ∃ v', e = .returned v' ∧ GrewT base acc v w v' w'
theorem GrewT.refl {base : Nat} {acc : List ByteArray} {v : Value} {w : World} (h : w.ownsRow base 9 1 v acc.length (acc.map Value.string)) : GrewT base acc v w v w := ⟨h, Chg.refl _ _, .inl rfl⟩
theorem GrewT.alloc0 {base : Nat} {acc : List ByteArray} {v : Value} {w : World} (h : w.ownsRow base 9 1 v acc.length (acc.map Value.string)) (o : Obj) : GrewT base acc v w v (w.alloc o) :=
  ⟨h.alloc o, (Chg.refl _ _).alloc o, .inl rfl⟩
theorem GrewT.trans {base : Nat} {acc acc2 : List ByteArray} {v v1 v2 : Value} {w w1 w2 : World} (h : GrewT base acc v w v1 w1) (k : GrewT base acc2 v1 w1 v2 w2) : GrewT base acc2 v w v2 w2 := by
  obtain ⟨h1, h2, h3⟩ := h
  obtain ⟨k1, k2, k3⟩ := k
  refine ⟨k1, ⟨k2.os.trans h2.os, k2.tape.trans h2.tape, k2.output.trans h2.output, Nat.le_trans h2.size k2.size, fun b hb hn => ?_⟩, ?_⟩
  · refine (k2.block b (Nat.lt_of_lt_of_le hb h2.size) fun hm => ?_).trans (h2.block b hb hn)
    rcases h3 with e | e
    · rw [e] at hm; exact hn hm
    · have := e b (by simpa using hm); omega
  · rcases k3 with e | e
    · rw [e]; exact h3
    · exact .inr fun g hg => Nat.le_trans h2.size (e g hg)
theorem GrewT.alloc {base : Nat} {acc : List ByteArray} {v v1 : Value} {w w1 : World} (h : GrewT base acc v w v1 w1) (o : Obj) : GrewT base acc v w v1 (w1.alloc o) := h.trans (GrewT.alloc0 h.1 o)
/-- One string more. -/
theorem GrewT.snoc {base : Nat} {acc : List ByteArray} {x : ByteArray} {v v' : Value} {w w1 : World} {o : Obj} (h : w.ownsRow base 9 1 v acc.length (acc.map Value.string)) (hbase : base ≤ w.heap.size)
    (hown' : w1.ownsRow base 9 1 v' (acc.length + 1) (acc.map Value.string ++ [.string x])) (hgr : (w.alloc o).grownBy w1 v.ownBlock) (hat : v'.ownBlock = v.ownBlock ∨ ∀ g, v'.ownBlock = some g → w.heap.size ≤ g) : GrewT base (acc ++ [x]) v w v' w1 := by
  refine ⟨by simpa using hown', ⟨hgr.os, hgr.tape, hgr.output, by have := hgr.size; simp at this; omega, fun b hb hn => ?_⟩, hat⟩
  rw [hgr.block b (by simp; omega) (fun e => hn (by rw [← e]; simp))]
  exact Below.heap_alloc _ _ _ hb
theorem GrewT.keepD {base B : Nat} {acc : List ByteArray} {v v1 : Value} {w w1 : World} {d : D} (h : GrewT base acc v w v1 w1) (hv : ∀ g, v.ownBlock = some g → base ≤ g) (hB : B ≤ base) (hz : B ≤ w.heap.size) (hin : d.In w B) : d.In w1 B :=
  hin.keep fun p hp => World.cell?_of_block (h.2.1.block _ (by omega) (fun hm => by have := hv _ (by simpa using hm); omega))

def l1SymOk (m : Nat) : Prop := ∀ (d : D) (B base : Nat) (acc : List ByteArray) (v : Value) (w : World), d.size ≤ m → m ≤ 2000000 → d.In w B → B ≤ w.heap.size → B ≤ base → base ≤ w.heap.size → w.ownsRow base 9 1 v acc.length (acc.map Value.string) → acc.length + d.size ≤ 4000000 →
    Calls Try.prog 102 #[d.val, v] w (RetG base (d.symA acc) v w)

set_option maxRecDepth 100000 in
set_option maxHeartbeats 1600000 in
theorem l1Sym_any : ∀ m, l1SymOk m := by
  intro m
  induction m with
  | zero => intro d B base acc v w h; have := d.size_pos; omega
  | succ m ih =>
  intro d B base acc v w hm hm2 hin hBw hB hbw hrow hacc
  obtain ⟨k, n, t, A, c, l⟩ := d
  have hcap := hin.cap
  simp only [D.l, D.c, D.t] at hcap
  simp only [D.size] at hm hacc
  have hll := D.length_le_sizeL l
  obtain ⟨i0, hi, hz0, hz1, hz2⟩ := info_parts infoT
  obtain ⟨acc0, hacc0⟩ : ∃ a, a = if k = 1 ∧ hasB acc t = false then acc ++ [t] else acc := ⟨_, rfl⟩
  have K : Hid (D.symA (.mk k n t A c l) acc = D.symLA l acc0) := by rw [hacc0]; rfl
  have hal : acc0.length ≤ acc.length + 1 := by rw [hacc0]; split <;> simp
  have Hacc := Lib.hid hacc0
  clear hacc0
  have hv : ∀ g, v.ownBlock = some g → base ≤ g := fun g hg => (hrow.lt g hg).1
  obtain ⟨Av, cv, ev, hov⟩ := town_of_row hrow
  have hti := hov.inn
  have HG := Lib.hid (GrewT.alloc0 hrow (.cells #[.int .i64 k, .int .i64 n, .string t, .slice A l.length c] 25))
  simp only [D.val, D.k, D.n, D.t, D.A, D.c, D.l]
  by_cases hk : k = 1
  · cases hh : hasB acc t
    · have h0 : acc0 = acc ++ [t] := by rw [Hacc.out, if_pos ⟨hk, hh⟩]
      have H0 := Lib.hid h0
      have HH := Lib.hid hh
      clear h0 hh
      subst hk
      subst ev
      go_enter Try.func102, Try.ntmps102
      go_wp2_with fail
      refine (l1Has_any _ _ acc t w.heap.size _ (hti.alloc (Nat.le_refl _) _)).mono ?_
      rintro e w' ⟨rfl, hw⟩
      obtain rfl := hw.symm
      rw [HH.out]
      go_wp2_with (at_builtin; refine wpList_append_lies _ rfl (.tmp 17) (.tmp 20) 40 rfl base 9 i0 (.string ⟨#[]⟩) 1 16 Try.underlying40 hi hz0 hz1 hz2 rfl (by decide) _ acc.length (acc.map Value.string) rfl ((hrow.alloc _).alloc _) ⟨w.heap.size + 1, 0, none⟩ 1 1 [.string t] rfl rfl ?c1 (tone _) (by omega) (by unfold maxLen; omega) (by omega) (by simp; omega) (w.heap.size + 1 + 1) ?c2 ?_)
      case c1 => have := tnews (w.alloc (.cells #[.int .i64 1, .int .i64 n, .string t, .slice A l.length c] 25)) t; simpa using this
      case c2 => simp
      intro g cap w1 hown' hgr hat hlt
      have hS := (GrewT.snoc (hrow.alloc _) (by simp; omega) hown' hgr (by
        rcases hat with e | rfl
        · exact .inl e.symm
        · exact .inr fun g' hg' => by have e' : w.heap.size + 1 + 1 = g' := Option.some.inj hg'; simp; omega))
      have bx := D.Box.new w (.mk 1 n t A c l) 25
      have b3 := (World.cell?_of_block (a := ⟨w.heap.size, 3, none⟩) (hS.2.1.block w.heap.size (by simp) (fun hm => by have := (hrow.lt w.heap.size (by simpa using hm)).2; omega))).trans bx.c3
      simp only [D.l, D.A, D.c] at b3
      have hG2 := (GrewT.alloc0 hrow (.cells #[.int .i64 1, .int .i64 n, .string t, .slice A l.length c] 25)).trans hS
      have HG0 : Hid (GrewT base (D.symLA (l.take 0) acc0) (.slice Av acc.length cv) w (.slice (some ⟨g, 0, none⟩) (acc.length + 1) cap) w1) := by rw [H0.out]; exact hG2
      clear hG2 hown' hgr hat HG hS bx
      go_wp2_with fail
      go_loopw [1, 25] (fun q i wr => ∃ j : Nat, j ≤ l.length ∧ i = .int .i64 j ∧ GrewT base (D.symLA (l.take j) acc0) (.slice Av acc.length cv) w q wr) (fun _ i _ => l.length - (intOf i).toNat)
      case atStart => exact ⟨0, Nat.zero_le _, rfl, HG0.out⟩
      case round =>
        obtain ⟨j, hj, rfl, hG⟩ := hrel
        have hs2 := hG.2.1.size
        by_cases hlt : j < l.length
        · obtain ⟨b, o, rfl, hblk, c0, c1, c2, c3, hix⟩ := (hG.keepD hv hB hBw hin).at_ (i := j) (x := l[j]) (List.getElem?_eq_getElem hlt)
          have hsz := D.sizeL_mem (l := l) (List.getElem_mem hlt)
          have hsl := D.symLA_len (l.take j) acc0
          have hst : D.sizeL (l.take j) + D.sizeL (l.drop j) = D.sizeL l := by rw [← D.sizeL_append, List.take_append_drop]
          have hsd : D.sizeL (l.drop j) = l[j].size + D.sizeL (l.drop (j + 1)) := by rw [List.drop_eq_getElem_cons hlt]; rfl
          have hG1 := hG.alloc (.cells #[.int .i64 l[j].k, .int .i64 l[j].n, .string l[j].t, .slice l[j].A l[j].l.length l[j].c] 25)
          have HG := Lib.hid hG
          have HG1 := Lib.hid hG1
          clear hG hG1
          have x0 := D.Box.new wr l[j] 25
          obtain ⟨g0, g1, g2, g3⟩ := x0
          go_wp2_with fail
          refine (ih l[j] B base (D.symLA (l.take j) acc0) _ _ (by omega) (by omega) (hix.alloc (by omega) _) (by simp; omega) hB (by simp; omega) HG1.out.1 (by omega)).mono ?_
          rintro e w1 ⟨v', rfl, hG2⟩
          have hG3 := HG1.out.trans hG2
          have HG3 := Lib.hid hG3
          clear hG3 hG2 g0 g1 g2 g3
          go_wp2_with fail
          refine ⟨⟨j + 1, by omega, by go_num, ?_⟩, by simp [intOf]; omega⟩
          rw [List.take_succ_eq_append_getElem hlt, D.symLA_append]
          exact HG3.out
        · have hj' : j = l.length := by omega
          subst hj'
          rw [List.take_length] at hG
          have HG := Lib.hid hG
          clear hG
          go_wp2_with fail
          go_ret
          exact ⟨_, rfl, by rw [K.out]; exact HG.out⟩
    · have h0 : acc0 = acc := by rw [Hacc.out, if_neg (fun e => by rw [hh] at e; exact absurd e.2 (by decide))]
      have HG0 : Hid (GrewT base (D.symLA (l.take 0) acc0) v w v (w.alloc (.cells #[.int .i64 k, .int .i64 n, .string t, .slice A l.length c] 25))) := by rw [h0]; exact HG.out
      have HH := Lib.hid hh
      clear h0 hh HG
      subst hk
      subst ev
      go_enter Try.func102, Try.ntmps102
      go_wp2_with fail
      refine (l1Has_any _ _ acc t w.heap.size _ (hti.alloc (Nat.le_refl _) _)).mono ?_
      rintro e w' ⟨rfl, hw⟩
      obtain rfl := hw.symm
      rw [HH.out]
      go_wp2_with fail
      go_loopw [1, 25] (fun q i wr => ∃ j : Nat, j ≤ l.length ∧ i = .int .i64 j ∧ GrewT base (D.symLA (l.take j) acc0) (.slice Av acc.length cv) w q wr) (fun _ i _ => l.length - (intOf i).toNat)
      case atStart => exact ⟨0, Nat.zero_le _, rfl, HG0.out⟩
      case round =>
        obtain ⟨j, hj, rfl, hG⟩ := hrel
        have hs2 := hG.2.1.size
        by_cases hlt : j < l.length
        · obtain ⟨b, o, rfl, hblk, c0, c1, c2, c3, hix⟩ := (hG.keepD hv hB hBw hin).at_ (i := j) (x := l[j]) (List.getElem?_eq_getElem hlt)
          have hsz := D.sizeL_mem (l := l) (List.getElem_mem hlt)
          have hsl := D.symLA_len (l.take j) acc0
          have hst : D.sizeL (l.take j) + D.sizeL (l.drop j) = D.sizeL l := by rw [← D.sizeL_append, List.take_append_drop]
          have hsd : D.sizeL (l.drop j) = l[j].size + D.sizeL (l.drop (j + 1)) := by rw [List.drop_eq_getElem_cons hlt]; rfl
          have hG1 := hG.alloc (.cells #[.int .i64 l[j].k, .int .i64 l[j].n, .string l[j].t, .slice l[j].A l[j].l.length l[j].c] 25)
          have HG := Lib.hid hG
          have HG1 := Lib.hid hG1
          clear hG hG1
          have x0 := D.Box.new wr l[j] 25
          obtain ⟨g0, g1, g2, g3⟩ := x0
          go_wp2_with fail
          refine (ih l[j] B base (D.symLA (l.take j) acc0) _ _ (by omega) (by omega) (hix.alloc (by omega) _) (by simp; omega) hB (by simp; omega) HG1.out.1 (by omega)).mono ?_
          rintro e w1 ⟨v', rfl, hG2⟩
          have hG3 := HG1.out.trans hG2
          have HG3 := Lib.hid hG3
          clear hG3 hG2 g0 g1 g2 g3
          go_wp2_with fail
          refine ⟨⟨j + 1, by omega, by go_num, ?_⟩, by simp [intOf]; omega⟩
          rw [List.take_succ_eq_append_getElem hlt, D.symLA_append]
          exact HG3.out
        · have hj' : j = l.length := by omega
          subst hj'
          rw [List.take_length] at hG
          have HG := Lib.hid hG
          clear hG
          go_wp2_with fail
          go_ret
          exact ⟨_, rfl, by rw [K.out]; exact HG.out⟩
  · have h0 : acc0 = acc := by rw [Hacc.out, if_neg (fun e => hk e.1)]
    have HG0 : Hid (GrewT base (D.symLA (l.take 0) acc0) v w v (w.alloc (.cells #[.int .i64 k, .int .i64 n, .string t, .slice A l.length c] 25))) := by rw [h0]; exact HG.out
    have hkb : (k == 1) = false := by simp [hk]
    clear h0 HG
    subst ev
    go_enter Try.func102, Try.ntmps102
    go_wp2_with fail
    go_loopw [1, 25] (fun q i wr => ∃ j : Nat, j ≤ l.length ∧ i = .int .i64 j ∧ GrewT base (D.symLA (l.take j) acc0) (.slice Av acc.length cv) w q wr) (fun _ i _ => l.length - (intOf i).toNat)
    case atStart => exact ⟨0, Nat.zero_le _, rfl, HG0.out⟩
    case round =>
      obtain ⟨j, hj, rfl, hG⟩ := hrel
      have hs2 := hG.2.1.size
      by_cases hlt : j < l.length
      · obtain ⟨b, o, rfl, hblk, c0, c1, c2, c3, hix⟩ := (hG.keepD hv hB hBw hin).at_ (i := j) (x := l[j]) (List.getElem?_eq_getElem hlt)
        have hsz := D.sizeL_mem (l := l) (List.getElem_mem hlt)
        have hsl := D.symLA_len (l.take j) acc0
        have hst : D.sizeL (l.take j) + D.sizeL (l.drop j) = D.sizeL l := by rw [← D.sizeL_append, List.take_append_drop]
        have hsd : D.sizeL (l.drop j) = l[j].size + D.sizeL (l.drop (j + 1)) := by rw [List.drop_eq_getElem_cons hlt]; rfl
        have hG1 := hG.alloc (.cells #[.int .i64 l[j].k, .int .i64 l[j].n, .string l[j].t, .slice l[j].A l[j].l.length l[j].c] 25)
        have HG := Lib.hid hG
        have HG1 := Lib.hid hG1
        clear hG hG1
        have x0 := D.Box.new wr l[j] 25
        obtain ⟨g0, g1, g2, g3⟩ := x0
        go_wp2_with fail
        refine (ih l[j] B base (D.symLA (l.take j) acc0) _ _ (by omega) (by omega) (hix.alloc (by omega) _) (by simp; omega) hB (by simp; omega) HG1.out.1 (by omega)).mono ?_
        rintro e w1 ⟨v', rfl, hG2⟩
        have hG3 := HG1.out.trans hG2
        have HG3 := Lib.hid hG3
        clear hG3 hG2 g0 g1 g2 g3
        go_wp2_with fail
        refine ⟨⟨j + 1, by omega, by go_num, ?_⟩, by simp [intOf]; omega⟩
        rw [List.take_succ_eq_append_getElem hlt, D.symLA_append]
        exact HG3.out
      · have hj' : j = l.length := by omega
        subst hj'
        rw [List.take_length] at hG
        have HG := Lib.hid hG
        clear hG
        go_wp2_with fail
        go_ret
        exact ⟨_, rfl, by rw [K.out]; exact HG.out⟩

def addSymOk (m : Nat) : Prop := ∀ (d : D) (B base : Nat) (acc : List ByteArray) (v : Value) (w : World), d.size ≤ m → m ≤ 2000000 → d.In w B → B ≤ w.heap.size → B ≤ base → base ≤ w.heap.size → w.ownsRow base 9 1 v acc.length (acc.map Value.string) → acc.length + d.size ≤ 4000000 →
    Calls Try.prog 103 #[v, d.val] w (RetG base (d.symA acc) v w)

set_option maxRecDepth 100000 in
set_option maxHeartbeats 1600000 in
theorem addSym_any : ∀ m, addSymOk m := by
  intro m
  induction m with
  | zero => intro d B base acc v w h; have := d.size_pos; omega
  | succ m ih =>
  intro d B base acc v w hm hm2 hin hBw hB hbw hrow hacc
  obtain ⟨k, n, t, A, c, l⟩ := d
  have hcap := hin.cap
  simp only [D.l, D.c, D.t] at hcap
  simp only [D.size] at hm hacc
  have hll := D.length_le_sizeL l
  obtain ⟨i0, hi, hz0, hz1, hz2⟩ := info_parts infoT
  obtain ⟨acc0, hacc0⟩ : ∃ a, a = if k = 1 ∧ hasB acc t = false then acc ++ [t] else acc := ⟨_, rfl⟩
  have K : Hid (D.symA (.mk k n t A c l) acc = D.symLA l acc0) := by rw [hacc0]; rfl
  have hal : acc0.length ≤ acc.length + 1 := by rw [hacc0]; split <;> simp
  have Hacc := Lib.hid hacc0
  clear hacc0
  have hv : ∀ g, v.ownBlock = some g → base ≤ g := fun g hg => (hrow.lt g hg).1
  obtain ⟨Av, cv, ev, hov⟩ := town_of_row hrow
  have hti := hov.inn
  have HG := Lib.hid (GrewT.alloc0 hrow (.cells #[.int .i64 k, .int .i64 n, .string t, .slice A l.length c] 25))
  simp only [D.val, D.k, D.n, D.t, D.A, D.c, D.l]
  by_cases hk : k = 1
  · cases hh : hasB acc t
    · have h0 : acc0 = acc ++ [t] := by rw [Hacc.out, if_pos ⟨hk, hh⟩]
      have H0 := Lib.hid h0
      have HH := Lib.hid hh
      clear h0 hh
      subst hk
      subst ev
      go_enter Try.func103, Try.ntmps103
      go_wp2_with fail
      refine (containsS_any _ _ acc t w.heap.size _ (hti.alloc (Nat.le_refl _) _)).mono ?_
      rintro e w' ⟨rfl, hw⟩
      obtain rfl := hw.symm
      rw [HH.out]
      go_wp2_with (at_builtin; refine wpList_append_lies _ rfl (.tmp 17) (.tmp 20) 40 rfl base 9 i0 (.string ⟨#[]⟩) 1 16 Try.underlying40 hi hz0 hz1 hz2 rfl (by decide) _ acc.length (acc.map Value.string) rfl ((hrow.alloc _).alloc _) ⟨w.heap.size + 1, 0, none⟩ 1 1 [.string t] rfl rfl ?c1 (tone _) (by omega) (by unfold maxLen; omega) (by omega) (by simp; omega) (w.heap.size + 1 + 1) ?c2 ?_)
      case c1 => have := tnews (w.alloc (.cells #[.int .i64 1, .int .i64 n, .string t, .slice A l.length c] 25)) t; simpa using this
      case c2 => simp
      intro g cap w1 hown' hgr hat hlt
      have hS := (GrewT.snoc (hrow.alloc _) (by simp; omega) hown' hgr (by
        rcases hat with e | rfl
        · exact .inl e.symm
        · exact .inr fun g' hg' => by have e' : w.heap.size + 1 + 1 = g' := Option.some.inj hg'; simp; omega))
      have bx := D.Box.new w (.mk 1 n t A c l) 25
      have b3 := (World.cell?_of_block (a := ⟨w.heap.size, 3, none⟩) (hS.2.1.block w.heap.size (by simp) (fun hm => by have := (hrow.lt w.heap.size (by simpa using hm)).2; omega))).trans bx.c3
      simp only [D.l, D.A, D.c] at b3
      have hG2 := (GrewT.alloc0 hrow (.cells #[.int .i64 1, .int .i64 n, .string t, .slice A l.length c] 25)).trans hS
      have HG0 : Hid (GrewT base (D.symLA (l.take 0) acc0) (.slice Av acc.length cv) w (.slice (some ⟨g, 0, none⟩) (acc.length + 1) cap) w1) := by rw [H0.out]; exact hG2
      clear hG2 hown' hgr hat HG hS bx
      go_wp2_with fail
      go_loopw [0, 25] (fun q i wr => ∃ j : Nat, j ≤ l.length ∧ i = .int .i64 j ∧ GrewT base (D.symLA (l.take j) acc0) (.slice Av acc.length cv) w q wr) (fun _ i _ => l.length - (intOf i).toNat)
      case atStart => exact ⟨0, Nat.zero_le _, rfl, HG0.out⟩
      case round =>
        obtain ⟨j, hj, rfl, hG⟩ := hrel
        have hs2 := hG.2.1.size
        by_cases hlt : j < l.length
        · obtain ⟨b, o, rfl, hblk, c0, c1, c2, c3, hix⟩ := (hG.keepD hv hB hBw hin).at_ (i := j) (x := l[j]) (List.getElem?_eq_getElem hlt)
          have hsz := D.sizeL_mem (l := l) (List.getElem_mem hlt)
          have hsl := D.symLA_len (l.take j) acc0
          have hst : D.sizeL (l.take j) + D.sizeL (l.drop j) = D.sizeL l := by rw [← D.sizeL_append, List.take_append_drop]
          have hsd : D.sizeL (l.drop j) = l[j].size + D.sizeL (l.drop (j + 1)) := by rw [List.drop_eq_getElem_cons hlt]; rfl
          have hG1 := hG.alloc (.cells #[.int .i64 l[j].k, .int .i64 l[j].n, .string l[j].t, .slice l[j].A l[j].l.length l[j].c] 25)
          have HG := Lib.hid hG
          have HG1 := Lib.hid hG1
          clear hG hG1
          have x0 := D.Box.new wr l[j] 25
          obtain ⟨g0, g1, g2, g3⟩ := x0
          go_wp2_with fail
          refine (ih l[j] B base (D.symLA (l.take j) acc0) _ _ (by omega) (by omega) (hix.alloc (by omega) _) (by simp; omega) hB (by simp; omega) HG1.out.1 (by omega)).mono ?_
          rintro e w1 ⟨v', rfl, hG2⟩
          have hG3 := HG1.out.trans hG2
          have HG3 := Lib.hid hG3
          clear hG3 hG2 g0 g1 g2 g3
          go_wp2_with fail
          refine ⟨⟨j + 1, by omega, by go_num, ?_⟩, by simp [intOf]; omega⟩
          rw [List.take_succ_eq_append_getElem hlt, D.symLA_append]
          exact HG3.out
        · have hj' : j = l.length := by omega
          subst hj'
          rw [List.take_length] at hG
          have HG := Lib.hid hG
          clear hG
          go_wp2_with fail
          go_ret
          exact ⟨_, rfl, by rw [K.out]; exact HG.out⟩
    · have h0 : acc0 = acc := by rw [Hacc.out, if_neg (fun e => by rw [hh] at e; exact absurd e.2 (by decide))]
      have HG0 : Hid (GrewT base (D.symLA (l.take 0) acc0) v w v (w.alloc (.cells #[.int .i64 k, .int .i64 n, .string t, .slice A l.length c] 25))) := by rw [h0]; exact HG.out
      have HH := Lib.hid hh
      clear h0 hh HG
      subst hk
      subst ev
      go_enter Try.func103, Try.ntmps103
      go_wp2_with fail
      refine (containsS_any _ _ acc t w.heap.size _ (hti.alloc (Nat.le_refl _) _)).mono ?_
      rintro e w' ⟨rfl, hw⟩
      obtain rfl := hw.symm
      rw [HH.out]
      go_wp2_with fail
      go_loopw [0, 25] (fun q i wr => ∃ j : Nat, j ≤ l.length ∧ i = .int .i64 j ∧ GrewT base (D.symLA (l.take j) acc0) (.slice Av acc.length cv) w q wr) (fun _ i _ => l.length - (intOf i).toNat)
      case atStart => exact ⟨0, Nat.zero_le _, rfl, HG0.out⟩
      case round =>
        obtain ⟨j, hj, rfl, hG⟩ := hrel
        have hs2 := hG.2.1.size
        by_cases hlt : j < l.length
        · obtain ⟨b, o, rfl, hblk, c0, c1, c2, c3, hix⟩ := (hG.keepD hv hB hBw hin).at_ (i := j) (x := l[j]) (List.getElem?_eq_getElem hlt)
          have hsz := D.sizeL_mem (l := l) (List.getElem_mem hlt)
          have hsl := D.symLA_len (l.take j) acc0
          have hst : D.sizeL (l.take j) + D.sizeL (l.drop j) = D.sizeL l := by rw [← D.sizeL_append, List.take_append_drop]
          have hsd : D.sizeL (l.drop j) = l[j].size + D.sizeL (l.drop (j + 1)) := by rw [List.drop_eq_getElem_cons hlt]; rfl
          have hG1 := hG.alloc (.cells #[.int .i64 l[j].k, .int .i64 l[j].n, .string l[j].t, .slice l[j].A l[j].l.length l[j].c] 25)
          have HG := Lib.hid hG
          have HG1 := Lib.hid hG1
          clear hG hG1
          have x0 := D.Box.new wr l[j] 25
          obtain ⟨g0, g1, g2, g3⟩ := x0
          go_wp2_with fail
          refine (ih l[j] B base (D.symLA (l.take j) acc0) _ _ (by omega) (by omega) (hix.alloc (by omega) _) (by simp; omega) hB (by simp; omega) HG1.out.1 (by omega)).mono ?_
          rintro e w1 ⟨v', rfl, hG2⟩
          have hG3 := HG1.out.trans hG2
          have HG3 := Lib.hid hG3
          clear hG3 hG2 g0 g1 g2 g3
          go_wp2_with fail
          refine ⟨⟨j + 1, by omega, by go_num, ?_⟩, by simp [intOf]; omega⟩
          rw [List.take_succ_eq_append_getElem hlt, D.symLA_append]
          exact HG3.out
        · have hj' : j = l.length := by omega
          subst hj'
          rw [List.take_length] at hG
          have HG := Lib.hid hG
          clear hG
          go_wp2_with fail
          go_ret
          exact ⟨_, rfl, by rw [K.out]; exact HG.out⟩
  · have h0 : acc0 = acc := by rw [Hacc.out, if_neg (fun e => hk e.1)]
    have HG0 : Hid (GrewT base (D.symLA (l.take 0) acc0) v w v (w.alloc (.cells #[.int .i64 k, .int .i64 n, .string t, .slice A l.length c] 25))) := by rw [h0]; exact HG.out
    have hkb : (k == 1) = false := by simp [hk]
    clear h0 HG
    subst ev
    go_enter Try.func103, Try.ntmps103
    go_wp2_with fail
    go_loopw [0, 25] (fun q i wr => ∃ j : Nat, j ≤ l.length ∧ i = .int .i64 j ∧ GrewT base (D.symLA (l.take j) acc0) (.slice Av acc.length cv) w q wr) (fun _ i _ => l.length - (intOf i).toNat)
    case atStart => exact ⟨0, Nat.zero_le _, rfl, HG0.out⟩
    case round =>
      obtain ⟨j, hj, rfl, hG⟩ := hrel
      have hs2 := hG.2.1.size
      by_cases hlt : j < l.length
      · obtain ⟨b, o, rfl, hblk, c0, c1, c2, c3, hix⟩ := (hG.keepD hv hB hBw hin).at_ (i := j) (x := l[j]) (List.getElem?_eq_getElem hlt)
        have hsz := D.sizeL_mem (l := l) (List.getElem_mem hlt)
        have hsl := D.symLA_len (l.take j) acc0
        have hst : D.sizeL (l.take j) + D.sizeL (l.drop j) = D.sizeL l := by rw [← D.sizeL_append, List.take_append_drop]
        have hsd : D.sizeL (l.drop j) = l[j].size + D.sizeL (l.drop (j + 1)) := by rw [List.drop_eq_getElem_cons hlt]; rfl
        have hG1 := hG.alloc (.cells #[.int .i64 l[j].k, .int .i64 l[j].n, .string l[j].t, .slice l[j].A l[j].l.length l[j].c] 25)
        have HG := Lib.hid hG
        have HG1 := Lib.hid hG1
        clear hG hG1
        have x0 := D.Box.new wr l[j] 25
        obtain ⟨g0, g1, g2, g3⟩ := x0
        go_wp2_with fail
        refine (ih l[j] B base (D.symLA (l.take j) acc0) _ _ (by omega) (by omega) (hix.alloc (by omega) _) (by simp; omega) hB (by simp; omega) HG1.out.1 (by omega)).mono ?_
        rintro e w1 ⟨v', rfl, hG2⟩
        have hG3 := HG1.out.trans hG2
        have HG3 := Lib.hid hG3
        clear hG3 hG2 g0 g1 g2 g3
        go_wp2_with fail
        refine ⟨⟨j + 1, by omega, by go_num, ?_⟩, by simp [intOf]; omega⟩
        rw [List.take_succ_eq_append_getElem hlt, D.symLA_append]
        exact HG3.out
      · have hj' : j = l.length := by omega
        subst hj'
        rw [List.take_length] at hG
        have HG := Lib.hid hG
        clear hG
        go_wp2_with fail
        go_ret
        exact ⟨_, rfl, by rw [K.out]; exact HG.out⟩
end Go.Proofs.Ytiopophoioiafaa
