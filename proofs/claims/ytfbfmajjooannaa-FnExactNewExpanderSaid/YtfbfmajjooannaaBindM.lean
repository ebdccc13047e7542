/-
  Lists of bindings: marks.
-/
import Derived.Test.YtfbfmajjooannaaBindL
import Derived.Test.YtfbfmajjooannaaMarks
import Derived.Deep.RegionHeld3
namespace Go.Proofs.Ytfbfmajjooannaa
open Go.RowKit

namespace Bd
/-- The marks of an element, and of a list. -/
def markE (b : Bd) (q : Int) : Bd := ⟨markB q, b.sa, b.sc, markI b.s (q + 1), q + 1 + b.s.length, q + 1 + b.s.length + 1⟩
def wtL : List Bd → Nat | [] => 0 | b :: r => (3 + b.s.length) + wtL r
def markL : List Bd → Int → List Bd | [], _ => [] | b :: r, q => markE b q :: markL r (q + (3 + b.s.length : Nat))
theorem wtL_append (a b : List Bd) : wtL (a ++ b) = wtL a + wtL b := by
  induction a with
  | nil => simp [wtL]
  | cons e r ih => simp only [List.cons_append, wtL, ih]; omega
theorem wtL_le (l : List Bd) : wtL l ≤ 3 * bulkL l := by
  induction l with
  | nil => simp [wtL]
  | cons e r ih => simp only [wtL, bulkL, bulk]; omega
theorem wtL_er (l : List Bd) : wtL (erL l) = wtL l := by
  induction l with
  | nil => rfl
  | cons e r ih => simp only [erL, List.map_cons, wtL] at ih ⊢; rw [ih]; rfl
theorem markL_length (l : List Bd) : ∀ q, (markL l q).length = l.length := by
  induction l with
  | nil => intro q; rfl
  | cons d r ih => intro q; simp [markL, ih]
theorem markL_append (a b : List Bd) : ∀ q, markL (a ++ b) q = markL a q ++ markL b (q + (wtL a : Nat)) := by
  induction a with
  | nil => intro q; simp [markL, wtL]
  | cons d r ih =>
    intro q
    simp only [List.cons_append, markL, wtL, ih, List.cons.injEq, true_and]
    congr 2
    omega
theorem markL_get (l : List Bd) : ∀ (q : Int) (j : Nat) (h : j < (markL l q).length) (h2 : j < l.length), (markL l q)[j] = markE l[j] (q + (wtL (l.take j) : Nat)) := by
  induction l with
  | nil => intro q j h; simp [markL] at h
  | cons d r ih =>
    intro q j h h2
    cases j with
    | zero => simp [markL, wtL]
    | succ j =>
      simp only [markL, List.getElem_cons_succ, List.take_succ_cons, wtL]
      rw [ih _ _ (by simpa [markL] using h) (by simpa using h2)]
      congr 1
      omega
theorem blks_markE (b : Bd) (q : Int) : E.blks (markE b q) = E.blks b := iblk_mark _ _ _
end Bd

theorem app_ne {α : Type} {a b : List α} {x : α} : a ++ x :: b ≠ [] := by cases a <;> simp

set_option maxRecDepth 100000 in
set_option maxHeartbeats 2000000 in
theorem markBdL_any (A : Option Addr) (c : Nat) (l : List Bd) (lo hi : Nat) (w : World) (q : Int) (hbk : Bd.bulkL l ≤ 2000000) (hq0 : 0 ≤ q) (hq : q ≤ 1000000) (ho : Bd.E.LOwn lo hi w A c l) (hhi : hi ≤ w.heap.size) :
    Calls Try.prog 37 #[.slice A l.length c, .int .i64 q] w fun e w' => e = .returned (.int .i64 (q + (Bd.wtL l : Nat))) ∧ Bd.E.LOwn lo hi w' A c (Bd.markL l q) ∧ Chg (Bd.E.lblks A l) w w' := by
  have hcap := ho.inn.cap
  have hwt := Bd.wtL_le l
  have hll := Bd.bulkL_len l
  go_enter Try.func37, Try.ntmps37
  go_wp2_with fail
  go_loopw [1, 5] (fun v i wr => ∃ j : Nat, j ≤ l.length ∧ i = .int .i64 j ∧ v = .int .i64 (q + (Bd.wtL (l.take j) : Nat)) ∧ Bd.E.LOwn lo hi wr A c (Bd.markL (l.take j) q ++ l.drop j) ∧ Chg (Bd.E.lblks A l) w wr) (fun _ i _ => l.length - (intOf i).toNat)
  case atStart => exact ⟨0, Nat.zero_le _, rfl, by simp [Bd.wtL], by simpa [Bd.markL] using ho, Chg.refl _ _⟩
  case round =>
    obtain ⟨j, hj, rfl, rfl, hO, hch⟩ := hrel
    by_cases hlt : j < l.length
    · have hpl : (Bd.markL (l.take j) q).length = j := by rw [Bd.markL_length, List.length_take]; omega
      have hd := List.drop_eq_getElem_cons hlt
      rw [hd] at hO
      obtain ⟨hmid, hnb⟩ := hO.mid
      have hgj : (Bd.markL (l.take j) q ++ l[j] :: l.drop (j + 1))[j]? = some l[j] := by rw [List.getElem?_append_right (by omega), hpl]; simp
      obtain ⟨b, o, rfl, hblk, c0, c1, c2, c3, hix⟩ := Bd.at_ hO.inn hgj
      have hnb := hnb b o rfl
      have hbw : b < wr.heap.size := by have := hch.size; omega
      have hbm : b ∈ Bd.E.lblks (some ⟨b, o, none⟩) (Bd.markL (l.take j) q ++ l[j] :: l.drop (j + 1)) := List.mem_append.2 (.inl (by rw [Elem.lblk_some app_ne]; simp))
      have f0 := hO.fr b hbm (o + j * 4)
      have f2 := hO.fr b hbm (o + j * 4 + 2)
      have f3 := hO.fr b hbm (o + j * 4 + 3)
      have hbk1 := Bd.bulkL_mem (l := l) (List.getElem_mem hlt)
      have hs1 : l[j].s.length ≤ 2000000 := by unfold Bd.bulk at hbk1; omega
      have hwj : Bd.wtL (l.take (j + 1)) = Bd.wtL (l.take j) + (3 + l[j].s.length) := by rw [List.take_succ_eq_append_getElem hlt, Bd.wtL_append]; simp [Bd.wtL]
      have hwt2 : Bd.wtL l = Bd.wtL (l.take (j + 1)) + Bd.wtL (l.drop (j + 1)) := by rw [← Bd.wtL_append, List.take_append_drop]
      have hQ0 : 0 ≤ q + (Bd.wtL (l.take j) : Nat) := by omega
      have hQ1 : q + (Bd.wtL (l.take j) : Nat) + 1 ≤ 90000000 := by omega
      have HWJ := Lib.hid hwj
      have HWT := Lib.hid hwt2
      clear hwj hwt2
      obtain ⟨Q, hQ⟩ : ∃ Q : Int, Q = q + (Bd.wtL (l.take j) : Nat) := ⟨_, rfl⟩
      rw [← hQ] at hQ0 hQ1 ⊢
      have HQ := Lib.hid hQ
      clear hQ
      have g2 : (j : Int) < (l.length : Int) := by omega
      have HO := Lib.hid hO
      have HMID := Lib.hid hmid
      have HNB := Lib.hid hnb
      clear hO hmid hgj hd hpl hnb
      go_wp2_with fail
      refine (markText_any _ _ (by omega)).mono ?_
      rintro e w1 ⟨rfl, hb1⟩
      have z1 := hb1.size
      have k0 := (hb1.cell (p := ⟨b, o + j * 4, none⟩) hbw).trans c0
      have k1 := (hb1.cell (p := ⟨b, o + j * 4 + 1, none⟩) hbw).trans c1
      have k2 := (hb1.cell (p := ⟨b, o + j * 4 + 2, none⟩) hbw).trans c2
      have k3 := (hb1.cell (p := ⟨b, o + j * 4 + 3, none⟩) hbw).trans c3
      have m0 := (hb1.frozen (p := ⟨b, o + j * 4, none⟩) hbw).trans f0
      have m2 := (hb1.frozen (p := ⟨b, o + j * 4 + 2, none⟩) hbw).trans f2
      have m3 := (hb1.frozen (p := ⟨b, o + j * 4 + 3, none⟩) hbw).trans f3
      clear c0 c1 c2 c3 f0 f2 f3
      obtain ⟨w2, hw2⟩ : ∃ w2, w2 = w1.setCell ⟨b, o + j * 4, none⟩ (.string (markB Q)) := ⟨_, rfl⟩
      have p0 : w2.cell? ⟨b, o + j * 4, none⟩ = some (.string (markB Q)) := by rw [hw2]; exact icell_eq k0
      have p1 : w2.cell? ⟨b, o + j * 4 + 1, none⟩ = some (.slice l[j].sa l[j].s.length l[j].sc) := by rw [hw2, icell_ne _ _ _ _ _ (by omega)]; exact k1
      have p2 : w2.cell? ⟨b, o + j * 4 + 2, none⟩ = some (.int .i64 l[j].k) := by rw [hw2, icell_ne _ _ _ _ _ (by omega)]; exact k2
      have p3 : w2.cell? ⟨b, o + j * 4 + 3, none⟩ = some (.int .i64 l[j].n) := by rw [hw2, icell_ne _ _ _ _ _ (by omega)]; exact k3
      have n2 : w2.frozen? ⟨b, o + j * 4 + 2, none⟩ = false := by rw [hw2, World.frozen?_setCell]; exact m2
      have n3 : w2.frozen? ⟨b, o + j * 4 + 3, none⟩ = false := by rw [hw2, World.frozen?_setCell]; exact m3
      have zz2 : w2.heap.size = w1.heap.size := by rw [hw2]; simp
      have hne2 : ∀ k, k ≠ b → k < wr.heap.size → w2.heap[k]? = wr.heap[k]? := fun k hk hk2 => by rw [hw2]; exact (Below.heap_setCell _ _ _ _ (by simpa using hk)).trans (hb1.block k hk2)
      have hcb2 : ∀ x, x ≠ o + j * 4 → w2.cell? ⟨b, x, none⟩ = wr.cell? ⟨b, x, none⟩ := fun x hx => by rw [hw2, icell_ne _ _ _ _ _ hx]; exact hb1.cell (p := ⟨b, x, none⟩) hbw
      have hfb2 : ∀ k x, k < wr.heap.size → w2.frozen? ⟨k, x, none⟩ = wr.frozen? ⟨k, x, none⟩ := fun k x hk => by rw [hw2, World.frozen?_setCell]; exact hb1.frozen (p := ⟨k, x, none⟩) hk
      have hch2 : Chg (Bd.E.lblks (some ⟨b, o, none⟩) l) w w2 := by rw [hw2]; exact (hch.trans (Chg.of_below hb1)).setCell (.inl (List.mem_append.2 (.inl (by rw [Elem.lblk_some (by rintro rfl; simp at hlt)]; simp)))) _
      have HNE := Lib.hid hne2
      have HCB := Lib.hid hcb2
      have HFB := Lib.hid hfb2
      have hio := bd_iown (HMID.out.keepB (w' := w2) fun k hk => HNE.out k (fun e => by subst e; exact HNB.out hk) (by have := Bd.E.lt HMID.out.inn k hk; have := hch.size; omega))
      clear hne2 hcb2 hfb2 hb1 k1 k2 k3 m2 m3
      have p1r : (w1.setCell ⟨b, o + j * 4, none⟩ (.string (markB Q))).cell? ⟨b, o + j * 4 + 1, none⟩ = some (.slice l[j].sa l[j].s.length l[j].sc) := by rw [← hw2]; exact p1
      go_wp2_with fail
      rw [← hw2]
      clear hw2 p1r k0 m0
      refine (markI_any _ _ _ lo hi _ (Q + 1) hs1 (by omega) (by omega) hio).mono ?_
      rintro e w3 ⟨rfl, hio3, hc3⟩
      have hib : ∀ k ∈ iblk l[j].sa l[j].s, k ∈ Bd.E.blks l[j] := fun k hk => hk
      have hb3 : w3.heap[b]? = w2.heap[b]? := hc3.block b (by omega) (fun hm => HNB.out hm)
      have z3 := hc3.size
      have e3 : ∀ x, w3.cell? ⟨b, x, none⟩ = w2.cell? ⟨b, x, none⟩ := fun x => World.cell?_of_block (a := ⟨b, x, none⟩) hb3
      have g3 : ∀ x, w3.frozen? ⟨b, x, none⟩ = w2.frozen? ⟨b, x, none⟩ := fun x => World.frozen?_of_block (a := ⟨b, x, none⟩) hb3
      have r0 := (e3 _).trans p0
      have r1 := (e3 _).trans p1
      have r2 := (e3 _).trans p2
      have r3 := (e3 _).trans p3
      have s2 := (g3 _).trans n2
      have s3 := (g3 _).trans n3
      have E3 := Lib.hid e3
      have G3 := Lib.hid g3
      clear p0 p1 p2 p3 n2 n3 e3 g3 hio hib
      obtain ⟨w5, hw5⟩ : ∃ w5, w5 = (w3.setCell ⟨b, o + j * 4 + 2, none⟩ (.int .i64 (Q + 1 + l[j].s.length))).setCell ⟨b, o + j * 4 + 3, none⟩ (.int .i64 (Q + 1 + l[j].s.length + 1)) := ⟨_, rfl⟩
      have t0 : w5.cell? ⟨b, o + j * 4, none⟩ = some (.string (markB Q)) := by rw [hw5, icell_ne _ _ _ _ _ (by omega), icell_ne _ _ _ _ _ (by omega)]; exact r0
      have t1 : w5.cell? ⟨b, o + j * 4 + 1, none⟩ = some (.slice l[j].sa l[j].s.length l[j].sc) := by rw [hw5, icell_ne _ _ _ _ _ (by omega), icell_ne _ _ _ _ _ (by omega)]; exact r1
      have t2 : w5.cell? ⟨b, o + j * 4 + 2, none⟩ = some (.int .i64 (Q + 1 + l[j].s.length)) := by rw [hw5, icell_ne _ _ _ _ _ (by omega)]; exact icell_eq r2
      have t3 : w5.cell? ⟨b, o + j * 4 + 3, none⟩ = some (.int .i64 (Q + 1 + l[j].s.length + 1)) := by rw [hw5]; exact icell_eq ((icell_ne _ _ _ _ _ (by omega)).trans r3)
      have q3 : (w3.setCell ⟨b, o + j * 4 + 2, none⟩ (.int .i64 (Q + 1 + l[j].s.length))).cell? ⟨b, o + j * 4 + 3, none⟩ = some (.int .i64 l[j].n) := (icell_ne _ _ _ _ _ (by omega)).trans r3
      have q4 : (w3.setCell ⟨b, o + j * 4 + 2, none⟩ (.int .i64 (Q + 1 + l[j].s.length))).frozen? ⟨b, o + j * 4 + 3, none⟩ = false := by rw [World.frozen?_setCell]; exact s3
      have hne5 : ∀ k, k ≠ b → k ∉ Bd.E.blks l[j] → k < wr.heap.size → w5.heap[k]? = wr.heap[k]? := fun k hk hkx hk2 => by
        rw [hw5]
        exact ((Below.heap_setCell _ _ _ _ (by simpa using hk)).trans (Below.heap_setCell _ _ _ _ (by simpa using hk))).trans ((hc3.block k (by omega) hkx).trans (HNE.out k hk hk2))
      have hcb5 : ∀ x, x < o + j * 4 ∨ o + j * 4 + 4 ≤ x → w5.cell? ⟨b, x, none⟩ = wr.cell? ⟨b, x, none⟩ := fun x hx => by
        rw [hw5, icell_ne _ _ _ _ _ (by omega), icell_ne _ _ _ _ _ (by omega)]
        exact (E3.out x).trans (HCB.out x (by omega))
      have hio5 : IOwn lo hi w5 l[j].sa l[j].sc (markI l[j].s (Q + 1)) := hio3.keep fun k hk => by
        rw [iblk_mark] at hk
        have hkb : k ≠ b := fun e => by subst e; exact HNB.out hk
        rw [hw5]
        exact (Below.heap_setCell _ _ _ _ (by simpa using hkb)).trans (Below.heap_setCell _ _ _ _ (by simpa using hkb))
      have hin5 : Bd.E.In w5 hi (Bd.markE l[j] Q) := ⟨by have := markB_size Q (by omega); show (markB Q).size ≤ _; omega, hio5.inn⟩
      have hfz5 : ∀ k, k ∈ Bd.E.lblks (some ⟨b, o, none⟩) (Bd.markL (l.take j) q ++ l[j] :: l.drop (j + 1)) → ∀ x, w5.frozen? ⟨k, x, none⟩ = wr.frozen? ⟨k, x, none⟩ := fun k hk x => by
        have hklt : k < wr.heap.size := by have := HO.out.inn.blk_lt k hk; have := hch.size; omega
        rw [hw5, World.frozen?_setCell, World.frozen?_setCell]
        by_cases hkx : k ∈ Bd.E.blks l[j]
        · have h1 := hio3.fr k (by rw [iblk_mark]; exact hkx) x
          rw [h1, HO.out.fr k hk x]
        · exact (World.frozen?_of_block (a := ⟨k, x, none⟩) (hc3.block k (by omega) hkx)).trans (HFB.out k x hklt)
      have hplj : (Bd.markL (l.take j) q).length = j := by rw [Bd.markL_length, List.length_take]; omega
      have e4 : Bd.E.n = 4 := rfl
      have hO5 : Bd.E.LOwn lo hi w5 (some ⟨b, o, none⟩) c (Bd.markL (l.take j) q ++ Bd.markE l[j] Q :: l.drop (j + 1)) := by
        refine HO.out.upd (Bd.blks_markE _ _) (fun x hx => hcb5 x ?_) ?_ hin5 (fun k hk hkx => hne5 k ?_ hkx ?_) hfz5
        · rw [hplj, e4] at hx; exact hx
        · rw [hplj, e4]
          intro x u hu
          match x, hu with
          | 0, hu => have e := Option.some.inj hu; subst e; exact t0
          | 1, hu => have e := Option.some.inj hu; subst e; show _ = some (Value.slice l[j].sa (markI l[j].s (Q + 1)).length l[j].sc); rw [markI_length]; exact t1
          | 2, hu => have e := Option.some.inj hu; subst e; exact t2
          | 3, hu => have e := Option.some.inj hu; subst e; exact t3
        · intro e
          subst e
          have hnd := HO.out.nd
          unfold Elem.lblks at hnd
          exact (List.nodup_append.1 hnd).2.2 k (by rw [Elem.lblk_some app_ne]; simp) k hk rfl
        · have := HO.out.inn.blk_lt k (List.mem_append.2 (.inr hk)); have := hch.size; omega
      have hsub : ∀ k ∈ Bd.E.blks l[j], k ∈ Bd.E.lblks (some ⟨b, o, none⟩) l := fun k hk => List.mem_append.2 (.inr (Elem.blksL_mem.2 ⟨l[j], List.getElem_mem hlt, hk⟩))
      have hbl : b ∈ Bd.E.lblks (some ⟨b, o, none⟩) l := List.mem_append.2 (.inl (by rw [Elem.lblk_some (by rintro rfl; simp at hlt)]; simp))
      have hch5 : Chg (Bd.E.lblks (some ⟨b, o, none⟩) l) w w5 := by rw [hw5]; exact ((hch2.trans (hc3.mono hsub)).setCell (.inl hbl) _).setCell (.inl hbl) _
      have hO6 : Bd.E.LOwn lo hi w5 (some ⟨b, o, none⟩) c (Bd.markL (l.take (j + 1)) q ++ l.drop (j + 1)) := by
        rw [List.take_succ_eq_append_getElem hlt, Bd.markL_append, List.append_assoc]
        rw [HQ.out] at hO5
        simpa [Bd.markL] using hO5
      have HO6 := Lib.hid hO6
      have HCH := Lib.hid hch5
      clear hO5 hO6 hch5 hfz5 hin5 hio5 hcb5 hne5 t0 t1 t2 t3 e4 hplj hio3 hc3 hb3 hsub hbl hch2
      go_wp2_with fail
      rw [← hw5]
      refine ⟨⟨j + 1, by omega, by go_num, ?_, HO6.out, HCH.out⟩, by simp [intOf]; omega⟩
      rw [HWJ.out, HQ.out]
      congr 1
      omega
    · have hj' : j = l.length := by omega
      subst hj'
      rw [List.take_length, List.drop_length, List.append_nil] at hO
      have HO := Lib.hid hO
      clear hO
      go_wp2_with fail
      go_ret
      exact ⟨ret_int (by rw [List.take_length]), HO.out, hch⟩

set_option maxRecDepth 100000 in
set_option maxHeartbeats 2000000 in
theorem heldBdL_any (A : Option Addr) (c : Nat) (l : List Bd) (B : Nat) (w : World) (q : Int) (hbk : Bd.bulkL l ≤ 2000000) (hq0 : 0 ≤ q) (hq : q ≤ 1000000) (hin : Bd.E.LIn w B A c (Bd.markL l q)) (hB : B ≤ w.heap.size) :
    Calls Try.prog 39 #[.slice A l.length c, .int .i64 q] w fun e w' => e = .returned (.int .i64 (q + (Bd.wtL l : Nat))) ∧ Below w.heap.size w w' := by
  have hcap := hin.cap
  rw [Bd.markL_length] at hcap
  have hwt := Bd.wtL_le l
  have hll := Bd.bulkL_len l
  go_enter Try.func39, Try.ntmps39
  go_wp2_with fail
  go_loopw [1, 5] (fun v i wr => ∃ j : Nat, j ≤ l.length ∧ i = .int .i64 j ∧ v = .int .i64 (q + (Bd.wtL (l.take j) : Nat)) ∧ Below w.heap.size w wr) (fun _ i _ => l.length - (intOf i).toNat)
  case atStart => exact ⟨0, Nat.zero_le _, rfl, by simp [Bd.wtL], Below.refl _ _⟩
  case round =>
    obtain ⟨j, hj, rfl, rfl, hb⟩ := hrel
    by_cases hlt : j < l.length
    · have hjm : j < (Bd.markL l q).length := by rw [Bd.markL_length]; exact hlt
      obtain ⟨b, o, rfl, hblk, c0, c1, c2, c3, hix⟩ := Bd.at_ (hin.below (hb.mono hB)) (i := j) (x := (Bd.markL l q)[j]) (List.getElem?_eq_getElem hjm)
      have hz := hb.size
      have hbk1 := Bd.bulkL_mem (l := l) (List.getElem_mem hlt)
      have hs1 : l[j].s.length ≤ 2000000 := by unfold Bd.bulk at hbk1; omega
      have hwj : Bd.wtL (l.take (j + 1)) = Bd.wtL (l.take j) + (3 + l[j].s.length) := by rw [List.take_succ_eq_append_getElem hlt, Bd.wtL_append]; simp [Bd.wtL]
      have hwt2 : Bd.wtL l = Bd.wtL (l.take (j + 1)) + Bd.wtL (l.drop (j + 1)) := by rw [← Bd.wtL_append, List.take_append_drop]
      have hQ0 : 0 ≤ q + (Bd.wtL (l.take j) : Nat) := by omega
      have hQ1 : q + (Bd.wtL (l.take j) : Nat) + 3 + l[j].s.length ≤ 90000000 := by omega
      rw [Bd.markL_get l q j hjm hlt] at c0 c1 c2 c3 hix
      have HWJ := Lib.hid hwj
      clear hwj hwt2
      obtain ⟨Q, hQ⟩ : ∃ Q : Int, Q = q + (Bd.wtL (l.take j) : Nat) := ⟨_, rfl⟩
      rw [← hQ] at hQ0 hQ1 c0 c1 c2 c3 hix ⊢
      have HQ := Lib.hid hQ
      clear hQ
      simp only [Bd.markE, markI_length] at c0 c1 c2 c3
      have g2 : (j : Int) < (l.length : Int) := by omega
      have q1 : b < wr.heap.size := by omega
      have e1 : ((markB Q).toList != (markB Q).toList) = false := by simp
      have e2 : ¬ (Q + 1 + (l[j].s.length : Int) < 0) := by omega
      have e3 : (Q + 1 + (l[j].s.length : Int) != Q + 1 + (l[j].s.length : Int)) = false := by simp
      have e4 : (Q + 1 + (l[j].s.length : Int) + 1 != Q + 1 + (l[j].s.length : Int) + 1) = false := by simp
      have hii : IIn wr B l[j].sa l[j].sc (markI l[j].s (Q + 1)) := hix.2
      clear hix
      go_wp2_with fail
      first
      | go_region_held3 (fun w' => w'.cell? ⟨b, o + j * 4, none⟩ = some (.string (markB Q))) (go_keep)
          ((go_at_call 87; refine (markText_any _ _ ?_).mono ?_; omega; rintro e w1 ⟨rfl, hb1⟩; have hb1 : Below wr.heap.size wr w1 := below_undrew hb1; have k0 := (hb1.cell (p := ⟨b, o + j * 4, none⟩) q1).trans c0; have k1 := (hb1.cell (p := ⟨b, o + j * 4 + 1, none⟩) q1).trans c1; have k2 := (hb1.cell (p := ⟨b, o + j * 4 + 2, none⟩) q1).trans c2; have k3 := (hb1.cell (p := ⟨b, o + j * 4 + 3, none⟩) q1).trans c3))
      | fail
      all_goals
        have hb2 := hb.trans (hb1.mono hz)
        have hi2 := hii.below (hb1.mono (by omega))
        clear hb1 c0 c1 c2 c3 hii
        go_wp2_with fail
        refine (heldI_any _ _ _ B _ (Q + 1) hs1 (by omega) (by omega) hi2).mono ?_
        rintro e w' ⟨rfl, hw⟩
        obtain rfl := hw.symm
        go_wp2_with fail
        refine ⟨⟨j + 1, by omega, by go_num, ?_, hb2⟩, by simp [intOf]; omega⟩
        rw [HWJ.out, HQ.out]
        congr 1
        omega
    · have hj' : j = l.length := by omega
      subst hj'
      go_wp2_with fail
      go_ret
      exact ⟨ret_int (by rw [List.take_length]), hb⟩
end Go.Proofs.Ytfbfmajjooannaa
