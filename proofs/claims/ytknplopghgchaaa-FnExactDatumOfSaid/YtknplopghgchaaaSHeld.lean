/-
  The laws' own functions on syntax objects: whether the marks are still there; one object marked and held.
-/
import Derived.Test.YtknplopghgchaaaSMark
import Derived.Test.YtknplopghgchaaaHeld
import Derived.Deep.RegionHeld3
namespace Go.Proofs.Ytknplopghgchaaa
open Go.RowKit

def SHeldOk (m : Nat) : Prop := ∀ (A : Option Addr) (c : Nat) (l : List S) (B : Nat) (w : World) (q : Int), S.sizeL l ≤ m → m ≤ 2000000 → S.bulkL l ≤ 2000000 → 0 ≤ q → q + S.wtL l ≤ 100000000 → (S.itm A c (S.markSL l q)).In w B → B ≤ w.heap.size →
    Calls Try.prog 92 #[.slice A l.length c, .int .i64 q] w fun e w' => e = .returned (.int .i64 (q + S.wtL l)) ∧ Below w.heap.size w w'

theorem markSL_get (l : List S) (j : Nat) (h : j < l.length) : ∀ q, (S.markSL l q)[j]? = some (S.markS l[j] (q + S.wtL (l.take j))) := by
  induction l generalizing j with
  | nil => simp at h
  | cons d r ih =>
    intro q
    cases j with
    | zero => simp [S.markSL, S.wtL]
    | succ j =>
      simp at h
      simp only [S.markSL, List.getElem?_cons_succ, List.getElem_cons_succ, List.take_succ_cons, S.wtL]
      rw [ih j h]
      congr 2
      omega

set_option maxRecDepth 100000 in
set_option maxHeartbeats 1600000 in
theorem sheld_step (m : Nat) (ih : ∀ m', m' < m → SHeldOk m') : SHeldOk m := by
  intro A c l B w q hm hm2 hbk hq0 hq hin hB
  have hcap : l.length ≤ c ∧ c ≤ 9223372036854775807 := by have := hin.1; rw [S.markSL_length] at this; exact ⟨this.1, this.2.1⟩
  go_enter Try.func92, Try.ntmps92
  go_wp2_with fail
  go_loopw [1, 5] (fun v i wr => ∃ j : Nat, j ≤ l.length ∧ i = .int .i64 j ∧ v = .int .i64 (q + (S.wtL (l.take j) : Int)) ∧ Below w.heap.size w wr) (fun _ i _ => l.length - (intOf i).toNat)
  case atStart => exact ⟨0, Nat.zero_le _, rfl, by simp [S.wtL], Below.refl _ _⟩
  case round =>
    obtain ⟨j, hj, rfl, rfl, hb⟩ := hrel
    have hs2 := hb.size
    by_cases hlt : j < l.length
    · have hg := markSL_get l j hlt q
      obtain ⟨x, hxe⟩ : ∃ x, l[j] = x := ⟨_, rfl⟩
      rw [hxe] at hg
      have hdrop : l.drop j = x :: l.drop (j + 1) := by rw [List.drop_eq_getElem_cons hlt, hxe]
      have htake : l.take (j + 1) = l.take j ++ [x] := by rw [List.take_succ_eq_append_getElem hlt, hxe]
      have hmem : x ∈ l := by rw [← hxe]; exact List.getElem_mem hlt
      have hsz := S.sizeL_mem hmem
      have hbk1 := sbulk_mem hmem
      have hwt : S.wtL (l.take j) + x.wt ≤ S.wtL l := by
        have h1 := S.wtL_append (l.take (j + 1)) (l.drop (j + 1))
        rw [List.take_append_drop, htake, S.wtL_append] at h1
        simp only [S.wtL] at h1
        omega
      obtain ⟨k, n, t, sa, sc, s, A', c', l'⟩ := x
      have HT := Lib.hid htake
      clear hxe hdrop htake hmem
      simp only [S.wt, S.bulk, S.size] at hwt hbk1 hsz
      obtain ⟨b, o, hA, hblk, c0, c1, c2, c3, c4, hix⟩ := (hin.below (hb.mono hB)).at_ (i := j) hg
      simp only [S.itm, S.A] at hA
      subst hA
      have HI := Lib.hid hix
      simp only [S.markS, S.k, S.n, S.t, S.sa, S.sc, S.s, S.A, S.c] at c0 c1 c2 c3 c4
      have el : (S.mk (q + (S.wtL (l.take j) : Int)) (q + (S.wtL (l.take j) : Int) + 1) (markB (q + (S.wtL (l.take j) : Int) + 2)) sa sc (markI s (q + (S.wtL (l.take j) : Int) + 3)) A' c' (S.markSL l' (q + (S.wtL (l.take j) : Int) + 3 + s.length))).l.length = l'.length := S.markSL_length _ _
      rw [el] at c4
      rw [markI_length] at c3
      rw [show q + (S.wtL (l.take j) : Int) + 2 = q + (S.wtL (l.take j) : Int) + 1 + 1 by omega] at c2
      have q1 : b < wr.heap.size := by omega
      have g1 : (0 : Int) ≤ (j : Int) := by omega
      have g2 : (j : Int) < (l.length : Int) := by omega
      clear hix hg el
      go_wp2_with fail
      go_region_held3 (fun w' => w'.cell? ⟨b, o + j * 5 + 2, none⟩ = some (.string (markB (q + (S.wtL (l.take j) : Int) + 1 + 1)))) (go_keep)
        ((go_at_call 121; refine (markText_any _ _ ?_).mono ?_; omega; rintro e w1 ⟨rfl, hb1⟩; have a2 := (hb1.cell (p := ⟨b, o + j * 5 + 2, none⟩) q1).trans c2))
      have hb1' : Below wr.heap.size wr w1 := below_undrew hb1
      have hb2 : Below w.heap.size w w1 := hb.trans (hb1'.mono (show w.heap.size ≤ wr.heap.size by omega))
      have hz : wr.heap.size ≤ w1.heap.size := hb1.size
      have a3 := (hb1'.cell (p := ⟨b, o + j * 5 + 3, none⟩) q1).trans c3
      have a4 := (hb1'.cell (p := ⟨b, o + j * 5 + 4, none⟩) q1).trans c4
      have hix1 := HI.out.below (w' := w1) (hb1'.mono (show B ≤ wr.heap.size by omega))
      have hsx := hix1.scopes
      simp only [S.markS, S.sa, S.sc, S.s] at hsx
      have hii : (S.itm A' c' (S.markSL l' (q + (S.wtL (l.take j) : Int) + 3 + s.length))).In w1 B := by
        simp only [S.markS] at hix1
        obtain ⟨h1, h2, h3, h4⟩ := hix1
        exact ⟨⟨h1.1, h1.2.1, Nat.zero_le _⟩, IIn.nil_ (by omega) (fun _ => rfl), h3, h4⟩
      have Hb1 := Lib.hid hb1
      have Hii := Lib.hid hii
      clear hb1 hb1' c0 c1 c2 c3 c4 hix1 hii HI
      go_wp2_with fail
      refine (heldI_any sa sc s B _ _ (by omega) (by omega) (by omega) (by rw [show q + (S.wtL (l.take j) : Int) + 1 + 1 + 1 = q + (S.wtL (l.take j) : Int) + 3 by omega]; exact hsx)).mono ?_
      rintro e w2 ⟨rfl, hw⟩
      obtain rfl := hw.symm
      have hpos1 : ¬ (q + (S.wtL (l.take j) : Int) + 1 + 1 + 1 + (s.length : Int) < 0) := by omega
      go_wp2_with fail
      refine (ih (S.sizeL l') (by omega) A' c' l' B _ _ (Nat.le_refl _) (by omega) (by omega) (by omega) (by omega) (by rw [show q + (S.wtL (l.take j) : Int) + 1 + 1 + 1 + (s.length : Int) = q + (S.wtL (l.take j) : Int) + 3 + (s.length : Int) by omega]; exact Hii.out) (by omega)).mono ?_
      rintro e w3 ⟨rfl, hb3⟩
      have hpos : ¬ (q + (S.wtL (l.take j) : Int) + 1 + 1 + 1 + (s.length : Int) + (S.wtL l' : Int) < 0) := by omega
      go_wp2_with fail
      have eW : (S.wtL (l.take (j + 1)) : Int) = (S.wtL (l.take j) : Int) + (3 + (s.length + S.wtL l') : Nat) := by rw [HT.out, S.wtL_append]; simp only [S.wtL, S.wt]; omega
      refine ⟨⟨j + 1, by omega, by go_num, by rw [eW]; congr 1; omega, hb2.trans (hb3.mono (by omega))⟩, by simp [intOf]; omega⟩
    · have hj' : j = l.length := by omega
      subst hj'
      go_wp2_with fail
      go_ret
      exact ⟨ret_int (by rw [List.take_length]), hb⟩
theorem sheld_any (m : Nat) : SHeldOk m := by
  induction m using Nat.strongRecOn with
  | _ m ih => exact sheld_step m ih

namespace S
/-- The marks of one object that is given by value. -/
def marked (d : S) (q : Int) : S := .mk d.k d.n d.t d.sa d.sc (markI d.s q) d.A d.c (markSL d.l (q + d.s.length))
end S

set_option maxRecDepth 100000 in
set_option maxHeartbeats 1000000 in
theorem markSyn_any (d : S) (lo hi : Nat) (w : World) (q : Int) (hs : d.size ≤ 2000000) (hbk : d.bulk ≤ 2000000) (hq0 : 0 ≤ q) (hq : q ≤ 1000000) (hw : S.wtL d.l ≤ 90000000) (ho : d.Own lo hi w) (hhi : hi ≤ w.heap.size) :
    Calls Try.prog 72 #[d.val, .int .i64 q] w fun e w' => e = .returned (.int .i64 (q + d.s.length + S.wtL d.l)) ∧ (d.marked q).Own lo hi w' ∧ Chg d.blks w w' := by
  obtain ⟨k, n, t, sa, sc, s, A, c, l⟩ := d
  have hcap := ho.inn.cap
  simp only [S.l, S.c, S.t] at hcap
  simp only [S.bulk, S.size] at hbk hs
  simp only [S.val, S.k, S.n, S.t, S.sa, S.sc, S.s, S.A, S.l, S.c, S.marked] at *
  have bA : Below w.heap.size w (w.alloc (.cells #[.int .i64 k, .int .i64 n, .string t, .slice sa s.length sc, .slice A l.length c] 63)) := (Below.refl _ _).alloc (Nat.le_refl _) _
  have x0 := S.Box.new w (.mk k n t sa sc s A c l) 63
  have ho1 := ho.below (bA.mono hhi)
  have hqi := ho1.itm_
  have hqs := ho1.scopes
  simp only [S.sa, S.sc, S.s] at hqs
  have ebl := S.blks_itm k n t sa sc s A c l
  have hlt := ho.inn.blk_lt
  rw [ebl] at hlt
  go_enter Try.func72, Try.ntmps72
  go_wp2_with fail
  refine (markI_any sa sc s lo hi _ _ (by omega) (by omega) (by omega) hqs).mono ?_
  rintro e w1 ⟨rfl, hs1, hch1⟩
  have z1 := hch1.size
  simp only [World.size_alloc] at z1
  obtain ⟨g0, g1, g2, g3, g4⟩ := x0.chg hch1 (by simp) (fun h => by have := hlt _ (by simp only [List.mem_append]; exact .inl h); omega)
  simp only [S.k, S.n, S.t, S.sa, S.sc, S.s, S.A, S.c] at g0 g1 g2 g3 g4
  have el : (S.mk k n t sa sc s A c l).l = l := rfl
  rw [el] at g4
  have hi1 : (S.itm A c l).Own lo hi w1 := hqi.1.keepB fun r hr2 => hch1.block r (by have := hqi.1.inn.blk_lt r hr2; simp; omega) (fun h => hqi.2 r h hr2)
  have Hch1 := Lib.hid hch1
  have Hs1 := Lib.hid hs1
  clear hch1 hs1 x0 hqs
  go_wp2_with fail
  refine (smark_any 2000000 A c l lo hi _ _ (by omega) (by omega) (by omega) (by omega) (by omega) hi1 (by omega)).mono ?_
  rintro e w2 ⟨rfl, hi2, hch2⟩
  have hs2 : IOwn lo hi w2 sa sc (markI s q) := Hs1.out.keep fun r hr => hch2.block r (by
    rw [iblk_mark] at hr
    have := hlt r (by simp [hr])
    omega) (by rw [iblk_mark] at hr; exact hqi.2 r hr)
  have hown : S.Own lo hi w2 (.mk k n t sa sc (markI s q) A c (S.markSL l (q + s.length))) := S.Own.of_itm hi2 hs2 (fun r hr hr2 => by
    rw [iblk_mark] at hr
    have e2 : S.blks (S.itm A c (S.markSL l (q + s.length))) = S.blks (S.itm A c l) := by
      simp only [S.itm, S.blks, S.blksL_markS, iblk]
      congr 2
      cases l <;> rfl
    rw [e2] at hr2
    exact hqi.2 r hr hr2) hcap.2.2
  have hch : Chg (S.blks (.mk k n t sa sc s A c l)) w w2 := (Chg.of_below bA).trans ((Hch1.out.mono (fun r hr => by rw [ebl]; simp [hr])).trans (hch2.mono (fun r hr => by rw [ebl]; simp [hr])))
  have Hown := Lib.hid hown
  have Hch := Lib.hid hch
  clear hown hch hch2 hi2 hs2
  go_wp2_with fail
  go_ret
  exact ⟨rfl, Hown.out, Hch.out⟩

set_option maxRecDepth 100000 in
set_option maxHeartbeats 1000000 in
theorem heldSyn_any (d : S) (lo hi : Nat) (w : World) (q : Int) (hs : d.size ≤ 2000000) (hbk : d.bulk ≤ 2000000) (hq0 : 0 ≤ q) (hq : q ≤ 1000000) (hw : S.wtL d.l ≤ 90000000) (ho : (d.marked q).Own lo hi w) (hhi : hi ≤ w.heap.size) :
    Calls Try.prog 73 #[d.val, .int .i64 q] w fun e w' => e = .returned (.int .i64 (q + d.s.length + S.wtL d.l)) ∧ Below w.heap.size w w' := by
  obtain ⟨k, n, t, sa, sc, s, A, c, l⟩ := d
  have hin := ho.inn
  simp only [S.bulk, S.size] at hbk hs
  simp only [S.val, S.k, S.n, S.t, S.sa, S.sc, S.s, S.A, S.l, S.c, S.marked] at *
  have bA : Below w.heap.size w (w.alloc (.cells #[.int .i64 k, .int .i64 n, .string t, .slice sa s.length sc, .slice A l.length c] 63)) := (Below.refl _ _).alloc (Nat.le_refl _) _
  have hin1 := hin.below (bA.mono hhi)
  have hqs := hin1.scopes
  simp only [S.sa, S.sc, S.s] at hqs
  have hii : (S.itm A c (S.markSL l (q + s.length))).In (w.alloc (.cells #[.int .i64 k, .int .i64 n, .string t, .slice sa s.length sc, .slice A l.length c] 63)) hi := by
    obtain ⟨h1, h2, h3, h4⟩ := hin1
    exact ⟨⟨h1.1, h1.2.1, Nat.zero_le _⟩, IIn.nil_ (by omega) (fun _ => rfl), h3, h4⟩
  have hn1 : ¬ (q + (s.length : Int) < 0) := by omega
  have hn2 : ¬ (q + (s.length : Int) + (S.wtL l : Int) < 0) := by omega
  clear ho hin1 hin
  go_enter Try.func73, Try.ntmps73
  go_wp2_with fail
  refine (heldI_any sa sc s hi _ _ (by omega) (by omega) (by omega) hqs).mono ?_
  rintro e w1 ⟨rfl, hw1⟩
  obtain rfl := hw1.symm
  go_wp2_with fail
  refine (sheld_any 2000000 A c l hi _ _ (by omega) (by omega) (by omega) (by omega) (by omega) hii (by simp; omega)).mono ?_
  rintro e w2 ⟨rfl, hb2⟩
  have hb : Below w.heap.size w w2 := bA.trans (hb2.mono (by simp))
  go_wp2_with fail
  go_ret
  exact ⟨rfl, hb⟩
end Go.Proofs.Ytknplopghgchaaa
