/-
  No scope beyond n: what the model asks (all scopes) and what the program asks (the last of each set) are the same for valid rules. Nothing of the walks (written by gen/wit.py).
-/
import Derived.Test.YtnldlbglgalbaabGreatGPvF
import Derived.Test.YtnldlbglgalbaabGreatGPvD
import Derived.Test.YtnldlbglgalbaabGreatNear
import Derived.Laws.EntriesVeiled
import Derived.Deep.DeepCutAuto
namespace Go.Proofs.YtnldlbglgalbaabGreat
open Go.RowKit
namespace S
/-- The last scope, or 0. -/
def lastS (s : List Int) : Int := s.getD (s.length - 1) 0
mutual
/-- The program's: the last scope of each node is at most n. -/
def within (n : Int) : S → Bool | .mk _ _ _ _ _ s _ _ l => decide (lastS s ≤ n) && withinL n l
def withinL (n : Int) : List S → Bool | [] => true | d :: r => within n d && withinL n r
end
mutual
/-- The model's: every scope of each node is at most n. -/
def upto (n : Int) : S → Bool | .mk _ _ _ _ _ s _ _ l => (s.all fun x => decide (x ≤ n)) && uptoL n l
def uptoL (n : Int) : List S → Bool | [] => true | d :: r => upto n d && uptoL n r
end
theorem within_eq (n : Int) (d : S) : within n d = (decide (lastS d.s ≤ n) && withinL n d.l) := by cases d; rw [within]; rfl
theorem upto_eq (n : Int) (d : S) : upto n d = ((d.s.all fun x => decide (x ≤ n)) && uptoL n d.l) := by cases d; rw [upto]; rfl
theorem lastS_mem {s : List Int} (h : s ≠ []) : lastS s ∈ s := by
  unfold lastS
  have hl := List.length_pos_iff.2 h
  rw [List.getD_eq_getElem?_getD, List.getElem?_eq_getElem (by omega)]
  exact List.getElem_mem _
theorem all_last {s : List Int} {n : Int} (hn : 0 ≤ n) (h : isSetI s = true) : (s.all fun x => decide (x ≤ n)) = decide (lastS s ≤ n) := by
  by_cases hs : s = []
  · subst hs; simp [lastS, hn]
  · have hp := (setFrom_pairwise s 0 h).1
    have hm := lastS_mem hs
    by_cases hq : lastS s ≤ n
    · rw [decide_eq_true hq, List.all_eq_true]
      intro x hx
      obtain ⟨j, hj, rfl⟩ := List.mem_iff_getElem.1 hx
      rw [decide_eq_true_eq]
      by_cases hl : j = s.length - 1
      · have e : lastS s = s[j] := by unfold lastS; rw [List.getD_eq_getElem?_getD, ← hl, List.getElem?_eq_getElem hj]; rfl
        omega
      · have h2 := List.pairwise_iff_getElem.1 hp j (s.length - 1) hj (by omega) (by omega)
        have e : lastS s = s[s.length - 1]'(by omega) := by unfold lastS; rw [List.getD_eq_getElem?_getD, List.getElem?_eq_getElem (by omega)]; rfl
        omega
    · rw [decide_eq_false hq, List.all_eq_false]
      exact ⟨lastS s, hm, by simpa using hq⟩
theorem valid_parts {d : S} (h : d.valid = true) : isSetI d.s = true ∧ validL d.l = true := by
  cases d
  rw [valid] at h
  simp only [Bool.and_eq_true] at h
  unfold sNodeOk at h
  simp only [Bool.and_eq_true] at h
  exact ⟨h.1.2.1, h.2⟩
theorem upto_within {n : Int} (hn : 0 ≤ n) : ∀ d : S, d.valid = true → upto n d = within n d := by
  intro d
  induction d using ind with
  | h d ih =>
    intro hv
    obtain ⟨h1, h2⟩ := valid_parts hv
    have key : ∀ l : List S, (∀ x ∈ l, x ∈ d.l) → validL l = true → uptoL n l = withinL n l := by
      intro l
      induction l with
      | nil => intro _ _; rfl
      | cons x r ih2 =>
        intro hm hvl
        rw [validL, Bool.and_eq_true] at hvl
        rw [uptoL, withinL, ih x (hm x (by simp)) hvl.1, ih2 (fun y hy => hm y (by simp [hy])) hvl.2]
    rw [upto_eq, within_eq, all_last hn h1, key d.l (fun _ h => h) h2]
theorem uptoL_within {n : Int} (hn : 0 ≤ n) : ∀ l : List S, (∀ d ∈ l, d.valid = true) → uptoL n l = withinL n l
  | [], _ => rfl
  | d :: r, h => by rw [uptoL, withinL, upto_within hn d (h d (by simp)), uptoL_within hn r fun x hx => h x (by simp [hx])]
theorem withinL_any (n : Int) (l : List S) : withinL n l = !l.any fun d => !within n d := by
  induction l with
  | nil => rfl
  | cons d r ih => rw [withinL, ih, List.any_cons]; cases within n d <;> simp
theorem uptoL_any (n : Int) (l : List S) : uptoL n l = !l.any fun d => !upto n d := by
  induction l with
  | nil => rfl
  | cons d r ih => rw [uptoL, ih, List.any_cons]; cases upto n d <;> simp
end S
namespace Ru
def withinR (n : Int) (x : Ru) : Bool := S.withinL n x.l0 && (S.withinL n x.l1 && S.withinL n x.l2)
def uptoR (n : Int) (x : Ru) : Bool := S.uptoL n x.l0 && (S.uptoL n x.l1 && S.uptoL n x.l2)
theorem ok_within {n : Int} (hn : 0 ≤ n) (x : Ru) : (okM x && uptoR n x) = (okI x && withinR n x) := by
  rw [← ok_eq]
  cases h : okM x with
  | false => rfl
  | true =>
    rw [Bool.true_and, Bool.true_and]
    unfold okM at h
    simp only [Bool.and_eq_true, decide_eq_true_eq] at h
    obtain ⟨h0, ⟨h1, _⟩, h2, _⟩ := h
    obtain ⟨c1, c2⟩ := clauses_isS x.l0 x.l1 x.l2 h1 h2
    have v1 : ∀ d ∈ x.l1, d.valid = true := fun d hd => S.valid_of_isS (c1 d hd)
    have v2 : ∀ d ∈ x.l2, d.valid = true := fun d hd => S.valid_of_isS (c2 d hd)
    have v0 : ∀ d ∈ x.l0, d.valid = true := fun d hd => by
      unfold S.areLits at h0
      simp only [Bool.and_eq_true, Bool.not_eq_true', List.any_eq_false] at h0
      have h3 := h0.2 d hd
      unfold S.isNoneL at h3
      simp only [Bool.or_eq_true, Bool.not_eq_true', not_or, Bool.not_eq_false] at h3
      have h4 := h3.1
      unfold S.isI at h4
      simp only [Bool.and_eq_true] at h4
      exact S.valid_of_isS h4.2
    unfold uptoR withinR
    rw [S.uptoL_within hn _ v0, S.uptoL_within hn _ v1, S.uptoL_within hn _ v2]
end Ru
end Go.Proofs.YtnldlbglgalbaabGreat

namespace Go.Proofs.YtnldlbglgalbaabGreat
open Go.RowKit

set_option maxRecDepth 100000 in
set_option maxHeartbeats 1000000 in
theorem lastScope_any (A : Option Addr) (c : Nat) (s : List Int) (B : Nat) (w : World) (hin : IIn w B A c s) (hB : B ≤ w.heap.size) :
    Calls Tryz.prog 59 #[.slice A s.length c] w fun e w' => e = .returned (.int .i64 (S.lastS s)) ∧ Below w.heap.size w w' := by
  have hcap := hin.cap
  by_cases hs : s.length = 0
  · have e1 : ((s.length : Int) == 0) = true := by simp [hs]
    have HQ : Hid (S.lastS s = 0) := by show _ = _; rw [List.length_eq_zero_iff.1 hs]; rfl
    clear hs
    go_enter Tryz.func59, Tryz.ntmps59
    go_wp2_with fail
    go_ret
    exact ⟨ret_int HQ.out.symm, Below.refl _ _⟩
  · have e1 : ((s.length : Int) == 0) = false := by simpa using hs
    have hl : s.length - 1 < s.length := by omega
    obtain ⟨b, o, rfl, hb, c0⟩ := hin.at_ hl
    have HQ : Hid (S.lastS s = s[s.length - 1]) := by show _ = _; unfold S.lastS; rw [List.getD_eq_getElem?_getD, List.getElem?_eq_getElem hl]; rfl
    have e2 : (((s.length - 1 : Nat) : Int)) = (s.length : Int) - 1 := by omega
    have e3 : ((s.length : Int) - 1).toNat = s.length - 1 := by omega
    have g0 : (0 : Int) ≤ (s.length : Int) - 1 := by omega
    have g1 : (s.length : Int) - 1 < (s.length : Int) := by omega
    clear hs
    go_enter Tryz.func59, Tryz.ntmps59
    go_wp2_with fail
    go_ret
    exact ⟨ret_int HQ.out.symm, Below.refl _ _⟩

def WiOk (m : Nat) : Prop := ∀ (A : Option Addr) (c : Nat) (l : List S) (n : Int) (B : Nat) (w : World), S.sizeL l < m → S.Row w B A c l → B ≤ w.heap.size → Calls Tryz.prog 92 #[.slice A l.length c, .int .i64 n] w fun e w' => e = .returned (.bool (S.withinL n l)) ∧ Below w.heap.size w w'
theorem S.row_items {d : S} {w : World} {B : Nat} (h : d.In w B) : S.Row w B d.A d.c d.l := S.Row.of_itm (by
    obtain ⟨k, n, t, sa, sc, s, A, c, l⟩ := d
    unfold S.In at h
    unfold S.itm S.In
    exact ⟨⟨h.1.1, h.1.2.1, by show 0 ≤ _; omega⟩, IIn.nil_ (by omega) (by simp), h.2.2⟩)

set_option maxRecDepth 100000 in
set_option maxHeartbeats 4000000 in
theorem within1_any (m : Nat) (ih : WiOk m) (d : S) (n : Int) (g : Nat) (B : Nat) (w : World) (hm : d.size < m + 1) (hd : d.In w B) (hB : B ≤ w.heap.size) (hg : g < w.heap.size) (hc : w.cell? ⟨g, 0, none⟩ = some (.int .i64 n)) :
    Calls Tryz.prog 126 #[d.val, .pointer (some ⟨g, 0, none⟩)] w fun e w' => e = .returned (.bool (!S.within n d)) ∧ Below w.heap.size w w' := by
  have HM : Hid (S.within n d = (decide (S.lastS d.s ≤ n) && S.withinL n d.l)) := S.within_eq n d
  have hse := S.size_eq d
  obtain ⟨W1, hW1⟩ : ∃ W1, W1 = w.alloc (.cells #[.int .i64 d.k, .int .i64 d.n, .string d.t, .slice d.sa d.s.length d.sc, .slice d.A d.l.length d.c] 43) := ⟨_, rfl⟩
  have b1 : Below w.heap.size w W1 := by rw [hW1]; exact (Below.refl _ _).alloc (Nat.le_refl _) _
  have z1 : w.heap.size < W1.heap.size := by rw [hW1]; simp
  have X1 : S.Box W1 w.heap.size d := by rw [hW1]; exact S.Box.new _ _ _
  have hd1 := hd.below (b1.mono hB)
  have hB1 : B ≤ W1.heap.size := by omega
  have c1 := (b1.cell (p := ⟨g, 0, none⟩) hg).trans hc
  have hg1 : g < W1.heap.size := by omega
  have hsc := hd1.scopes
  have HL : Hid (∀ z : Near W1, Calls Tryz.prog 59 #[.slice d.sa d.s.length d.sc] z.at_ fun e w' => e = .returned (.int .i64 (S.lastS d.s)) ∧ Below z.at_.heap.size z.at_ w') := fun z => lastScope_any d.sa d.sc d.s B z.at_ (hsc.below (z.below.mono hB1)) (Nat.le_trans hB1 z.size)
  have HW : Hid (∀ z : Near W1, Calls Tryz.prog 92 #[.slice d.A d.l.length d.c, .int .i64 n] z.at_ fun e w' => e = .returned (.bool (S.withinL n d.l)) ∧ Below z.at_.heap.size z.at_ w') := fun z => ih d.A d.c d.l n B z.at_ (by omega) ((S.row_items hd1).below (z.below.mono hB1)) (Nat.le_trans hB1 z.size)
  obtain ⟨L, hL⟩ : ∃ L, L = S.lastS d.s := ⟨_, rfl⟩
  obtain ⟨X, hX⟩ : ∃ X, X = S.withinL n d.l := ⟨_, rfl⟩
  rw [← hL] at HL HM
  rw [← hX] at HW HM
  clear hL hX hsc hd1
  have k0 : ∀ z : Near W1, z.at_.cell? ⟨g, 0, none⟩ = some (.int .i64 n) := fun z => z.cell 0 c1 hg1
  obtain ⟨xx0, xx1, xx2, xx3, xx4⟩ := X1
  have a3 : ∀ z : Near W1, z.at_.cell? ⟨w.heap.size, 3, none⟩ = some (.slice d.sa d.s.length d.sc) := fun z => z.cell 3 xx3 z1
  have a4 : ∀ z : Near W1, z.at_.cell? ⟨w.heap.size, 4, none⟩ = some (.slice d.A d.l.length d.c) := fun z => z.cell 4 xx4 z1
  clear xx0 xx1 xx2 xx3 xx4 c1 hc
  unfold S.val
  by_cases hq : L ≤ n
  · cases X
    · have hq2 : decide (L > n) = false := decide_eq_false (by omega)
      have HQ : Hid (S.within n d = false) := by show _ = _; rw [HM.out, decide_eq_true hq]; rfl
      go_enter Tryz.func126, Tryz.ntmps126
      go_upto_region 1 with fail
      rw [← hW1]
      clear hW1 HM
      refine wp_region_near (by kernel_rfl) (by kernel_rfl) ?_
      repeat (go_big_quiet_step ((first | (go_at_call 59; with_reducible exact Calls.near (HL.out _)) | (go_at_call 92; with_reducible exact Calls.near (HW.out _)))))
      refine wpQuiet_nil ?_
      intro _ hw1
      obtain ⟨nx, hw2⟩ := hw1
      subst hw2
      go_wp2_with fail
      go_ret
      exact ⟨ret_bool (by rw [HQ.out]; rfl), b1.trans (nx.below.mono (by omega))⟩
    · have hq2 : decide (L > n) = false := decide_eq_false (by omega)
      have HQ : Hid (S.within n d = true) := by show _ = _; rw [HM.out, decide_eq_true hq]; rfl
      go_enter Tryz.func126, Tryz.ntmps126
      go_upto_region 1 with fail
      rw [← hW1]
      clear hW1 HM
      refine wp_region_near (by kernel_rfl) (by kernel_rfl) ?_
      repeat (go_big_quiet_step ((first | (go_at_call 59; with_reducible exact Calls.near (HL.out _)) | (go_at_call 92; with_reducible exact Calls.near (HW.out _)))))
      refine wpQuiet_nil ?_
      intro _ hw1
      obtain ⟨nx, hw2⟩ := hw1
      subst hw2
      go_wp2_with fail
      go_ret
      exact ⟨ret_bool (by rw [HQ.out]; rfl), b1.trans (nx.below.mono (by omega))⟩
  · have hq2 : decide (L > n) = true := decide_eq_true (by omega)
    have HQ : Hid (S.within n d = false) := by show _ = _; rw [HM.out, decide_eq_false hq]; rfl
    go_enter Tryz.func126, Tryz.ntmps126
    go_upto_region 1 with fail
    rw [← hW1]
    clear hW1 HM
    refine wp_region_near (by kernel_rfl) (by kernel_rfl) ?_
    repeat (go_big_quiet_step ((first | (go_at_call 59; with_reducible exact Calls.near (HL.out _)) | (go_at_call 92; with_reducible exact Calls.near (HW.out _)))))
    refine wpQuiet_nil ?_
    intro _ hw1
    obtain ⟨nx, hw2⟩ := hw1
    subst hw2
    go_wp2_with fail
    go_ret
    exact ⟨ret_bool (by rw [HQ.out]; rfl), b1.trans (nx.below.mono (by omega))⟩

set_option maxRecDepth 100000 in
set_option maxHeartbeats 4000000 in
theorem conWithin_any (m : Nat) (ih : WiOk m) (A : Option Addr) (c : Nat) (l : List S) (n : Int) (g : Nat) (B : Nat) (w : World) (hm : S.sizeL l < m + 1) (hin : S.Row w B A c l) (hB : B ≤ w.heap.size) (hg : g < w.heap.size) (hcg : w.cell? ⟨g, 0, none⟩ = some (.int .i64 n)) :
    Calls Tryz.prog 112 #[.slice A l.length c, .func (.func 126) #[] #[.pointer (some ⟨g, 0, none⟩)]] w fun e w' => e = .returned (.bool (l.any fun d => !S.within n d)) ∧ Below w.heap.size w w' := by
  have hcap := hin.cap
  have key : Calls Tryz.prog 137 #[.slice A l.length c, .func (.func 126) #[] #[.pointer (some ⟨g, 0, none⟩)]] w fun e w' => (∃ r : Int, e = .returned (.int .i64 r) ∧ decide (0 ≤ r) = l.any fun d => !S.within n d) ∧ Below w.heap.size w w' := by
    go_enter Tryz.func137, Tryz.ntmps137
    go_wp2_with fail
    go_loopw [5, 8] (fun _ i wr => ∃ j : Nat, j ≤ l.length ∧ i = .int .i64 j ∧ Hid (∀ x ∈ l.take j, (!S.within n x) = false) ∧ Below w.heap.size w wr) (fun _ i _ => l.length - (intOf i).toNat)
    case atStart => exact ⟨0, Nat.zero_le _, rfl, by simp [Hid], Below.refl _ _⟩
    case round =>
      obtain ⟨j, hj, rfl, HN, hb⟩ := hrel
      by_cases hlt : j < l.length
      · have hsz := hb.size
        obtain ⟨b, o, rfl, hblk, c0, c1, c2, c3, c4, hix⟩ := S.atE ((hin.below (hb.mono hB)).2 (by rintro rfl; simp at hlt)) (i := j) (x := l[j]) (List.getElem?_eq_getElem hlt)
        have g2 : (j : Int) < (l.length : Int) := by omega
        have hc := within1_any m ih l[j] n g B wr (by have := S.sizeL_mem (List.getElem_mem hlt); omega) hix (by omega) (by omega) ((hb.cell (p := ⟨g, 0, none⟩) hg).trans hcg)
        unfold S.val at hc
        go_wp2_with fail
        (with_reducible refine hc.mono ?_)
        clear hc
        rintro e w1 ⟨rfl, hb1⟩
        have hb3 := hb.trans (hb1.mono (by omega))
        clear c0 c1 c2 c3 c4 hb1
        cases hq : (fun x => !S.within n x) l[j]
        · have HN2 : Hid (∀ x ∈ l.take (j + 1), (!S.within n x) = false) := none_succ hlt HN.out hq
          rw [show (!S.within n l[j]) = false from hq]
          clear hq
          go_wp2_with fail
          refine ⟨⟨j + 1, by omega, by go_num, HN2, hb3⟩, by simp [intOf]; omega⟩
        · have HY : Hid ((l.any fun d => !S.within n d) = true) := any_yes (p := fun x => !S.within n x) hlt hq
          rw [show (!S.within n l[j]) = true from hq]
          clear hq
          go_wp2_with fail
          go_ret
          exact ⟨⟨j, rfl, by rw [HY.out]; simp⟩, hb3⟩
      · have hj' : j = l.length := by omega
        subst hj'
        have HF : Hid ((l.any fun d => !S.within n d) = false) := any_none (p := fun x => !S.within n x) (by have := HN.out; rwa [List.take_length] at this)
        go_wp2_with fail
        go_ret
        exact ⟨⟨-1, rfl, by rw [HF.out]; rfl⟩, hb⟩
  go_enter Tryz.func112, Tryz.ntmps112
  go_wp2_with fail
  refine key.mono ?_
  rintro e w1 ⟨⟨r, rfl, hr⟩, hb1⟩
  have HR := Lib.hid hr
  clear hr key
  go_wp2_with fail
  go_ret
  exact ⟨ret_bool HR.out, hb1⟩

set_option maxRecDepth 100000 in
set_option maxHeartbeats 2000000 in
theorem areWithin_step (m : Nat) (ih : WiOk m) : WiOk (m + 1) := by
  intro A c l n B w hm hin hB
  have hcap := hin.cap
  have hmf : ∀ (fn : Fn) (first cap : Array Value) (w : World), (Instr.makeFunc fn first cap).run Tryz.prog w = .ok (.func fn first cap) w := fun _ _ _ _ => rfl
  obtain ⟨W1, hW1⟩ : ∃ W1, W1 = w.alloc (.cells #[.int .i64 n] 3) := ⟨_, rfl⟩
  have b1 : Below w.heap.size w W1 := by rw [hW1]; exact (Below.refl _ _).alloc (Nat.le_refl _) _
  have z1 : w.heap.size < W1.heap.size := by rw [hW1]; simp
  have c1 : W1.cell? ⟨w.heap.size, 0, none⟩ = some (.int .i64 n) := by rw [hW1]; exact (D.Blk.new w 3 #[.int .i64 n]).cell 0
  have hc := conWithin_any m ih A c l n w.heap.size B W1 hm (hin.below (b1.mono hB)) (by omega) z1 c1
  have HQ : Hid (S.withinL n l = !l.any fun d => !S.within n d) := S.withinL_any n l
  obtain ⟨X, hX⟩ : ∃ X, X = l.any fun d => !S.within n d := ⟨_, rfl⟩
  rw [← hX] at hc HQ
  clear hX
  have HC := Lib.hid hc
  clear hc
  go_enter Tryz.func92, Tryz.ntmps92
  go_upto_region 1 with fail
  rw [← hW1]
  clear hW1
  go_wp2_with fail
  refine HC.out.mono ?_
  rintro e w2 ⟨rfl, hb2⟩
  go_wp2_with fail
  go_ret
  exact ⟨ret_bool (by rw [HQ.out]), b1.trans (hb2.mono (by omega))⟩
theorem areWithin_any : ∀ m, WiOk m := by
  intro m
  induction m with
  | zero =>
    intro A c l n B w hm hin hB
    omega
  | succ m ih => exact areWithin_step m ih
end Go.Proofs.YtnldlbglgalbaabGreat
