/-
  slices.Repeat of one int (written by gen/imr.py).
-/
import Derived.Test.YtpigpncbjckbcaaImM
import Derived.Test.YtpigpncbjckbcaaCopy
import Derived.Test.YtpigpncbjckbcaaShelf
import Derived.Laws.CopyOwn
import Derived.Deep.RegionLaw
namespace Go.Proofs.Ytpigpncbjckbcaa
open Go.RowKit

theorem infoI_ : (Try.prog.info? 3).map (fun i => (i.zero, i.size, i.bytes)) = some (some (.int .i64 0), 1, 8) := by kernel_rfl
/-- k of n have come. -/
def repV (v : Int) (k n : Nat) : List Value := List.replicate k (.int .i64 v) ++ List.replicate (n - k) (.int .i64 0)
theorem repV_len (v : Int) {k n : Nat} (h : k ≤ n) : (repV v k n).length = n := by simp [repV]; omega
theorem repV_splice (v : Int) {k n m : Nat} (_h : k + m ≤ n) : splice (repV v k n) k (List.replicate m (.int .i64 v)) = repV v (k + m) n := by
  unfold splice repV
  rw [List.take_append_of_le_length (by simp), List.length_replicate, List.drop_append, List.length_replicate]
  simp
  rw [← List.append_assoc, List.replicate_append_replicate, show n - k - m = n - (k + m) by omega]
theorem repV_done (v : Int) (n : Nat) : repV v n n = (List.replicate n v).map (Value.int .i64) := by simp [repV]
theorem repV_zero (v : Int) (n : Nat) : repV v 0 n = List.replicate n (.int .i64 0) := by simp [repV]
theorem repV_at (v : Int) {k n j : Nat} (h : j < k) : (repV v k n)[j]? = some (.int .i64 v) := by
  unfold repV
  rw [List.getElem?_append_left (by simpa using h)]
  simp [h]
theorem rep_src {v : Int} {k n m g : Nat} {cs : List Value} {W : World} (hcs : cs = List.replicate m (Value.int .i64 v)) (hm : m ≤ k) (hW : W.heap[g]? = some (.cells (repV v k n).toArray 3 (0, 0))) :
    0 < cs.length → (some ⟨g, k, none⟩ : Option Addr) = some ⟨g, k, none⟩ ∧ ∃ ad, (some ⟨g, 0, none⟩ : Option Addr) = some ad ∧ ∀ j u, cs[j]? = some u → W.cell? (ad.add j) = some u := fun _ => ⟨rfl, _, rfl, fun j u hu => by
  have hj := (List.getElem?_eq_some_iff.1 hu).1
  rw [hcs, List.getElem?_replicate] at hu
  split at hu
  · cases hu
    have h := cell_of_row W g j _ _ _ hW
    have e : (⟨g, 0, none⟩ : Addr).add j = ⟨g, j, none⟩ := by unfold Addr.add; split <;> simp_all
    rw [e, h, List.getElem?_toArray]
    exact repV_at v (by omega)
  · cases hu⟩
set_option maxRecDepth 100000 in
set_option maxHeartbeats 4000000 in
theorem repeat_any (v : Int) (b o c n : Nat) (w : World) (hn0 : 1 ≤ n) (hn : n ≤ 4000) (hb : b < w.heap.size) (hc0 : w.cell? ⟨b, o, none⟩ = some (.int .i64 v)) :
    Calls Try.prog 49 #[.slice (some ⟨b, o, none⟩) 1 c, .int .i64 (n : Int)] w fun e w' => e = .returned (.slice (some ⟨w.heap.size, 0, none⟩) n n) ∧ MR w' w.heap.size (List.replicate n v) ∧ Below w.heap.size w w' := by
  obtain ⟨i0, hi0, hz0, hz1, hz2⟩ := info_parts infoI_
  have hmk := fun W => run_make_rowI (P := Try.prog) 36 3 i0 _ Try.underlying36 hi0 hz0 .i64 .i64 n n (Nat.le_refl _) (by rw [hz2]; omega) (by omega) W
  rw [hz1] at hmk
  have hsz : (Try.prog.info? 3).map (·.size) = some 1 := by rw [hi0]; simp [hz1]
  have n0 : (0 : Int) ≤ (n : Int) := by omega
  have e1 : 1 * n / 18446744073709551616 = 0 := Nat.div_eq_of_lt (by omega)
  have e2 : 1 * n % 18446744073709551616 = n := by rw [Nat.one_mul]; exact Nat.mod_eq_of_lt (by omega)
  have hbm : Calls Try.prog 65 #[.int .u64 1, .int .u64 (n : Int)] w fun e w' => e = .returned (.tuple #[.int .u64 0, .int .u64 (n : Int)]) ∧ w' = w := by
    have h := Try.bits_Mul 1 n (by omega) (by omega) w
    rw [e1, e2] at h
    exact h
  clear e1 e2
  have hmc : madeCells (Value.int .i64 0).cells (n * 1) = (repV v 0 n).toArray := by
    rw [repV_zero]
    apply Array.ext
    · simp [madeCells]
    · intro i h1 h2
      simp [madeCells, Value.cells, Nat.mod_one]
  rw [hmc] at hmk
  clear hmc
  go_enter Try.func49, Try.ntmps49
  go_wp2_with fail
  (with_reducible refine hbm.mono ?_)
  clear hbm
  rintro e w1 ⟨rfl, hw1⟩
  obtain rfl := hw1.symm
  obtain ⟨W1, hW1⟩ : ∃ W1, W1 = w.alloc (.cells (repV v 0 n).toArray 3) := ⟨_, rfl⟩
  have b1 : Below w.heap.size w W1 := by rw [hW1]; exact (Below.refl _ _).alloc (Nat.le_refl _) _
  have z1 : w.heap.size < W1.heap.size := by rw [hW1]; simp
  have G1 : W1.heap[w.heap.size]? = some (.cells (repV v 0 n).toArray 3 (0, 0)) := by rw [hW1]; exact heap_alloc_new w _
  have hc1 := (b1.cell (p := ⟨b, o, none⟩) hb).trans hc0
  have HC1 := Lib.hid hc1
  have HG1 := Lib.hid G1
  have HB1 := Lib.hid b1
  have HNN := Lib.hid hn0
  clear hc1 G1 hc0
  go_upto_region 7 with fail
  rw [← hW1]
  clear hW1 hmk
  obtain ⟨cs1, hcs1⟩ : ∃ cs, cs = List.replicate 1 (Value.int .i64 v) := ⟨_, rfl⟩
  have HCS := Lib.hid hcs1
  have lcs : cs1.length = 1 := by rw [hcs1]; rfl
  have LCS := Lib.hid lcs
  have s1 : ∀ u ∈ cs1, u.oneCell' = true := by rw [hcs1]; intro u hu; simp at hu; rw [hu]; rfl
  have p1 : 0 < cs1.length → (some ⟨w.heap.size, 0, none⟩ : Option Addr) = some ⟨w.heap.size, 0, none⟩ ∧ ∃ ad, (some ⟨b, o, none⟩ : Option Addr) = some ad ∧ ∀ j u, cs1[j]? = some u → W1.cell? (ad.add j) = some u := fun _ => ⟨rfl, _, rfl, fun j u hu => by
    rw [hcs1] at hu
    have hj : j = 0 := by have := (List.getElem?_eq_some_iff.1 hu).1; simp at this; omega
    subst hj
    simp at hu
    subst hu
    simpa [Addr.add] using HC1.out⟩
  clear hcs1 lcs
  go_wp2_with (refine wpList_copy_splice rfl (.tmp 31) (.tmp 32) 36 36 rfl 3 Try.underlying36 hsz _ _ n n 1 c rfl rfl w.heap.size 0 (repV v 0 n) 3 HG1.out cs1 (by rw [LCS.out]; have := HNN.out; show 1 = min 1 n; omega) p1 (by rw [LCS.out, repV_len v (Nat.zero_le _)]; have := HNN.out; omega) s1 w.heap.size w HB1.out (Nat.le_refl _) ?_; intro w2 HG2 hB2)
  have HG3 : Hid (w2.heap[w.heap.size]? = some (.cells (repV v 1 n).toArray 3 (0, 0))) := by
    show _ = _
    rw [HG2.out, HCS.out, repV_splice v (by omega)]
  clear HG2 HCS s1 p1 HG1 HC1
  go_loopw [8] (fun s wr => ∃ k : Nat, 1 ≤ k ∧ k ≤ n ∧ s = .int .i64 k ∧ Hid (wr.heap[w.heap.size]? = some (.cells (repV v k n).toArray 3 (0, 0))) ∧ Below w.heap.size w wr) (fun s _ => n - (intOf s).toNat)
  case atStart => exact ⟨1, Nat.le_refl _, hn0, by rw [LCS.out], HG3, hB2⟩
  case round =>
    obtain ⟨k, hk0, hk, rfl, HG, hb3⟩ := hrel
    by_cases hlt : k < n
    · have lk : (k : Int) < (n : Int) := by omega
      have lk2 : (k : Int) ≤ (n : Int) := by omega
      have lk0 : (0 : Int) ≤ (k : Int) := by omega
      have hnk : ¬ n = k := by omega
      have hkn : ¬ k = n := by omega
      obtain ⟨m, hm⟩ : ∃ m, m = min k (n - k) := ⟨_, rfl⟩
      have hm1 : 1 ≤ m := by omega
      have hm2 : k + m ≤ n := by omega
      have HM := Lib.hid hm
      obtain ⟨cs, hcs⟩ : ∃ cs, cs = List.replicate m (Value.int .i64 v) := ⟨_, rfl⟩
      have HCS := Lib.hid hcs
      have hl : cs.length = m := by rw [hcs]; simp
      have HL := Lib.hid hl
      have hs : ∀ u ∈ cs, u.oneCell' = true := by rw [hcs]; intro u hu; rw [List.eq_of_mem_replicate hu]; rfl
      have hn2 : cs.length = Nat.min k (n - k) := by rw [HL.out]; exact hm
      have hf2 : k + cs.length ≤ (repV v k n).length := by rw [HL.out, repV_len v hk]; exact hm2
      have HN2 := Lib.hid hn2
      have HF2 := Lib.hid hf2
      have HS : Hid (splice (repV v k n) k cs = repV v (k + cs.length) n) := by show _ = _; rw [HL.out, HCS.out]; exact repV_splice v hm2
      have hmk : m ≤ k := by omega
      have lc1 : 1 ≤ cs.length := by rw [HL.out]; exact hm1
      have hwr : IntKind.i64.wrap ((k : Int) + (cs.length : Int)) = (k : Int) + (cs.length : Int) := IntWalk.i64_in _ (by rw [HL.out]; omega)
      have lc2 : k + cs.length ≤ n := by rw [HL.out]; exact hm2
      clear hm hcs hl hn2 hf2
      go_wp2_with fail
      first | go_region_law (refine step_copy_splice rfl (.tmp 41) (.tmp 44) 36 36 rfl 3 Try.underlying36 hsz (some ⟨w.heap.size, k, none⟩) (some ⟨w.heap.size, 0, none⟩) (n - k) (n - k) k n ?hd ?hs w.heap.size k (repV v k n) 3 ?hg cs HN2.out ?hp HF2.out hs w.heap.size w ?hb (Nat.le_refl _) ?hh; rotate_left 5; (intro w4 HG4 hB4); rotate_right 5; go_simp; go_simp; exact HG.out; exact rep_src HCS.out hmk (by exact HG.out); (first | exact hb3 | exact hb3.drew)) | fail
      all_goals simp only [Act.put, List.getElem_toArray, List.getElem_cons_succ, List.getElem_cons_zero, List.setIfInBounds_toArray, List.set_cons_succ, List.set_cons_zero]
      all_goals go_wp2_with fail
      all_goals refine ⟨⟨k + cs.length, by omega, lc2, by go_num, (by show _ = _; rw [← HS.out]; exact HG4.out), hB4⟩, by simp [intOf]; omega⟩
    · have hk' : k = n := by omega
      subst hk'
      have HM2 : Hid (MR wr w.heap.size (List.replicate k v)) := by
        show MR _ _ _
        have := HG.out
        rw [repV_done] at this
        exact this
      go_wp2_with fail
      go_ret
      exact ⟨rfl, HM2.out, hb3⟩
end Go.Proofs.Ytpigpncbjckbcaa
