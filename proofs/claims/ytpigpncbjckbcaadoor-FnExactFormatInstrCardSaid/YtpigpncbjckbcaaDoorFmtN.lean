/-
  The model's FormatNumber: the decimal numeral.
-/
import Derived.Test.YtpigpncbjckbcaaDoorInts
import Derived.Lib.ItoaNum
import Derived.Laws.IdiomStrings
namespace Go.Proofs.YtpigpncbjckbcaaDoor
open Go.RowKit

/-- The digits of u; none for 0. -/
def dd (u : Nat) : List UInt8 := if u = 0 then [] else Lib.decDigits u
theorem dd_zero : dd 0 = [] := rfl
theorem dd_step {u : Nat} (h : 0 < u) : dd u = dd (u / 10) ++ [UInt8.ofNat (48 + u % 10)] := by
  unfold dd
  rw [if_neg (by omega), Lib.decDigits]
  by_cases h10 : u < 10
  · rw [dif_pos h10, if_pos (by omega), Nat.mod_eq_of_lt h10]; rfl
  · rw [dif_neg h10, if_neg (by omega)]
theorem itoa_dd (n : Int) (h : n ≠ 0) : Lib.itoa n = (if n < 0 then [45] else []) ++ dd n.natAbs := by
  have h2 : ¬ n.natAbs = 0 := by omega
  unfold Lib.itoa dd
  rw [if_neg h2]
  by_cases hn : n < 0
  · rw [if_pos hn, if_pos hn]; rfl
  · rw [if_neg hn, if_neg hn, show n.toNat = n.natAbs by omega]; rfl

theorem dd_len : ∀ (k u : Nat), u < 10 ^ k → (dd u).length ≤ k
  | 0, u, h => by
    have : u = 0 := by simpa using h
    subst this
    simp [dd]
  | k + 1, u, h => by
    by_cases hu : u = 0
    · subst hu; simp [dd]
    · rw [dd_step (by omega), List.length_append]
      have := dd_len k (u / 10) (by rw [Nat.pow_succ] at h; omega)
      simp; omega
theorem byte_string (w : World) (D : Nat) (hD : D ≤ 9) :
    (convert 51 9 (.slice (some ⟨w.heap.size, 0, none⟩) 1 1)).run Tryd.prog (w.alloc (.cells #[.int .u8 (48 + (D : Int))] 5)) = .ok (.string ⟨#[UInt8.ofNat (48 + D)]⟩) (w.alloc (.cells #[.int .u8 (48 + (D : Int))] 5)) := by
  have h := run_convert_bytes_back (P := Tryd.prog) (w.alloc (.cells #[.int .u8 (48 + (D : Int))] 5)) 51 9 5 ⟨w.heap.size, 0, none⟩ 1 [UInt8.ofNat (48 + D)] Tryd.underlying51 Tryd.underlying5 Tryd.underlying9 (fun j hj => by
    have hj0 : j = 0 := by simpa using hj
    subst hj0
    have e : (48 + D) % 256 = 48 + D := by omega
    have h1 : (w.alloc (.cells #[.int .u8 (48 + (D : Int))] 5)).cell? ⟨w.heap.size, 0, none⟩ = some (.int .u8 (48 + (D : Int))) := World.cell?_alloc_mark w #[.int .u8 (48 + (D : Int))] 5 (0, 0) 0
    have h2 : (((UInt8.ofNat (48 + D)).toNat : Nat) : Int) = 48 + (D : Int) := by rw [UInt8.toNat_ofNat', Nat.mod_eq_of_lt (by omega)]; simp
    show World.cell? _ ⟨w.heap.size, 0 + 0, none⟩ = some (.int .u8 (((UInt8.ofNat (48 + D)).toNat : Nat) : Int))
    rw [h2]
    exact h1)
  exact h
theorem dig_mod {D : Nat} (h : D ≤ 9) : (48 + (D : Int)) % 256 = 48 + (D : Int) := by omega
theorem tdiv_facts (x : Int) : ∃ q : Int, x.tdiv 10 = q ∧ q.natAbs = x.natAbs / 10 ∧ (0 ≤ x → 0 ≤ q) ∧ (x ≤ 0 → q ≤ 0) := by
  refine ⟨_, rfl, ?_, fun h => ?_, fun h => ?_⟩
  · rw [Int.natAbs_tdiv]; rfl
  · exact Int.tdiv_nonneg h (by decide)
  · have := Int.tdiv_nonneg (a := -x) (b := 10) (by omega) (by decide)
    rw [Int.neg_tdiv] at this
    omega
theorem tmod_pos {x : Int} (h : 0 ≤ x) : x.tmod 10 = ((x.natAbs % 10 : Nat) : Int) := by
  rw [Int.tmod_eq_emod_of_nonneg h]; omega
theorem tmod_neg {x : Int} (h : x ≤ 0) : x.tmod 10 = -((x.natAbs % 10 : Nat) : Int) := by
  have := tmod_pos (x := -x) (by omega)
  rw [Int.neg_tmod, Int.natAbs_neg] at this
  omega

theorem ba_cons (b : UInt8) (o : ByteArray) : (⟨#[b]⟩ : ByteArray) ++ o = ⟨(b :: o.data.toList).toArray⟩ := by
  have e : ((⟨#[b]⟩ : ByteArray) ++ o).data = (b :: o.data.toList).toArray := by
    rw [ByteArray.data_append]
    apply Array.toList_inj.1
    simp
  cases h : (⟨#[b]⟩ : ByteArray) ++ o with
  | mk d => rw [h] at e; simp only at e; rw [e]
theorem dd_next {n x q : Int} {D : Nat} {out : ByteArray} (h : dd n.natAbs = dd x.natAbs ++ out.data.toList) (hs : dd x.natAbs = dd (x.natAbs / 10) ++ [UInt8.ofNat (48 + x.natAbs % 10)]) (hq : q.natAbs = x.natAbs / 10) (hD : D = x.natAbs % 10) :
    dd n.natAbs = dd q.natAbs ++ (({ data := #[48 + UInt8.ofNat D] } : ByteArray) ++ out).data.toList := by
  have e : UInt8.ofNat (48 + D) = 48 + UInt8.ofNat D := UInt8.ofNat_add 48 D
  rw [h, hs, hq, ← hD, List.append_assoc, e]
  simp [ByteArray.data_append]

set_option maxRecDepth 100000 in
set_option maxHeartbeats 4000000 in
theorem specFmtN_any (n : Int) (h0 : -9223372036854775808 ≤ n) (h1 : n ≤ 9223372036854775807) (w : World) :
    Calls Tryd.prog 14 #[.int .i64 n] w fun e w' => e = .returned (.string ⟨(Lib.itoa n).toArray⟩) ∧ Below w.heap.size w w' := by
  by_cases hz : n = 0
  · subst hz
    go_enter Tryd.func14, Tryd.ntmps14
    go_wp2_with fail
    go_ret
    exact ⟨by simp [Lib.itoa, Lib.decDigits], Below.refl _ _⟩
  · have e0 : (n == 0) = false := beq_false_of_ne hz
    have HI := Lib.hid (itoa_dd n hz)
    have HL := dd_len 20 n.natAbs (by omega)
    have HZ := Lib.hid hz
    clear hz
    go_enter Tryd.func14, Tryd.ntmps14
    go_wp2_with fail
    go_loopw [3, 4] (fun s3 s4 wr => ∃ (x : Int) (out : ByteArray), s3 = .string out ∧ s4 = .int .i64 x ∧ Hid (dd n.natAbs = dd x.natAbs ++ out.data.toList) ∧ Hid (0 ≤ n → 0 ≤ x) ∧ Hid (n ≤ 0 → x ≤ 0) ∧ x.natAbs ≤ n.natAbs ∧ Below w.heap.size w wr) (fun _ s4 _ => (intOf s4).natAbs)
    case atStart => exact ⟨n, ⟨#[]⟩, rfl, rfl, by simp [Hid], fun h => h, fun h => h, Nat.le_refl _, Below.refl _ _⟩
    case round =>
      obtain ⟨x, out, rfl, rfl, HD, HP, HN, hle, hb⟩ := hrel
      have hos : out.size ≤ 20 := by
        have := congrArg List.length HD.out
        rw [List.length_append] at this
        have e : out.size = out.data.toList.length := rfl
        omega
      by_cases hx : x = 0
      · subst hx
        have HF : Hid (dd n.natAbs = out.data.toList) := by
          have := HD.out
          rw [show Int.natAbs 0 = 0 from rfl, dd_zero, List.nil_append] at this
          exact this
        clear HD HP HN hle
        by_cases hn : n < 0
        · go_wp2_with fail
          go_ret
          refine ⟨?_, hb⟩
          rw [HI.out, if_pos hn, HF.out]
          simp
          exact ba_cons 45 out
        · go_wp2_with fail
          go_ret
          refine ⟨?_, hb⟩
          rw [HI.out, if_neg (by omega), HF.out]
          simp
      · have ex : (x != 0) = true := by simp [hx]
        obtain ⟨q, hq, hq2, hq3, hq4⟩ := tdiv_facts x
        have HX := Lib.hid hx
        have Hq2 := Lib.hid hq2
        have Hq3 := Lib.hid hq3
        have Hq4 := Lib.hid hq4
        have hqb : q.natAbs < x.natAbs := by omega
        have hst := Lib.hid (dd_step (u := x.natAbs) (by omega))
        obtain ⟨D, hD⟩ : ∃ D, D = x.natAbs % 10 := ⟨_, rfl⟩
        have hD9 : D ≤ 9 := by omega
        have hconv := byte_string wr D hD9
        have hw : wrap64 (48 + (D : Int)) = 48 + (D : Int) := Go.IntWalk.wrap64_in _ (by omega)
        have hm : (48 + (D : Int)) % 256 = 48 + (D : Int) := dig_mod hD9
        have hgo : x.tmod 10 = (D : Int) ∨ (x.tmod 10 = -(D : Int) ∧ 0 < D) := by
          rw [hD]
          by_cases hs : 0 ≤ x
          · exact .inl (tmod_pos hs)
          · by_cases h00 : x.natAbs % 10 = 0
            · exact .inl (by rw [tmod_neg (by omega), h00]; rfl)
            · exact .inr ⟨tmod_neg (by omega), Nat.pos_of_ne_zero h00⟩
        have HR : ∀ wn, Below w.heap.size w wn → ∃ (x' : Int) (out' : ByteArray), Value.string (({ data := #[48 + UInt8.ofNat D] } : ByteArray) ++ out) = .string out' ∧ Value.int .i64 q = .int .i64 x' ∧ Hid (dd n.natAbs = dd x'.natAbs ++ out'.data.toList) ∧ Hid (0 ≤ n → 0 ≤ x') ∧ Hid (n ≤ 0 → x' ≤ 0) ∧ x'.natAbs ≤ n.natAbs ∧ Below w.heap.size w wn :=
          fun wn hwn => ⟨q, _, rfl, rfl, dd_next HD.out hst.out hq2 hD, fun h => hq3 (HP.out h), fun h => hq4 (HN.out h), Nat.le_trans (Nat.le_of_lt hqb) hle, hwn⟩
        have HR := Lib.hid HR
        clear hD hx hq2 hq3 hq4 HD HP HN hst
        rcases hgo with ht | ⟨ht, hpos⟩
        · have hnn : ¬ ((D : Int) < 0) := by omega
          go_wp2_with fail
          exact ⟨HR.out _ (hb.alloc hb.size _), by simpa [intOf] using hqb⟩
        · have hnn : -(D : Int) < 0 := by omega
          have hwd : wrap64 (D : Int) = (D : Int) := Go.IntWalk.wrap64_in _ (by omega)
          go_wp2_with fail
          exact ⟨HR.out _ (hb.alloc hb.size _), by simpa [intOf] using hqb⟩
end Go.Proofs.YtpigpncbjckbcaaDoor
