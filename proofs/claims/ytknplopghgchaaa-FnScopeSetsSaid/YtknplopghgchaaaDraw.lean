/-
  The model's cursor over bytes: draws of numbers.
-/
import Derived.Test.YtknplopghgchaaaPutL
import Derived.Test.YtknplopghgchaaaSBox
import Derived.Laws.BitsLemmas
namespace Go.Proofs.Ytknplopghgchaaa
open Go.RowKit

theorem i64_and255 (n : Int) : bits .and .i64 n 255 = n % 256 := by
  have h255 : (BitVec.ofInt 64 255).toNat = 2 ^ 8 - 1 := by decide
  have key : (BitVec.ofInt 64 n &&& BitVec.ofInt 64 255).toNat = (n % ((2 ^ 64 : Nat) : Int)).toNat % 2 ^ 8 := by
    rw [BitVec.toNat_and, BitVec.toNat_ofInt, h255, Nat.and_two_pow_sub_one_eq_mod]
  show IntKind.i64.wrap ((BitVec.ofInt 64 n &&& BitVec.ofInt 64 255).toNat : Nat) = n % 256
  rw [key, IntKind.wrap_i64]
  omega

/-- Bytes that lie in memory. -/
structure BIn (w : World) (B : Nat) (A : Option Addr) (c : Nat) (l : List Int) : Prop where
  cap : l.length ≤ c ∧ c ≤ 9223372036854775807
  mem : l ≠ [] → ∃ b o : Nat, A = some ⟨b, o, none⟩ ∧ b < B ∧ ∀ j u, l[j]? = some u → w.cell? ⟨b, o + j, none⟩ = some (.int .u8 u)
  rng : ∀ u ∈ l, 0 ≤ u ∧ u ≤ 255
theorem BIn.keep {w w' : World} {B : Nat} {A : Option Addr} {c : Nat} {l : List Int} (h : BIn w B A c l) (hk : ∀ k, k < B → w'.heap[k]? = w.heap[k]?) : BIn w' B A c l := by
  refine ⟨h.cap, fun hl => ?_, h.rng⟩
  obtain ⟨b, o, rfl, hb, hc⟩ := h.mem hl
  exact ⟨b, o, rfl, hb, fun j u hu => (World.cell?_of_block (a := ⟨b, o + j, none⟩) (hk b hb)).trans (hc j u hu)⟩
theorem BIn.at_ {w : World} {B : Nat} {A : Option Addr} {c : Nat} {l : List Int} (h : BIn w B A c l) {i : Nat} (hi : i < l.length) : ∃ b o : Nat, A = some ⟨b, o, none⟩ ∧ b < B ∧ w.cell? ⟨b, o + i, none⟩ = some (.int .u8 l[i]) := by
  obtain ⟨b, o, rfl, hb, hc⟩ := h.mem (by rintro rfl; simp at hi)
  exact ⟨b, o, rfl, hb, hc i _ (List.getElem?_eq_getElem hi)⟩

/-- The cursor at block g. -/
structure Cur (B g : Nat) (w : World) (A : Option Addr) (c : Nat) (l : List Int) : Prop where
  c0 : w.cell? ⟨g, 0, none⟩ = some (.slice A l.length c)
  c1 : ∃ i : Nat, i ≤ l.length ∧ w.cell? ⟨g, 1, none⟩ = some (.int .i64 i)
  c2 : ∃ h : Int, w.cell? ⟨g, 2, none⟩ = some (.int .i64 h)
  fr : Free w g
  by_ : BIn w B A c l
  le : B ≤ g
  lt : g < w.heap.size
theorem Cur.keep {B g : Nat} {w w' : World} {A : Option Addr} {c : Nat} {l : List Int} (h : Cur B g w A c l) (hz : w.heap.size ≤ w'.heap.size) (hk : ∀ k, k ≤ g → w'.heap[k]? = w.heap[k]?) : Cur B g w' A c l := by
  have e : ∀ q, w'.cell? ⟨g, q, none⟩ = w.cell? ⟨g, q, none⟩ := fun q => World.cell?_of_block (a := ⟨g, q, none⟩) (hk g (Nat.le_refl _))
  refine ⟨(e 0).trans h.c0, ?_, ?_, h.fr.keep (hk g (Nat.le_refl _)), h.by_.keep fun k hk' => hk k (by have := h.le; omega), h.le, Nat.lt_of_lt_of_le h.lt hz⟩
  · obtain ⟨i, h1, h2⟩ := h.c1
    exact ⟨i, h1, (e 1).trans h2⟩
  · obtain ⟨i, h2⟩ := h.c2
    exact ⟨i, (e 2).trans h2⟩
theorem Cur.below {B g : Nat} {w w' : World} {A : Option Addr} {c : Nat} {l : List Int} (h : Cur B g w A c l) (hb : Below w.heap.size w w') : Cur B g w' A c l :=
  h.keep hb.size fun k hk => hb.block k (by have := h.lt; omega)

set_option maxRecDepth 100000 in
set_option maxHeartbeats 1600000 in
theorem l01Byte_any (B g : Nat) (w : World) (A : Option Addr) (c : Nat) (l : List Int) (hc : Cur B g w A c l) :
    Calls Try.prog 182 #[.pointer (some ⟨g, 0, none⟩)] w fun e w' => (∃ x : Nat, e = .returned (.int .i64 x) ∧ x ≤ 255) ∧ Cur B g w' A c l ∧ Chg [g] w w' := by
  obtain ⟨c0, ⟨i, hi, c1⟩, ⟨h, c2⟩, hfr, hby, hle, hlt⟩ := hc
  have f1 := hfr.fr 1
  have f2 := hfr.fr 2
  have hand := i64_and255
  have key : ∀ E : Int, ∃ x : Nat, E % 256 = x ∧ x ≤ 255 := fun E => ⟨(E % 256).toNat, by omega, by omega⟩
  by_cases hlt2 : i < l.length
  · obtain ⟨b, o, rfl, hblk, cb⟩ := hby.at_ hlt2
    have hr := hby.rng l[i] (List.getElem_mem hlt2)
    have gi : (i : Int) < (l.length : Int) := by omega
    have hcap := hby.cap
    have ne : b ≠ g := by omega
    have cb' : ∀ u, (w.setCell ⟨g, 2, none⟩ u).cell? ⟨b, o + i, none⟩ = some (.int .u8 l[i]) := fun u => (World.cell?_of_block (a := ⟨b, o + i, none⟩) (Below.heap_setCell _ _ _ _ ne)).trans cb
    go_enter Try.func182, Try.ntmps182
    go_wp2_with fail
    go_region
    generalize wrap64 (wrap64 (h * 6364136223846793005) + 1442695040888963407) = H
    generalize bits BinOp.xor IntKind.i64 (H / 8589934592) (H / 35184372088832) = E
    obtain ⟨x, hx, hx2⟩ := key E
    rw [hx]
    have d0 : (w.setCell ⟨g, 2, none⟩ (.int .i64 H)).cell? ⟨g, 0, none⟩ = some (.slice (some ⟨b, o, none⟩) l.length c) := (icell_ne _ _ _ _ _ (by omega)).trans c0
    have d1 : (w.setCell ⟨g, 2, none⟩ (.int .i64 H)).cell? ⟨g, 1, none⟩ = some (.int .i64 i) := (icell_ne _ _ _ _ _ (by omega)).trans c1
    have d2 : (w.setCell ⟨g, 2, none⟩ (.int .i64 H)).cell? ⟨g, 2, none⟩ = some (.int .i64 H) := icell_eq c2
    have db := cb' (.int .i64 H)
    have df : (w.setCell ⟨g, 2, none⟩ (.int .i64 H)).frozen? ⟨g, 1, none⟩ = false := by rw [World.frozen?_setCell]; exact f1
    obtain ⟨W, hW⟩ : ∃ W, W = w.setCell ⟨g, 2, none⟩ (.int .i64 H) := ⟨_, rfl⟩
    rw [← hW] at d0 d1 d2 db df ⊢
    have hch : Chg [g] w W := by rw [hW]; exact (Chg.refl _ _).setCell (.inl (by simp)) _
    have hfW : Free W g := by rw [hW]; exact hfr.set_ _ _
    have hzW : W.heap.size = w.heap.size := by rw [hW]; simp
    have hbW : BIn W B (some ⟨b, o, none⟩) c l := by rw [hW]; exact hby.keep fun k hk => Below.heap_setCell _ _ _ _ (by simp; omega)
    clear hW cb' c0 c1 c2 cb
    go_wp2_with fail
    go_region
    go_wp2_with fail
    go_region
    obtain ⟨y, hy, hy2⟩ := key ((x : Int) + l[i])
    rw [hy]
    go_wp2_with fail
    go_ret
    refine ⟨⟨y, rfl, hy2⟩, ⟨?_, ⟨i + 1, by omega, ?_⟩, ⟨H, ?_⟩, ⟨fun q => (hfW.set_ ⟨g, 1, none⟩ (.int .i64 ((i : Int) + 1))).fr q⟩, ?_, hle, by simp [hzW]; omega⟩, ?_⟩
    · exact (icell_ne _ _ _ _ _ (by omega)).trans d0
    · rw [show ((i + 1 : Nat) : Int) = (i : Int) + 1 by omega]; exact icell_eq (v := .int .i64 i) d1
    · exact (icell_ne _ _ _ _ _ (by omega)).trans d2
    · exact hbW.keep fun k hk => Below.heap_setCell _ _ _ _ (by simp; omega)
    · have h2 : Chg [g] w (W.setCell ⟨g, 1, none⟩ (.int .i64 ((i : Int) + 1))) := hch.setCell (.inl (by simp)) _
      exact h2.trans ⟨rfl, rfl, rfl, Nat.le_refl _, fun _ _ _ => rfl⟩
  · have gi : ¬ (i : Int) < (l.length : Int) := by omega
    go_enter Try.func182, Try.ntmps182
    go_wp2_with fail
    go_region
    generalize wrap64 (wrap64 (h * 6364136223846793005) + 1442695040888963407) = H
    generalize bits BinOp.xor IntKind.i64 (H / 8589934592) (H / 35184372088832) = E
    obtain ⟨x, hx, hx2⟩ := key E
    rw [hx]
    have d0 : (w.setCell ⟨g, 2, none⟩ (.int .i64 H)).cell? ⟨g, 0, none⟩ = some (.slice A l.length c) := (icell_ne _ _ _ _ _ (by omega)).trans c0
    have d1 : (w.setCell ⟨g, 2, none⟩ (.int .i64 H)).cell? ⟨g, 1, none⟩ = some (.int .i64 i) := (icell_ne _ _ _ _ _ (by omega)).trans c1
    have d2 : (w.setCell ⟨g, 2, none⟩ (.int .i64 H)).cell? ⟨g, 2, none⟩ = some (.int .i64 H) := icell_eq c2
    obtain ⟨W, hW⟩ : ∃ W, W = w.setCell ⟨g, 2, none⟩ (.int .i64 H) := ⟨_, rfl⟩
    rw [← hW] at d0 d1 d2 ⊢
    have hch : Chg [g] w W := by rw [hW]; exact (Chg.refl _ _).setCell (.inl (by simp)) _
    have hfW : Free W g := by rw [hW]; exact hfr.set_ _ _
    have hzW : W.heap.size = w.heap.size := by rw [hW]; simp
    have hbW : BIn W B A c l := by rw [hW]; exact hby.keep fun k hk => Below.heap_setCell _ _ _ _ (by simp; omega)
    clear hW c0 c1 c2
    go_wp2_with fail
    go_region
    go_wp2_with fail
    go_ret
    exact ⟨⟨x, rfl, hx2⟩, ⟨d0, ⟨i, hi, d1⟩, ⟨H, d2⟩, ⟨fun q => hfW.fr q⟩, hbW.keep fun _ _ => rfl, hle, by simp [hzW]; omega⟩, hch.trans ⟨rfl, rfl, rfl, Nat.le_refl _, fun _ _ _ => rfl⟩⟩

set_option maxRecDepth 100000 in
set_option maxHeartbeats 800000 in
/-- A draw below a small number. -/
theorem l01Below_any (n : Nat) (hn : 0 < n) (hn2 : n ≤ 256) (B g : Nat) (w : World) (A : Option Addr) (c : Nat) (l : List Int) (hc : Cur B g w A c l) :
    Calls Try.prog 152 #[.pointer (some ⟨g, 0, none⟩), .int .i64 n] w fun e w' => (∃ x : Nat, e = .returned (.int .i64 x) ∧ x < n) ∧ Cur B g w' A c l ∧ Chg [g] w w' := by
  have h1 : ¬ ((n : Int) ≤ 0) := by omega
  have h2 : (n : Int) ≤ 256 := by omega
  have h3 : ¬ ((n : Int) = 0) := by omega
  go_enter Try.func152, Try.ntmps152
  go_wp2_with fail
  refine (l01Byte_any B g _ A c l hc).mono ?_
  rintro e w1 ⟨⟨x, rfl, hx⟩, hc1, hch⟩
  go_wp2_with fail
  go_ret
  exact ⟨⟨x % n, by first | rfl | (go_num), Nat.mod_lt _ hn⟩, hc1, hch⟩

set_option maxHeartbeats 800000 in
theorem l01Once_any (n : Nat) (hn : 0 < n) (hn2 : n ≤ 256) (B g : Nat) (w : World) (A : Option Addr) (c : Nat) (l : List Int) (hc : Cur B g w A c l) :
    Calls Try.prog 180 #[.pointer (some ⟨g, 0, none⟩), .int .i64 n] w fun e w' => (∃ x : Bool, e = .returned (.bool x)) ∧ Cur B g w' A c l ∧ Chg [g] w w' := by
  go_enter Try.func180, Try.ntmps180
  go_wp2_with fail
  refine (l01Below_any n hn hn2 B g _ A c l hc).mono ?_
  rintro e w1 ⟨⟨x, rfl, hx⟩, hc1, hch⟩
  go_wp2_with fail
  all_goals go_ret
  all_goals exact ⟨⟨_, rfl⟩, hc1, hch⟩

set_option maxHeartbeats 800000 in
theorem l01Int_any (A' : Option Addr) (c' : Nat) (l' : List Int) (B' : Nat) (hl : 0 < l'.length) (hl2 : l'.length ≤ 256) (B g : Nat) (w : World) (A : Option Addr) (c : Nat) (l : List Int) (hc : Cur B g w A c l) (hin : IIn w B' A' c' l') (hB : B' ≤ w.heap.size) (hg : g ∉ iblk A' l') :
    Calls Try.prog 153 #[.pointer (some ⟨g, 0, none⟩), .slice A' l'.length c'] w fun e w' => (∃ x : Int, e = .returned (.int .i64 x) ∧ x ∈ l') ∧ Cur B g w' A c l ∧ Chg [g] w w' := by
  have hcap := hin.cap
  go_enter Try.func153, Try.ntmps153
  go_wp2_with fail
  refine (l01Below_any l'.length hl hl2 B g _ A c l hc).mono ?_
  rintro e w1 ⟨⟨x, rfl, hx⟩, hc1, hch⟩
  obtain ⟨b, o, rfl, hblk, c0⟩ := (hin.chg hch hB (fun k hk => by simp; rintro rfl; exact hg hk)).at_ hx
  have g1 : (x : Int) < (l'.length : Int) := by omega
  go_wp2_with fail
  go_ret
  exact ⟨⟨_, rfl, List.getElem_mem hx⟩, hc1, hch⟩
end Go.Proofs.Ytknplopghgchaaa
