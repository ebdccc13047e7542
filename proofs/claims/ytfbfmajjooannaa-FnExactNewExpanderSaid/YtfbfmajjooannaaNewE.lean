/-
  NewExpander, the model's and the program's; the law on it, walked (written by gen/newe.py).
-/
import Derived.Test.YtfbfmajjooannaaExB
import Derived.Test.YtfbfmajjooannaaCoreL
namespace Go.Proofs.Ytfbfmajjooannaa
open Go.RowKit

/-- Returned: an expander of the call's own. -/
def RetEx (x : (List Bd × List (List S × List S × List S)) × (Int × Int × Int)) (w : World) (e : Ending) (w' : World) : Prop := ∃ d : Ex, e = .returned d.val ∧ d.er = x ∧ Ex.Own w.heap.size w'.heap.size w' d ∧ Below w.heap.size w w'
def newE : (List Bd × List (List S × List S × List S)) × (Int × Int × Int) := ((coreL, []), (0, 0, 200))

set_option maxRecDepth 100000 in
set_option maxHeartbeats 4000000 in
theorem snewE_any (w : World) : Calls Try.prog 10 #[] w (RetEx newE w) := by
  obtain ⟨W1, hW1⟩ : ∃ W1, W1 = w.alloc (.cells #[.slice none 0 0, .slice none 0 0, .int .i64 0, .int .i64 0, .int .i64 0] 27) := ⟨_, rfl⟩
  have z1 : W1.heap.size = w.heap.size + 1 := by rw [hW1]; simp
  have B1 : Below w.heap.size w W1 := by rw [hW1]; exact (Below.refl _ _).alloc (Nat.le_refl _) _
  have R0 : D.Blk W1 w.heap.size 27 #[.slice none 0 0, .slice none 0 0, .int .i64 0, .int .i64 0, .int .i64 0] := by rw [hW1]; exact D.Blk.new _ _ _
  go_enter Try.func10, Try.ntmps10
  go_wp2_with fail
  rw [← hW1]
  clear hW1
  refine (specCore_any _).mono ?_
  rintro e w1 ⟨A1, c1, v1, rfl, he1, o1, hb1⟩
  have y1 := hb1.size
  have R1 := R0.below hb1 (by omega)
  have b1 := B1.trans (hb1.mono (by omega))
  have HE := Lib.hid he1
  clear he1 hb1 R0 B1
  have r0 : World.cell? w1 ⟨w.heap.size, 0, none⟩ = some (.slice none 0 0) := R1.cell 0
  have g0 := R1.frozen 0
  have r1 : World.cell? w1 ⟨w.heap.size, 1, none⟩ = some (.slice none 0 0) := R1.cell 1
  have g1 := R1.frozen 1
  have r2 : World.cell? w1 ⟨w.heap.size, 2, none⟩ = some (.int .i64 0) := R1.cell 2
  have g2 := R1.frozen 2
  have r3 : World.cell? w1 ⟨w.heap.size, 3, none⟩ = some (.int .i64 0) := R1.cell 3
  have g3 := R1.frozen 3
  have r4 : World.cell? w1 ⟨w.heap.size, 4, none⟩ = some (.int .i64 0) := R1.cell 4
  have g4 := R1.frozen 4
  have PP : Hid (Ex.Own (w.heap.size + 1) w1.heap.size w1 ⟨A1, c1, v1, none, 0, [], 0, 0, 200⟩) := ⟨o1.wide (by omega) (Nat.le_refl _), Elem.LOwn.nil_ (Nat.zero_le _) (fun _ => rfl), fun k _ hk => by simp [Elem.lblks, Elem.lblk, Elem.blksL] at hk⟩
  clear o1 R1
  go_wp2_with fail
  refine bodyPost_ret (v := .agg #[.slice A1 v1.length c1, .slice none 0 0, .int .i64 0, .int .i64 0, .int .i64 200]) (by simp [results, Try.results10, go_sem, r0, r1, r2, r3, r4]) rfl ⟨⟨A1, c1, v1, none, 0, [], 0, 0, 200⟩, rfl, ?_, ?_, ?_⟩
  · show ((Bd.erL v1, _), _) = _
    rw [HE.out]; rfl
  · simp only [World.size_setCell]
    exact ((((((PP.out.far (by simp <;> omega) _).far (by simp <;> omega) _).far (by simp <;> omega) _).far (by simp <;> omega) _).far (by simp <;> omega) _).wide (by omega) (Nat.le_refl _))
  · exact (((((b1.setCell (by simp <;> omega) _).setCell (by simp <;> omega) _).setCell (by simp <;> omega) _).setCell (by simp <;> omega) _).setCell (by simp <;> omega) _)

set_option maxRecDepth 100000 in
set_option maxHeartbeats 4000000 in
theorem inewE_any (w : World) : Calls Try.prog 11 #[] w (RetEx newE w) := by
  obtain ⟨W1, hW1⟩ : ∃ W1, W1 = w.alloc (.cells #[.slice none 0 0, .slice none 0 0, .int .i64 0, .int .i64 0, .int .i64 0] 27) := ⟨_, rfl⟩
  have z1 : W1.heap.size = w.heap.size + 1 := by rw [hW1]; simp
  have B1 : Below w.heap.size w W1 := by rw [hW1]; exact (Below.refl _ _).alloc (Nat.le_refl _) _
  have R0 : D.Blk W1 w.heap.size 27 #[.slice none 0 0, .slice none 0 0, .int .i64 0, .int .i64 0, .int .i64 0] := by rw [hW1]; exact D.Blk.new _ _ _
  go_enter Try.func11, Try.ntmps11
  go_wp2_with fail
  rw [← hW1]
  clear hW1
  refine (implCore_any _).mono ?_
  rintro e w1 ⟨A1, c1, v1, rfl, he1, o1, hb1⟩
  have y1 := hb1.size
  have R1 := R0.below hb1 (by omega)
  have b1 := B1.trans (hb1.mono (by omega))
  have HE := Lib.hid he1
  clear he1 hb1 R0 B1
  have r0 : World.cell? w1 ⟨w.heap.size, 0, none⟩ = some (.slice none 0 0) := R1.cell 0
  have g0 := R1.frozen 0
  have r1 : World.cell? w1 ⟨w.heap.size, 1, none⟩ = some (.slice none 0 0) := R1.cell 1
  have g1 := R1.frozen 1
  have r2 : World.cell? w1 ⟨w.heap.size, 2, none⟩ = some (.int .i64 0) := R1.cell 2
  have g2 := R1.frozen 2
  have r3 : World.cell? w1 ⟨w.heap.size, 3, none⟩ = some (.int .i64 0) := R1.cell 3
  have g3 := R1.frozen 3
  have r4 : World.cell? w1 ⟨w.heap.size, 4, none⟩ = some (.int .i64 0) := R1.cell 4
  have g4 := R1.frozen 4
  have PP : Hid (Ex.Own (w.heap.size + 1) w1.heap.size w1 ⟨A1, c1, v1, none, 0, [], 0, 0, 200⟩) := ⟨o1.wide (by omega) (Nat.le_refl _), Elem.LOwn.nil_ (Nat.zero_le _) (fun _ => rfl), fun k _ hk => by simp [Elem.lblks, Elem.lblk, Elem.blksL] at hk⟩
  clear o1 R1
  go_wp2_with fail
  refine bodyPost_ret (v := .agg #[.slice A1 v1.length c1, .slice none 0 0, .int .i64 0, .int .i64 0, .int .i64 200]) (by simp [results, Try.results11, go_sem, r0, r1, r2, r3, r4]) rfl ⟨⟨A1, c1, v1, none, 0, [], 0, 0, 200⟩, rfl, ?_, ?_, ?_⟩
  · show ((Bd.erL v1, _), _) = _
    rw [HE.out]; rfl
  · simp only [World.size_setCell]
    exact ((((((PP.out.far (by simp <;> omega) _).far (by simp <;> omega) _).far (by simp <;> omega) _).far (by simp <;> omega) _).far (by simp <;> omega) _).wide (by omega) (Nat.le_refl _))
  · exact (((((b1.setCell (by simp <;> omega) _).setCell (by simp <;> omega) _).setCell (by simp <;> omega) _).setCell (by simp <;> omega) _).setCell (by simp <;> omega) _)

set_option maxHeartbeats 1000000 in
theorem markRu0_any (A : Option Addr) (c : Nat) (w : World) (q : Int) : Calls Try.prog 38 #[.slice A 0 c, .int .i64 q] w fun e w' => e = .returned (.int .i64 q) ∧ w' = w := by
  go_enter Try.func38, Try.ntmps38
  go_wp2_with fail
  go_loopw [1, 5] (fun v i wr => v = .int .i64 q ∧ i = .int .i64 0 ∧ wr = w) (fun _ _ _ => 0)
  case atStart => exact ⟨rfl, rfl, rfl⟩
  case round =>
    obtain ⟨rfl, rfl, rfl⟩ := hrel
    go_wp2_with fail
    go_ret
    exact ⟨rfl, rfl⟩
set_option maxHeartbeats 1000000 in
theorem heldRu0_any (A : Option Addr) (c : Nat) (w : World) (q : Int) : Calls Try.prog 40 #[.slice A 0 c, .int .i64 q] w fun e w' => e = .returned (.int .i64 q) ∧ w' = w := by
  go_enter Try.func40, Try.ntmps40
  go_wp2_with fail
  go_loopw [1, 5] (fun v i wr => v = .int .i64 q ∧ i = .int .i64 0 ∧ wr = w) (fun _ _ _ => 0)
  case atStart => exact ⟨rfl, rfl, rfl⟩
  case round =>
    obtain ⟨rfl, rfl, rfl⟩ := hrel
    go_wp2_with fail
    go_ret
    exact ⟨rfl, rfl⟩

set_option maxRecDepth 100000 in
set_option maxHeartbeats 2000000 in
theorem markEx0_any (A0 : Option Addr) (c0 : Nat) (l0 : List Bd) (A1 : Option Addr) (c1 : Nat) (s v t : Int) (lo hi : Nat) (w : World) (q : Int) (hbk : Bd.bulkL l0 ≤ 2000000) (hq0 : 0 ≤ q) (hq : q ≤ 1000000) (ho : Bd.E.LOwn lo hi w A0 c0 l0) (hhi : hi ≤ w.heap.size) :
    Calls Try.prog 13 #[.agg #[.slice A0 l0.length c0, .slice A1 0 c1, .int .i64 s, .int .i64 v, .int .i64 t], .int .i64 q] w fun e w' => e = .returned (.int .i64 (q + (Bd.wtL l0 : Nat))) ∧ ∃ w1, Below w.heap.size w w1 ∧ Bd.E.LOwn lo hi w' A0 c0 (Bd.markL l0 q) ∧ Chg (Bd.E.lblks A0 l0) w1 w' := by
  have hwt := Bd.wtL_le l0
  obtain ⟨W1, hW1⟩ : ∃ W1, W1 = w.alloc (.cells #[.slice A0 l0.length c0, .slice A1 0 c1, .int .i64 s, .int .i64 v, .int .i64 t] 27) := ⟨_, rfl⟩
  have z1 : W1.heap.size = w.heap.size + 1 := by rw [hW1]; simp
  have B1 : Below w.heap.size w W1 := by rw [hW1]; exact (Below.refl _ _).alloc (Nat.le_refl _) _
  have X0 : Ex.Box W1 w.heap.size (⟨A0, c0, l0, A1, c1, [], s, v, t⟩ : Ex) := by rw [hW1]; exact Ex.Box.new w (⟨A0, c0, l0, A1, c1, [], s, v, t⟩ : Ex) _
  have n0 : ¬ (q + ((Bd.wtL l0 : Nat) : Int) < 0) := by omega
  go_enter Try.func13, Try.ntmps13
  go_wp2_with fail
  rw [← hW1]
  clear hW1
  refine (markBdL_any A0 c0 l0 lo hi _ q hbk hq0 hq (ho.below (B1.mono hhi)) (by omega)).mono ?_
  rintro e w1 ⟨rfl, m1, hc1⟩
  have y1 := hc1.size
  have X1 := X0.keep (hc1.block _ (by omega) (fun hm => by have := ho.inn.blk_lt _ hm; omega))
  obtain ⟨a0, a1, a2, a3, a4⟩ := X1
  simp only [List.length_nil] at a1
  go_wp2_with fail
  refine (markRu0_any A1 c1 _ _).mono ?_
  rintro e w2 ⟨rfl, rfl⟩
  go_wp2_with fail
  go_ret
  exact ⟨rfl, W1, B1, m1, hc1⟩

set_option maxRecDepth 100000 in
set_option maxHeartbeats 2000000 in
theorem heldEx0_any (A0 : Option Addr) (c0 : Nat) (l0 : List Bd) (A1 : Option Addr) (c1 : Nat) (s v t : Int) (B : Nat) (w : World) (q : Int) (hbk : Bd.bulkL l0 ≤ 2000000) (hq0 : 0 ≤ q) (hq : q ≤ 1000000) (hin : Bd.E.LIn w B A0 c0 (Bd.markL l0 q)) (hB : B ≤ w.heap.size) :
    Calls Try.prog 14 #[.agg #[.slice A0 l0.length c0, .slice A1 0 c1, .int .i64 s, .int .i64 v, .int .i64 t], .int .i64 q] w fun e w' => e = .returned (.int .i64 (q + (Bd.wtL l0 : Nat))) ∧ Below w.heap.size w w' := by
  have hwt := Bd.wtL_le l0
  obtain ⟨W1, hW1⟩ : ∃ W1, W1 = w.alloc (.cells #[.slice A0 l0.length c0, .slice A1 0 c1, .int .i64 s, .int .i64 v, .int .i64 t] 27) := ⟨_, rfl⟩
  have z1 : W1.heap.size = w.heap.size + 1 := by rw [hW1]; simp
  have B1 : Below w.heap.size w W1 := by rw [hW1]; exact (Below.refl _ _).alloc (Nat.le_refl _) _
  have X0 : Ex.Box W1 w.heap.size (⟨A0, c0, l0, A1, c1, [], s, v, t⟩ : Ex) := by rw [hW1]; exact Ex.Box.new w (⟨A0, c0, l0, A1, c1, [], s, v, t⟩ : Ex) _
  have n0 : ¬ (q + ((Bd.wtL l0 : Nat) : Int) < 0) := by omega
  go_enter Try.func14, Try.ntmps14
  go_wp2_with fail
  rw [← hW1]
  clear hW1
  refine (heldBdL_any A0 c0 l0 B _ q hbk hq0 hq (hin.below (B1.mono hB)) (by omega)).mono ?_
  rintro e w1 ⟨rfl, hb1⟩
  have y1 := hb1.size
  have X1 := X0.below hb1 (by omega)
  obtain ⟨a0, a1, a2, a3, a4⟩ := X1
  simp only [List.length_nil] at a1
  go_wp2_with fail
  refine (heldRu0_any A1 c1 _ _).mono ?_
  rintro e w2 ⟨rfl, rfl⟩
  go_wp2_with fail
  go_ret
  exact ⟨rfl, B1.trans (hb1.mono (by omega))⟩

theorem new_parts {d : Ex} (h : d.er = newE) : ∃ A0 c0 l0 A1 c1, d = ⟨A0, c0, l0, A1, c1, [], 0, 0, 200⟩ ∧ Bd.erL l0 = coreL := by
  obtain ⟨A0, c0, l0, A1, c1, l1, s, v, t⟩ := d
  unfold Ex.er newE at h
  obtain ⟨h1, h2⟩ := Prod.mk.inj h
  obtain ⟨h3, h4⟩ := Prod.mk.inj h1
  obtain ⟨h5, h6⟩ := Prod.mk.inj h2
  obtain ⟨h7, h8⟩ := Prod.mk.inj h6
  simp only at h3 h4 h5 h7 h8
  have e : l1 = [] := by simpa [Ru.erR] using h4
  subst e h5 h7 h8
  exact ⟨A0, c0, l0, A1, c1, rfl, h3⟩
end Go.Proofs.Ytfbfmajjooannaa
