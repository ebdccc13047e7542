/-
  FreeVariables: both functions (written by gen/kofree.py).
-/
import Derived.Test.YtbeikpbnidbjfaaKoG
import Derived.Laws.EntriesVeiled
namespace Go.Proofs.Ytbeikpbnidbjfaa
open Go.RowKit Go.Maps Go.WideMaps Go.ChangeMaps

set_option maxRecDepth 100000 in
set_option maxHeartbeats 2000000 in
theorem implFre_any (d : Tr Ko) (B : Nat) (w : World) (hin : Ko.E.In w B d) (hB : B ≤ w.heap.size) (hb : d.bulk Ko.bulk ≤ 1500000) : Calls Try.prog 24 #[Ko.val d] w (RetI (d.free [] []) w) := by
  obtain ⟨W, hW⟩ : ∃ W, W = w.alloc (.cells #[.int .i64 d.a.k, .int .i64 d.a.n, .slice d.a.sA d.a.s.length d.a.sC, .int .i64 d.a.d.k, .int .i64 d.a.d.n, .string d.a.d.t, .slice d.a.d.A d.a.d.l.length d.a.d.c, .slice d.A d.l.length d.c] 36) := ⟨_, rfl⟩
  have zW : W.heap.size = w.heap.size + 1 := by rw [hW]; simp
  have b1 : Below w.heap.size w W := by rw [hW]; exact (Below.refl _ _).alloc (Nat.le_refl _) _
  have X0 : Ko.Box W w.heap.size d := by rw [hW]; exact Ko.Box.new _ _ _
  have hmf : ∀ (fn : Fn) (first cap : Array Value) (w : World), (Instr.makeFunc fn first cap).run Try.prog w = .ok (.func fn first cap) w := fun _ _ _ _ => rfl
  have hmm := @run_makeMap Try.prog
  unfold Ko.val
  have X0q := X0
  obtain ⟨a0, a1, a2, a3, a4, a5, a6, a7⟩ := X0q
  go_enter Try.func24, Try.ntmps24
  go_wp2_with fail
  rw [← hW]
  clear hW a0 a1 a2 a3 a4 a5 a6 a7
  refine (nlNew_any W).mono ?_
  rintro e w1 ⟨rfl, z1, hb1', hNL⟩
  obtain ⟨W2, hW2⟩ : ∃ W2, W2 = w1.alloc (.cells #[.pointer (some ⟨W.heap.size + 1, 0, none⟩)] 84) := ⟨_, rfl⟩
  obtain ⟨W3, hW3⟩ : ∃ W3, W3 = W2.alloc (.map #[] 0) := ⟨_, rfl⟩
  obtain ⟨W4, hW4⟩ : ∃ W4, W4 = W3.alloc (.cells #[.map (some (w1.heap.size + 1))] 86) := ⟨_, rfl⟩
  obtain ⟨W5, hW5⟩ : ∃ W5, W5 = W4.alloc (.cells #[.nilFunc] 87) := ⟨_, rfl⟩
  obtain ⟨W6, hW6⟩ : ∃ W6, W6 = W5.setCell ⟨w1.heap.size + 1 + 1 + 1, 0, none⟩ (.func (.func 71) #[] #[.pointer (some ⟨w1.heap.size + 1 + 1, 0, none⟩), .pointer (some ⟨w1.heap.size, 0, none⟩), .pointer (some ⟨w1.heap.size + 1 + 1 + 1, 0, none⟩)]) := ⟨_, rfl⟩
  have z2 : W2.heap.size = w1.heap.size + 1 := by rw [hW2]; simp
  have z3 : W3.heap.size = w1.heap.size + 1 + 1 := by rw [hW3]; simp [z2]
  have z4 : W4.heap.size = w1.heap.size + 1 + 1 + 1 := by rw [hW4]; simp [z3]
  have z5 : W5.heap.size = w1.heap.size + 1 + 1 + 1 + 1 := by rw [hW5]; simp [z4]
  have z6 : W6.heap.size = w1.heap.size + 1 + 1 + 1 + 1 := by rw [hW6]; simp [z5]
  have B2 : Below w1.heap.size w1 W2 := by rw [hW2]; exact (Below.refl _ _).alloc (Nat.le_refl _) _
  have B3 : Below W2.heap.size W2 W3 := by rw [hW3]; exact (Below.refl _ _).alloc (Nat.le_refl _) _
  have B4 : Below W3.heap.size W3 W4 := by rw [hW4]; exact (Below.refl _ _).alloc (Nat.le_refl _) _
  have B5 : Below W4.heap.size W4 W6 := by rw [hW6]; exact ((by rw [hW5]; exact (Below.refl _ _).alloc (Nat.le_refl _) _ : Below W4.heap.size W4 W5)).setCell (by simp; omega) _
  have hc2 : CellN w1.heap.size (.pointer (some ⟨W.heap.size + 1, 0, none⟩)) W2 := by rw [hW2]; exact CellN.new _ _ _
  have hm3 : IMap W3 (.int .i64 0) (w1.heap.size + 1) 0 (fun k => .int .i64 (cntF [] k)) := by
    have h := IMap.new W2 (.int .i64 0)
    rw [← hW3, z2] at h
    exact h
  have hc4 : CellN (w1.heap.size + 1 + 1) (.map (some (w1.heap.size + 1))) W4 := by rw [hW4, ← z3]; exact CellN.new _ _ _
  have hc5 : CellN (w1.heap.size + 1 + 1 + 1) .nilFunc W5 := by rw [hW5, ← z4]; exact CellN.new _ _ _
  have hc6 : CellN (w1.heap.size + 1 + 1 + 1) (.func (.func 71) #[] #[.pointer (some ⟨w1.heap.size + 1 + 1, 0, none⟩), .pointer (some ⟨w1.heap.size, 0, none⟩), .pointer (some ⟨w1.heap.size + 1 + 1 + 1, 0, none⟩)]) W6 := by rw [hW6]; exact hc5.put _
  have kb : ∀ {a b : World}, Below a.heap.size a b → ∀ k, k < a.heap.size → b.heap[k]? = a.heap[k]? := fun h => h.block
  have B35 : Below W3.heap.size W3 W6 := B4.trans (B5.mono (by omega))
  have B25 : Below W2.heap.size W2 W6 := B3.trans (B35.mono (by omega))
  have B15 : Below w1.heap.size w1 W6 := B2.trans (B25.mono (by omega))
  have b25 : Below w.heap.size w W6 := (b1.trans (hb1'.mono (by omega))).trans (B15.mono (by omega))
  have hNl : NL (W.heap.size + 1) W.heap.size (w1.heap.size + 1 + 1 + 1 + 1) (.slice none 0 0) [] W6 := by
    have h := hNL (w1.heap.size + 1 + 1 + 1 + 1) (by omega)
    exact h.keep (by omega) fun k hk => kb B15 k (by
      rcases hk with rfl | rfl | hk
      · omega
      · omega
      · simp [Value.ownBlock] at hk)
  have hFS : FS (w1.heap.size + 1 + 1) w1.heap.size (w1.heap.size + 1 + 1 + 1) (W.heap.size + 1) W.heap.size (w1.heap.size + 1) w.heap.size (w1.heap.size + 1 + 1 + 1 + 1) (.slice none 0 0) [] 100000000 (cntF []) W6 :=
    ⟨⟨hNl, hc2.keep (by omega) (kb B25 _ hc2.lt), by omega, by omega, by omega, by omega, by omega, by omega, by omega⟩, hc4.keep (by omega) (kb B5 _ hc4.lt), hc6,
      ⟨0, by omega, hm3.keep (kb B35 _ hm3.lt)⟩, ⟨by omega, by omega, by omega⟩, ⟨by omega, by omega, by omega⟩, ⟨by omega, by omega, by omega, by omega, by omega, by omega, by omega, by omega, by omega⟩⟩
  have hin5 : Ko.E.In W6 w.heap.size d := Elem.In.below (Elem.In.more hin hB) b25
  have X6 : Ko.Box W6 w.heap.size d := Ko.Box.below (Ko.Box.below X0 hb1' (by omega)) B15 (by omega)
  have HFS := Lib.hid hFS
  have HI := Lib.hid hin5
  have HB5 := Lib.hid b25
  have HZ6 := Lib.hid z6
  have HZ1 := Lib.hid z1
  have HZW := Lib.hid zW
  have p5 := hc5.cell
  have f5 := hc5.fr
  have p6 := hc6.cell
  clear hNL hNl hc2 hm3 hc4 hc5 hc6 B2 B3 B4 B5 B35 B25 B15 kb hFS hin5 b25 X0 hb1' b1 z1 z2 z3 z4 z5 z6 zW
  go_upto_region 4 with fail
  rw [← hW2, ← hW3, ← hW4, ← hW5]
  clear hW2 hW3 hW4 hW5
  go_upto_region 5 with fail
  rw [← hW6]
  clear hW6 p5 f5
  obtain ⟨a0, a1, a2, a3, a4, a5, a6, a7⟩ := X6
  go_wp2_with fail
  clear a0 a1 a2 a3 a4 a5 a6 a7 p6
  refine (vis_any _ d (w1.heap.size + 1 + 1) w1.heap.size (w1.heap.size + 1 + 1 + 1) (W.heap.size + 1) W.heap.size (w1.heap.size + 1) w.heap.size (w1.heap.size + 1 + 1 + 1 + 1) [] [] (.slice none 0 0) 100000000 W6 (Nat.le_refl _) HI.out HFS.out (by omega) (by simp; omega) (by simp; omega)).mono ?_
  rintro e w3 ⟨rfl, v', hF3, hG⟩
  have hb3 : Below w.heap.size W6 w3 := HFS.out.below hG
  have z3 := hb3.size
  have q0 := hF3.ns.cell.cell
  have q1 := hF3.ns.nl.c0
  obtain ⟨A', c', rfl, ho⟩ := own_of_row hG.1
  have hz1 := HZ1.out
  have hzW := HZW.out
  have HO := Lib.hid (ho.wide (lo' := w.heap.size) (by omega) (Nat.le_refl _))
  have HB := Lib.hid (HB5.out.trans hb3)
  clear hG ho hF3 hb3 hz1 hzW
  go_wp2_with fail
  go_ret
  exact ⟨A', c', rfl, HO.out, HB.out⟩

set_option maxRecDepth 100000 in
set_option maxHeartbeats 2000000 in
theorem specFreV_any (d : Tr Ko) (B : Nat) (w : World) (hin : Ko.E.In w B d) (hB : B ≤ w.heap.size) (hb : d.bulk Ko.bulk ≤ 1500000) : Calls Try.prog 23 #[Ko.val d] w (RetI (d.free [] []) w) := by
  obtain ⟨W, hW⟩ : ∃ W, W = w.alloc (.cells #[.int .i64 d.a.k, .int .i64 d.a.n, .slice d.a.sA d.a.s.length d.a.sC, .int .i64 d.a.d.k, .int .i64 d.a.d.n, .string d.a.d.t, .slice d.a.d.A d.a.d.l.length d.a.d.c, .slice d.A d.l.length d.c] 36) := ⟨_, rfl⟩
  obtain ⟨W2, hW2⟩ : ∃ W2, W2 = W.alloc (.cells #[] 3) := ⟨_, rfl⟩
  have zW : W.heap.size = w.heap.size + 1 := by rw [hW]; simp
  have zW2 : W2.heap.size = w.heap.size + 2 := by rw [hW2]; simp [zW]
  have b1 : Below w.heap.size w W := by rw [hW]; exact (Below.refl _ _).alloc (Nat.le_refl _) _
  have b2 : Below w.heap.size w W2 := by rw [hW2]; exact b1.alloc (by omega) _
  have hin2 : Ko.E.In W2 w.heap.size d := Elem.In.below (Elem.In.more hin hB) b2
  have X0 : Ko.Box W w.heap.size d := by rw [hW]; exact Ko.Box.new _ _ _
  have r0 : W2.ownsRow (w.heap.size + 1) 3 1 (.slice (some ⟨w.heap.size + 1, 0, none⟩) 0 0) ([] : List Int).length (([] : List Int).map (Value.int .i64)) := by
    rw [hW2, ← zW]; exact World.ownsRow_made W #[] 0 (Nat.le_refl _) (by unfold maxLen; omega) (by simp)
  unfold Ko.val
  obtain ⟨a0, a1, a2, a3, a4, a5, a6, a7⟩ := X0
  go_enter Try.func23, Try.ntmps23
  go_wp2_with fail
  rw [← hW, ← hW2]
  clear hW hW2 a0 a1 a2 a3 a4 a5 a6 a7
  refine (specFre_any _ d w.heap.size (w.heap.size + 1) none 0 [] [] _ W2 (Nat.le_refl _) hin2 (by omega) (by omega) r0 (by simp; omega) (IIn.nil_ (by omega) (fun _ => rfl)) (by simp; omega) (by simp [iblk])).mono ?_
  rintro e w1 ⟨v', rfl, hG⟩
  have hb3 : Below w.heap.size W2 w1 := hG.below (by simp) (fun g hg => by simp [Value.ownBlock] at hg; omega) (by omega)
  obtain ⟨A', c', rfl, ho⟩ := own_of_row hG.1
  have HO := Lib.hid (ho.wide (lo' := w.heap.size) (by omega) (Nat.le_refl _))
  have HB := Lib.hid (b2.trans hb3)
  clear hG ho hb3
  go_wp2_with fail
  go_ret
  exact ⟨A', c', rfl, HO.out, HB.out⟩
theorem Ko.freeV_len (d : Tr Ko) : (d.free [] []).length ≤ 1 + d.bulk Ko.bulk := by
  have h := Tr.free_len d [] []
  simp only [List.length_nil] at h
  omega
end Go.Proofs.Ytbeikpbnidbjfaa
