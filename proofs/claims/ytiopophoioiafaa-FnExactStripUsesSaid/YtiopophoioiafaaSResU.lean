/-
  The program's StripUses.
-/
import Derived.Test.YtiopophoioiafaaSResC
import Derived.Test.YtiopophoioiafaaSMapU
namespace Go.Proofs.Ytiopophoioiafaa
open Go.RowKit

set_option maxRecDepth 100000 in
set_option maxHeartbeats 1000000 in
theorem resv_anyU (bc : Nat) (f : List Int → List Int) (B0 : Nat) (w0 : World) (hF : FOkU bc f B0 w0) (d : S) (B : Nat) (w : World) (hs : d.size ≤ 2000000) (hbk : d.bulk ≤ 2000000) (hin : d.In w B) (hB : B ≤ w.heap.size) (hq0 : Below B0 w0 w) (hB0 : B0 ≤ w.heap.size) :
    Calls Try.prog 113 #[d.val, .func (.func 121) #[] #[]] w (RetS (S.resS f d) w) := by
  obtain ⟨k, n, t, sa, sc, s, A, c, l⟩ := d
  obtain ⟨W1, hW1⟩ : ∃ W1, W1 = w.alloc (.cells #[.int .i64 k, .int .i64 n, .string t, .slice sa s.length sc, .slice A l.length c] 52) := ⟨_, rfl⟩
  obtain ⟨W2, hW2⟩ : ∃ W2, W2 = W1.alloc (.cells #[.int .i64 0, .int .i64 0, .string ⟨#[]⟩, .slice none 0 0, .slice none 0 0] 52) := ⟨_, rfl⟩
  have z1 : W1.heap.size = w.heap.size + 1 := by rw [hW1]; simp
  have B1 : Below w.heap.size w W1 := by rw [hW1]; exact (Below.refl _ _).alloc (Nat.le_refl _) _
  have z2 : W2.heap.size = w.heap.size + 1 + 1 := by rw [hW2]; simp [z1]
  have B2 : Below W1.heap.size W1 W2 := by rw [hW2]; exact (Below.refl _ _).alloc (Nat.le_refl _) _
  have x0 : S.Box W1 w.heap.size (.mk k n t sa sc s A c l) := by rw [hW1]; exact S.Box.new w (.mk k n t sa sc s A c l) _
  have x0 := x0.below B2 (by omega)
  have r0 : S.Box W2 (w.heap.size + 1) (.mk 0 0 ⟨#[]⟩ none 0 [] none 0 []) := by rw [hW2, ← z1]; exact S.Box.new W1 (.mk 0 0 ⟨#[]⟩ none 0 [] none 0 []) _
  have rf : Free W2 (w.heap.size + 1) := by rw [hW2, ← z1]; exact Free.new _ _ _
  have b3 : Below w.heap.size w W2 := (B1.trans (B2.mono (by omega)))
  have hi2 := hin.below (b3.mono hB)
  obtain ⟨p0, p1, p2, p3, p4⟩ := x0
  simp only [S.k, S.n, S.t, S.sa, S.sc, S.s, S.A, S.c] at p0 p1 p2 p3 p4
  have el : (S.mk k n t sa sc s A c l).l = l := rfl
  rw [el] at p4
  have K : Hid (S.resS f (.mk k n t sa sc s A c l) = if S.isS (.mk k n t sa sc s A c l) then S.mapS f (.mk k n t sa sc s A c l) else S.er (.mk k n t sa sc s A c l)) := rfl
  have h02 := hq0.trans (b3.mono hB0)
  simp only [S.val, S.k, S.n, S.t, S.sa, S.sc, S.s, S.A, S.l, S.c]
  go_enter Try.func113, Try.ntmps113
  go_wp2_with fail
  rw [← hW1, ← hW2]
  clear hW1 hW2 B1 B2
  refine (implIsS_any (.mk k n t sa sc s A c l) B _ hi2 (by omega)).mono ?_
  rintro e w1 ⟨rfl, hb1⟩
  have zz := hb1.size
  have wlt : w.heap.size < W2.heap.size := by omega
  have p0 := (hb1.cell (p := ⟨w.heap.size, 0, none⟩) wlt).trans p0
  have p1 := (hb1.cell (p := ⟨w.heap.size, 1, none⟩) wlt).trans p1
  have p2 := (hb1.cell (p := ⟨w.heap.size, 2, none⟩) wlt).trans p2
  have p3 := (hb1.cell (p := ⟨w.heap.size, 3, none⟩) wlt).trans p3
  have p4 := (hb1.cell (p := ⟨w.heap.size, 4, none⟩) wlt).trans p4
  have r1 := r0.below hb1 (by omega)
  have rf1 := rf.below hb1 (by omega)
  have bb := b3.trans (hb1.mono (by omega))
  have hi3 := hin.below (bb.mono hB)
  have h03 := hq0.trans (bb.mono hB0)
  clear hb1 hi2 h02 r0 rf b3
  cases hq : S.isS (.mk k n t sa sc s A c l)
  · have Hq := Lib.hid hq
    clear hq
    go_wp2_with fail
    refine (copySyn_any (.mk k n t sa sc s A c l) B _ hs hbk hi3 (by omega)).mono ?_
    rintro e w2 ⟨d, rfl, hde, hod, hb2⟩
    have zz2 := hb2.size
    obtain ⟨s0, s1, s2, s3, s4⟩ := r1.below hb2 (by omega)
    have rf2 := rf1.below hb2 (by omega)
    have h0 := rf2.fr 0
    have h1 := rf2.fr 1
    have h2 := rf2.fr 2
    have h3 := rf2.fr 3
    have h4 := rf2.fr 4
    have bb2 := bb.trans (hb2.mono (by omega))
    have Hde := Lib.hid hde
    clear hde hb2
    simp only [S.val]
    go_wp2_with fail
    refine bodyPost_ret (v := .agg #[.int .i64 d.k, .int .i64 d.n, .string d.t, .slice d.sa d.s.length d.sc, .slice d.A d.l.length d.c]) (by simp [results, Try.results113, go_sem, s0, s1, s2, s3, s4]) rfl ⟨d, rfl, ?_, ?_, ?_⟩
    · rw [K.out, Hq.out, Hde.out]; rfl
    · have hown := hod.wide (lo' := w.heap.size + 1 + 1) (by omega) (Nat.le_refl _)
      simp only [World.size_setCell]
      exact (((((hown.far (by simp <;> omega) _).far (by simp <;> omega) _).far (by simp <;> omega) _).far (by simp <;> omega) _).far (by simp <;> omega) _).wide (by omega) (Nat.le_refl _)
    · exact ((((bb2.setCell (by simp <;> omega) _).setCell (by simp <;> omega) _).setCell (by simp <;> omega) _).setCell (by simp <;> omega) _).setCell (by simp <;> omega) _
  · have Hq := Lib.hid hq
    clear hq
    go_wp2_with fail
    refine (resc_anyU bc f B0 w0 hF 2000000 (.mk k n t sa sc s A c l) B _ hs (Nat.le_refl _) hbk hi3 (by omega) h03 (by omega)).mono ?_
    rintro e w2 ⟨d, rfl, hde, hod, hb2⟩
    have zz2 := hb2.size
    obtain ⟨s0, s1, s2, s3, s4⟩ := r1.below hb2 (by omega)
    have rf2 := rf1.below hb2 (by omega)
    have h0 := rf2.fr 0
    have h1 := rf2.fr 1
    have h2 := rf2.fr 2
    have h3 := rf2.fr 3
    have h4 := rf2.fr 4
    have bb2 := bb.trans (hb2.mono (by omega))
    have Hde := Lib.hid hde
    clear hde hb2
    simp only [S.val]
    go_wp2_with fail
    refine bodyPost_ret (v := .agg #[.int .i64 d.k, .int .i64 d.n, .string d.t, .slice d.sa d.s.length d.sc, .slice d.A d.l.length d.c]) (by simp [results, Try.results113, go_sem, s0, s1, s2, s3, s4]) rfl ⟨d, rfl, ?_, ?_, ?_⟩
    · rw [K.out, Hq.out, Hde.out]; rfl
    · have hown := hod.wide (lo' := w.heap.size + 1 + 1) (by omega) (Nat.le_refl _)
      simp only [World.size_setCell]
      exact (((((hown.far (by simp <;> omega) _).far (by simp <;> omega) _).far (by simp <;> omega) _).far (by simp <;> omega) _).far (by simp <;> omega) _).wide (by omega) (Nat.le_refl _)
    · exact ((((bb2.setCell (by simp <;> omega) _).setCell (by simp <;> omega) _).setCell (by simp <;> omega) _).setCell (by simp <;> omega) _).setCell (by simp <;> omega) _

set_option maxRecDepth 100000 in
set_option maxHeartbeats 1000000 in
theorem implStrip_any (d : S) (B : Nat) (w : World) (hs : d.size ≤ 2000000) (hbk : d.bulk ≤ 2000000) (hin : d.In w B) (hB : B ≤ w.heap.size) : Calls Try.prog 48 #[d.val] w (RetS (S.resS dropL d) w) := by
  obtain ⟨k, n, t, sa, sc, s, A, c, l⟩ := d
  obtain ⟨W1, hW1⟩ : ∃ W1, W1 = w.alloc (.cells #[.int .i64 k, .int .i64 n, .string t, .slice sa s.length sc, .slice A l.length c] 52) := ⟨_, rfl⟩
  obtain ⟨W2, hW2⟩ : ∃ W2, W2 = W1.alloc (.cells #[.int .i64 0, .int .i64 0, .string ⟨#[]⟩, .slice none 0 0, .slice none 0 0] 52) := ⟨_, rfl⟩
  have z1 : W1.heap.size = w.heap.size + 1 := by rw [hW1]; simp
  have B1 : Below w.heap.size w W1 := by rw [hW1]; exact (Below.refl _ _).alloc (Nat.le_refl _) _
  have z2 : W2.heap.size = w.heap.size + 1 + 1 := by rw [hW2]; simp [z1]
  have B2 : Below W1.heap.size W1 W2 := by rw [hW2]; exact (Below.refl _ _).alloc (Nat.le_refl _) _
  have x0 : S.Box W1 w.heap.size (.mk k n t sa sc s A c l) := by rw [hW1]; exact S.Box.new w (.mk k n t sa sc s A c l) _
  have x0 := x0.below B2 (by omega)
  have r0 : S.Box W2 (w.heap.size + 1) (.mk 0 0 ⟨#[]⟩ none 0 [] none 0 []) := by rw [hW2, ← z1]; exact S.Box.new W1 (.mk 0 0 ⟨#[]⟩ none 0 [] none 0 []) _
  have rf : Free W2 (w.heap.size + 1) := by rw [hW2, ← z1]; exact Free.new _ _ _
  have b3 : Below w.heap.size w W2 := (B1.trans (B2.mono (by omega)))
  have hi2 := hin.below (b3.mono hB)
  obtain ⟨p0, p1, p2, p3, p4⟩ := x0
  simp only [S.k, S.n, S.t, S.sa, S.sc, S.s, S.A, S.c] at p0 p1 p2 p3 p4
  have el : (S.mk k n t sa sc s A c l).l = l := rfl
  rw [el] at p4
  simp only [S.val, S.k, S.n, S.t, S.sa, S.sc, S.s, S.A, S.l, S.c]
  go_enter Try.func48, Try.ntmps48
  go_wp2_with fail
  rw [← hW1, ← hW2]
  clear hW1 hW2 B1 B2
  refine (resv_anyU 0 dropL W2.heap.size W2 (fun A c s B w _ _ hl hi hB => implDrop_any A c s B w hl hi hB) (.mk k n t sa sc s A c l) B _ hs hbk hi2 (by omega) (Below.refl _ _) (Nat.le_refl _)).mono ?_
  rintro e w2 ⟨d, rfl, hde, hod, hb2⟩
  have zz2 := hb2.size
  obtain ⟨s0, s1, s2, s3, s4⟩ := r0.below hb2 (by omega)
  have rf2 := rf.below hb2 (by omega)
  have h0 := rf2.fr 0
  have h1 := rf2.fr 1
  have h2 := rf2.fr 2
  have h3 := rf2.fr 3
  have h4 := rf2.fr 4
  have bb2 := b3.trans (hb2.mono (by omega))
  have Hde := Lib.hid hde
  clear hde hb2
  simp only [S.val]
  go_wp2_with fail
  refine bodyPost_ret (v := .agg #[.int .i64 d.k, .int .i64 d.n, .string d.t, .slice d.sa d.s.length d.sc, .slice d.A d.l.length d.c]) (by simp [results, Try.results48, go_sem, s0, s1, s2, s3, s4]) rfl ⟨d, rfl, ?_, ?_, ?_⟩
  · exact Hde.out
  · have hown := hod.wide (lo' := w.heap.size + 1 + 1) (by omega) (Nat.le_refl _)
    simp only [World.size_setCell]
    exact (((((hown.far (by simp <;> omega) _).far (by simp <;> omega) _).far (by simp <;> omega) _).far (by simp <;> omega) _).far (by simp <;> omega) _).wide (by omega) (Nat.le_refl _)
  · exact ((((bb2.setCell (by simp <;> omega) _).setCell (by simp <;> omega) _).setCell (by simp <;> omega) _).setCell (by simp <;> omega) _).setCell (by simp <;> omega) _
end Go.Proofs.Ytiopophoioiafaa
