/-
  Data of syntax objects: the model's and the program's DatumOf.
-/
import Derived.Test.YtknplopghgchaaaDGrow
import Derived.Test.YtknplopghgchaaaSFits
namespace Go.Proofs.Ytknplopghgchaaa
open Go.RowKit

def datS (d : S) : D := if d.isS then datD d else .mk 0 0 ⟨#[]⟩ none 0 []
theorem datS_of_er {d e : S} (h : d.er = e.er) : datS d = datS e := by unfold datS; rw [S.isS_of_er h, datD_of_er h]

set_option maxRecDepth 100000 in
set_option maxHeartbeats 1000000 in
theorem implDatS_any (d : S) (B : Nat) (w : World) (hs : d.size ≤ 2000000) (hin : d.In w B) (hB : B ≤ w.heap.size) : Calls Try.prog 75 #[d.val] w (RetD (datS d) w) := by
  obtain ⟨k, n, t, sa, sc, s, A, c, l⟩ := d
  have hcap := hin.cap
  simp only [S.l, S.c, S.t] at hcap
  obtain ⟨W1, hW1⟩ : ∃ W1, W1 = w.alloc (.cells #[.int .i64 k, .int .i64 n, .string t, .slice sa s.length sc, .slice A l.length c] 63) := ⟨_, rfl⟩
  obtain ⟨W2, hW2⟩ : ∃ W2, W2 = W1.alloc (.cells #[.int .i64 0, .int .i64 0, .string ⟨#[]⟩, .slice none 0 0] 25) := ⟨_, rfl⟩
  have z1 : W1.heap.size = w.heap.size + 1 := by rw [hW1]; simp
  have z2 : W2.heap.size = w.heap.size + 1 + 1 := by rw [hW2]; simp [z1]
  have B1 : Below w.heap.size w W1 := by rw [hW1]; exact (Below.refl _ _).alloc (Nat.le_refl _) _
  have B2 : Below W1.heap.size W1 W2 := by rw [hW2]; exact (Below.refl _ _).alloc (Nat.le_refl _) _
  have x0 : S.Box W1 w.heap.size (.mk k n t sa sc s A c l) := by rw [hW1]; exact S.Box.new w (.mk k n t sa sc s A c l) _
  have r0 : D.Box W2 (w.heap.size + 1) (.mk 0 0 ⟨#[]⟩ none 0 []) := by rw [hW2, ← z1]; exact D.Box.new W1 (.mk 0 0 ⟨#[]⟩ none 0 []) _
  have rf : Free W2 (w.heap.size + 1) := by rw [hW2, ← z1]; exact Free.new _ _ _
  have x0 := x0.below B2 (by omega)
  have b3 : Below w.heap.size w W2 := B1.trans (B2.mono (by omega))
  have hi2 := hin.below (b3.mono hB)
  have K : Hid (datS (.mk k n t sa sc s A c l) = if (S.mk k n t sa sc s A c l).isS then datD (.mk k n t sa sc s A c l) else .mk 0 0 ⟨#[]⟩ none 0 []) := rfl
  simp only [S.val, S.k, S.n, S.t, S.sa, S.sc, S.s, S.A, S.l, S.c]
  go_enter Try.func75, Try.ntmps75
  go_wp2_with fail
  rw [← hW1, ← hW2]
  clear hW1 hW2 B1 B2
  refine (implIsS_any (.mk k n t sa sc s A c l) B _ hi2 (by omega)).mono ?_
  rintro e w1 ⟨rfl, hb1⟩
  have zz := hb1.size
  obtain ⟨p0, p1, p2, p3, p4⟩ := x0.below hb1 (by omega)
  obtain ⟨s0, s1, s2, s3⟩ := r0.below hb1 (by omega)
  have rf1 := rf.below hb1 (by omega)
  simp only [S.k, S.n, S.t, S.sa, S.sc, S.s, S.A, S.c] at p0 p1 p2 p3 p4
  have el : (S.mk k n t sa sc s A c l).l = l := rfl
  rw [el] at p4
  have bb := b3.trans (hb1.mono (by omega))
  have hi3 := hin.below (bb.mono hB)
  clear hb1 x0 b3 hi2 rf el
  cases hq : (S.mk k n t sa sc s A c l).isS
  · have Hq := Lib.hid hq
    clear hq
    have h0 := rf1.fr 0
    have h1 := rf1.fr 1
    have h2 := rf1.fr 2
    have h3 := rf1.fr 3
    go_wp2_with fail
    refine bodyPost_ret (v := .agg #[.int .i64 0, .int .i64 0, .string ⟨#[]⟩, .slice none 0 0]) (by simp [results, Try.results75, go_sem, s0, s1, s2, s3]) rfl ⟨.mk 0 0 ⟨#[]⟩ none 0 [], rfl, ?_, ?_, ?_⟩
    · rw [K.out, Hq.out]; rfl
    · exact D.Own.no_items (Nat.zero_le _) (Nat.zero_le _)
    · exact (((bb.setCell (by simp) _).setCell (by simp) _).setCell (by simp) _).setCell (by simp) _
  · have Hq := Lib.hid hq
    clear hq
    go_wp2_with fail
    refine (implDat_any 2000000 (.mk k n t sa sc s A c l) B _ hs (Nat.le_refl _) hi3 (by omega)).mono ?_
    rintro e w2 ⟨d, rfl, hde, hod, hb2⟩
    have zz2 := hb2.size
    obtain ⟨s0, s1, s2, s3⟩ := (⟨s0, s1, s2, s3⟩ : D.Box w1 (w.heap.size + 1) (.mk 0 0 ⟨#[]⟩ none 0 [])).below hb2 (by omega)
    have rf2 := rf1.below hb2 (by omega)
    have h0 := rf2.fr 0
    have h1 := rf2.fr 1
    have h2 := rf2.fr 2
    have h3 := rf2.fr 3
    have bb2 := bb.trans (hb2.mono (by omega))
    have Hde := Lib.hid hde
    clear hde hb2
    simp only [D.val]
    go_wp2_with fail
    refine bodyPost_ret (v := .agg #[.int .i64 d.k, .int .i64 d.n, .string d.t, .slice d.A d.l.length d.c]) (by simp [results, Try.results75, go_sem, s0, s1, s2, s3]) rfl ⟨d, rfl, ?_, ?_, ?_⟩
    · rw [K.out, Hq.out, Hde.out]; rfl
    · have hown := hod.wide (lo' := w.heap.size + 1 + 1) (by omega) (Nat.le_refl _)
      simp only [World.size_setCell]
      exact ((((hown.far (by simp) _).far (by simp) _).far (by simp) _).far (by simp) _).wide (by omega) (Nat.le_refl _)
    · exact (((bb2.setCell (by simp) _).setCell (by simp) _).setCell (by simp) _).setCell (by simp) _

set_option maxRecDepth 100000 in
set_option maxHeartbeats 1000000 in
theorem specDatS_any (d : S) (B : Nat) (w : World) (hs : d.size ≤ 2000000) (hin : d.In w B) (hB : B ≤ w.heap.size) : Calls Try.prog 74 #[d.val] w (RetD (datS d) w) := by
  obtain ⟨k, n, t, sa, sc, s, A, c, l⟩ := d
  have hcap := hin.cap
  simp only [S.l, S.c, S.t] at hcap
  obtain ⟨W1, hW1⟩ : ∃ W1, W1 = w.alloc (.cells #[.int .i64 k, .int .i64 n, .string t, .slice sa s.length sc, .slice A l.length c] 63) := ⟨_, rfl⟩
  obtain ⟨W2, hW2⟩ : ∃ W2, W2 = W1.alloc (.cells #[.int .i64 0, .int .i64 0, .string ⟨#[]⟩, .slice none 0 0] 25) := ⟨_, rfl⟩
  have z1 : W1.heap.size = w.heap.size + 1 := by rw [hW1]; simp
  have z2 : W2.heap.size = w.heap.size + 1 + 1 := by rw [hW2]; simp [z1]
  have B1 : Below w.heap.size w W1 := by rw [hW1]; exact (Below.refl _ _).alloc (Nat.le_refl _) _
  have B2 : Below W1.heap.size W1 W2 := by rw [hW2]; exact (Below.refl _ _).alloc (Nat.le_refl _) _
  have x0 : S.Box W1 w.heap.size (.mk k n t sa sc s A c l) := by rw [hW1]; exact S.Box.new w (.mk k n t sa sc s A c l) _
  have r0 : D.Box W2 (w.heap.size + 1) (.mk 0 0 ⟨#[]⟩ none 0 []) := by rw [hW2, ← z1]; exact D.Box.new W1 (.mk 0 0 ⟨#[]⟩ none 0 []) _
  have rf : Free W2 (w.heap.size + 1) := by rw [hW2, ← z1]; exact Free.new _ _ _
  have x0 := x0.below B2 (by omega)
  have b3 : Below w.heap.size w W2 := B1.trans (B2.mono (by omega))
  have hi2 := hin.below (b3.mono hB)
  have K : Hid (datS (.mk k n t sa sc s A c l) = if (S.mk k n t sa sc s A c l).isS then datD (.mk k n t sa sc s A c l) else .mk 0 0 ⟨#[]⟩ none 0 []) := rfl
  simp only [S.val, S.k, S.n, S.t, S.sa, S.sc, S.s, S.A, S.l, S.c]
  go_enter Try.func74, Try.ntmps74
  go_wp2_with fail
  rw [← hW1, ← hW2]
  clear hW1 hW2 B1 B2
  refine (specIsS_any (.mk k n t sa sc s A c l) B _ hi2 (by omega) hs).mono ?_
  rintro e w1 ⟨rfl, hb1⟩
  have zz := hb1.size
  obtain ⟨p0, p1, p2, p3, p4⟩ := x0.below hb1 (by omega)
  obtain ⟨s0, s1, s2, s3⟩ := r0.below hb1 (by omega)
  have rf1 := rf.below hb1 (by omega)
  simp only [S.k, S.n, S.t, S.sa, S.sc, S.s, S.A, S.c] at p0 p1 p2 p3 p4
  have el : (S.mk k n t sa sc s A c l).l = l := rfl
  rw [el] at p4
  have bb := b3.trans (hb1.mono (by omega))
  have hi3 := hin.below (bb.mono hB)
  clear hb1 x0 b3 hi2 rf el
  cases hq : (S.mk k n t sa sc s A c l).isS
  · have Hq := Lib.hid hq
    clear hq
    have h0 := rf1.fr 0
    have h1 := rf1.fr 1
    have h2 := rf1.fr 2
    have h3 := rf1.fr 3
    go_wp2_with fail
    refine bodyPost_ret (v := .agg #[.int .i64 0, .int .i64 0, .string ⟨#[]⟩, .slice none 0 0]) (by simp [results, Try.results74, go_sem, s0, s1, s2, s3]) rfl ⟨.mk 0 0 ⟨#[]⟩ none 0 [], rfl, ?_, ?_, ?_⟩
    · rw [K.out, Hq.out]; rfl
    · exact D.Own.no_items (Nat.zero_le _) (Nat.zero_le _)
    · exact (((bb.setCell (by simp) _).setCell (by simp) _).setCell (by simp) _).setCell (by simp) _
  · have Hq := Lib.hid hq
    clear hq
    go_wp2_with fail
    refine (specDat_any 2000000 (.mk k n t sa sc s A c l) B _ hs (Nat.le_refl _) hi3 (by omega)).mono ?_
    rintro e w2 ⟨d, rfl, hde, hod, hb2⟩
    have zz2 := hb2.size
    obtain ⟨s0, s1, s2, s3⟩ := (⟨s0, s1, s2, s3⟩ : D.Box w1 (w.heap.size + 1) (.mk 0 0 ⟨#[]⟩ none 0 [])).below hb2 (by omega)
    have rf2 := rf1.below hb2 (by omega)
    have h0 := rf2.fr 0
    have h1 := rf2.fr 1
    have h2 := rf2.fr 2
    have h3 := rf2.fr 3
    have bb2 := bb.trans (hb2.mono (by omega))
    have Hde := Lib.hid hde
    clear hde hb2
    simp only [D.val]
    go_wp2_with fail
    refine bodyPost_ret (v := .agg #[.int .i64 d.k, .int .i64 d.n, .string d.t, .slice d.A d.l.length d.c]) (by simp [results, Try.results74, go_sem, s0, s1, s2, s3]) rfl ⟨d, rfl, ?_, ?_, ?_⟩
    · rw [K.out, Hq.out, Hde.out]; rfl
    · have hown := hod.wide (lo' := w.heap.size + 1 + 1) (by omega) (Nat.le_refl _)
      simp only [World.size_setCell]
      exact ((((hown.far (by simp) _).far (by simp) _).far (by simp) _).far (by simp) _).wide (by omega) (Nat.le_refl _)
    · exact (((bb2.setCell (by simp) _).setCell (by simp) _).setCell (by simp) _).setCell (by simp) _
end Go.Proofs.Ytknplopghgchaaa
