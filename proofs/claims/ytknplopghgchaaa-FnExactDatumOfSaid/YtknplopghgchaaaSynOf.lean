/-
  Syntax objects of data: the model's and the program's SyntaxOf.
-/
import Derived.Test.YtknplopghgchaaaSGrow
import Derived.Test.YtknplopghgchaaaIsD
namespace Go.Proofs.Ytknplopghgchaaa
open Go.RowKit

def zeroS : S := .mk 0 0 ⟨#[]⟩ none 0 [] none 0 []
def synD (d : D) : S := if d.isD then ofD d else zeroS
theorem synD_of_er {d e : D} (h : d.er = e.er) : synD d = synD e := by unfold synD; rw [D.isD_of_er h, ofD_of_er h]

set_option maxRecDepth 100000 in
set_option maxHeartbeats 1000000 in
theorem implSyn_any (d : D) (B : Nat) (w : World) (hs : d.size ≤ 2000000) (hin : d.In w B) (hB : B ≤ w.heap.size) : Calls Try.prog 71 #[d.val] w (RetS (synD d) w) := by
  obtain ⟨k, n, t, A, c, l⟩ := d
  have hcap := hin.cap
  simp only [D.l, D.c, D.t] at hcap
  obtain ⟨W1, hW1⟩ : ∃ W1, W1 = w.alloc (.cells #[.int .i64 k, .int .i64 n, .string t, .slice A l.length c] 25) := ⟨_, rfl⟩
  obtain ⟨W2, hW2⟩ : ∃ W2, W2 = W1.alloc (.cells #[.int .i64 0, .int .i64 0, .string ⟨#[]⟩, .slice none 0 0, .slice none 0 0] 63) := ⟨_, rfl⟩
  have z1 : W1.heap.size = w.heap.size + 1 := by rw [hW1]; simp
  have z2 : W2.heap.size = w.heap.size + 1 + 1 := by rw [hW2]; simp [z1]
  have B1 : Below w.heap.size w W1 := by rw [hW1]; exact (Below.refl _ _).alloc (Nat.le_refl _) _
  have B2 : Below W1.heap.size W1 W2 := by rw [hW2]; exact (Below.refl _ _).alloc (Nat.le_refl _) _
  have x0 : D.Box W1 w.heap.size (.mk k n t A c l) := by rw [hW1]; exact D.Box.new w (.mk k n t A c l) _
  have r0 : S.Box W2 (w.heap.size + 1) (.mk 0 0 ⟨#[]⟩ none 0 [] none 0 []) := by rw [hW2, ← z1]; exact S.Box.new W1 (.mk 0 0 ⟨#[]⟩ none 0 [] none 0 []) _
  have rf : Free W2 (w.heap.size + 1) := by rw [hW2, ← z1]; exact Free.new _ _ _
  have x0 := x0.below B2 (by omega)
  have b3 : Below w.heap.size w W2 := B1.trans (B2.mono (by omega))
  have hi2 := hin.below (b3.mono hB)
  have K : Hid (synD (.mk k n t A c l) = if (D.mk k n t A c l).isD then ofD (.mk k n t A c l) else zeroS) := rfl
  simp only [D.val, D.k, D.n, D.t, D.A, D.l, D.c]
  go_enter Try.func71, Try.ntmps71
  go_wp2_with fail
  rw [← hW1, ← hW2]
  clear hW1 hW2 B1 B2
  refine (implIsD_any (.mk k n t A c l) B _ hi2 (by omega)).mono ?_
  rintro e w1 ⟨rfl, hb1⟩
  have zz := hb1.size
  obtain ⟨p0, p1, p2, p3⟩ := x0.below hb1 (by omega)
  obtain ⟨s0, s1, s2, s3, s4⟩ := r0.below hb1 (by omega)
  have rf1 := rf.below hb1 (by omega)
  simp only [D.k, D.n, D.t, D.A, D.c] at p0 p1 p2 p3
  have el : (D.mk k n t A c l).l = l := rfl
  rw [el] at p3
  have bb := b3.trans (hb1.mono (by omega))
  have hi3 := hin.below (bb.mono hB)
  clear hb1 x0 b3 hi2 rf el
  cases hq : (D.mk k n t A c l).isD
  · have Hq := Lib.hid hq
    clear hq
    have h0 := rf1.fr 0
    have h1 := rf1.fr 1
    have h2 := rf1.fr 2
    have h3 := rf1.fr 3
    have h4 := rf1.fr 4
    go_wp2_with fail
    refine bodyPost_ret (v := .agg #[.int .i64 0, .int .i64 0, .string ⟨#[]⟩, .slice none 0 0, .slice none 0 0]) (by simp [results, Try.results71, go_sem, s0, s1, s2, s3, s4]) rfl ⟨zeroS, rfl, ?_, ?_, ?_⟩
    · rw [K.out, Hq.out]; rfl
    · exact S.Own.of_parts (IOwn.nil_ (by omega) (fun _ => rfl)) S.OwnL.nil_ ⟨Nat.le_refl _, Nat.zero_le _, Nat.zero_le _⟩ (fun h => absurd rfl h) (fun b hb => by simp [iblk] at hb)
    · exact ((((bb.setCell (by simp) _).setCell (by simp) _).setCell (by simp) _).setCell (by simp) _).setCell (by simp) _
  · have Hq := Lib.hid hq
    clear hq
    go_wp2_with fail
    refine (implOf_any 2000000 (.mk k n t A c l) B _ hs (Nat.le_refl _) hi3 (by omega)).mono ?_
    rintro e w2 ⟨d, rfl, hde, hod, hb2⟩
    have zz2 := hb2.size
    obtain ⟨s0, s1, s2, s3, s4⟩ := (⟨s0, s1, s2, s3, s4⟩ : S.Box w1 (w.heap.size + 1) (.mk 0 0 ⟨#[]⟩ none 0 [] none 0 [])).below hb2 (by omega)
    have rf2 := rf1.below hb2 (by omega)
    have h0 := rf2.fr 0
    have h1 := rf2.fr 1
    have h2 := rf2.fr 2
    have h3 := rf2.fr 3
    have h4 := rf2.fr 4
    have bb2 := bb.trans (hb2.mono (by omega))
    have Hde := Lib.hid hde
    clear hde hb2
    simp only [S.val]
    go_wp2_with fail
    refine bodyPost_ret (v := .agg #[.int .i64 d.k, .int .i64 d.n, .string d.t, .slice d.sa d.s.length d.sc, .slice d.A d.l.length d.c]) (by simp [results, Try.results71, go_sem, s0, s1, s2, s3, s4]) rfl ⟨d, rfl, ?_, ?_, ?_⟩
    · rw [K.out, Hq.out, Hde.out]; rfl
    · have hown := hod.wide (lo' := w.heap.size + 1 + 1) (by omega) (Nat.le_refl _)
      simp only [World.size_setCell]
      exact (((((hown.far (by simp) _).far (by simp) _).far (by simp) _).far (by simp) _).far (by simp) _).wide (by omega) (Nat.le_refl _)
    · exact ((((bb2.setCell (by simp) _).setCell (by simp) _).setCell (by simp) _).setCell (by simp) _).setCell (by simp) _

set_option maxRecDepth 100000 in
set_option maxHeartbeats 1000000 in
theorem specSyn_any (d : D) (B : Nat) (w : World) (hs : d.size ≤ 2000000) (hin : d.In w B) (hB : B ≤ w.heap.size) : Calls Try.prog 70 #[d.val] w (RetS (synD d) w) := by
  obtain ⟨k, n, t, A, c, l⟩ := d
  have hcap := hin.cap
  simp only [D.l, D.c, D.t] at hcap
  obtain ⟨W1, hW1⟩ : ∃ W1, W1 = w.alloc (.cells #[.int .i64 k, .int .i64 n, .string t, .slice A l.length c] 25) := ⟨_, rfl⟩
  obtain ⟨W2, hW2⟩ : ∃ W2, W2 = W1.alloc (.cells #[.int .i64 0, .int .i64 0, .string ⟨#[]⟩, .slice none 0 0, .slice none 0 0] 63) := ⟨_, rfl⟩
  have z1 : W1.heap.size = w.heap.size + 1 := by rw [hW1]; simp
  have z2 : W2.heap.size = w.heap.size + 1 + 1 := by rw [hW2]; simp [z1]
  have B1 : Below w.heap.size w W1 := by rw [hW1]; exact (Below.refl _ _).alloc (Nat.le_refl _) _
  have B2 : Below W1.heap.size W1 W2 := by rw [hW2]; exact (Below.refl _ _).alloc (Nat.le_refl _) _
  have x0 : D.Box W1 w.heap.size (.mk k n t A c l) := by rw [hW1]; exact D.Box.new w (.mk k n t A c l) _
  have r0 : S.Box W2 (w.heap.size + 1) (.mk 0 0 ⟨#[]⟩ none 0 [] none 0 []) := by rw [hW2, ← z1]; exact S.Box.new W1 (.mk 0 0 ⟨#[]⟩ none 0 [] none 0 []) _
  have rf : Free W2 (w.heap.size + 1) := by rw [hW2, ← z1]; exact Free.new _ _ _
  have x0 := x0.below B2 (by omega)
  have b3 : Below w.heap.size w W2 := B1.trans (B2.mono (by omega))
  have hi2 := hin.below (b3.mono hB)
  have K : Hid (synD (.mk k n t A c l) = if (D.mk k n t A c l).isD then ofD (.mk k n t A c l) else zeroS) := rfl
  simp only [D.val, D.k, D.n, D.t, D.A, D.l, D.c]
  go_enter Try.func70, Try.ntmps70
  go_wp2_with fail
  rw [← hW1, ← hW2]
  clear hW1 hW2 B1 B2
  refine (specIsD_any (.mk k n t A c l) B _ hi2 (by omega) hs).mono ?_
  rintro e w1 ⟨rfl, hb1⟩
  have zz := hb1.size
  obtain ⟨p0, p1, p2, p3⟩ := x0.below hb1 (by omega)
  obtain ⟨s0, s1, s2, s3, s4⟩ := r0.below hb1 (by omega)
  have rf1 := rf.below hb1 (by omega)
  simp only [D.k, D.n, D.t, D.A, D.c] at p0 p1 p2 p3
  have el : (D.mk k n t A c l).l = l := rfl
  rw [el] at p3
  have bb := b3.trans (hb1.mono (by omega))
  have hi3 := hin.below (bb.mono hB)
  clear hb1 x0 b3 hi2 rf el
  cases hq : (D.mk k n t A c l).isD
  · have Hq := Lib.hid hq
    clear hq
    have h0 := rf1.fr 0
    have h1 := rf1.fr 1
    have h2 := rf1.fr 2
    have h3 := rf1.fr 3
    have h4 := rf1.fr 4
    go_wp2_with fail
    refine bodyPost_ret (v := .agg #[.int .i64 0, .int .i64 0, .string ⟨#[]⟩, .slice none 0 0, .slice none 0 0]) (by simp [results, Try.results70, go_sem, s0, s1, s2, s3, s4]) rfl ⟨zeroS, rfl, ?_, ?_, ?_⟩
    · rw [K.out, Hq.out]; rfl
    · exact S.Own.of_parts (IOwn.nil_ (by omega) (fun _ => rfl)) S.OwnL.nil_ ⟨Nat.le_refl _, Nat.zero_le _, Nat.zero_le _⟩ (fun h => absurd rfl h) (fun b hb => by simp [iblk] at hb)
    · exact ((((bb.setCell (by simp) _).setCell (by simp) _).setCell (by simp) _).setCell (by simp) _).setCell (by simp) _
  · have Hq := Lib.hid hq
    clear hq
    go_wp2_with fail
    refine (specOf_any 2000000 (.mk k n t A c l) B _ hs (Nat.le_refl _) hi3 (by omega)).mono ?_
    rintro e w2 ⟨d, rfl, hde, hod, hb2⟩
    have zz2 := hb2.size
    obtain ⟨s0, s1, s2, s3, s4⟩ := (⟨s0, s1, s2, s3, s4⟩ : S.Box w1 (w.heap.size + 1) (.mk 0 0 ⟨#[]⟩ none 0 [] none 0 [])).below hb2 (by omega)
    have rf2 := rf1.below hb2 (by omega)
    have h0 := rf2.fr 0
    have h1 := rf2.fr 1
    have h2 := rf2.fr 2
    have h3 := rf2.fr 3
    have h4 := rf2.fr 4
    have bb2 := bb.trans (hb2.mono (by omega))
    have Hde := Lib.hid hde
    clear hde hb2
    simp only [S.val]
    go_wp2_with fail
    refine bodyPost_ret (v := .agg #[.int .i64 d.k, .int .i64 d.n, .string d.t, .slice d.sa d.s.length d.sc, .slice d.A d.l.length d.c]) (by simp [results, Try.results70, go_sem, s0, s1, s2, s3, s4]) rfl ⟨d, rfl, ?_, ?_, ?_⟩
    · rw [K.out, Hq.out, Hde.out]; rfl
    · have hown := hod.wide (lo' := w.heap.size + 1 + 1) (by omega) (Nat.le_refl _)
      simp only [World.size_setCell]
      exact (((((hown.far (by simp) _).far (by simp) _).far (by simp) _).far (by simp) _).far (by simp) _).wide (by omega) (Nat.le_refl _)
    · exact ((((bb2.setCell (by simp) _).setCell (by simp) _).setCell (by simp) _).setCell (by simp) _).setCell (by simp) _
end Go.Proofs.Ytknplopghgchaaa
