/-
  The model's l2Copy.
-/
import Derived.Test.YtiopophoioiafaaSMp
import Derived.Test.YtiopophoioiafaaSResC
import Derived.Test.YtiopophoioiafaaScTops
namespace Go.Proofs.Ytiopophoioiafaa
open Go.RowKit

namespace S
/-- Functions that agree on sets agree on valid objects. -/
theorem mapS_valid {f g : List Int → List Int} (hfg : ∀ s, isSetI s = true → f s = g s) (d : S) (h : valid d = true) : mapS f d = mapS g d := by
  induction d using ind with
  | h d ih =>
    cases d with
    | mk k n t sa sc s A c l =>
      simp only [valid, sNodeOk, Bool.and_eq_true] at h
      obtain ⟨⟨_, h1, _⟩, h2⟩ := h
      have key : ∀ (a : List S), (∀ x ∈ a, x ∈ l) → validL a = true → mapSL f a = mapSL g a := by
        intro a
        induction a with
        | nil => intro _ _; rfl
        | cons x r ih2 =>
          intro hs hv
          simp only [validL, Bool.and_eq_true] at hv
          simp only [mapSL, ih x (hs x (by simp)) hv.1, ih2 (fun y hy => hs y (by simp [hy])) hv.2]
      simp only [mapS, key l (fun _ h => h) h2, hfg s h1]
theorem valid_of_isS {d : S} (h : isS d = true) : valid d = true := by
  unfold isS at h
  simp only [Bool.and_eq_true] at h
  exact h.2.2
theorem resS_no {f : List Int → List Int} {d : S} (h : isS d = false) : resS f d = er d := by unfold resS; rw [h]; rfl
theorem resS_yes {f g : List Int → List Int} (hfg : ∀ s, isSetI s = true → g s = f s) {d : S} (h : isS d = true) : resS f d = mapS g d := by
  unfold resS; rw [h, mapS_valid hfg d (valid_of_isS h)]; rfl
theorem resS_id {f : List Int → List Int} (hf : ∀ s, f s = s) (d : S) : resS f d = er d := by
  have e : f = fun s => s := funext hf
  unfold resS
  rw [e, mapS_id, ite_self]
end S
theorem opF_with {m : Int} (h : kindI m ≠ 0) (s : List Int) (hs : isSetI s = true) : opF 1 m s = withL m s := by
  show putL m s = _
  unfold withL; rw [if_pos ⟨hs, h⟩]
theorem opF_flip {m : Int} (h : kindI m ≠ 0) (s : List Int) (hs : isSetI s = true) : opF 2 m s = flipL m s := by
  have e : flipL m s = if s.contains m then cutL m s else putL m s := if_pos ⟨hs, h⟩
  rw [e]; rfl
theorem opF_drop (s : List Int) (hs : isSetI s = true) : opF 3 0 s = dropL s := by
  show nousesL s = _
  unfold dropL; rw [if_pos hs]
theorem withL_zero {m : Int} (h : kindI m = 0) (s : List Int) : withL m s = s := by unfold withL; rw [if_neg (fun e => e.2 h)]
theorem flipL_zero {m : Int} (h : kindI m = 0) (s : List Int) : flipL m s = s := by unfold flipL; rw [if_neg (fun e => e.2 h)]

set_option maxRecDepth 100000 in
set_option maxHeartbeats 1000000 in
theorem specCopyS_any (d : S) (B : Nat) (w : World) (hs : d.size ≤ 2000000) (hbk : d.bulk ≤ 2000000) (hin : d.In w B) (hB : B ≤ w.heap.size) : Calls Try.prog 109 #[d.val] w (RetS (S.er d) w) := by
  obtain ⟨k, n, t, sa, sc, s, A, c, l⟩ := d
  obtain ⟨W1, hW1⟩ : ∃ W1, W1 = w.alloc (.cells #[.int .i64 k, .int .i64 n, .string t, .slice sa s.length sc, .slice A l.length c] 52) := ⟨_, rfl⟩
  obtain ⟨W2, hW2⟩ : ∃ W2, W2 = W1.alloc (.cells #[.int .i64 0, .int .i64 0, .string ⟨#[]⟩, .slice none 0 0, .slice none 0 0] 52) := ⟨_, rfl⟩
  have z1 : W1.heap.size = w.heap.size + 1 := by rw [hW1]; simp
  have B1 : Below w.heap.size w W1 := by rw [hW1]; exact (Below.refl _ _).alloc (Nat.le_refl _) _
  have z2 : W2.heap.size = w.heap.size + 1 + 1 := by rw [hW2]; simp [z1]
  have B2 : Below W1.heap.size W1 W2 := by rw [hW2]; exact (Below.refl _ _).alloc (Nat.le_refl _) _
  have x0 : S.Box W1 w.heap.size (.mk k n t sa sc s A c l) := by rw [hW1]; exact S.Box.new w (.mk k n t sa sc s A c l) _
  have x0 := x0.below B2 (by omega)
  have r0 : S.Box W2 (w.heap.size + 1) (.mk 0 0 ⟨#[]⟩ none 0 [] none 0 []) := by rw [hW2, ← z1]; exact S.Box.new W1 (.mk 0 0 ⟨#[]⟩ none 0 [] none 0 []) _
  have rf : Free W2 (w.heap.size + 1) := by rw [hW2, ← z1]; exact Free.new _ _ _
  have b3 : Below w.heap.size w W2 := (B1.trans (B2.mono (by omega)))
  have hi2 := hin.below (b3.mono hB)
  obtain ⟨p0, p1, p2, p3, p4⟩ := x0
  simp only [S.k, S.n, S.t, S.sa, S.sc, S.s, S.A, S.c] at p0 p1 p2 p3 p4
  have el : (S.mk k n t sa sc s A c l).l = l := rfl
  rw [el] at p4
  simp only [S.val, S.k, S.n, S.t, S.sa, S.sc, S.s, S.A, S.l, S.c]
  go_enter Try.func109, Try.ntmps109
  go_wp2_with fail
  rw [← hW1, ← hW2]
  clear hW1 hW2 B1 B2
  refine ((specMap_any 0 0 (.inl rfl) 2000000 (.mk k n t sa sc s A c l) B _ hs (Nat.le_refl _) hbk hi2 (by omega)).mono (R' := RetS (S.er (.mk k n t sa sc s A c l)) W2) (by rintro e w2 ⟨d, rfl, hde, h⟩; exact ⟨d, rfl, by rw [hde]; exact S.mapS_id _, h⟩)).mono ?_
  rintro e w2 ⟨d, rfl, hde, hod, hb2⟩
  have zz2 := hb2.size
  obtain ⟨s0, s1, s2, s3, s4⟩ := r0.below hb2 (by omega)
  have rf2 := rf.below hb2 (by omega)
  have h0 := rf2.fr 0
  have h1 := rf2.fr 1
  have h2 := rf2.fr 2
  have h3 := rf2.fr 3
  have h4 := rf2.fr 4
  have bb2 := b3.trans (hb2.mono (by omega))
  have Hde := Lib.hid hde
  clear hde hb2
  simp only [S.val]
  go_wp2_with fail
  refine bodyPost_ret (v := .agg #[.int .i64 d.k, .int .i64 d.n, .string d.t, .slice d.sa d.s.length d.sc, .slice d.A d.l.length d.c]) (by simp [results, Try.results109, go_sem, s0, s1, s2, s3, s4]) rfl ⟨d, rfl, ?_, ?_, ?_⟩
  · exact Hde.out
  · have hown := hod.wide (lo' := w.heap.size + 1 + 1) (by omega) (Nat.le_refl _)
    simp only [World.size_setCell]
    exact (((((hown.far (by simp <;> omega) _).far (by simp <;> omega) _).far (by simp <;> omega) _).far (by simp <;> omega) _).far (by simp <;> omega) _).wide (by omega) (Nat.le_refl _)
  · exact ((((bb2.setCell (by simp <;> omega) _).setCell (by simp <;> omega) _).setCell (by simp <;> omega) _).setCell (by simp <;> omega) _).setCell (by simp <;> omega) _
end Go.Proofs.Ytiopophoioiafaa
