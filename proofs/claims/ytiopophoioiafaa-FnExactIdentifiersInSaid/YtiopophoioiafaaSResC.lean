/-
  The program's copySyntax.
-/
import Derived.Test.YtiopophoioiafaaSMapC
import Derived.Test.YtiopophoioiafaaSFits
namespace Go.Proofs.Ytiopophoioiafaa
open Go.RowKit

namespace S
theorem mapS_id (d : S) : mapS (fun s => s) d = er d := by
  induction d using ind with
  | h d ih =>
    cases d with
    | mk k n t sa sc s A c l =>
      have key : ∀ (a : List S), (∀ x ∈ a, x ∈ l) → mapSL (fun s => s) a = erL a := by
        intro a
        induction a with
        | nil => intro _; rfl
        | cons x r ih2 => intro hs; simp only [erL, mapSL, ih x (hs x (by simp)), ih2 fun y hy => hs y (by simp [hy])]
      simp only [er, mapS, key l (fun _ h => h), ite_self]
/-- What the document's functions of scopes answer. -/
def resS (f : List Int → List Int) (d : S) : S := if d.isS then mapS f d else er d
theorem resS_of_er (f : List Int → List Int) {d e : S} (h : er d = er e) : resS f d = resS f e := by unfold resS; rw [isS_of_er h, mapS_of_er f h, h]
end S

set_option maxRecDepth 100000 in
set_option maxHeartbeats 1000000 in
theorem copySyn_any (d : S) (B : Nat) (w : World) (hs : d.size ≤ 2000000) (hbk : d.bulk ≤ 2000000) (hin : d.In w B) (hB : B ≤ w.heap.size) : Calls Try.prog 167 #[d.val] w (RetS (S.er d) w) := by
  obtain ⟨k, n, t, sa, sc, s, A, c, l⟩ := d
  obtain ⟨W1, hW1⟩ : ∃ W1, W1 = w.alloc (.cells #[.int .i64 k, .int .i64 n, .string t, .slice sa s.length sc, .slice A l.length c] 52) := ⟨_, rfl⟩
  obtain ⟨W2, hW2⟩ : ∃ W2, W2 = W1.alloc (.cells #[.int .i64 0, .int .i64 0, .string ⟨#[]⟩, .slice none 0 0, .slice none 0 0] 52) := ⟨_, rfl⟩
  have z1 : W1.heap.size = w.heap.size + 1 := by rw [hW1]; simp
  have B1 : Below w.heap.size w W1 := by rw [hW1]; exact (Below.refl _ _).alloc (Nat.le_refl _) _
  have z2 : W2.heap.size = w.heap.size + 1 + 1 := by rw [hW2]; simp [z1]
  have B2 : Below W1.heap.size W1 W2 := by rw [hW2]; exact (Below.refl _ _).alloc (Nat.le_refl _) _
  have x0 : S.Box W1 w.heap.size (.mk k n t sa sc s A c l) := by rw [hW1]; exact S.Box.new w (.mk k n t sa sc s A c l) _
  have x0 := x0.below B2 (by omega)
  have r0 : S.Box W2 (w.heap.size + 1) (.mk 0 0 ⟨#[]⟩ none 0 [] none 0 []) := by rw [hW2, ← z1]; exact S.Box.new W1 (.mk 0 0 ⟨#[]⟩ none 0 [] none 0 []) _
  have rf : Free W2 (w.heap.size + 1) := by rw [hW2, ← z1]; exact Free.new _ _ _
  have b3 : Below w.heap.size w W2 := (B1.trans (B2.mono (by omega)))
  have hi2 := hin.below (b3.mono hB)
  obtain ⟨p0, p1, p2, p3, p4⟩ := x0
  simp only [S.k, S.n, S.t, S.sa, S.sc, S.s, S.A, S.c] at p0 p1 p2 p3 p4
  have el : (S.mk k n t sa sc s A c l).l = l := rfl
  rw [el] at p4
  simp only [S.val, S.k, S.n, S.t, S.sa, S.sc, S.s, S.A, S.l, S.c]
  go_enter Try.func167, Try.ntmps167
  go_wp2_with fail
  rw [← hW1, ← hW2]
  clear hW1 hW2 B1 B2
  refine ((resc_anyC 0 (fun s => s) W2.heap.size W2 (fun A c s B w _ _ hl hi hB => copyScopes_any A c s B w hl hi hB) 2000000 (.mk k n t sa sc s A c l) B _ hs (Nat.le_refl _) hbk hi2 (by omega) (Below.refl _ _) (Nat.le_refl _)).mono (R' := RetS (S.er (.mk k n t sa sc s A c l)) W2) (by rintro e w2 ⟨d, rfl, hde, h⟩; exact ⟨d, rfl, by rw [hde, S.mapS_id], h⟩)).mono ?_
  rintro e w2 ⟨d, rfl, hde, hod, hb2⟩
  have zz2 := hb2.size
  obtain ⟨s0, s1, s2, s3, s4⟩ := r0.below hb2 (by omega)
  have rf2 := rf.below hb2 (by omega)
  have h0 := rf2.fr 0
  have h1 := rf2.fr 1
  have h2 := rf2.fr 2
  have h3 := rf2.fr 3
  have h4 := rf2.fr 4
  have bb2 := b3.trans (hb2.mono (by omega))
  have Hde := Lib.hid hde
  clear hde hb2
  simp only [S.val]
  go_wp2_with fail
  refine bodyPost_ret (v := .agg #[.int .i64 d.k, .int .i64 d.n, .string d.t, .slice d.sa d.s.length d.sc, .slice d.A d.l.length d.c]) (by simp [results, Try.results167, go_sem, s0, s1, s2, s3, s4]) rfl ⟨d, rfl, ?_, ?_, ?_⟩
  · exact Hde.out
  · have hown := hod.wide (lo' := w.heap.size + 1 + 1) (by omega) (Nat.le_refl _)
    simp only [World.size_setCell]
    exact (((((hown.far (by simp <;> omega) _).far (by simp <;> omega) _).far (by simp <;> omega) _).far (by simp <;> omega) _).far (by simp <;> omega) _).wide (by omega) (Nat.le_refl _)
  · exact ((((bb2.setCell (by simp <;> omega) _).setCell (by simp <;> omega) _).setCell (by simp <;> omega) _).setCell (by simp <;> omega) _).setCell (by simp <;> omega) _
end Go.Proofs.Ytiopophoioiafaa
