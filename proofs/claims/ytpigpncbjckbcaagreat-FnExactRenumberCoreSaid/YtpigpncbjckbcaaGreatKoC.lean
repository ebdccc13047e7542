/-
  SizeOfCore and DepthOfCore: the program and the model walked (written by gen/kocount.py).
-/
import Derived.Test.YtpigpncbjckbcaaGreatKoBase
namespace Go.Proofs.YtpigpncbjckbcaaGreat
open Go.RowKit
theorem Tr.sizeL_take_succ {α : Type} (l : List (Tr α)) (j : Nat) (h : j < l.length) : Tr.sizeL (l.take (j + 1)) = Tr.sizeL (l.take j) + (l[j]).size := by
  rw [List.take_succ_eq_append_getElem h, Tr.sizeL_append]; simp [Tr.sizeL]
theorem Tr.depthL_take_succ {α : Type} (l : List (Tr α)) (j : Nat) (h : j < l.length) : Tr.depthL (l.take (j + 1)) = max (Tr.depthL (l.take j)) (l[j]).depth := by
  rw [List.take_succ_eq_append_getElem h, Tr.depthL_append]; simp [Tr.depthL]
mutual
theorem Tr.depth_le_size {α : Type} : ∀ d : Tr α, d.depth ≤ d.size
  | .mk _ _ _ l => by have := Tr.depthL_le_sizeL l; simp only [Tr.depth, Tr.size]; omega
theorem Tr.depthL_le_sizeL {α : Type} : ∀ l : List (Tr α), Tr.depthL l ≤ Tr.sizeL l
  | [] => Nat.le_refl _
  | d :: r => by have := Tr.depth_le_size d; have := Tr.depthL_le_sizeL r; simp only [Tr.depthL, Tr.sizeL]; omega
end
theorem Tr.depth_eq {α : Type} (d : Tr α) : d.depth = Tr.depthL d.l + 1 := by cases d; rfl
mutual
theorem Tr.depth_of_er {α β : Type} {g : α → β} : ∀ d e : Tr α, Tr.er g d = Tr.er g e → d.depth = e.depth
  | .mk _ _ _ l, .mk _ _ _ m => fun h => by
    simp only [Tr.er, Tr.mk.injEq] at h
    simp only [Tr.depth, Tr.depthL_of_er l m h.2.2.2]
theorem Tr.depthL_of_er {α β : Type} {g : α → β} : ∀ l m : List (Tr α), Tr.erL g l = Tr.erL g m → Tr.depthL l = Tr.depthL m
  | [], [] => fun _ => rfl
  | [], _ :: _ => fun h => by simp [Tr.erL] at h
  | _ :: _, [] => fun h => by simp [Tr.erL] at h
  | d :: r, e :: s => fun h => by
    simp only [Tr.erL, List.cons.injEq] at h
    simp only [Tr.depthL, Tr.depth_of_er d e h.1, Tr.depthL_of_er r s h.2]
end
set_option maxRecDepth 100000 in
set_option maxHeartbeats 1000000 in
theorem specKoDepth_any : ∀ (m : Nat) (d : Tr Ko) (B : Nat) (w : World), d.size ≤ m → m ≤ 2000000 → Ko.E.In w B d → B ≤ w.heap.size →
    Calls Tryz.prog 167 #[Ko.val d] w fun e w' => e = .returned (.int .i64 d.depth) ∧ Below w.heap.size w w' := by
  intro m
  induction m with
  | zero => intro d B w h; have := d.size_pos; omega
  | succ m ih =>
    intro d B w hm hm2 hin0 hB
    have hin := (Ko.E_in hin0).2
    have hcap := hin.cap
    have hmm := Tr.size_eq d
    have hdl := Tr.depth_le_size d
    have hde := Tr.depth_eq d
    unfold Ko.val
    go_enter Tryz.func167, Tryz.ntmps167
    go_wp2_with fail
    go_loopw [3, 9] (fun cnt i wr => ∃ j : Nat, j ≤ d.l.length ∧ i = .int .i64 j ∧ cnt = .int .i64 (Tr.depthL (d.l.take j) : Int) ∧ Below w.heap.size w wr) (fun _ i _ => d.l.length - (intOf i).toNat)
    case atStart => exact ⟨0, Nat.zero_le _, rfl, by simp [Tr.depthL], (Below.refl _ _).alloc (Nat.le_refl _) _⟩
    case round =>
      obtain ⟨j, hj, rfl, rfl, hb⟩ := hrel
      by_cases hlt : j < d.l.length
      · obtain ⟨b, o, hA, hblk, c0, c1, c2, c3, c4, c5, c6, c7, hix⟩ := Ko.at_ (hin.below (hb.mono hB)) (i := j) (x := d.l[j]) (List.getElem?_eq_getElem hlt)
        have hsz := Tr.sizeL_mem (l := d.l) (List.getElem_mem hlt)
        have HS : Hid (Tr.depthL (d.l.take (j + 1)) = max (Tr.depthL (d.l.take j)) (d.l[j]).depth) := Tr.depthL_take_succ d.l j hlt
        have hs2 := hb.size
        rw [hA]
        go_wp2_with fail
        refine (ih d.l[j] B _ (by omega) (by omega) (Elem.In.alloc hix (by omega) _) (by simp; omega)).mono ?_
        rintro e w1 ⟨rfl, hb1⟩
        have hb2 := hb.trans (((Below.refl _ _).alloc (by omega) _).trans (hb1.mono (by simp; omega)))
        by_cases hgt : Tr.depthL (d.l.take j) < (d.l[j]).depth
        · have HG : Hid (Tr.depthL (d.l.take (j + 1)) = (d.l[j]).depth) := by rw [Hid, HS.out]; omega
          go_wp2_with fail
          go_roundw
          case rel => exact ⟨j + 1, by omega, by go_num, by rw [HG.out]; try (simp; omega), hb2⟩
          case measure => simp [intOf]; omega
        · have HG : Hid (Tr.depthL (d.l.take (j + 1)) = Tr.depthL (d.l.take j)) := by rw [Hid, HS.out]; omega
          go_wp2_with fail
          go_roundw
          case rel => exact ⟨j + 1, by omega, by go_num, by rw [HG.out]; try (simp; omega), hb2⟩
          case measure => simp [intOf]; omega
      · have hj' : j = d.l.length := by omega
        have e1 : d.l.take j = d.l := List.take_of_length_le (by omega)
        rw [e1]
        clear e1
        go_wp2_with fail
        go_ret
        exact ⟨ret_int (by omega), hb⟩
end Go.Proofs.YtpigpncbjckbcaaGreat
