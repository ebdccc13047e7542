/-
  The model's copy of a core term (written by gen/kol5.py).
-/
import Derived.Test.YtpigpncbjckbcaaGreatGEl
import Derived.Test.YtpigpncbjckbcaaGreatKoCopy
import Derived.Test.YtpigpncbjckbcaaGreatScSets
import Derived.Test.YtpigpncbjckbcaaGreatGCp
import Derived.Deep.RegionHeld3
import Derived.Deep.DeepCutAuto
namespace Go.Proofs.YtpigpncbjckbcaaGreat
open Go.RowKit
theorem gen_worldK {P : Program} {f : FuncId} {args : Array Value} {W : World} {Q : Ending → World → Prop} (h : ∀ W', W' = W → Calls P f args W' Q) : Calls P f args W Q := h W rfl
def MidK (w : World) (d : Tr Ko) (s3 : Value) (wx : World) : Prop :=
  ∃ (H : Nat) (A1 : Option Addr) (c1 : Nat) (e1 : D), s3 = .pointer (some ⟨H, 0, none⟩) ∧ D.Blk wx H 35 #[.int .i64 d.a.k, .int .i64 d.a.n, .slice A1 d.a.s.length c1, .int .i64 e1.k, .int .i64 e1.n, .string e1.t, .slice e1.A e1.l.length e1.c, .slice none 0 0] ∧ (∃ m : Nat, IOwn (w.heap.size + 2) m wx A1 c1 d.a.s ∧ e1.Own m wx.heap.size wx ∧ w.heap.size + 2 ≤ m ∧ m ≤ wx.heap.size) ∧ e1.er = d.a.d.er ∧ (∀ b ∈ iblk A1 d.a.s, b ≠ H) ∧ (∀ b ∈ D.blks e1, b ≠ H) ∧
    w.heap.size + 1 < H ∧ H < wx.heap.size ∧ Below w.heap.size w wx ∧ Ko.Box wx w.heap.size d ∧ D.Blk wx (w.heap.size + 1) 35 #[.int .i64 0, .int .i64 0, .slice none 0 0, .int .i64 0, .int .i64 0, .string ⟨#[]⟩, .slice none 0 0, .slice none 0 0]
theorem MidK.late {w W2 v1 v2 W5 : World} {d : Tr Ko} {A1 : Option Addr} {c1 : Nat} {e1 : D} (z2 : W2.heap.size = w.heap.size + 1 + 1) (b0 : Below w.heap.size w W2) (h1 : Below W2.heap.size W2 v1) (h2 : Below v1.heap.size v1 v2) (X0 : Ko.Box W2 w.heap.size d) (R0 : D.Blk W2 (w.heap.size + 1) 35 #[.int .i64 0, .int .i64 0, .slice none 0 0, .int .i64 0, .int .i64 0, .string ⟨#[]⟩, .slice none 0 0, .slice none 0 0])
    (o1 : IOwn W2.heap.size v1.heap.size v2 A1 c1 d.a.s) (o2 : e1.Own v1.heap.size v2.heap.size v2) (he : e1.er = d.a.d.er) (hW : W5 = v2.alloc (.cells #[.int .i64 d.a.k, .int .i64 d.a.n, .slice A1 d.a.s.length c1, .int .i64 e1.k, .int .i64 e1.n, .string e1.t, .slice e1.A e1.l.length e1.c, .slice none 0 0] 35)) : MidK w d (.pointer (some ⟨v2.heap.size, 0, none⟩)) W5 := by
  have y1 := h1.size
  have y2 := h2.size
  have z5 : W5.heap.size = v2.heap.size + 1 := by rw [hW]; simp
  have h12 := h1.trans (h2.mono y1)
  have BB : Below v2.heap.size v2 W5 := by rw [hW]; exact (Below.refl _ _).alloc (Nat.le_refl _) _
  have b5 := h12.trans (BB.mono (by omega))
  refine ⟨v2.heap.size, A1, c1, e1, rfl, by rw [hW]; exact D.Blk.new _ _ _, ⟨v1.heap.size, (o1.below (BB.mono y2)).wide (by omega) (Nat.le_refl _), (o2.below BB).wide (Nat.le_refl _) (by omega), by omega, by omega⟩, he, fun b hb => ?_, fun b hb => ?_, by omega, by omega, b0.trans (b5.mono (by omega)), X0.below b5 (by omega), R0.below b5 (by omega)⟩
  · have := o1.inn.blk_lt b hb; omega
  · have := o2.inn.blk_lt b hb; omega
theorem MidK.early {w W2 v1 v2 W5 : World} {d : Tr Ko} {A1 : Option Addr} {c1 H : Nat} {e1 : D} (z2 : W2.heap.size = w.heap.size + 1 + 1) (b0 : Below w.heap.size w W2) (h1 : Below W2.heap.size W2 v1) (h2 : Below v1.heap.size v1 v2) (X0 : Ko.Box W2 w.heap.size d) (R0 : D.Blk W2 (w.heap.size + 1) 35 #[.int .i64 0, .int .i64 0, .slice none 0 0, .int .i64 0, .int .i64 0, .string ⟨#[]⟩, .slice none 0 0, .slice none 0 0])
    (o1 : IOwn W2.heap.size v1.heap.size v2 A1 c1 d.a.s) (o2 : e1.Own v1.heap.size v2.heap.size v2) (he : e1.er = d.a.d.er) (KZ : D.Blk v2 H 35 #[.int .i64 0, .int .i64 0, .slice none 0 0, .int .i64 0, .int .i64 0, .string ⟨#[]⟩, .slice none 0 0, .slice none 0 0]) (hH : w.heap.size + 1 < H) (hn1 : ∀ b ∈ iblk A1 d.a.s, b ≠ H) (hn2 : ∀ b ∈ D.blks e1, b ≠ H)
    (hW : W5 = ((((((((v2.setCell ⟨H, 0, none⟩ (.int .i64 d.a.k)).setCell ⟨H, 1, none⟩ (.int .i64 d.a.n)).setCell ⟨H, 2, none⟩ (.slice A1 d.a.s.length c1)).setCell ⟨H, 3, none⟩ (.int .i64 e1.k)).setCell ⟨H, 4, none⟩ (.int .i64 e1.n)).setCell ⟨H, 5, none⟩ (.string e1.t)).setCell ⟨H, 6, none⟩ (.slice e1.A e1.l.length e1.c)).setCell ⟨H, 7, none⟩ (.slice none 0 0))) : MidK w d (.pointer (some ⟨H, 0, none⟩)) W5 := by
  have y1 := h1.size
  have y2 := h2.size
  have z5 : W5.heap.size = v2.heap.size := by rw [hW]; simp
  have hHl := KZ.lt
  have h12 := h1.trans (h2.mono y1)
  have hne : ∀ b, b ≠ H → W5.heap[b]? = v2.heap[b]? := fun b hb => by
    rw [hW]
    have e : ∀ (u : World) (j : Nat) (x : Value), (u.setCell ⟨H, j, none⟩ x).heap[b]? = u.heap[b]? := fun u j x => Below.heap_setCell _ _ _ _ (by simpa using hb)
    rw [e, e, e, e, e, e, e, e]
  have b5 : Below w.heap.size w W5 := by rw [hW]; exact (((((((((b0.trans (h12.mono (by omega))).setCell (by simp <;> omega) _).setCell (by simp <;> omega) _).setCell (by simp <;> omega) _).setCell (by simp <;> omega) _).setCell (by simp <;> omega) _).setCell (by simp <;> omega) _).setCell (by simp <;> omega) _).setCell (by simp <;> omega) _)
  refine ⟨H, A1, c1, e1, rfl, ?_, ⟨v1.heap.size, (o1.keep fun b hb => hne b (hn1 b hb)).wide (by omega) (Nat.le_refl _), (o2.keepB fun b hb => hne b (hn2 b hb)).wide (Nat.le_refl _) (by omega), by omega, by omega⟩, he, hn1, hn2, hH, by omega, b5, ?_, ?_⟩
  · rw [hW]; have := ((((((((KZ.set_ 0 (.int .i64 d.a.k)).set_ 1 (.int .i64 d.a.n)).set_ 2 (.slice A1 d.a.s.length c1)).set_ 3 (.int .i64 e1.k)).set_ 4 (.int .i64 e1.n)).set_ 5 (.string e1.t)).set_ 6 (.slice e1.A e1.l.length e1.c)).set_ 7 (.slice none 0 0)); simpa using this
  · exact (X0.below h12 (by omega)).keep (hne _ (by omega))
  · exact (hne _ (by omega)).trans (R0.below h12 (by omega))
def L5Ok (m : Nat) : Prop := ∀ (d : Tr Ko) (B : Nat) (w : World), d.bulk Ko.bulk ≤ 1500000 → d.size ≤ m → Ko.E.In w B d → B ≤ w.heap.size → Calls Tryz.prog 44 #[Ko.val d] w (RetKo (d.er Ko.er) w)
set_option maxRecDepth 100000 in
set_option maxHeartbeats 8000000 in
theorem l5Copy_step (m : Nat) (ih : L5Ok m) : L5Ok (m + 1) := by
  intro d B w hbk hm hin hB
  have hmm : Tr.sizeL d.l ≤ m := by rw [Tr.size_eq] at hm; omega
  rw [Tr.bulk_eq] at hbk
  have hbk0 : d.a.s.length + d.a.d.bulk + Tr.bulkL Ko.bulk d.l ≤ 1500000 := hbk
  clear hbk hm
  have hsl : d.a.s.length ≤ 2000000 := by omega
  have hzd : d.a.d.size ≤ 2000000 := by have := D.bulk_size d.a.d; omega
  have hll : d.l.length ≤ 1500000 := by have := Tr.length_le_sizeL d.l; have := Tr.sizeL_le_bulkL Ko.bulk d.l; omega
  have hinp := Ko.E_in hin
  have hcap := hinp.2.cap
  obtain ⟨i0, hi0, hz0, hz1, hz2⟩ := info_parts Ko_info
  obtain ⟨W1, hW1⟩ : ∃ W1, W1 = w.alloc (.cells #[.int .i64 d.a.k, .int .i64 d.a.n, .slice d.a.sA d.a.s.length d.a.sC, .int .i64 d.a.d.k, .int .i64 d.a.d.n, .string d.a.d.t, .slice d.a.d.A d.a.d.l.length d.a.d.c, .slice d.A d.l.length d.c] 35) := ⟨_, rfl⟩
  obtain ⟨W2, hW2⟩ : ∃ W2, W2 = W1.alloc (.cells #[.int .i64 0, .int .i64 0, .slice none 0 0, .int .i64 0, .int .i64 0, .string ⟨#[]⟩, .slice none 0 0, .slice none 0 0] 35) := ⟨_, rfl⟩
  have z1 : W1.heap.size = w.heap.size + 1 := by rw [hW1]; simp
  have z2 : W2.heap.size = w.heap.size + 1 + 1 := by rw [hW2]; simp [z1]
  have B1 : Below w.heap.size w W1 := by rw [hW1]; exact (Below.refl _ _).alloc (Nat.le_refl _) _
  have B2 : Below W1.heap.size W1 W2 := by rw [hW2]; exact (Below.refl _ _).alloc (Nat.le_refl _) _
  have X0 : Ko.Box W1 w.heap.size d := by rw [hW1]; exact Ko.Box.new _ _ _
  have X0 := X0.below B2 (by omega)
  have R0 : D.Blk W2 (w.heap.size + 1) 35 #[.int .i64 0, .int .i64 0, .slice none 0 0, .int .i64 0, .int .i64 0, .string ⟨#[]⟩, .slice none 0 0, .slice none 0 0] := by rw [hW2, ← z1]; exact D.Blk.new _ _ _
  have b0 : Below w.heap.size w W2 := B1.trans (B2.mono (by omega))
  have lx : w.heap.size < W2.heap.size := by omega
  have lB : B ≤ W2.heap.size := by omega
  have hiW : ∀ z : World, Below W2.heap.size W2 z → IIn z B d.a.sA d.a.sC d.a.s := fun z hz => hinp.1.s.below ((b0.trans (hz.mono (by omega))).mono hB)
  have hdW : ∀ z : World, Below W2.heap.size W2 z → d.a.d.In z B := fun z hz => hinp.1.d.below ((b0.trans (hz.mono (by omega))).mono hB)
  unfold Ko.val
  obtain ⟨p0, p1, p2, p3, p4, p5, p6, p7⟩ := id X0
  have a0 := p0
  have a1 := p1
  have a2 := p2
  have a3 := p3
  have a4 := p4
  have a5 := p5
  have a6 := p6
  have a7 := p7
  have za : W2.heap.size ≤ w.heap.size + 1 + 1 := by omega
  have zb : w.heap.size + 1 + 1 ≤ W2.heap.size := by omega
  have HZ := Lib.hid z2
  have tok0 : True := trivial
  have tok1 : True := trivial
  go_enter Tryz.func44, Tryz.ntmps44
  go_upto_region 1 with fail
  rw [← hW1, ← hW2]
  clear hW1 hW2 B1 B2 z1 z2
  go_cut [3] (fun s3 wx => MidK w d s3 wx)
  case first =>
    go_region_held3 (fun w' => w'.cell? ⟨w.heap.size, 0, none⟩ = some (.int .i64 d.a.k) ∧ w'.cell? ⟨w.heap.size, 1, none⟩ = some (.int .i64 d.a.n) ∧ w'.cell? ⟨w.heap.size, 2, none⟩ = some (.slice d.a.sA d.a.s.length d.a.sC) ∧ w'.cell? ⟨w.heap.size, 3, none⟩ = some (.int .i64 d.a.d.k) ∧ w'.cell? ⟨w.heap.size, 4, none⟩ = some (.int .i64 d.a.d.n) ∧ w'.cell? ⟨w.heap.size, 5, none⟩ = some (.string d.a.d.t) ∧ w'.cell? ⟨w.heap.size, 6, none⟩ = some (.slice d.a.d.A d.a.d.l.length d.a.d.c) ∧ w'.cell? ⟨w.heap.size, 7, none⟩ = some (.slice d.A d.l.length d.c)) (go_keep) (first
      | (go_simp; go_at_call 97; have _t := tok0; refine gen_worldK ?_; intro Wc hWc; have hbc : Below W2.heap.size W2 Wc := (by first | (rw [hWc]; exact Below.refl _ _) | (rw [hWc]; exact (Below.refl _ _).drew) | (rw [hWc]; exact (Below.refl _ _).alloc (Nat.le_refl _) _) | (rw [hWc]; exact (Below.refl _ _).drew.alloc (Nat.le_refl _) _)); have zc : W2.heap.size ≤ Wc.heap.size := hbc.size; (first | (have KZ := KZ.below hbc KZ.lt) | (have KZ : D.Blk Wc W2.heap.size 35 #[.int .i64 0, .int .i64 0, .slice none 0 0, .int .i64 0, .int .i64 0, .string ⟨#[]⟩, .slice none 0 0, .slice none 0 0] := (by rw [hWc]; exact D.Blk.new _ _ _); have hKH : w.heap.size + 1 < W2.heap.size := (by omega); have kzn : W2.heap.size ≠ w.heap.size := (by omega); have kzm : w.heap.size ≠ W2.heap.size := (by omega)) | skip); clear hWc; have hcon := l2Ints_any d.a.sA d.a.sC d.a.s B Wc hsl (hiW Wc hbc) (Nat.le_trans lB zc); (with_reducible refine hcon.mono ?_); clear hcon tok0; rintro e v1 ⟨A1, c1, rfl, o1, hk1⟩; have lo1 : ∀ b ∈ iblk A1 d.a.s, Wc.heap.size ≤ b := (fun b hb => o1.lo_ b hb); (first | (have kq : W2.heap.size < Wc.heap.size := KZ.lt) | skip); (first | (have KZ := KZ.below hk1 KZ.lt) | skip); have h1 : Below W2.heap.size W2 v1 := hbc.trans (hk1.mono zc); have y1 := h1.size; have o1 := o1.wide (lo' := W2.heap.size) zc (Nat.le_refl v1.heap.size); clear hbc zc hk1; have a0 := (h1.cell (p := ⟨w.heap.size, 0, none⟩) lx).trans p0; have a1 := (h1.cell (p := ⟨w.heap.size, 1, none⟩) lx).trans p1; have a2 := (h1.cell (p := ⟨w.heap.size, 2, none⟩) lx).trans p2; have a3 := (h1.cell (p := ⟨w.heap.size, 3, none⟩) lx).trans p3; have a4 := (h1.cell (p := ⟨w.heap.size, 4, none⟩) lx).trans p4; have a5 := (h1.cell (p := ⟨w.heap.size, 5, none⟩) lx).trans p5; have a6 := (h1.cell (p := ⟨w.heap.size, 6, none⟩) lx).trans p6; have a7 := (h1.cell (p := ⟨w.heap.size, 7, none⟩) lx).trans p7; skip)
      | (go_simp; go_at_call 98; have _t := tok1; refine gen_worldK ?_; intro Wc hWc; have hbc : Below v1.heap.size v1 Wc := (by first | (rw [hWc]; exact Below.refl _ _) | (rw [hWc]; exact (Below.refl _ _).drew) | (rw [hWc]; exact (Below.refl _ _).alloc (Nat.le_refl _) _) | (rw [hWc]; exact (Below.refl _ _).drew.alloc (Nat.le_refl _) _)); have zc : v1.heap.size ≤ Wc.heap.size := hbc.size; (first | (have KZ := KZ.below hbc KZ.lt) | (have KZ : D.Blk Wc v1.heap.size 35 #[.int .i64 0, .int .i64 0, .slice none 0 0, .int .i64 0, .int .i64 0, .string ⟨#[]⟩, .slice none 0 0, .slice none 0 0] := (by rw [hWc]; exact D.Blk.new _ _ _); have hKH : w.heap.size + 1 < v1.heap.size := (by omega); have kzn : v1.heap.size ≠ w.heap.size := (by omega); have kzm : w.heap.size ≠ v1.heap.size := (by omega)) | skip); clear hWc; have hcon := l1Copy_any 2000000 d.a.d B Wc (by omega) (Nat.le_refl _) (hdW Wc (h1.trans (hbc.mono y1))) (by omega); unfold D.val at hcon; (with_reducible refine hcon.mono ?_); clear hcon tok1; rintro e v2 ⟨e1, rfl, he1, o2, hk2⟩; unfold D.val; have lo2 : ∀ b ∈ D.blks e1, Wc.heap.size ≤ b := (fun b hb => o2.lo_ b hb); (first | (have kr : v1.heap.size < Wc.heap.size := KZ.lt) | (have kr : W2.heap.size < Wc.heap.size := KZ.lt) | skip); (first | (have KZ := KZ.below hk2 KZ.lt) | skip); have h2 : Below v1.heap.size v1 v2 := hbc.trans (hk2.mono zc); have y2 := h2.size; have o2 := o2.wide (lo' := v1.heap.size) zc (Nat.le_refl v2.heap.size); have o1 := o1.below h2; have h12 := h1.trans (h2.mono y1); have HE1 := Lib.hid he1; clear hbc zc hk2 he1; have a0 := (h12.cell (p := ⟨w.heap.size, 0, none⟩) lx).trans p0; have a1 := (h12.cell (p := ⟨w.heap.size, 1, none⟩) lx).trans p1; have a2 := (h12.cell (p := ⟨w.heap.size, 2, none⟩) lx).trans p2; have a3 := (h12.cell (p := ⟨w.heap.size, 3, none⟩) lx).trans p3; have a4 := (h12.cell (p := ⟨w.heap.size, 4, none⟩) lx).trans p4; have a5 := (h12.cell (p := ⟨w.heap.size, 5, none⟩) lx).trans p5; have a6 := (h12.cell (p := ⟨w.heap.size, 6, none⟩) lx).trans p6; have a7 := (h12.cell (p := ⟨w.heap.size, 7, none⟩) lx).trans p7; (first | (have d0 : World.cell? _ ⟨_, 0, none⟩ = some (.int .i64 0) := KZ.cell 0; have f0 := KZ.frozen 0; have d1 : World.cell? _ ⟨_, 1, none⟩ = some (.int .i64 0) := KZ.cell 1; have f1 := KZ.frozen 1; have d2 : World.cell? _ ⟨_, 2, none⟩ = some (.slice none 0 0) := KZ.cell 2; have f2 := KZ.frozen 2; have d3 : World.cell? _ ⟨_, 3, none⟩ = some (.int .i64 0) := KZ.cell 3; have f3 := KZ.frozen 3; have d4 : World.cell? _ ⟨_, 4, none⟩ = some (.int .i64 0) := KZ.cell 4; have f4 := KZ.frozen 4; have d5 : World.cell? _ ⟨_, 5, none⟩ = some (.string ⟨#[]⟩) := KZ.cell 5; have f5 := KZ.frozen 5; have d6 : World.cell? _ ⟨_, 6, none⟩ = some (.slice none 0 0) := KZ.cell 6; have f6 := KZ.frozen 6; have d7 : World.cell? _ ⟨_, 7, none⟩ = some (.slice none 0 0) := KZ.cell 7; have f7 := KZ.frozen 7; have kzl := KZ.lt) | skip))
      | fail)
    all_goals go_wp2_with fail
    all_goals go_meet
    all_goals first
      | exact MidK.late HZ.out b0 h1 h2 X0 R0 o1 o2 HE1.out rfl
      | exact MidK.early HZ.out b0 h1 h2 X0 R0 o1 o2 HE1.out KZ (by omega) (fun b hb => by have := o1.inn.blk_lt b hb; omega) (fun b hb => by have := lo2 b hb; omega) rfl
      | exact MidK.early HZ.out b0 h1 h2 X0 R0 o1 o2 HE1.out KZ (by omega) (fun b hb => by have := lo1 b hb; omega) (fun b hb => by have := lo2 b hb; omega) rfl
  case rest =>
    obtain ⟨H, A1, c1, e1, rfl, U0, ⟨mm, P0, P1, hm1, hm2⟩, he1, hn1, hn2, hH1, hH2, bU, XU, RU⟩ := hcut
    obtain ⟨U, hU⟩ : ∃ U : World, U = wc := ⟨_, rfl⟩
    rw [← hU] at U0 P0 P1 hm2 hH2 bU XU RU ⊢
    clear hU p0 p1 p2 p3 p4 p5 p6 p7 a0 a1 a2 a3 a4 a5 a6 a7 tok0 tok1 X0 R0
    obtain ⟨a0, a1, a2, a3, a4, a5, a6, a7⟩ := id XU
    have zU := bU.size
    go_wp2_with fail
    go_loopw [20] (fun i wr => ∃ j : Nat, j ≤ d.l.length ∧ i = .int .i64 j ∧ ∃ (v : Value) (ds : List (Tr Ko)), Hid (Tr.erL Ko.er ds = Tr.erL Ko.er (d.l.take j)) ∧ ds.length ≤ j ∧ j ≤ ds.length ∧ Ko.E.Grown 35 U.heap.size wr v ds ∧
        wr.cell? ⟨H, 0, none⟩ = some (.int .i64 d.a.k) ∧ wr.cell? ⟨H, 1, none⟩ = some (.int .i64 d.a.n) ∧ wr.cell? ⟨H, 2, none⟩ = some (.slice A1 d.a.s.length c1) ∧ wr.cell? ⟨H, 3, none⟩ = some (.int .i64 e1.k) ∧ wr.cell? ⟨H, 4, none⟩ = some (.int .i64 e1.n) ∧ wr.cell? ⟨H, 5, none⟩ = some (.string e1.t) ∧ wr.cell? ⟨H, 6, none⟩ = some (.slice e1.A e1.l.length e1.c) ∧ wr.cell? ⟨H, 7, none⟩ = some (v) ∧ wr.frozen? ⟨H, 7, none⟩ = false ∧ Keeps U.heap.size H U wr) (fun i _ => d.l.length - (intOf i).toNat)
    case atStart => exact ⟨0, Nat.zero_le _, rfl, .slice none 0 0, [], by simp [Tr.erL, Hid], Nat.le_refl _, Nat.le_refl _, Elem.Grown.nil, U0.cell 0, U0.cell 1, U0.cell 2, U0.cell 3, U0.cell 4, U0.cell 5, U0.cell 6, U0.cell 7, U0.frozen 7, Keeps.refl _ _ _⟩
    case round =>
      obtain ⟨j, hj, rfl, v, ds, HE, hd1, hd2, hG, u0, u1, u2, u3, u4, u5, u6, u7, uf, hkp⟩ := hrel
      have hs2 := hkp.size
      have hb : Below w.heap.size w wr := bU.trans (hkp.below (by omega) (by omega))
      have HK := Lib.hid hkp
      clear hkp
      by_cases hlt : j < d.l.length
      · obtain ⟨b, o, hAe, hblk, c0, c1', c2, c3, c4, c5, c6, c7, hix⟩ := Ko.at_ (hinp.2.below (hb.mono hB)) (i := j) (x := d.l[j]) (List.getElem?_eq_getElem hlt)
        rw [hAe]
        have hsz := Tr.sizeL_mem (l := d.l) (List.getElem_mem hlt)
        have hbk1 := Tr.bulkL_mem (f := Ko.bulk) (l := d.l) (List.getElem_mem hlt)
        have x0 := Ko.Box.new wr d.l[j] 35
        obtain ⟨g0, g1, g2, g3, g4, g5, g6, g7⟩ := x0
        have ne1 : H < wr.heap.size := by omega
        have al : (wr.alloc (.cells #[.int .i64 d.l[j].a.k, .int .i64 d.l[j].a.n, .slice d.l[j].a.sA d.l[j].a.s.length d.l[j].a.sC, .int .i64 d.l[j].a.d.k, .int .i64 d.l[j].a.d.n, .string d.l[j].a.d.t, .slice d.l[j].a.d.A d.l[j].a.d.l.length d.l[j].a.d.c, .slice d.l[j].A d.l[j].l.length d.l[j].c] 35)).cell? ⟨H, 7, none⟩ = some v := (World.cell?_alloc_lt wr _ _ ne1).trans u7
        have hGa := hG.below ((Below.refl _ _).alloc (Nat.le_refl _) (.cells #[.int .i64 d.l[j].a.k, .int .i64 d.l[j].a.n, .slice d.l[j].a.sA d.l[j].a.s.length d.l[j].a.sC, .int .i64 d.l[j].a.d.k, .int .i64 d.l[j].a.d.n, .string d.l[j].a.d.t, .slice d.l[j].a.d.A d.l[j].a.d.l.length d.l[j].a.d.c, .slice d.l[j].A d.l[j].l.length d.l[j].c] 35))
        have hlen1 : ds.length ≤ 2000000 := by omega
        have hcol := Elem.cellsL_length (E := Ko.E) ds
        have bnd := Tr.bulkL_mem (f := Ko.bulk) (l := d.l) (List.getElem_mem hlt)
        go_wp2_with fail
        have hne1 : some H ≠ v.ownBlock := fun e => by have := hG.lt _ e.symm; omega
        have hne2 : some wr.heap.size ≠ v.ownBlock := fun e => by have := hG.lt _ e.symm; omega
        go_region_law
          (first
            | (go_simp; go_at_call 44; refine (ih d.l[j] B _ ?_ ?_ ?_ ?_).mono ?_; omega; omega; exact (hix.alloc (by omega) _).drew; (show B ≤ (wr.alloc _).heap.size); (simp; omega); rintro e w1 ⟨x, rfl, hde, hod, hb1⟩; unfold Ko.val; have hb1 := below_undrew hb1; have Hde := Lib.hid hde; clear hde; have hlt1 : wr.heap.size < (wr.alloc (.cells #[.int .i64 d.l[j].a.k, .int .i64 d.l[j].a.n, .slice d.l[j].a.sA d.l[j].a.s.length d.l[j].a.sC, .int .i64 d.l[j].a.d.k, .int .i64 d.l[j].a.d.n, .string d.l[j].a.d.t, .slice d.l[j].a.d.A d.l[j].a.d.l.length d.l[j].a.d.c, .slice d.l[j].A d.l[j].l.length d.l[j].c] 35)).heap.size := (by simp); have x0 := (hb1.cell (p := ⟨wr.heap.size, 0, none⟩) hlt1).trans g0; have x1 := (hb1.cell (p := ⟨wr.heap.size, 1, none⟩) hlt1).trans g1; have x2 := (hb1.cell (p := ⟨wr.heap.size, 2, none⟩) hlt1).trans g2; have x3 := (hb1.cell (p := ⟨wr.heap.size, 3, none⟩) hlt1).trans g3; have x4 := (hb1.cell (p := ⟨wr.heap.size, 4, none⟩) hlt1).trans g4; have x5 := (hb1.cell (p := ⟨wr.heap.size, 5, none⟩) hlt1).trans g5; have x6 := (hb1.cell (p := ⟨wr.heap.size, 6, none⟩) hlt1).trans g6; have x7 := (hb1.cell (p := ⟨wr.heap.size, 7, none⟩) hlt1).trans g7; have x8 := (hb1.cell (p := ⟨H, 7, none⟩) (by simp; omega)).trans al; have hG1 := hGa.below hb1; have hzz := hb1.size; have ne4 : H < w1.heap.size := (by simp at hzz; omega); have xf := (hb1.frozen (p := ⟨H, 7, none⟩) (by simp; omega)).trans ((World.frozen?_alloc_old wr _ ⟨H, 7, none⟩ (by simp; omega)).trans uf))
            | ((refine step_append_lies _ (by rfl) _ _ _ (by rfl) U.heap.size 35 i0 _ 8 120 Tryz.underlying33 hi0 hz0 hz1 hz2 rfl (by omega) v ds.length (Ko.E.cellsL ds) (by rfl) ?_ ⟨w1.heap.size, 0, none⟩ 1 1 (Ko.E.cells x) (by rfl) (by rfl) ?_ (Ko.E.one x) (by omega) ?_ ?_ ?_ (w1.heap.size + 1) ?_ ?_); exact (hG1.row.alloc _); exact (show ∀ q u, (#[Value.int .i64 x.a.k, .int .i64 x.a.n, .slice x.a.sA x.a.s.length x.a.sC, .int .i64 x.a.d.k, .int .i64 x.a.d.n, .string x.a.d.t, .slice x.a.d.A x.a.d.l.length x.a.d.c, .slice x.A x.l.length x.c].toList)[q]? = some u → _ from World.news_of_block (heap_alloc_new _ _)); (unfold maxLen; omega); omega; (simp at hzz ⊢; omega); simp; intro g cap w3 hown3 hgr hat hlt3; have y8 := (hgr.cell_far ⟨H, 7, none⟩ (by simp at hzz ⊢; omega) hne1).trans ((World.cell?_alloc_lt w1 _ ⟨H, 7, none⟩ (by simp at hzz ⊢; omega)).trans x8); have y0 := (hgr.cell_far ⟨wr.heap.size, 0, none⟩ (by simp at hzz ⊢; omega) hne2).trans ((World.cell?_alloc_lt w1 _ ⟨wr.heap.size, 0, none⟩ (by simp at hzz ⊢; omega)).trans x0); have y1 := (hgr.cell_far ⟨wr.heap.size, 1, none⟩ (by simp at hzz ⊢; omega) hne2).trans ((World.cell?_alloc_lt w1 _ ⟨wr.heap.size, 1, none⟩ (by simp at hzz ⊢; omega)).trans x1); have y2 := (hgr.cell_far ⟨wr.heap.size, 2, none⟩ (by simp at hzz ⊢; omega) hne2).trans ((World.cell?_alloc_lt w1 _ ⟨wr.heap.size, 2, none⟩ (by simp at hzz ⊢; omega)).trans x2); have y3 := (hgr.cell_far ⟨wr.heap.size, 3, none⟩ (by simp at hzz ⊢; omega) hne2).trans ((World.cell?_alloc_lt w1 _ ⟨wr.heap.size, 3, none⟩ (by simp at hzz ⊢; omega)).trans x3); have y4 := (hgr.cell_far ⟨wr.heap.size, 4, none⟩ (by simp at hzz ⊢; omega) hne2).trans ((World.cell?_alloc_lt w1 _ ⟨wr.heap.size, 4, none⟩ (by simp at hzz ⊢; omega)).trans x4); have y5 := (hgr.cell_far ⟨wr.heap.size, 5, none⟩ (by simp at hzz ⊢; omega) hne2).trans ((World.cell?_alloc_lt w1 _ ⟨wr.heap.size, 5, none⟩ (by simp at hzz ⊢; omega)).trans x5); have y6 := (hgr.cell_far ⟨wr.heap.size, 6, none⟩ (by simp at hzz ⊢; omega) hne2).trans ((World.cell?_alloc_lt w1 _ ⟨wr.heap.size, 6, none⟩ (by simp at hzz ⊢; omega)).trans x6); have y7 := (hgr.cell_far ⟨wr.heap.size, 7, none⟩ (by simp at hzz ⊢; omega) hne2).trans ((World.cell?_alloc_lt w1 _ ⟨wr.heap.size, 7, none⟩ (by simp at hzz ⊢; omega)).trans x7); have yf := (hgr.frozen_far ⟨H, 7, none⟩ (by simp at hzz ⊢; omega) hne1).trans ((World.frozen?_alloc_old w1 _ ⟨H, 7, none⟩ (by simp at hzz ⊢; omega)).trans xf)))
        all_goals
          have hR := Elem.grown_round (k := 7) hG hH2 (by omega) (by simpa using hod) (by simpa using hb1) hown3 hgr hat u7
          have HR := Lib.hid hR
          clear hR hb1 hgr hown3 hG1 hGa
          go_wp2_with fail
          obtain ⟨r1, r2, r3, r4, r5, r6⟩ := HR.out
          refine ⟨⟨j + 1, by omega, by go_num, .slice (some ⟨g, 0, none⟩) (ds.length + 1) cap, ds ++ [x], ?_, by simp; omega, by simp; omega, r1, (r2 0 (by omega)).trans u0, (r2 1 (by omega)).trans u1, (r2 2 (by omega)).trans u2, (r2 3 (by omega)).trans u3, (r2 4 (by omega)).trans u4, (r2 5 (by omega)).trans u5, (r2 6 (by omega)).trans u6, r3, (r4 7).trans uf, HK.out.trans r6⟩, by simp [intOf]; omega⟩
          show _ = _
          rw [List.take_succ_eq_append_getElem hlt, Tr.erL_append, Tr.erL_append, HE.out]
          simp [Tr.erL, Hde.out]
      · have e1' : d.l.take j = d.l := List.take_of_length_le (by omega)
        have he := HE.out
        rw [e1'] at he
        have He := Lib.hid he
        clear e1' he
        obtain ⟨KA, KC, rfl, PK⟩ := hG.out
        have RW : D.Blk wr (w.heap.size + 1) 35 #[.int .i64 0, .int .i64 0, .slice none 0 0, .int .i64 0, .int .i64 0, .string ⟨#[]⟩, .slice none 0 0, .slice none 0 0] := (HK.out.block (w.heap.size + 1) (by omega) (by omega)).trans RU
        have P0w : IOwn (w.heap.size + 2) mm wr A1 c1 d.a.s := P0.keep fun k hk => HK.out.block k (by have := P0.inn.blk_lt k hk; omega) (hn1 k hk)
        have P1w : e1.Own mm U.heap.size wr := P1.keepB fun k hk => HK.out.block k (P1.inn.blk_lt k hk) (hn2 k hk)
        have PP : Hid (Ko.E.Own (w.heap.size + 2) wr.heap.size wr (Tr.mk ⟨d.a.k, d.a.n, A1, c1, d.a.s, e1⟩ KA KC ds)) := Tr.own_of (Ko.own_head (x := ⟨d.a.k, d.a.n, A1, c1, d.a.s, e1⟩) P0w P1w (by omega) (by omega) hinp.1.wf) PK (by omega) (by omega)
        have HE1 := Lib.hid he1
        clear PK P0w P1w hG XU U0
        have zw0 : World.cell? wr ⟨w.heap.size + 1, 0, none⟩ = some (.int .i64 0) := RW.cell 0
        have zf0 := RW.frozen 0
        have zw1 : World.cell? wr ⟨w.heap.size + 1, 1, none⟩ = some (.int .i64 0) := RW.cell 1
        have zf1 := RW.frozen 1
        have zw2 : World.cell? wr ⟨w.heap.size + 1, 2, none⟩ = some (.slice none 0 0) := RW.cell 2
        have zf2 := RW.frozen 2
        have zw3 : World.cell? wr ⟨w.heap.size + 1, 3, none⟩ = some (.int .i64 0) := RW.cell 3
        have zf3 := RW.frozen 3
        have zw4 : World.cell? wr ⟨w.heap.size + 1, 4, none⟩ = some (.int .i64 0) := RW.cell 4
        have zf4 := RW.frozen 4
        have zw5 : World.cell? wr ⟨w.heap.size + 1, 5, none⟩ = some (.string ⟨#[]⟩) := RW.cell 5
        have zf5 := RW.frozen 5
        have zw6 : World.cell? wr ⟨w.heap.size + 1, 6, none⟩ = some (.slice none 0 0) := RW.cell 6
        have zf6 := RW.frozen 6
        have zw7 : World.cell? wr ⟨w.heap.size + 1, 7, none⟩ = some (.slice none 0 0) := RW.cell 7
        have zf7 := RW.frozen 7
        go_wp2_with fail
        refine bodyPost_ret (v := .agg #[.int .i64 d.a.k, .int .i64 d.a.n, .slice A1 d.a.s.length c1, .int .i64 e1.k, .int .i64 e1.n, .string e1.t, .slice e1.A e1.l.length e1.c, .slice KA ds.length KC]) (by simp [results, Tryz.results44, go_sem, zw0, zw1, zw2, zw3, zw4, zw5, zw6, zw7]) rfl ⟨(Tr.mk ⟨d.a.k, d.a.n, A1, c1, d.a.s, e1⟩ KA KC ds), rfl, ?_, ?_, ?_⟩
        · show Tr.mk _ _ _ _ = _
          rw [He.out]
          simp only [Ko.er, HE1.out]
          cases d
          rfl
        · simp only [World.size_setCell]
          exact (((((((((PP.out.far (by simp <;> omega) _).far (by simp <;> omega) _).far (by simp <;> omega) _).far (by simp <;> omega) _).far (by simp <;> omega) _).far (by simp <;> omega) _).far (by simp <;> omega) _).far (by simp <;> omega) _).wide (by omega) (Nat.le_refl _))
        · exact ((((((((hb.setCell (by simp) _).setCell (by simp) _).setCell (by simp) _).setCell (by simp) _).setCell (by simp) _).setCell (by simp) _).setCell (by simp) _).setCell (by simp) _)
theorem l5Copy_any (d : Tr Ko) (B : Nat) (w : World) (hbk : d.bulk Ko.bulk ≤ 1500000) (hin : Ko.E.In w B d) (hB : B ≤ w.heap.size) : Calls Tryz.prog 44 #[Ko.val d] w (RetKo (d.er Ko.er) w) := by
  have key : ∀ m, L5Ok m := by
    intro m
    induction m with
    | zero => intro d B w _ h; have := d.size_pos; omega
    | succ m ih => exact l5Copy_step m ih
  exact key d.size d B w hbk (Nat.le_refl _) hin hB
end Go.Proofs.YtpigpncbjckbcaaGreat
