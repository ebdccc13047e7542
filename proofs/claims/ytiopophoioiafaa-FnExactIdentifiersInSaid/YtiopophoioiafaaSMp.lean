/-
  The model's l2Map: copies, puts, flips, strips.
-/
import Derived.Test.YtiopophoioiafaaSGrowB
import Derived.Deep.DeepCutAuto
namespace Go.Proofs.Ytiopophoioiafaa
open Go.RowKit

/-- What operation o does to the scopes of a symbol. -/
def opF (o N : Int) (s : List Int) : List Int :=
  if o = 1 then putL N s else if o = 2 then (if s.contains N then cutL N s else putL N s) else if o = 3 then nousesL s else s

/-- The variables behind the first assignment. -/
def MidS (w : World) (k n : Int) (t : ByteArray) (sa : Option Addr) (sc : Nat) (s : List Int) (A : Option Addr) (c len : Nat) (s7 : Value) (wx : World) : Prop :=
  ∃ (H : Nat) (A' : Option Addr) (c' : Nat), s7 = .pointer (some ⟨H, 0, none⟩) ∧ S.Box wx H (.mk k n t A' c' s none 0 []) ∧ Free wx H ∧ IOwn (w.heap.size + 1 + 1) wx.heap.size wx A' c' s ∧ (∀ b ∈ iblk A' s, b ≠ H) ∧
    w.heap.size + 1 < H ∧ H < wx.heap.size ∧ Below w.heap.size w wx ∧ wx.cell? ⟨w.heap.size, 0, none⟩ = some (.int .i64 k) ∧ wx.cell? ⟨w.heap.size, 3, none⟩ = some (.slice sa s.length sc) ∧ wx.cell? ⟨w.heap.size, 4, none⟩ = some (.slice A len c) ∧
    S.Box wx (w.heap.size + 1) (.mk 0 0 ⟨#[]⟩ none 0 [] none 0 []) ∧ Free wx (w.heap.size + 1)
/-- The variables behind the switch. -/
def MidT (w : World) (H : Nat) (k n : Int) (t : ByteArray) (sx : List Int) (A : Option Addr) (c len : Nat) (s7 : Value) (wx : World) : Prop :=
  ∃ (A' : Option Addr) (c' : Nat), s7 = .pointer (some ⟨H, 0, none⟩) ∧ S.Box wx H (.mk k n t A' c' sx none 0 []) ∧ Free wx H ∧ IOwn (w.heap.size + 1 + 1) wx.heap.size wx A' c' sx ∧ (∀ b ∈ iblk A' sx, b ≠ H) ∧
    w.heap.size + 1 < H ∧ H < wx.heap.size ∧ Below w.heap.size w wx ∧ wx.cell? ⟨w.heap.size, 4, none⟩ = some (.slice A len c) ∧
    S.Box wx (w.heap.size + 1) (.mk 0 0 ⟨#[]⟩ none 0 [] none 0 []) ∧ Free wx (w.heap.size + 1)

def L2MOk (o N : Int) (m : Nat) : Prop := ∀ (d : S) (B : Nat) (w : World), d.size ≤ m → m ≤ 2000000 → d.bulk ≤ 2000000 → d.In w B → B ≤ w.heap.size → Calls Try.prog 110 #[d.val, .int .i64 o, .int .i64 N] w (RetS (S.mapS (opF o N) d) w)

set_option maxRecDepth 100000 in
set_option maxHeartbeats 4000000 in
theorem specMap_any (o N : Int) (ho : o = 0 ∨ o = 1 ∨ o = 2 ∨ o = 3) : ∀ m, L2MOk o N m := by
  intro m
  induction m with
  | zero => intro d B w h; have := d.size_pos; omega
  | succ m ih =>
  intro d B w hm hm2 hbk hin hB
  obtain ⟨k, n, t, sa, sc, s, A, c, l⟩ := d
  have hcap := hin.cap
  simp only [S.l, S.c, S.t] at hcap
  have hbl : s.length ≤ 2000000 ∧ S.bulkL l ≤ 2000000 := by simp only [S.bulk] at hbk; omega
  have hmm : S.sizeL l ≤ m := by simp only [S.size] at hm; omega
  have hll := S.length_le_sizeL l
  obtain ⟨i0, hi0, hz0, hz1, hz2⟩ := info_parts infoS
  have K : Hid (S.mapS (opF o N) (.mk k n t sa sc s A c l) = .mk k n t none 0 (if k = 1 then (opF o N) s else s) none 0 (S.mapSL (opF o N) l)) := rfl
  obtain ⟨W1, hW1⟩ : ∃ W1, W1 = w.alloc (.cells #[.int .i64 k, .int .i64 n, .string t, .slice sa s.length sc, .slice A l.length c] 52) := ⟨_, rfl⟩
  obtain ⟨W2, hW2⟩ : ∃ W2, W2 = W1.alloc (.cells #[.int .i64 0, .int .i64 0, .string ⟨#[]⟩, .slice none 0 0, .slice none 0 0] 52) := ⟨_, rfl⟩
  have z1 : W1.heap.size = w.heap.size + 1 := by rw [hW1]; simp
  have B1 : Below w.heap.size w W1 := by rw [hW1]; exact (Below.refl _ _).alloc (Nat.le_refl _) _
  have z2 : W2.heap.size = w.heap.size + 1 + 1 := by rw [hW2]; simp [z1]
  have B2 : Below W1.heap.size W1 W2 := by rw [hW2]; exact (Below.refl _ _).alloc (Nat.le_refl _) _
  have x0 : S.Box W1 w.heap.size (.mk k n t sa sc s A c l) := by rw [hW1]; exact S.Box.new w (.mk k n t sa sc s A c l) _
  have x0 := x0.below B2 (by omega)
  have r0 : S.Box W2 (w.heap.size + 1) (.mk 0 0 ⟨#[]⟩ none 0 [] none 0 []) := by rw [hW2, ← z1]; exact S.Box.new W1 (.mk 0 0 ⟨#[]⟩ none 0 [] none 0 []) _
  have rf : Free W2 (w.heap.size + 1) := by rw [hW2, ← z1]; exact Free.new _ _ _
  have b3 : Below w.heap.size w W2 := (B1.trans (B2.mono (by omega)))
  have hi2 := hin.below (b3.mono hB)
  obtain ⟨p0, p1, p2, p3, p4⟩ := x0
  simp only [S.k, S.n, S.t, S.sa, S.sc, S.s, S.A, S.c] at p0 p1 p2 p3 p4
  have el : (S.mk k n t sa sc s A c l).l = l := rfl
  rw [el] at p4
  obtain ⟨W3, hW3⟩ : ∃ W3, W3 = W2.alloc (.cells #[.int .i64 0, .int .i64 0, .string ⟨#[]⟩, .slice none 0 0, .slice none 0 0] 52) := ⟨_, rfl⟩
  have z3 : W3.heap.size = w.heap.size + 1 + 1 + 1 := by rw [hW3]; simp [z2]
  have B3 : Below W2.heap.size W2 W3 := by rw [hW3]; exact (Below.refl _ _).alloc (Nat.le_refl _) _
  have yz : S.Box W3 (w.heap.size + 1 + 1) (.mk 0 0 ⟨#[]⟩ none 0 [] none 0 []) := by rw [hW3, ← z2]; exact S.Box.new W2 (.mk 0 0 ⟨#[]⟩ none 0 [] none 0 []) _
  have yzf : Free W3 (w.heap.size + 1 + 1) := by rw [hW3, ← z2]; exact Free.new _ _ _
  have wlt2 : w.heap.size < W2.heap.size := by omega
  have pz0 := (B3.cell (p := ⟨w.heap.size, 0, none⟩) wlt2).trans p0
  have pz1 := (B3.cell (p := ⟨w.heap.size, 1, none⟩) wlt2).trans p1
  have pz2 := (B3.cell (p := ⟨w.heap.size, 2, none⟩) wlt2).trans p2
  have pz3 := (B3.cell (p := ⟨w.heap.size, 3, none⟩) wlt2).trans p3
  have pz4 := (B3.cell (p := ⟨w.heap.size, 4, none⟩) wlt2).trans p4
  have hsiB := hi2.scopes
  simp only [S.sa, S.sc, S.s] at hsiB
  have r0B := r0
  have rfB := rf
  have b3B := b3
  have r0 := r0.below B3 (by omega)
  have rf := rf.below B3 (by omega)
  have b3 := b3.trans (B3.mono (by omega))
  have hi2 := hin.below (b3.mono hB)
  have hsi2 := hi2.scopes
  simp only [S.sa, S.sc, S.s] at hsi2
  simp only [S.val, S.k, S.n, S.t, S.sa, S.sc, S.s, S.A, S.l, S.c]
  obtain ⟨sx, hsx⟩ : ∃ sx : List Int, sx = if k = 1 then opF o N s else s := ⟨_, rfl⟩
  rw [← hsx] at K
  have Hsx := Lib.hid hsx
  clear hsx
  clear hm hbk
  go_enter Try.func110, Try.ntmps110
  go_wp2_with fail
  rw [← hW1, ← hW2]
  clear hW1 hW2 B1 B2
  go_cut [7] (fun s7 wx => MidS w k n t sa sc s A c l.length s7 wx)
  case first =>
    go_region_held3 (fun w' => w'.cell? ⟨w.heap.size, 0, none⟩ = some (.int .i64 k) ∧ w'.cell? ⟨w.heap.size, 1, none⟩ = some (.int .i64 n) ∧ w'.cell? ⟨w.heap.size, 2, none⟩ = some (.string t) ∧ w'.cell? ⟨w.heap.size, 3, none⟩ = some (.slice sa s.length sc)) (first | go_keep | exact ⟨(sbox_far _ _ _ _ _ _ _ _ _ (by omega)).trans p0', (sbox_far _ _ _ _ _ _ _ _ _ (by omega)).trans p1', (sbox_far _ _ _ _ _ _ _ _ _ (by omega)).trans p2', (sbox_far _ _ _ _ _ _ _ _ _ (by omega)).trans p3'⟩) (first | (go_at_call 163; rw [← hW3]; refine (l2Ints_any sa sc s B _ hbl.1 hsi2.drew ?_).mono ?_; (show B ≤ W3.heap.size); omega; have armA : True := trivial; rintro e w1 ⟨A', c', rfl, hown1, hb1⟩; have hb1 : Below W3.heap.size W3 w1 := below_undrew hb1; have hlt0 : w.heap.size < W3.heap.size := (by omega); have p0' := (hb1.cell (p := ⟨w.heap.size, 0, none⟩) hlt0).trans pz0; have p1' := (hb1.cell (p := ⟨w.heap.size, 1, none⟩) hlt0).trans pz1; have p2' := (hb1.cell (p := ⟨w.heap.size, 2, none⟩) hlt0).trans pz2; have p3' := (hb1.cell (p := ⟨w.heap.size, 3, none⟩) hlt0).trans pz3; have p4' := (hb1.cell (p := ⟨w.heap.size, 4, none⟩) hlt0).trans pz4; have hlt2 : w.heap.size + 1 + 1 < W3.heap.size := (by omega); have yy := yz.below hb1 hlt2; have yyf := yzf.below hb1 hlt2; obtain ⟨y0, y1, y2, y3, y4⟩ := yy; have h0 := yyf.fr 0; have h1 := yyf.fr 1; have h2 := yyf.fr 2; have h3 := yyf.fr 3; have h4 := yyf.fr 4) | (go_at_call 163; refine (l2Ints_any sa sc s B _ hbl.1 hsiB.drew ?_).mono ?_; (show B ≤ W2.heap.size); omega; have armB : True := trivial; rintro e w1 ⟨A', c', rfl, hown1, hb1⟩; have hb1 : Below W2.heap.size W2 w1 := below_undrew hb1; have hlt0 : w.heap.size < W2.heap.size := (by omega); have p0' := (hb1.cell (p := ⟨w.heap.size, 0, none⟩) hlt0).trans p0; have p1' := (hb1.cell (p := ⟨w.heap.size, 1, none⟩) hlt0).trans p1; have p2' := (hb1.cell (p := ⟨w.heap.size, 2, none⟩) hlt0).trans p2; have p3' := (hb1.cell (p := ⟨w.heap.size, 3, none⟩) hlt0).trans p3; have p4' := (hb1.cell (p := ⟨w.heap.size, 4, none⟩) hlt0).trans p4))
    · have hown1 : IOwn W2.heap.size w1.heap.size w1 A' c' s := hown1
      have zz := hb1.size
      have b4 := b3B.trans (hb1.mono (by omega))
      have r1 := r0B.below hb1 (by omega)
      have rf1 := rfB.below hb1 (by omega)
      obtain ⟨W5, hW5⟩ : ∃ W5, W5 = w1.alloc (.cells #[.int .i64 k, .int .i64 n, .string t, .slice A' s.length c', .slice none 0 0] 52) := ⟨_, rfl⟩
      rw [← hW5]
      have z5 : W5.heap.size = w1.heap.size + 1 := by rw [hW5]; simp
      have BB : Below w1.heap.size w1 W5 := by rw [hW5]; exact (Below.refl _ _).alloc (Nat.le_refl _) _
      have y0 : S.Box W5 w1.heap.size (.mk k n t A' c' s none 0 []) := by rw [hW5]; exact S.Box.new w1 (.mk k n t A' c' s none 0 []) _
      have yf : Free W5 w1.heap.size := by rw [hW5]; exact Free.new _ _ _
      have wlt1 : w.heap.size < w1.heap.size := by omega
      have hD : MidS w k n t sa sc s A c l.length (.pointer (some ⟨w1.heap.size, 0, none⟩)) W5 := ⟨w1.heap.size, A', c', rfl, y0, yf, (hown1.below BB).wide (by omega) (by omega), fun b hb => by have := hown1.inn.blk_lt b hb; omega, by omega, by omega, b4.trans (BB.mono (by omega)), (BB.cell (p := ⟨w.heap.size, 0, none⟩) wlt1).trans p0', (BB.cell (p := ⟨w.heap.size, 3, none⟩) wlt1).trans p3', (BB.cell (p := ⟨w.heap.size, 4, none⟩) wlt1).trans p4', r1.below BB (by omega), rf1.below BB (by omega)⟩
      have HD := Lib.hid hD
      clear hD hW5 y0 yf BB r1 rf1 b4 r0 rf r0B rfB b3B hsiB hb1 b3 hown1 hi2 hsi2 hW3 yz yzf
      go_wp2_with fail
      go_meet
      exact HD.out
    · have yy := yz.below hb1 (by omega)
      have yyf := yzf.below hb1 (by omega)
      have hown1 : IOwn W3.heap.size w1.heap.size w1 A' c' s := hown1
      have zz := hb1.size
      have b4 := b3.trans (hb1.mono (by omega))
      have r1 := r0.below hb1 (by omega)
      have rf1 := rf.below hb1 (by omega)
      obtain ⟨H, hH⟩ : ∃ H, H = w.heap.size + 1 + 1 := ⟨_, rfl⟩
      rw [← hH] at yy yyf ⊢
      obtain ⟨W5, hW5⟩ : ∃ W5, W5 = ((((w1.setCell ⟨H, 0, none⟩ (.int .i64 k)).setCell ⟨H, 1, none⟩ (.int .i64 n)).setCell ⟨H, 2, none⟩ (.string t)).setCell ⟨H, 3, none⟩ (.slice A' s.length c')).setCell ⟨H, 4, none⟩ (.slice none 0 0) := ⟨_, rfl⟩
      rw [← hW5]
      have z5 : W5.heap.size = w1.heap.size := by rw [hW5]; simp
      have hn5 : ∀ b, b ≠ H → W5.heap[b]? = w1.heap[b]? := fun b hb => by rw [hW5]; exact sbox_heap _ _ _ _ _ _ _ _ (by omega)
      have y0 : S.Box W5 H (.mk k n t A' c' s none 0 []) := by rw [hW5]; exact sbox_set (.mk k n t A' c' s none 0 []) yy
      have yf : Free W5 H := by rw [hW5]; exact ((((yyf.set_ _ _).set_ _ _).set_ _ _).set_ _ _).set_ _ _
      have wH : w.heap.size ≠ H := by omega
      have b5 : Below w.heap.size w W5 := by rw [hW5]; exact ((((b4.setCell (by simp <;> omega) _).setCell (by simp <;> omega) _).setCell (by simp <;> omega) _).setCell (by simp <;> omega) _).setCell (by simp <;> omega) _
      have owH : ∀ b ∈ iblk A' s, b ≠ H := fun b hb => by have := hown1.lo_ b hb; omega
      have hD : MidS w k n t sa sc s A c l.length (.pointer (some ⟨H, 0, none⟩)) W5 := ⟨H, A', c', rfl, y0, yf, by rw [z5]; exact (hown1.keep fun b hb => hn5 b (owH b hb)).wide (by omega) (Nat.le_refl _), owH, by omega, by omega, b5, (World.cell?_of_block (a := ⟨w.heap.size, 0, none⟩) (hn5 _ wH)).trans p0', (World.cell?_of_block (a := ⟨w.heap.size, 3, none⟩) (hn5 _ wH)).trans p3', (World.cell?_of_block (a := ⟨w.heap.size, 4, none⟩) (hn5 _ wH)).trans p4', r1.keep (hn5 _ (show w.heap.size + 1 ≠ H by omega)), rf1.keep (hn5 _ (show w.heap.size + 1 ≠ H by omega))⟩
      have HD := Lib.hid hD
      clear hD hW5 y0 yf hn5 r1 rf1 b4 b5 owH yy yyf hH r0 rf r0B rfB b3B hsiB hb1 b3 hown1 hi2 hsi2 hW3 yz yzf
      go_wp2_with fail
      go_meet
      exact HD.out
  case rest =>
    obtain ⟨H, A', c', rfl, y0, yf, ow5, owH5, hwH, hHW5, b5, p0', p3', p4', r5, rf5⟩ := hcut
    clear p0 p1 p2 p3 p4 pz0 pz1 pz2 pz3 pz4 r0 rf r0B rfB b3B hsiB b3 hi2 hsi2 hW3 yz yzf
    obtain ⟨W5, hW5⟩ : ∃ W5 : World, W5 = wc := ⟨_, rfl⟩
    subst hW5
    have hi3 := (hin.below (b5.mono hB)).scopes
    simp only [S.sa, S.sc, S.s] at hi3
    go_upto_if 22 with fail
    go_cut [7] (fun s7 wx => MidT w H k n t sx A c l.length s7 wx)
    case first =>
      have hD0 : ∀ hx : sx = s, MidT w H k n t sx A c l.length (.pointer (some ⟨H, 0, none⟩)) W5 := fun hx => by
        rw [hx]; exact ⟨A', c', rfl, y0, yf, ow5, owH5, hwH, hHW5, b5, p4', r5, rf5⟩
      have hD1 : ∀ (w2 : World) (A2 : Option Addr) (c2 : Nat), IOwn W5.heap.size w2.heap.size w2 A2 c2 sx → Below W5.heap.size W5 w2 → MidT w H k n t sx A c l.length (.pointer (some ⟨H, 0, none⟩)) (w2.setCell ⟨H, 3, none⟩ (.slice A2 sx.length c2)) := fun w2 A2 c2 hown2 hb2 => by
        have zz2 := hb2.size
        obtain ⟨q0, q1, q2, q3, q4⟩ := y0.below hb2 (by omega)
        have hne : ∀ b, b ≠ H → (w2.setCell ⟨H, 3, none⟩ (.slice A2 sx.length c2)).heap[b]? = w2.heap[b]? := fun b hb => Below.heap_setCell _ _ _ _ (by simpa using hb)
        have owH : ∀ b ∈ iblk A2 sx, b ≠ H := fun b hb => by have := hown2.lo_ b hb; omega
        exact ⟨A2, c2, rfl, ⟨(icell_ne _ _ _ _ _ (by omega)).trans q0, (icell_ne _ _ _ _ _ (by omega)).trans q1, (icell_ne _ _ _ _ _ (by omega)).trans q2, icell_eq q3, (icell_ne _ _ _ _ _ (by omega)).trans q4⟩, (yf.below hb2 (by omega)).set_ _ _,
          (hown2.keep fun b hb => hne b (owH b hb)).wide (by omega) (by simp), owH, hwH, by simp; omega, (b5.trans (hb2.mono (by omega))).setCell (by simp; omega) _, (World.cell?_of_block (a := ⟨w.heap.size, 4, none⟩) (hne _ (show w.heap.size ≠ H by omega))).trans ((hb2.cell (p := ⟨w.heap.size, 4, none⟩) (show w.heap.size < W5.heap.size by omega)).trans p4'),
          (r5.below hb2 (by omega)).keep (hne _ (show w.heap.size + 1 ≠ H by omega)), (rf5.below hb2 (by omega)).keep (hne _ (show w.heap.size + 1 ≠ H by omega))⟩
      have HD0 := Lib.hid hD0
      have HD1 := Lib.hid hD1
      clear hD0 hD1
      by_cases hk1 : k = 1
      · subst hk1
        rcases ho with rfl | rfl | rfl | rfl
        · have hx : sx = s := by rw [Hsx.out]; rfl
          have HX := Lib.hid hx
          clear hx
          go_wp2_with fail
          go_meet
          exact HD0.out HX.out
        · have hx : sx = opF 1 N s := by rw [Hsx.out]; rfl
          have hx2 : opF 1 N s = putL N s := rfl
          rw [hx2] at hx
          have HX := Lib.hid hx
          clear hx hx2
          have hi3W := hi3.more (show B ≤ W5.heap.size by have := b5.size; omega)
          have q3 := y0.c3
          have g3 := yf.fr 3
          simp only [S.sa, S.sc, S.s] at q3
          go_wp2_with fail
          refine (l2Put_any sa sc s N W5.heap.size _ hbl.1 hi3W (Nat.le_refl _)).mono ?_
          rintro e w2 ⟨A2, c2, rfl, hown2, hb2⟩
          have q3 := (hb2.cell (p := ⟨H, 3, none⟩) hHW5).trans q3
          have g3 := (hb2.frozen (p := ⟨H, 3, none⟩) hHW5).trans g3
          rw [← HX.out] at hown2 ⊢
          have hD := HD1.out w2 A2 c2 hown2 hb2
          have HD := Lib.hid hD
          clear hD hown2 hb2
          go_wp2_with fail
          go_meet
          exact HD.out
        · have hx : sx = opF 2 N s := by rw [Hsx.out]; rfl
          have hx2 : opF 2 N s = (if s.contains N then cutL N s else putL N s) := rfl
          rw [hx2] at hx
          have HX := Lib.hid hx
          clear hx hx2
          have hi3W := hi3.more (show B ≤ W5.heap.size by have := b5.size; omega)
          have q3 := y0.c3
          have g3 := yf.fr 3
          simp only [S.sa, S.sc, S.s] at q3
          go_wp2_with fail
          refine (l2Flip_any sa sc s N W5.heap.size _ hbl.1 hi3W (Nat.le_refl _)).mono ?_
          rintro e w2 ⟨A2, c2, rfl, hown2, hb2⟩
          have q3 := (hb2.cell (p := ⟨H, 3, none⟩) hHW5).trans q3
          have g3 := (hb2.frozen (p := ⟨H, 3, none⟩) hHW5).trans g3
          rw [← HX.out] at hown2 ⊢
          have hD := HD1.out w2 A2 c2 hown2 hb2
          have HD := Lib.hid hD
          clear hD hown2 hb2
          go_wp2_with fail
          go_meet
          exact HD.out
        · have hx : sx = opF 3 N s := by rw [Hsx.out]; rfl
          have hx2 : opF 3 N s = nousesL s := rfl
          rw [hx2] at hx
          have HX := Lib.hid hx
          clear hx hx2
          have hi3W := hi3.more (show B ≤ W5.heap.size by have := b5.size; omega)
          have q3 := y0.c3
          have g3 := yf.fr 3
          simp only [S.sa, S.sc, S.s] at q3
          go_wp2_with fail
          refine (l2NoUses_any sa sc s W5.heap.size _ hbl.1 hi3W (Nat.le_refl _)).mono ?_
          rintro e w2 ⟨A2, c2, rfl, hown2, hb2⟩
          have q3 := (hb2.cell (p := ⟨H, 3, none⟩) hHW5).trans q3
          have g3 := (hb2.frozen (p := ⟨H, 3, none⟩) hHW5).trans g3
          rw [← HX.out] at hown2 ⊢
          have hD := HD1.out w2 A2 c2 hown2 hb2
          have HD := Lib.hid hD
          clear hD hown2 hb2
          go_wp2_with fail
          go_meet
          exact HD.out
      · have hx : sx = s := by rw [Hsx.out, if_neg hk1]
        have HX := Lib.hid hx
        clear hx
        have hkb : (k == 1) = false := by simp [hk1]
        go_wp2_with fail
        go_meet
        exact HD0.out HX.out
    case rest =>
      obtain ⟨A2, c2, rfl, y4, yf4, ow4, owH, hwH', hHW, b4, p4'', r4, rf4⟩ := hcut
      clear ow5 owH5 r5 rf5 b5 p0' p3' p4' y0 yf hi3 hwH'
      obtain ⟨W4, hW4⟩ : ∃ W4 : World, W4 = wc := ⟨_, rfl⟩
      subst hW4
      obtain ⟨o0, o1, o2, o3, o4⟩ := y4
      have of4 := yf4.fr 4
      simp only [S.k, S.n, S.t, S.sa, S.sc, S.s, S.A, S.l, S.c, List.length_nil] at o0 o1 o2 o3 o4
      clear yf4
      have hHW5' : w.heap.size < H := by omega
      go_wp2_with fail
      go_loopw [47] (fun i wr => ∃ j : Nat, j ≤ l.length ∧ i = .int .i64 j ∧ ∃ (v : Value) (ds : List S), Hid (S.erL ds = S.mapSL (opF o N) (l.take j)) ∧ ds.length ≤ j ∧ j ≤ ds.length ∧ GrowS W4.heap.size wr v ds ∧
          wr.cell? ⟨H, 0, none⟩ = some (.int .i64 k) ∧ wr.cell? ⟨H, 1, none⟩ = some (.int .i64 n) ∧ wr.cell? ⟨H, 2, none⟩ = some (.string t) ∧ wr.cell? ⟨H, 3, none⟩ = some (.slice A2 (sx).length c2) ∧ wr.cell? ⟨H, 4, none⟩ = some v ∧
          wr.frozen? ⟨H, 4, none⟩ = false ∧ W4.heap.size ≤ wr.heap.size ∧ Below w.heap.size w wr ∧ (∀ b, b < W4.heap.size → b ≠ H → wr.heap[b]? = W4.heap[b]?)) (fun i _ => l.length - (intOf i).toNat)
      case atStart => exact ⟨0, Nat.zero_le _, rfl, .slice none 0 0, [], by simp [S.erL, S.mapSL, Hid], Nat.le_refl _, Nat.le_refl _, ⟨World.ownsRow_nil _ _ _ _, S.OwnL.nil_, by simp [Value.ownBlock]⟩, o0, o1, o2, o3, o4, of4, Nat.le_refl _, b4, fun _ _ _ => rfl⟩
      case round =>
        clear o0 o1 o2 o3 o4 of4 b4
        obtain ⟨j, hj, rfl, v, ds, HE, hd1, hd2, hG, u0, u1, u2, uS, u3, uf, hz, hb, hfar⟩ := hrel
        have hs2 := hb.size
        have HF := Lib.hid hfar
        clear hfar
        by_cases hlt : j < l.length
        · obtain ⟨b, o, rfl, hblk, c0, c1, c2, c3, c4, hix⟩ := (hin.below (hb.mono hB)).at_ (i := j) (x := l[j]) (List.getElem?_eq_getElem hlt)
          have hsz := S.sizeL_mem (l := l) (List.getElem_mem hlt)
          have hbj := S.bulkL_get l j hlt
          have x0 := S.Box.new wr l[j] 52
          obtain ⟨g0, g1, g2, g3, g4⟩ := x0
          have ne1 : H < wr.heap.size := by omega
          have al : (wr.alloc (.cells #[.int .i64 l[j].k, .int .i64 l[j].n, .string l[j].t, .slice l[j].sa l[j].s.length l[j].sc, .slice l[j].A l[j].l.length l[j].c] 52)).cell? ⟨H, 4, none⟩ = some v := (World.cell?_alloc_lt wr _ _ (show H < wr.heap.size by omega)).trans u3
          have hGa := hG.below ((Below.refl _ _).alloc (Nat.le_refl _) (.cells #[.int .i64 l[j].k, .int .i64 l[j].n, .string l[j].t, .slice l[j].sa l[j].s.length l[j].sc, .slice l[j].A l[j].l.length l[j].c] 52))
          have hlen1 : ds.length ≤ 2000000 := by omega
          have hcol := S.cellsL_length ds
          go_wp2_with fail
          have hne1 : some H ≠ v.ownBlock := fun e => by have := hG.row.lt _ e.symm; omega
          have hne2 : some wr.heap.size ≠ v.ownBlock := fun e => by have := hG.row.lt _ e.symm; omega
          go_region_law
            (first
              | (go_simp; go_at_call 110; refine (ih l[j] B _ ?_ ?_ ?_ ?_ ?_).mono ?_; omega; omega; omega; exact (hix.alloc (by omega) _).drew; (show B ≤ (wr.alloc _).heap.size); (simp; omega); rintro e w1 ⟨d, rfl, hde, hod, hb1⟩; unfold S.val; have hb1 := below_undrew hb1; have Hde := Lib.hid hde; clear hde; have hlt1 : wr.heap.size < (wr.alloc (.cells #[.int .i64 l[j].k, .int .i64 l[j].n, .string l[j].t, .slice l[j].sa l[j].s.length l[j].sc, .slice l[j].A l[j].l.length l[j].c] 52)).heap.size := (by simp); have x0 := (hb1.cell (p := ⟨wr.heap.size, 0, none⟩) hlt1).trans g0; have x1 := (hb1.cell (p := ⟨wr.heap.size, 1, none⟩) hlt1).trans g1; have x2 := (hb1.cell (p := ⟨wr.heap.size, 2, none⟩) hlt1).trans g2; have x3 := (hb1.cell (p := ⟨wr.heap.size, 3, none⟩) hlt1).trans g3; have x5 := (hb1.cell (p := ⟨wr.heap.size, 4, none⟩) hlt1).trans g4; have x4 := (hb1.cell (p := ⟨H, 4, none⟩) (by simp; omega)).trans al; have hG1 := hGa.below hb1; have hzz := hb1.size; have ne4 : H < w1.heap.size := (by simp at hzz; omega); have xf := (hb1.frozen (p := ⟨H, 4, none⟩) (by simp; omega)).trans ((World.frozen?_alloc_old wr _ ⟨H, 4, none⟩ (by simp; omega)).trans uf))
              | ((refine step_append_lies _ (by rfl) _ _ _ (by rfl) W4.heap.size 52 i0 _ 5 80 Try.underlying50 hi0 hz0 hz1 hz2 rfl (by omega) v ds.length (S.cellsL ds) (by rfl) ?_ ⟨w1.heap.size, 0, none⟩ 1 1 d.cells (by rfl) (by rfl) ?_ (scells_one d) (by omega) ?_ ?_ ?_ (w1.heap.size + 1) ?_ ?_); exact (hG1.row.alloc _); exact (show ∀ q u, (#[Value.int .i64 d.k, .int .i64 d.n, .string d.t, .slice d.sa d.s.length d.sc, .slice d.A d.l.length d.c].toList)[q]? = some u → _ from World.news_of_block (heap_alloc_new _ _)); (unfold maxLen; omega); omega; (simp at hzz ⊢; omega); simp; intro g cap w3 hown3 hgr hat hlt3; have y4 := (hgr.cell_far ⟨H, 4, none⟩ (by simp at hzz ⊢; omega) hne1).trans ((World.cell?_alloc_lt w1 _ ⟨H, 4, none⟩ (by simp at hzz ⊢; omega)).trans x4); have y0 := (hgr.cell_far ⟨wr.heap.size, 0, none⟩ (by simp at hzz ⊢; omega) hne2).trans ((World.cell?_alloc_lt w1 _ ⟨wr.heap.size, 0, none⟩ (by simp at hzz ⊢; omega)).trans x0); have y1 := (hgr.cell_far ⟨wr.heap.size, 1, none⟩ (by simp at hzz ⊢; omega) hne2).trans ((World.cell?_alloc_lt w1 _ ⟨wr.heap.size, 1, none⟩ (by simp at hzz ⊢; omega)).trans x1); have y2 := (hgr.cell_far ⟨wr.heap.size, 2, none⟩ (by simp at hzz ⊢; omega) hne2).trans ((World.cell?_alloc_lt w1 _ ⟨wr.heap.size, 2, none⟩ (by simp at hzz ⊢; omega)).trans x2); have y3 := (hgr.cell_far ⟨wr.heap.size, 3, none⟩ (by simp at hzz ⊢; omega) hne2).trans ((World.cell?_alloc_lt w1 _ ⟨wr.heap.size, 3, none⟩ (by simp at hzz ⊢; omega)).trans x3); have y5 := (hgr.cell_far ⟨wr.heap.size, 4, none⟩ (by simp at hzz ⊢; omega) hne2).trans ((World.cell?_alloc_lt w1 _ ⟨wr.heap.size, 4, none⟩ (by simp at hzz ⊢; omega)).trans x5); have yf := (hgr.frozen_far ⟨H, 4, none⟩ (by simp at hzz ⊢; omega) hne1).trans ((World.frozen?_alloc_old w1 _ ⟨H, 4, none⟩ (by simp at hzz ⊢; omega)).trans xf)))
          all_goals
            have hR := sapp_roundB (out := H) hG hHW hz (show w.heap.size ≤ H by omega) hb (by simpa using hod) (by simpa using hb1) hown3 hgr hat hlt3 u3
            have HR := Lib.hid hR
            clear hR hb1 hgr hown3 hG1 hGa
            go_wp2_with fail
            obtain ⟨r1, r2, r3, r4, r5, r6, r7⟩ := HR.out
            refine ⟨⟨j + 1, by omega, by go_num, .slice (some ⟨g, 0, none⟩) (ds.length + 1) cap, ds ++ [d], ?_, by simp; omega, by simp; omega, r1, (r2 0 (by omega)).trans u0, (r2 1 (by omega)).trans u1, (r2 2 (by omega)).trans u2, (r2 3 (by omega)).trans uS, r3, (r4 4).trans uf, by omega, r6, fun b hb1 hb2 => (r7 b hb1 hb2).trans (HF.out b hb1 hb2)⟩, by simp [intOf]; omega⟩
            show _ = _
            rw [List.take_succ_eq_append_getElem hlt, S.erL_append, S.mapSL_append, HE.out]
            simp [S.erL, S.mapSL, Hde.out]
        · have e1 : l.take j = l := List.take_of_length_le (by omega)
          have he := HE.out
          rw [e1] at he
          have He := Lib.hid he
          clear e1 he
          obtain ⟨z0, z1, z2, z3, z4⟩ := r4.keep (HF.out (w.heap.size + 1) (by omega) (by omega))
          have zf := rf4.keep (HF.out (w.heap.size + 1) (by omega) (by omega))
          have zf0 := zf.fr 0
          have zf1 := zf.fr 1
          have zf2 := zf.fr 2
          have zf3 := zf.fr 3
          have zf4 := zf.fr 4
          have ow := ow4.keep (w' := wr) fun b hb => HF.out b (ow4.inn.blk_lt b hb) (owH b hb)
          have owlt := ow4.inn.blk_lt
          simp only [S.k, S.n, S.t, S.sa, S.sc, S.s, S.A, S.l, S.c] at z0 z1 z2 z3 z4
          have hG0 := hG
          obtain ⟨hrow, hown, hap⟩ := hG
          rcases hrow with ⟨hr1, ⟨rfl, hr2⟩ | ⟨g, cap, cur, rfl, hr2, hr3, hr4, hr5, hr6, hr7⟩⟩
          · have hds : ds = [] := List.eq_nil_of_length_eq_zero hr2
            subst hds
            go_wp2_with fail
            refine bodyPost_ret (v := .agg #[.int .i64 k, .int .i64 n, .string t, .slice A2 (sx).length c2, .slice none 0 0]) (by simp [results, Try.results110, go_sem, z0, z1, z2, z3, z4]) rfl ⟨.mk k n t A2 c2 (sx) none 0 [], rfl, ?_, ?_, ?_⟩
            · rw [K.out, ← He.out]; rfl
            · have h1 : (S.mk k n t A2 c2 (sx) none 0 []).Own (w.heap.size + 1 + 1) wr.heap.size wr := S.Own.of_parts (ow.wide (Nat.le_refl _) hz) S.OwnL.nil_ ⟨Nat.le_refl _, Nat.zero_le _, hcap.2.2⟩ (fun h => absurd rfl h) (fun b hb => by simp [S.blksL])
              simp only [World.size_setCell]
              exact (((((h1.far (by simp <;> omega) _).far (by simp <;> omega) _).far (by simp <;> omega) _).far (by simp <;> omega) _).far (by simp <;> omega) _).wide (by omega) (Nat.le_refl _)
            · exact ((((hb.setCell (by simp) _).setCell (by simp) _).setCell (by simp) _).setCell (by simp) _).setCell (by simp) _
          · have hcells := hG0.row.cells (g := g) rfl
            have hblk : D.Blk wr g 52 cur := hr3
            have hglt := hblk.lt
            go_wp2_with fail
            refine bodyPost_ret (v := .agg #[.int .i64 k, .int .i64 n, .string t, .slice A2 (sx).length c2, .slice (some ⟨g, 0, none⟩) ds.length cap]) (by simp [results, Try.results110, go_sem, z0, z1, z2, z3, z4]) rfl ⟨.mk k n t A2 c2 (sx) (some ⟨g, 0, none⟩) cap ds, rfl, ?_, ?_, ?_⟩
            · rw [K.out]; simp only [S.er, He.out]
            · have h1 : (S.mk k n t A2 c2 (sx) (some ⟨g, 0, none⟩) cap ds).Own (w.heap.size + 1 + 1) wr.heap.size wr := S.Own.of_parts (ow.wide (Nat.le_refl _) hz) (hown.wide (by omega) (Nat.le_refl _)) ⟨hr4, hr5, hcap.2.2⟩ (fun _ => ⟨g, rfl, hap g rfl, by omega, hglt, fun o => hblk.frozen o, fun j u hu => by
                have := hcells j u hu
                have e : (⟨g, 0, none⟩ : Addr).add j = ⟨g, j, none⟩ := by unfold Addr.add; split <;> simp_all
                rwa [e] at this, fun b hb => by have := owlt b hb; omega⟩) (fun b hb hm => by have := owlt b hb; have := hown.lo_ b hm; omega)
              simp only [World.size_setCell]
              exact (((((h1.far (by simp <;> omega) _).far (by simp <;> omega) _).far (by simp <;> omega) _).far (by simp <;> omega) _).far (by simp <;> omega) _).wide (by omega) (Nat.le_refl _)
            · exact ((((hb.setCell (by simp) _).setCell (by simp) _).setCell (by simp) _).setCell (by simp) _).setCell (by simp) _

end Go.Proofs.Ytiopophoioiafaa
