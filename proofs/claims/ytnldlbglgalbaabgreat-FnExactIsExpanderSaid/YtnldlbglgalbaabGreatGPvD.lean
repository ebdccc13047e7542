/-
  Rows of syntax objects that grow, their variable further below.
-/
import Derived.Test.YtnldlbglgalbaabGreatGSyn
import Derived.Test.YtnldlbglgalbaabGreatGPvB
import Derived.Test.YtnldlbglgalbaabGreatScSets
import Derived.Deep.DeepCutAuto
import Derived.Test.YtnldlbglgalbaabGreatScTops
import Derived.Test.YtnldlbglgalbaabGreatGElT
import Derived.Test.YtnldlbglgalbaabGreatGPvC
import Derived.Test.YtnldlbglgalbaabGreatSSame
import Derived.Test.YtnldlbglgalbaabGreatSMarks
import Derived.Test.YtnldlbglgalbaabGreatSIdent
import Derived.Test.YtnldlbglgalbaabGreatIsEl
import Derived.Deep.RegionHeld3
namespace Go.Proofs.YtnldlbglgalbaabGreat
open Go.RowKit
/-- A round of 'out.Items = append(out.Items, ..)', out's block just below base. -/
theorem sapp_roundB {B out base g cap : Nat} {w wr w1 w3 : World} {v u : Value} {ds : List S} {d : S} {ox o : Obj} (hG : GrowS base wr v ds) (hob : out < base) (hout : base ≤ wr.heap.size) (hBo : B ≤ out) (hb : Below B w wr)
    (hod : d.Own (wr.heap.size + 1) w1.heap.size w1) (hb1 : Below (wr.heap.size + 1) (wr.alloc ox) w1)
    (hown : w3.ownsRow base 43 5 (.slice (some ⟨g, 0, none⟩) (ds.length + 1) cap) (ds.length + 1) (S.cellsL ds ++ d.cells)) (hgr : (w1.alloc o).grownBy w3 v.ownBlock) (hat : v.ownBlock = some g ∨ g = w1.heap.size + 1) (hlt : g < w3.heap.size)
    (hc3 : wr.cell? ⟨out, 4, none⟩ = some u) :
    GrowS base (w3.setCell ⟨out, 4, none⟩ (.slice (some ⟨g, 0, none⟩) (ds.length + 1) cap)) (.slice (some ⟨g, 0, none⟩) (ds.length + 1) cap) (ds ++ [d]) ∧
    (∀ q, q ≠ 4 → (w3.setCell ⟨out, 4, none⟩ (.slice (some ⟨g, 0, none⟩) (ds.length + 1) cap)).cell? ⟨out, q, none⟩ = wr.cell? ⟨out, q, none⟩) ∧
    (w3.setCell ⟨out, 4, none⟩ (.slice (some ⟨g, 0, none⟩) (ds.length + 1) cap)).cell? ⟨out, 4, none⟩ = some (.slice (some ⟨g, 0, none⟩) (ds.length + 1) cap) ∧
    (∀ q, (w3.setCell ⟨out, 4, none⟩ (.slice (some ⟨g, 0, none⟩) (ds.length + 1) cap)).frozen? ⟨out, q, none⟩ = wr.frozen? ⟨out, q, none⟩) ∧
    wr.heap.size ≤ (w3.setCell ⟨out, 4, none⟩ (.slice (some ⟨g, 0, none⟩) (ds.length + 1) cap)).heap.size ∧ Below B w (w3.setCell ⟨out, 4, none⟩ (.slice (some ⟨g, 0, none⟩) (ds.length + 1) cap)) ∧ (∀ k, k < base → k ≠ out → (w3.setCell ⟨out, 4, none⟩ (.slice (some ⟨g, 0, none⟩) (ds.length + 1) cap)).heap[k]? = wr.heap[k]?) := by
  have hbw : Below wr.heap.size wr w1 := ((Below.refl _ _).alloc (Nat.le_refl _) ox).trans (hb1.mono (by omega))
  have hz1 := hbw.size
  have hz3 := hgr.size
  simp only [World.size_alloc] at hz3
  have hne : ∀ q, v.ownBlock = some q → base ≤ q := fun q hq => (hG.row.lt q hq).1
  have hno : some out ≠ v.ownBlock := fun e => by have := hne out e.symm; omega
  have hh : w3.heap[out]? = wr.heap[out]? := by
    rw [hgr.block out (by simp; omega) hno]
    exact (Below.heap_alloc _ _ _ (by omega)).trans (hbw.block out (by omega))
  have cf : ∀ q, w3.cell? ⟨out, q, none⟩ = wr.cell? ⟨out, q, none⟩ := fun q => World.cell?_of_block (a := ⟨out, q, none⟩) hh
  have ff : ∀ q, w3.frozen? ⟨out, q, none⟩ = wr.frozen? ⟨out, q, none⟩ := fun q => World.frozen?_of_block (a := ⟨out, q, none⟩) hh
  have hG3 := hG.snoc (by omega) rfl hod hbw hown hgr hat hlt
  have e1 : (ds ++ [d]).length = ds.length + 1 := by simp
  rw [e1] at hG3
  have hb3 : Below B w w3 := ((hb.trans (hbw.mono (by omega))).alloc (by omega) o).grown hgr (by simp; omega) (fun k hk => by have := hne k hk; omega)
  refine ⟨hG3.far (by simpa using hob) _, fun q hq => ?_, ?_, fun q => ?_, by simp; omega, hb3.setCell (by simpa using hBo) _, fun k hk hko => ?_⟩
  · rw [icell_ne _ _ _ _ _ hq]; exact cf q
  · exact icell_eq ((cf 4).trans hc3)
  · rw [World.frozen?_setCell]; exact ff q
  · rw [Below.heap_setCell _ _ _ _ (by simpa using hko), hgr.block k (by simp; omega) (fun e => by have := hne k e.symm; omega)]
    exact (Below.heap_alloc _ _ _ (by omega)).trans (hbw.block k (by omega))

/-- Every cell of the variable stored. -/
theorem sbox_set {w : World} {b : Nat} {x : S} (d : S) (h : S.Box w b x) : S.Box (((((w.setCell ⟨b, 0, none⟩ (.int .i64 d.k)).setCell ⟨b, 1, none⟩ (.int .i64 d.n)).setCell ⟨b, 2, none⟩ (.string d.t)).setCell ⟨b, 3, none⟩ (.slice d.sa d.s.length d.sc)).setCell ⟨b, 4, none⟩ (.slice d.A d.l.length d.c)) b d := by
  have N := fun (w : World) (q r : Nat) (u : Value) (h : q ≠ r) => icell_ne w b q r u h
  refine ⟨?_, ?_, ?_, ?_, ?_⟩
  · rw [N _ 0 4 _ (by omega), N _ 0 3 _ (by omega), N _ 0 2 _ (by omega), N _ 0 1 _ (by omega)]; exact icell_eq h.c0
  · rw [N _ 1 4 _ (by omega), N _ 1 3 _ (by omega), N _ 1 2 _ (by omega)]; exact icell_eq ((N _ 1 0 _ (by omega)).trans h.c1)
  · rw [N _ 2 4 _ (by omega), N _ 2 3 _ (by omega)]; exact icell_eq ((N _ 2 1 _ (by omega)).trans ((N _ 2 0 _ (by omega)).trans h.c2))
  · rw [N _ 3 4 _ (by omega)]; exact icell_eq ((N _ 3 2 _ (by omega)).trans ((N _ 3 1 _ (by omega)).trans ((N _ 3 0 _ (by omega)).trans h.c3)))
  · exact icell_eq ((N _ 4 3 _ (by omega)).trans ((N _ 4 2 _ (by omega)).trans ((N _ 4 1 _ (by omega)).trans ((N _ 4 0 _ (by omega)).trans h.c4))))
theorem sbox_heap (w : World) (b k : Nat) (u0 u1 u2 u3 u4 : Value) (h : k ≠ b) : (((((w.setCell ⟨b, 0, none⟩ u0).setCell ⟨b, 1, none⟩ u1).setCell ⟨b, 2, none⟩ u2).setCell ⟨b, 3, none⟩ u3).setCell ⟨b, 4, none⟩ u4).heap[k]? = w.heap[k]? := by
  have N := fun (w : World) (r : Nat) (u : Value) => Below.heap_setCell w ⟨b, r, none⟩ u k (by simpa using h)
  rw [N, N, N, N, N]
theorem sbox_far (w : World) (b : Nat) (u0 u1 u2 u3 u4 : Value) (c q : Nat) (h : c ≠ b) : (((((w.setCell ⟨b, 0, none⟩ u0).setCell ⟨b, 1, none⟩ u1).setCell ⟨b, 2, none⟩ u2).setCell ⟨b, 3, none⟩ u3).setCell ⟨b, 4, none⟩ u4).cell? ⟨c, q, none⟩ = w.cell? ⟨c, q, none⟩ :=
  World.cell?_of_block (a := ⟨c, q, none⟩) (sbox_heap w b c u0 u1 u2 u3 u4 h)
end Go.Proofs.YtnldlbglgalbaabGreat

namespace Go.Proofs.YtnldlbglgalbaabGreat
open Go.RowKit

/-- What operation o does to the scopes of a symbol. -/
def opF (o N : Int) (s : List Int) : List Int :=
  if o = 1 then putL N s else if o = 2 then (if s.contains N then cutL N s else putL N s) else if o = 3 then nousesL s else s

/-- The variables behind the first assignment. -/
def MidS (w : World) (k n : Int) (t : ByteArray) (sa : Option Addr) (sc : Nat) (s : List Int) (A : Option Addr) (c len : Nat) (s7 : Value) (wx : World) : Prop :=
  ∃ (H : Nat) (A' : Option Addr) (c' : Nat), s7 = .pointer (some ⟨H, 0, none⟩) ∧ S.Box wx H (.mk k n t A' c' s none 0 []) ∧ Free wx H ∧ IOwn (w.heap.size + 1 + 1) wx.heap.size wx A' c' s ∧ (∀ b ∈ iblk A' s, b ≠ H) ∧
    w.heap.size + 1 < H ∧ H < wx.heap.size ∧ Below w.heap.size w wx ∧ wx.cell? ⟨w.heap.size, 0, none⟩ = some (.int .i64 k) ∧ wx.cell? ⟨w.heap.size, 3, none⟩ = some (.slice sa s.length sc) ∧ wx.cell? ⟨w.heap.size, 4, none⟩ = some (.slice A len c) ∧
    S.Box wx (w.heap.size + 1) (.mk 0 0 ⟨#[]⟩ none 0 [] none 0 []) ∧ Free wx (w.heap.size + 1)
/-- The variables behind the switch. -/
def MidT (w : World) (H : Nat) (k n : Int) (t : ByteArray) (sx : List Int) (A : Option Addr) (c len : Nat) (s7 : Value) (wx : World) : Prop :=
  ∃ (A' : Option Addr) (c' : Nat), s7 = .pointer (some ⟨H, 0, none⟩) ∧ S.Box wx H (.mk k n t A' c' sx none 0 []) ∧ Free wx H ∧ IOwn (w.heap.size + 1 + 1) wx.heap.size wx A' c' sx ∧ (∀ b ∈ iblk A' sx, b ≠ H) ∧
    w.heap.size + 1 < H ∧ H < wx.heap.size ∧ Below w.heap.size w wx ∧ wx.cell? ⟨w.heap.size, 4, none⟩ = some (.slice A len c) ∧
    S.Box wx (w.heap.size + 1) (.mk 0 0 ⟨#[]⟩ none 0 [] none 0 []) ∧ Free wx (w.heap.size + 1)

def L2MOk (o N : Int) (m : Nat) : Prop := ∀ (d : S) (B : Nat) (w : World), d.size ≤ m → m ≤ 2000000 → d.bulk ≤ 2000000 → d.In w B → B ≤ w.heap.size → Calls Tryz.prog 99 #[d.val, .int .i64 o, .int .i64 N] w (RetS (S.mapS (opF o N) d) w)

set_option maxRecDepth 100000 in
set_option maxHeartbeats 4000000 in
theorem specMap_any (o N : Int) (ho : o = 0 ∨ o = 1 ∨ o = 2 ∨ o = 3) : ∀ m, L2MOk o N m := by
  intro m
  induction m with
  | zero => intro d B w h; have := d.size_pos; omega
  | succ m ih =>
  intro d B w hm hm2 hbk hin hB
  obtain ⟨k, n, t, sa, sc, s, A, c, l⟩ := d
  have hcap := hin.cap
  simp only [S.l, S.c, S.t] at hcap
  have hbl : s.length ≤ 2000000 ∧ S.bulkL l ≤ 2000000 := by simp only [S.bulk] at hbk; omega
  have hmm : S.sizeL l ≤ m := by simp only [S.size] at hm; omega
  have hll := S.length_le_sizeL l
  obtain ⟨i0, hi0, hz0, hz1, hz2⟩ := info_parts infoS
  have K : Hid (S.mapS (opF o N) (.mk k n t sa sc s A c l) = .mk k n t none 0 (if k = 1 then (opF o N) s else s) none 0 (S.mapSL (opF o N) l)) := rfl
  obtain ⟨W1, hW1⟩ : ∃ W1, W1 = w.alloc (.cells #[.int .i64 k, .int .i64 n, .string t, .slice sa s.length sc, .slice A l.length c] 43) := ⟨_, rfl⟩
  obtain ⟨W2, hW2⟩ : ∃ W2, W2 = W1.alloc (.cells #[.int .i64 0, .int .i64 0, .string ⟨#[]⟩, .slice none 0 0, .slice none 0 0] 43) := ⟨_, rfl⟩
  have z1 : W1.heap.size = w.heap.size + 1 := by rw [hW1]; simp
  have B1 : Below w.heap.size w W1 := by rw [hW1]; exact (Below.refl _ _).alloc (Nat.le_refl _) _
  have z2 : W2.heap.size = w.heap.size + 1 + 1 := by rw [hW2]; simp [z1]
  have B2 : Below W1.heap.size W1 W2 := by rw [hW2]; exact (Below.refl _ _).alloc (Nat.le_refl _) _
  have x0 : S.Box W1 w.heap.size (.mk k n t sa sc s A c l) := by rw [hW1]; exact S.Box.new w (.mk k n t sa sc s A c l) _
  have x0 := x0.below B2 (by omega)
  have r0 : S.Box W2 (w.heap.size + 1) (.mk 0 0 ⟨#[]⟩ none 0 [] none 0 []) := by rw [hW2, ← z1]; exact S.Box.new W1 (.mk 0 0 ⟨#[]⟩ none 0 [] none 0 []) _
  have rf : Free W2 (w.heap.size + 1) := by rw [hW2, ← z1]; exact Free.new _ _ _
  have b3 : Below w.heap.size w W2 := (B1.trans (B2.mono (by omega)))
  have hi2 := hin.below (b3.mono hB)
  obtain ⟨p0, p1, p2, p3, p4⟩ := x0
  simp only [S.k, S.n, S.t, S.sa, S.sc, S.s, S.A, S.c] at p0 p1 p2 p3 p4
  have el : (S.mk k n t sa sc s A c l).l = l := rfl
  rw [el] at p4
  obtain ⟨W3, hW3⟩ : ∃ W3, W3 = W2.alloc (.cells #[.int .i64 0, .int .i64 0, .string ⟨#[]⟩, .slice none 0 0, .slice none 0 0] 43) := ⟨_, rfl⟩
  have z3 : W3.heap.size = w.heap.size + 1 + 1 + 1 := by rw [hW3]; simp [z2]
  have B3 : Below W2.heap.size W2 W3 := by rw [hW3]; exact (Below.refl _ _).alloc (Nat.le_refl _) _
  have yz : S.Box W3 (w.heap.size + 1 + 1) (.mk 0 0 ⟨#[]⟩ none 0 [] none 0 []) := by rw [hW3, ← z2]; exact S.Box.new W2 (.mk 0 0 ⟨#[]⟩ none 0 [] none 0 []) _
  have yzf : Free W3 (w.heap.size + 1 + 1) := by rw [hW3, ← z2]; exact Free.new _ _ _
  have wlt2 : w.heap.size < W2.heap.size := by omega
  have pz0 := (B3.cell (p := ⟨w.heap.size, 0, none⟩) wlt2).trans p0
  have pz1 := (B3.cell (p := ⟨w.heap.size, 1, none⟩) wlt2).trans p1
  have pz2 := (B3.cell (p := ⟨w.heap.size, 2, none⟩) wlt2).trans p2
  have pz3 := (B3.cell (p := ⟨w.heap.size, 3, none⟩) wlt2).trans p3
  have pz4 := (B3.cell (p := ⟨w.heap.size, 4, none⟩) wlt2).trans p4
  have hsiB := hi2.scopes
  simp only [S.sa, S.sc, S.s] at hsiB
  have r0B := r0
  have rfB := rf
  have b3B := b3
  have r0 := r0.below B3 (by omega)
  have rf := rf.below B3 (by omega)
  have b3 := b3.trans (B3.mono (by omega))
  have hi2 := hin.below (b3.mono hB)
  have hsi2 := hi2.scopes
  simp only [S.sa, S.sc, S.s] at hsi2
  simp only [S.val, S.k, S.n, S.t, S.sa, S.sc, S.s, S.A, S.l, S.c]
  obtain ⟨sx, hsx⟩ : ∃ sx : List Int, sx = if k = 1 then opF o N s else s := ⟨_, rfl⟩
  rw [← hsx] at K
  have Hsx := Lib.hid hsx
  clear hsx
  clear hm hbk
  go_enter Tryz.func99, Tryz.ntmps99
  go_wp2_with fail
  rw [← hW1, ← hW2]
  clear hW1 hW2 B1 B2
  go_cut [7] (fun s7 wx => MidS w k n t sa sc s A c l.length s7 wx)
  case first =>
    go_region_held3 (fun w' => w'.cell? ⟨w.heap.size, 0, none⟩ = some (.int .i64 k) ∧ w'.cell? ⟨w.heap.size, 1, none⟩ = some (.int .i64 n) ∧ w'.cell? ⟨w.heap.size, 2, none⟩ = some (.string t) ∧ w'.cell? ⟨w.heap.size, 3, none⟩ = some (.slice sa s.length sc)) (first | go_keep | exact ⟨(sbox_far _ _ _ _ _ _ _ _ _ (by omega)).trans p0', (sbox_far _ _ _ _ _ _ _ _ _ (by omega)).trans p1', (sbox_far _ _ _ _ _ _ _ _ _ (by omega)).trans p2', (sbox_far _ _ _ _ _ _ _ _ _ (by omega)).trans p3'⟩) (first | (go_at_call 129; rw [← hW3]; refine (l2Ints_any sa sc s B _ hbl.1 hsi2.drew ?_).mono ?_; (show B ≤ W3.heap.size); omega; have armA : True := trivial; rintro e w1 ⟨A', c', rfl, hown1, hb1⟩; have hb1 : Below W3.heap.size W3 w1 := below_undrew hb1; have hlt0 : w.heap.size < W3.heap.size := (by omega); have p0' := (hb1.cell (p := ⟨w.heap.size, 0, none⟩) hlt0).trans pz0; have p1' := (hb1.cell (p := ⟨w.heap.size, 1, none⟩) hlt0).trans pz1; have p2' := (hb1.cell (p := ⟨w.heap.size, 2, none⟩) hlt0).trans pz2; have p3' := (hb1.cell (p := ⟨w.heap.size, 3, none⟩) hlt0).trans pz3; have p4' := (hb1.cell (p := ⟨w.heap.size, 4, none⟩) hlt0).trans pz4; have hlt2 : w.heap.size + 1 + 1 < W3.heap.size := (by omega); have yy := yz.below hb1 hlt2; have yyf := yzf.below hb1 hlt2; obtain ⟨y0, y1, y2, y3, y4⟩ := yy; have h0 := yyf.fr 0; have h1 := yyf.fr 1; have h2 := yyf.fr 2; have h3 := yyf.fr 3; have h4 := yyf.fr 4) | (go_at_call 129; refine (l2Ints_any sa sc s B _ hbl.1 hsiB.drew ?_).mono ?_; (show B ≤ W2.heap.size); omega; have armB : True := trivial; rintro e w1 ⟨A', c', rfl, hown1, hb1⟩; have hb1 : Below W2.heap.size W2 w1 := below_undrew hb1; have hlt0 : w.heap.size < W2.heap.size := (by omega); have p0' := (hb1.cell (p := ⟨w.heap.size, 0, none⟩) hlt0).trans p0; have p1' := (hb1.cell (p := ⟨w.heap.size, 1, none⟩) hlt0).trans p1; have p2' := (hb1.cell (p := ⟨w.heap.size, 2, none⟩) hlt0).trans p2; have p3' := (hb1.cell (p := ⟨w.heap.size, 3, none⟩) hlt0).trans p3; have p4' := (hb1.cell (p := ⟨w.heap.size, 4, none⟩) hlt0).trans p4))
    · have hown1 : IOwn W2.heap.size w1.heap.size w1 A' c' s := hown1
      have zz := hb1.size
      have b4 := b3B.trans (hb1.mono (by omega))
      have r1 := r0B.below hb1 (by omega)
      have rf1 := rfB.below hb1 (by omega)
      obtain ⟨W5, hW5⟩ : ∃ W5, W5 = w1.alloc (.cells #[.int .i64 k, .int .i64 n, .string t, .slice A' s.length c', .slice none 0 0] 43) := ⟨_, rfl⟩
      rw [← hW5]
      have z5 : W5.heap.size = w1.heap.size + 1 := by rw [hW5]; simp
      have BB : Below w1.heap.size w1 W5 := by rw [hW5]; exact (Below.refl _ _).alloc (Nat.le_refl _) _
      have y0 : S.Box W5 w1.heap.size (.mk k n t A' c' s none 0 []) := by rw [hW5]; exact S.Box.new w1 (.mk k n t A' c' s none 0 []) _
      have yf : Free W5 w1.heap.size := by rw [hW5]; exact Free.new _ _ _
      have wlt1 : w.heap.size < w1.heap.size := by omega
      have hD : MidS w k n t sa sc s A c l.length (.pointer (some ⟨w1.heap.size, 0, none⟩)) W5 := ⟨w1.heap.size, A', c', rfl, y0, yf, (hown1.below BB).wide (by omega) (by omega), fun b hb => by have := hown1.inn.blk_lt b hb; omega, by omega, by omega, b4.trans (BB.mono (by omega)), (BB.cell (p := ⟨w.heap.size, 0, none⟩) wlt1).trans p0', (BB.cell (p := ⟨w.heap.size, 3, none⟩) wlt1).trans p3', (BB.cell (p := ⟨w.heap.size, 4, none⟩) wlt1).trans p4', r1.below BB (by omega), rf1.below BB (by omega)⟩
      have HD := Lib.hid hD
      clear hD hW5 y0 yf BB r1 rf1 b4 r0 rf r0B rfB b3B hsiB hb1 b3 hown1 hi2 hsi2 hW3 yz yzf
      go_wp2_with fail
      go_meet
      exact HD.out
    · have yy := yz.below hb1 (by omega)
      have yyf := yzf.below hb1 (by omega)
      have hown1 : IOwn W3.heap.size w1.heap.size w1 A' c' s := hown1
      have zz := hb1.size
      have b4 := b3.trans (hb1.mono (by omega))
      have r1 := r0.below hb1 (by omega)
      have rf1 := rf.below hb1 (by omega)
      obtain ⟨H, hH⟩ : ∃ H, H = w.heap.size + 1 + 1 := ⟨_, rfl⟩
      rw [← hH] at yy yyf ⊢
      obtain ⟨W5, hW5⟩ : ∃ W5, W5 = ((((w1.setCell ⟨H, 0, none⟩ (.int .i64 k)).setCell ⟨H, 1, none⟩ (.int .i64 n)).setCell ⟨H, 2, none⟩ (.string t)).setCell ⟨H, 3, none⟩ (.slice A' s.length c')).setCell ⟨H, 4, none⟩ (.slice none 0 0) := ⟨_, rfl⟩
      rw [← hW5]
      have z5 : W5.heap.size = w1.heap.size := by rw [hW5]; simp
      have hn5 : ∀ b, b ≠ H → W5.heap[b]? = w1.heap[b]? := fun b hb => by rw [hW5]; exact sbox_heap _ _ _ _ _ _ _ _ (by omega)
      have y0 : S.Box W5 H (.mk k n t A' c' s none 0 []) := by rw [hW5]; exact sbox_set (.mk k n t A' c' s none 0 []) yy
      have yf : Free W5 H := by rw [hW5]; exact ((((yyf.set_ _ _).set_ _ _).set_ _ _).set_ _ _).set_ _ _
      have wH : w.heap.size ≠ H := by omega
      have b5 : Below w.heap.size w W5 := by rw [hW5]; exact ((((b4.setCell (by simp <;> omega) _).setCell (by simp <;> omega) _).setCell (by simp <;> omega) _).setCell (by simp <;> omega) _).setCell (by simp <;> omega) _
      have owH : ∀ b ∈ iblk A' s, b ≠ H := fun b hb => by have := hown1.lo_ b hb; omega
      have hD : MidS w k n t sa sc s A c l.length (.pointer (some ⟨H, 0, none⟩)) W5 := ⟨H, A', c', rfl, y0, yf, by rw [z5]; exact (hown1.keep fun b hb => hn5 b (owH b hb)).wide (by omega) (Nat.le_refl _), owH, by omega, by omega, b5, (World.cell?_of_block (a := ⟨w.heap.size, 0, none⟩) (hn5 _ wH)).trans p0', (World.cell?_of_block (a := ⟨w.heap.size, 3, none⟩) (hn5 _ wH)).trans p3', (World.cell?_of_block (a := ⟨w.heap.size, 4, none⟩) (hn5 _ wH)).trans p4', r1.keep (hn5 _ (show w.heap.size + 1 ≠ H by omega)), rf1.keep (hn5 _ (show w.heap.size + 1 ≠ H by omega))⟩
      have HD := Lib.hid hD
      clear hD hW5 y0 yf hn5 r1 rf1 b4 b5 owH yy yyf hH r0 rf r0B rfB b3B hsiB hb1 b3 hown1 hi2 hsi2 hW3 yz yzf
      go_wp2_with fail
      go_meet
      exact HD.out
  case rest =>
    obtain ⟨H, A', c', rfl, y0, yf, ow5, owH5, hwH, hHW5, b5, p0', p3', p4', r5, rf5⟩ := hcut
    clear p0 p1 p2 p3 p4 pz0 pz1 pz2 pz3 pz4 r0 rf r0B rfB b3B hsiB b3 hi2 hsi2 hW3 yz yzf
    obtain ⟨W5, hW5⟩ : ∃ W5 : World, W5 = wc := ⟨_, rfl⟩
    subst hW5
    have hi3 := (hin.below (b5.mono hB)).scopes
    simp only [S.sa, S.sc, S.s] at hi3
    go_upto_if 22 with fail
    go_cut [7] (fun s7 wx => MidT w H k n t sx A c l.length s7 wx)
    case first =>
      have hD0 : ∀ hx : sx = s, MidT w H k n t sx A c l.length (.pointer (some ⟨H, 0, none⟩)) W5 := fun hx => by
        rw [hx]; exact ⟨A', c', rfl, y0, yf, ow5, owH5, hwH, hHW5, b5, p4', r5, rf5⟩
      have hD1 : ∀ (w2 : World) (A2 : Option Addr) (c2 : Nat), IOwn W5.heap.size w2.heap.size w2 A2 c2 sx → Below W5.heap.size W5 w2 → MidT w H k n t sx A c l.length (.pointer (some ⟨H, 0, none⟩)) (w2.setCell ⟨H, 3, none⟩ (.slice A2 sx.length c2)) := fun w2 A2 c2 hown2 hb2 => by
        have zz2 := hb2.size
        obtain ⟨q0, q1, q2, q3, q4⟩ := y0.below hb2 (by omega)
        have hne : ∀ b, b ≠ H → (w2.setCell ⟨H, 3, none⟩ (.slice A2 sx.length c2)).heap[b]? = w2.heap[b]? := fun b hb => Below.heap_setCell _ _ _ _ (by simpa using hb)
        have owH : ∀ b ∈ iblk A2 sx, b ≠ H := fun b hb => by have := hown2.lo_ b hb; omega
        exact ⟨A2, c2, rfl, ⟨(icell_ne _ _ _ _ _ (by omega)).trans q0, (icell_ne _ _ _ _ _ (by omega)).trans q1, (icell_ne _ _ _ _ _ (by omega)).trans q2, icell_eq q3, (icell_ne _ _ _ _ _ (by omega)).trans q4⟩, (yf.below hb2 (by omega)).set_ _ _,
          (hown2.keep fun b hb => hne b (owH b hb)).wide (by omega) (by simp), owH, hwH, by simp; omega, (b5.trans (hb2.mono (by omega))).setCell (by simp; omega) _, (World.cell?_of_block (a := ⟨w.heap.size, 4, none⟩) (hne _ (show w.heap.size ≠ H by omega))).trans ((hb2.cell (p := ⟨w.heap.size, 4, none⟩) (show w.heap.size < W5.heap.size by omega)).trans p4'),
          (r5.below hb2 (by omega)).keep (hne _ (show w.heap.size + 1 ≠ H by omega)), (rf5.below hb2 (by omega)).keep (hne _ (show w.heap.size + 1 ≠ H by omega))⟩
      have HD0 := Lib.hid hD0
      have HD1 := Lib.hid hD1
      clear hD0 hD1
      by_cases hk1 : k = 1
      · subst hk1
        rcases ho with rfl | rfl | rfl | rfl
        · have hx : sx = s := by rw [Hsx.out]; rfl
          have HX := Lib.hid hx
          clear hx
          go_wp2_with fail
          go_meet
          exact HD0.out HX.out
        · have hx : sx = opF 1 N s := by rw [Hsx.out]; rfl
          have hx2 : opF 1 N s = putL N s := rfl
          rw [hx2] at hx
          have HX := Lib.hid hx
          clear hx hx2
          have hi3W := hi3.more (show B ≤ W5.heap.size by have := b5.size; omega)
          have q3 := y0.c3
          have g3 := yf.fr 3
          simp only [S.sa, S.sc, S.s] at q3
          go_wp2_with fail
          refine (l2Put_any sa sc s N W5.heap.size _ hbl.1 hi3W (Nat.le_refl _)).mono ?_
          rintro e w2 ⟨A2, c2, rfl, hown2, hb2⟩
          have q3 := (hb2.cell (p := ⟨H, 3, none⟩) hHW5).trans q3
          have g3 := (hb2.frozen (p := ⟨H, 3, none⟩) hHW5).trans g3
          rw [← HX.out] at hown2 ⊢
          have hD := HD1.out w2 A2 c2 hown2 hb2
          have HD := Lib.hid hD
          clear hD hown2 hb2
          go_wp2_with fail
          go_meet
          exact HD.out
        · have hx : sx = opF 2 N s := by rw [Hsx.out]; rfl
          have hx2 : opF 2 N s = (if s.contains N then cutL N s else putL N s) := rfl
          rw [hx2] at hx
          have HX := Lib.hid hx
          clear hx hx2
          have hi3W := hi3.more (show B ≤ W5.heap.size by have := b5.size; omega)
          have q3 := y0.c3
          have g3 := yf.fr 3
          simp only [S.sa, S.sc, S.s] at q3
          go_wp2_with fail
          refine (l2Flip_any sa sc s N W5.heap.size _ hbl.1 hi3W (Nat.le_refl _)).mono ?_
          rintro e w2 ⟨A2, c2, rfl, hown2, hb2⟩
          have q3 := (hb2.cell (p := ⟨H, 3, none⟩) hHW5).trans q3
          have g3 := (hb2.frozen (p := ⟨H, 3, none⟩) hHW5).trans g3
          rw [← HX.out] at hown2 ⊢
          have hD := HD1.out w2 A2 c2 hown2 hb2
          have HD := Lib.hid hD
          clear hD hown2 hb2
          go_wp2_with fail
          go_meet
          exact HD.out
        · have hx : sx = opF 3 N s := by rw [Hsx.out]; rfl
          have hx2 : opF 3 N s = nousesL s := rfl
          rw [hx2] at hx
          have HX := Lib.hid hx
          clear hx hx2
          have hi3W := hi3.more (show B ≤ W5.heap.size by have := b5.size; omega)
          have q3 := y0.c3
          have g3 := yf.fr 3
          simp only [S.sa, S.sc, S.s] at q3
          go_wp2_with fail
          refine (l2NoUses_any sa sc s W5.heap.size _ hbl.1 hi3W (Nat.le_refl _)).mono ?_
          rintro e w2 ⟨A2, c2, rfl, hown2, hb2⟩
          have q3 := (hb2.cell (p := ⟨H, 3, none⟩) hHW5).trans q3
          have g3 := (hb2.frozen (p := ⟨H, 3, none⟩) hHW5).trans g3
          rw [← HX.out] at hown2 ⊢
          have hD := HD1.out w2 A2 c2 hown2 hb2
          have HD := Lib.hid hD
          clear hD hown2 hb2
          go_wp2_with fail
          go_meet
          exact HD.out
      · have hx : sx = s := by rw [Hsx.out, if_neg hk1]
        have HX := Lib.hid hx
        clear hx
        have hkb : (k == 1) = false := by simp [hk1]
        go_wp2_with fail
        go_meet
        exact HD0.out HX.out
    case rest =>
      obtain ⟨A2, c2, rfl, y4, yf4, ow4, owH, hwH', hHW, b4, p4'', r4, rf4⟩ := hcut
      clear ow5 owH5 r5 rf5 b5 p0' p3' p4' y0 yf hi3 hwH'
      obtain ⟨W4, hW4⟩ : ∃ W4 : World, W4 = wc := ⟨_, rfl⟩
      subst hW4
      obtain ⟨o0, o1, o2, o3, o4⟩ := y4
      have of4 := yf4.fr 4
      simp only [S.k, S.n, S.t, S.sa, S.sc, S.s, S.A, S.l, S.c, List.length_nil] at o0 o1 o2 o3 o4
      clear yf4
      have hHW5' : w.heap.size < H := by omega
      go_wp2_with fail
      go_loopw [47] (fun i wr => ∃ j : Nat, j ≤ l.length ∧ i = .int .i64 j ∧ ∃ (v : Value) (ds : List S), Hid (S.erL ds = S.mapSL (opF o N) (l.take j)) ∧ ds.length ≤ j ∧ j ≤ ds.length ∧ GrowS W4.heap.size wr v ds ∧
          wr.cell? ⟨H, 0, none⟩ = some (.int .i64 k) ∧ wr.cell? ⟨H, 1, none⟩ = some (.int .i64 n) ∧ wr.cell? ⟨H, 2, none⟩ = some (.string t) ∧ wr.cell? ⟨H, 3, none⟩ = some (.slice A2 (sx).length c2) ∧ wr.cell? ⟨H, 4, none⟩ = some v ∧
          wr.frozen? ⟨H, 4, none⟩ = false ∧ W4.heap.size ≤ wr.heap.size ∧ Below w.heap.size w wr ∧ (∀ b, b < W4.heap.size → b ≠ H → wr.heap[b]? = W4.heap[b]?)) (fun i _ => l.length - (intOf i).toNat)
      case atStart => exact ⟨0, Nat.zero_le _, rfl, .slice none 0 0, [], by simp [S.erL, S.mapSL, Hid], Nat.le_refl _, Nat.le_refl _, ⟨World.ownsRow_nil _ _ _ _, S.OwnL.nil_, by simp [Value.ownBlock]⟩, o0, o1, o2, o3, o4, of4, Nat.le_refl _, b4, fun _ _ _ => rfl⟩
      case round =>
        clear o0 o1 o2 o3 o4 of4 b4
        obtain ⟨j, hj, rfl, v, ds, HE, hd1, hd2, hG, u0, u1, u2, uS, u3, uf, hz, hb, hfar⟩ := hrel
        have hs2 := hb.size
        have HF := Lib.hid hfar
        clear hfar
        by_cases hlt : j < l.length
        · obtain ⟨b, o, rfl, hblk, c0, c1, c2, c3, c4, hix⟩ := (hin.below (hb.mono hB)).at_ (i := j) (x := l[j]) (List.getElem?_eq_getElem hlt)
          have hsz := S.sizeL_mem (l := l) (List.getElem_mem hlt)
          have hbj := S.bulkL_get l j hlt
          have x0 := S.Box.new wr l[j] 43
          obtain ⟨g0, g1, g2, g3, g4⟩ := x0
          have ne1 : H < wr.heap.size := by omega
          have al : (wr.alloc (.cells #[.int .i64 l[j].k, .int .i64 l[j].n, .string l[j].t, .slice l[j].sa l[j].s.length l[j].sc, .slice l[j].A l[j].l.length l[j].c] 43)).cell? ⟨H, 4, none⟩ = some v := (World.cell?_alloc_lt wr _ _ (show H < wr.heap.size by omega)).trans u3
          have hGa := hG.below ((Below.refl _ _).alloc (Nat.le_refl _) (.cells #[.int .i64 l[j].k, .int .i64 l[j].n, .string l[j].t, .slice l[j].sa l[j].s.length l[j].sc, .slice l[j].A l[j].l.length l[j].c] 43))
          have hlen1 : ds.length ≤ 2000000 := by omega
          have hcol := S.cellsL_length ds
          go_wp2_with fail
          have hne1 : some H ≠ v.ownBlock := fun e => by have := hG.row.lt _ e.symm; omega
          have hne2 : some wr.heap.size ≠ v.ownBlock := fun e => by have := hG.row.lt _ e.symm; omega
          go_region_law
            (first
              | (go_simp; go_at_call 99; refine (ih l[j] B _ ?_ ?_ ?_ ?_ ?_).mono ?_; omega; omega; omega; exact (hix.alloc (by omega) _).drew; (show B ≤ (wr.alloc _).heap.size); (simp; omega); rintro e w1 ⟨d, rfl, hde, hod, hb1⟩; unfold S.val; have hb1 := below_undrew hb1; have Hde := Lib.hid hde; clear hde; have hlt1 : wr.heap.size < (wr.alloc (.cells #[.int .i64 l[j].k, .int .i64 l[j].n, .string l[j].t, .slice l[j].sa l[j].s.length l[j].sc, .slice l[j].A l[j].l.length l[j].c] 43)).heap.size := (by simp); have x0 := (hb1.cell (p := ⟨wr.heap.size, 0, none⟩) hlt1).trans g0; have x1 := (hb1.cell (p := ⟨wr.heap.size, 1, none⟩) hlt1).trans g1; have x2 := (hb1.cell (p := ⟨wr.heap.size, 2, none⟩) hlt1).trans g2; have x3 := (hb1.cell (p := ⟨wr.heap.size, 3, none⟩) hlt1).trans g3; have x5 := (hb1.cell (p := ⟨wr.heap.size, 4, none⟩) hlt1).trans g4; have x4 := (hb1.cell (p := ⟨H, 4, none⟩) (by simp; omega)).trans al; have hG1 := hGa.below hb1; have hzz := hb1.size; have ne4 : H < w1.heap.size := (by simp at hzz; omega); have xf := (hb1.frozen (p := ⟨H, 4, none⟩) (by simp; omega)).trans ((World.frozen?_alloc_old wr _ ⟨H, 4, none⟩ (by simp; omega)).trans uf))
              | ((refine step_append_lies _ (by rfl) _ _ _ (by rfl) W4.heap.size 43 i0 _ 5 80 Tryz.underlying27 hi0 hz0 hz1 hz2 rfl (by omega) v ds.length (S.cellsL ds) (by rfl) ?_ ⟨w1.heap.size, 0, none⟩ 1 1 d.cells (by rfl) (by rfl) ?_ (scells_one d) (by omega) ?_ ?_ ?_ (w1.heap.size + 1) ?_ ?_); exact (hG1.row.alloc _); exact (show ∀ q u, (#[Value.int .i64 d.k, .int .i64 d.n, .string d.t, .slice d.sa d.s.length d.sc, .slice d.A d.l.length d.c].toList)[q]? = some u → _ from World.news_of_block (heap_alloc_new _ _)); (unfold maxLen; omega); omega; (simp at hzz ⊢; omega); simp; intro g cap w3 hown3 hgr hat hlt3; have y4 := (hgr.cell_far ⟨H, 4, none⟩ (by simp at hzz ⊢; omega) hne1).trans ((World.cell?_alloc_lt w1 _ ⟨H, 4, none⟩ (by simp at hzz ⊢; omega)).trans x4); have y0 := (hgr.cell_far ⟨wr.heap.size, 0, none⟩ (by simp at hzz ⊢; omega) hne2).trans ((World.cell?_alloc_lt w1 _ ⟨wr.heap.size, 0, none⟩ (by simp at hzz ⊢; omega)).trans x0); have y1 := (hgr.cell_far ⟨wr.heap.size, 1, none⟩ (by simp at hzz ⊢; omega) hne2).trans ((World.cell?_alloc_lt w1 _ ⟨wr.heap.size, 1, none⟩ (by simp at hzz ⊢; omega)).trans x1); have y2 := (hgr.cell_far ⟨wr.heap.size, 2, none⟩ (by simp at hzz ⊢; omega) hne2).trans ((World.cell?_alloc_lt w1 _ ⟨wr.heap.size, 2, none⟩ (by simp at hzz ⊢; omega)).trans x2); have y3 := (hgr.cell_far ⟨wr.heap.size, 3, none⟩ (by simp at hzz ⊢; omega) hne2).trans ((World.cell?_alloc_lt w1 _ ⟨wr.heap.size, 3, none⟩ (by simp at hzz ⊢; omega)).trans x3); have y5 := (hgr.cell_far ⟨wr.heap.size, 4, none⟩ (by simp at hzz ⊢; omega) hne2).trans ((World.cell?_alloc_lt w1 _ ⟨wr.heap.size, 4, none⟩ (by simp at hzz ⊢; omega)).trans x5); have yf := (hgr.frozen_far ⟨H, 4, none⟩ (by simp at hzz ⊢; omega) hne1).trans ((World.frozen?_alloc_old w1 _ ⟨H, 4, none⟩ (by simp at hzz ⊢; omega)).trans xf)))
          all_goals
            have hR := sapp_roundB (out := H) hG hHW hz (show w.heap.size ≤ H by omega) hb (by simpa using hod) (by simpa using hb1) hown3 hgr hat hlt3 u3
            have HR := Lib.hid hR
            clear hR hb1 hgr hown3 hG1 hGa
            go_wp2_with fail
            obtain ⟨r1, r2, r3, r4, r5, r6, r7⟩ := HR.out
            refine ⟨⟨j + 1, by omega, by go_num, .slice (some ⟨g, 0, none⟩) (ds.length + 1) cap, ds ++ [d], ?_, by simp; omega, by simp; omega, r1, (r2 0 (by omega)).trans u0, (r2 1 (by omega)).trans u1, (r2 2 (by omega)).trans u2, (r2 3 (by omega)).trans uS, r3, (r4 4).trans uf, by omega, r6, fun b hb1 hb2 => (r7 b hb1 hb2).trans (HF.out b hb1 hb2)⟩, by simp [intOf]; omega⟩
            show _ = _
            rw [List.take_succ_eq_append_getElem hlt, S.erL_append, S.mapSL_append, HE.out]
            simp [S.erL, S.mapSL, Hde.out]
        · have e1 : l.take j = l := List.take_of_length_le (by omega)
          have he := HE.out
          rw [e1] at he
          have He := Lib.hid he
          clear e1 he
          obtain ⟨z0, z1, z2, z3, z4⟩ := r4.keep (HF.out (w.heap.size + 1) (by omega) (by omega))
          have zf := rf4.keep (HF.out (w.heap.size + 1) (by omega) (by omega))
          have zf0 := zf.fr 0
          have zf1 := zf.fr 1
          have zf2 := zf.fr 2
          have zf3 := zf.fr 3
          have zf4 := zf.fr 4
          have ow := ow4.keep (w' := wr) fun b hb => HF.out b (ow4.inn.blk_lt b hb) (owH b hb)
          have owlt := ow4.inn.blk_lt
          simp only [S.k, S.n, S.t, S.sa, S.sc, S.s, S.A, S.l, S.c] at z0 z1 z2 z3 z4
          have hG0 := hG
          obtain ⟨hrow, hown, hap⟩ := hG
          rcases hrow with ⟨hr1, ⟨rfl, hr2⟩ | ⟨g, cap, cur, rfl, hr2, hr3, hr4, hr5, hr6, hr7⟩⟩
          · have hds : ds = [] := List.eq_nil_of_length_eq_zero hr2
            subst hds
            go_wp2_with fail
            refine bodyPost_ret (v := .agg #[.int .i64 k, .int .i64 n, .string t, .slice A2 (sx).length c2, .slice none 0 0]) (by simp [results, Tryz.results99, go_sem, z0, z1, z2, z3, z4]) rfl ⟨.mk k n t A2 c2 (sx) none 0 [], rfl, ?_, ?_, ?_⟩
            · rw [K.out, ← He.out]; rfl
            · have h1 : (S.mk k n t A2 c2 (sx) none 0 []).Own (w.heap.size + 1 + 1) wr.heap.size wr := S.Own.of_parts (ow.wide (Nat.le_refl _) hz) S.OwnL.nil_ ⟨Nat.le_refl _, Nat.zero_le _, hcap.2.2⟩ (fun h => absurd rfl h) (fun b hb => by simp [S.blksL])
              simp only [World.size_setCell]
              exact (((((h1.far (by simp <;> omega) _).far (by simp <;> omega) _).far (by simp <;> omega) _).far (by simp <;> omega) _).far (by simp <;> omega) _).wide (by omega) (Nat.le_refl _)
            · exact ((((hb.setCell (by simp) _).setCell (by simp) _).setCell (by simp) _).setCell (by simp) _).setCell (by simp) _
          · have hcells := hG0.row.cells (g := g) rfl
            have hblk : D.Blk wr g 43 cur := hr3
            have hglt := hblk.lt
            go_wp2_with fail
            refine bodyPost_ret (v := .agg #[.int .i64 k, .int .i64 n, .string t, .slice A2 (sx).length c2, .slice (some ⟨g, 0, none⟩) ds.length cap]) (by simp [results, Tryz.results99, go_sem, z0, z1, z2, z3, z4]) rfl ⟨.mk k n t A2 c2 (sx) (some ⟨g, 0, none⟩) cap ds, rfl, ?_, ?_, ?_⟩
            · rw [K.out]; simp only [S.er, He.out]
            · have h1 : (S.mk k n t A2 c2 (sx) (some ⟨g, 0, none⟩) cap ds).Own (w.heap.size + 1 + 1) wr.heap.size wr := S.Own.of_parts (ow.wide (Nat.le_refl _) hz) (hown.wide (by omega) (Nat.le_refl _)) ⟨hr4, hr5, hcap.2.2⟩ (fun _ => ⟨g, rfl, hap g rfl, by omega, hglt, fun o => hblk.frozen o, fun j u hu => by
                have := hcells j u hu
                have e : (⟨g, 0, none⟩ : Addr).add j = ⟨g, j, none⟩ := by unfold Addr.add; split <;> simp_all
                rwa [e] at this, fun b hb => by have := owlt b hb; omega⟩) (fun b hb hm => by have := owlt b hb; have := hown.lo_ b hm; omega)
              simp only [World.size_setCell]
              exact (((((h1.far (by simp <;> omega) _).far (by simp <;> omega) _).far (by simp <;> omega) _).far (by simp <;> omega) _).far (by simp <;> omega) _).wide (by omega) (Nat.le_refl _)
            · exact ((((hb.setCell (by simp) _).setCell (by simp) _).setCell (by simp) _).setCell (by simp) _).setCell (by simp) _

end Go.Proofs.YtnldlbglgalbaabGreat

namespace Go.Proofs.YtnldlbglgalbaabGreat
open Go.RowKit

namespace S
/-- Functions that agree on sets agree on valid objects. -/
theorem mapS_valid {f g : List Int → List Int} (hfg : ∀ s, isSetI s = true → f s = g s) (d : S) (h : valid d = true) : mapS f d = mapS g d := by
  induction d using ind with
  | h d ih =>
    cases d with
    | mk k n t sa sc s A c l =>
      simp only [valid, sNodeOk, Bool.and_eq_true] at h
      obtain ⟨⟨_, h1, _⟩, h2⟩ := h
      have key : ∀ (a : List S), (∀ x ∈ a, x ∈ l) → validL a = true → mapSL f a = mapSL g a := by
        intro a
        induction a with
        | nil => intro _ _; rfl
        | cons x r ih2 =>
          intro hs hv
          simp only [validL, Bool.and_eq_true] at hv
          simp only [mapSL, ih x (hs x (by simp)) hv.1, ih2 (fun y hy => hs y (by simp [hy])) hv.2]
      simp only [mapS, key l (fun _ h => h) h2, hfg s h1]
theorem valid_of_isS {d : S} (h : isS d = true) : valid d = true := by
  unfold isS at h
  simp only [Bool.and_eq_true] at h
  exact h.2.2
theorem resS_no {f : List Int → List Int} {d : S} (h : isS d = false) : resS f d = er d := by unfold resS; rw [h]; rfl
theorem resS_yes {f g : List Int → List Int} (hfg : ∀ s, isSetI s = true → g s = f s) {d : S} (h : isS d = true) : resS f d = mapS g d := by
  unfold resS; rw [h, mapS_valid hfg d (valid_of_isS h)]; rfl
theorem resS_id {f : List Int → List Int} (hf : ∀ s, f s = s) (d : S) : resS f d = er d := by
  have e : f = fun s => s := funext hf
  unfold resS
  rw [e, mapS_id, ite_self]
end S
theorem opF_with {m : Int} (h : kindI m ≠ 0) (s : List Int) (hs : isSetI s = true) : opF 1 m s = withL m s := by
  show putL m s = _
  unfold withL; rw [if_pos ⟨hs, h⟩]
theorem opF_flip {m : Int} (h : kindI m ≠ 0) (s : List Int) (hs : isSetI s = true) : opF 2 m s = flipL m s := by
  have e : flipL m s = if s.contains m then cutL m s else putL m s := if_pos ⟨hs, h⟩
  rw [e]; rfl
theorem opF_drop (s : List Int) (hs : isSetI s = true) : opF 3 0 s = dropL s := by
  show nousesL s = _
  unfold dropL; rw [if_pos hs]
theorem withL_zero {m : Int} (h : kindI m = 0) (s : List Int) : withL m s = s := by unfold withL; rw [if_neg (fun e => e.2 h)]
theorem flipL_zero {m : Int} (h : kindI m = 0) (s : List Int) : flipL m s = s := by unfold flipL; rw [if_neg (fun e => e.2 h)]

set_option maxRecDepth 100000 in
set_option maxHeartbeats 1000000 in
theorem specCopyS_any (d : S) (B : Nat) (w : World) (hs : d.size ≤ 2000000) (hbk : d.bulk ≤ 2000000) (hin : d.In w B) (hB : B ≤ w.heap.size) : Calls Tryz.prog 71 #[d.val] w (RetS (S.er d) w) := by
  obtain ⟨k, n, t, sa, sc, s, A, c, l⟩ := d
  obtain ⟨W1, hW1⟩ : ∃ W1, W1 = w.alloc (.cells #[.int .i64 k, .int .i64 n, .string t, .slice sa s.length sc, .slice A l.length c] 43) := ⟨_, rfl⟩
  obtain ⟨W2, hW2⟩ : ∃ W2, W2 = W1.alloc (.cells #[.int .i64 0, .int .i64 0, .string ⟨#[]⟩, .slice none 0 0, .slice none 0 0] 43) := ⟨_, rfl⟩
  have z1 : W1.heap.size = w.heap.size + 1 := by rw [hW1]; simp
  have B1 : Below w.heap.size w W1 := by rw [hW1]; exact (Below.refl _ _).alloc (Nat.le_refl _) _
  have z2 : W2.heap.size = w.heap.size + 1 + 1 := by rw [hW2]; simp [z1]
  have B2 : Below W1.heap.size W1 W2 := by rw [hW2]; exact (Below.refl _ _).alloc (Nat.le_refl _) _
  have x0 : S.Box W1 w.heap.size (.mk k n t sa sc s A c l) := by rw [hW1]; exact S.Box.new w (.mk k n t sa sc s A c l) _
  have x0 := x0.below B2 (by omega)
  have r0 : S.Box W2 (w.heap.size + 1) (.mk 0 0 ⟨#[]⟩ none 0 [] none 0 []) := by rw [hW2, ← z1]; exact S.Box.new W1 (.mk 0 0 ⟨#[]⟩ none 0 [] none 0 []) _
  have rf : Free W2 (w.heap.size + 1) := by rw [hW2, ← z1]; exact Free.new _ _ _
  have b3 : Below w.heap.size w W2 := (B1.trans (B2.mono (by omega)))
  have hi2 := hin.below (b3.mono hB)
  obtain ⟨p0, p1, p2, p3, p4⟩ := x0
  simp only [S.k, S.n, S.t, S.sa, S.sc, S.s, S.A, S.c] at p0 p1 p2 p3 p4
  have el : (S.mk k n t sa sc s A c l).l = l := rfl
  rw [el] at p4
  simp only [S.val, S.k, S.n, S.t, S.sa, S.sc, S.s, S.A, S.l, S.c]
  go_enter Tryz.func71, Tryz.ntmps71
  go_wp2_with fail
  rw [← hW1, ← hW2]
  clear hW1 hW2 B1 B2
  refine ((specMap_any 0 0 (.inl rfl) 2000000 (.mk k n t sa sc s A c l) B _ hs (Nat.le_refl _) hbk hi2 (by omega)).mono (R' := RetS (S.er (.mk k n t sa sc s A c l)) W2) (by rintro e w2 ⟨d, rfl, hde, h⟩; exact ⟨d, rfl, by rw [hde]; exact S.mapS_id _, h⟩)).mono ?_
  rintro e w2 ⟨d, rfl, hde, hod, hb2⟩
  have zz2 := hb2.size
  obtain ⟨s0, s1, s2, s3, s4⟩ := r0.below hb2 (by omega)
  have rf2 := rf.below hb2 (by omega)
  have h0 := rf2.fr 0
  have h1 := rf2.fr 1
  have h2 := rf2.fr 2
  have h3 := rf2.fr 3
  have h4 := rf2.fr 4
  have bb2 := b3.trans (hb2.mono (by omega))
  have Hde := Lib.hid hde
  clear hde hb2
  simp only [S.val]
  go_wp2_with fail
  refine bodyPost_ret (v := .agg #[.int .i64 d.k, .int .i64 d.n, .string d.t, .slice d.sa d.s.length d.sc, .slice d.A d.l.length d.c]) (by simp [results, Tryz.results71, go_sem, s0, s1, s2, s3, s4]) rfl ⟨d, rfl, ?_, ?_, ?_⟩
  · exact Hde.out
  · have hown := hod.wide (lo' := w.heap.size + 1 + 1) (by omega) (Nat.le_refl _)
    simp only [World.size_setCell]
    exact (((((hown.far (by simp <;> omega) _).far (by simp <;> omega) _).far (by simp <;> omega) _).far (by simp <;> omega) _).far (by simp <;> omega) _).wide (by omega) (Nat.le_refl _)
  · exact ((((bb2.setCell (by simp <;> omega) _).setCell (by simp <;> omega) _).setCell (by simp <;> omega) _).setCell (by simp <;> omega) _).setCell (by simp <;> omega) _
end Go.Proofs.YtnldlbglgalbaabGreat

namespace Go.Proofs.YtnldlbglgalbaabGreat
open Go.RowKit

namespace S
def E : Elem S where
  cells := cells
  n := 5
  pos := by decide
  len := fun _ => rfl
  one := by
    intro b u hu
    simp only [cells, List.mem_cons, List.not_mem_nil, or_false] at hu
    rcases hu with rfl | rfl | rfl | rfl | rfl <;> rfl
  In := fun w B d => In w B d
  blks := blks
  lt := fun h => h.blk_lt
  keepB := fun h hk => h.keepB hk
  more := fun h hB => h.more hB
theorem ownE {lo hi : Nat} {w : World} {d : S} (h : d.Own lo hi w) : E.Own lo hi w d := ⟨h.inn, h.lo_, h.nd, h.fr⟩
/-- The cells of element i. -/
theorem atE {w : World} {B : Nat} {A : Option Addr} {c : Nat} {l : List S} (h : E.LIn w B A c l) {i : Nat} {x : S} (hi : l[i]? = some x) :
    ∃ b o : Nat, A = some ⟨b, o, none⟩ ∧ b < B ∧ w.cell? ⟨b, o + i * 5, none⟩ = some (.int .i64 x.k) ∧ w.cell? ⟨b, o + i * 5 + 1, none⟩ = some (.int .i64 x.n) ∧ w.cell? ⟨b, o + i * 5 + 2, none⟩ = some (.string x.t) ∧ w.cell? ⟨b, o + i * 5 + 3, none⟩ = some (.slice x.sa x.s.length x.sc) ∧ w.cell? ⟨b, o + i * 5 + 4, none⟩ = some (.slice x.A x.l.length x.c) ∧ In w B x := by
  obtain ⟨b, o, e, hb, hc, hx⟩ := h.at_ hi
  exact ⟨b, o, e, hb, hc 0 _ rfl, hc 1 _ rfl, hc 2 _ rfl, hc 3 _ rfl, hc 4 _ rfl, hx⟩
/-- An identifier without its places. -/
def idS (p : ByteArray × List Int) : S := .mk 1 0 p.1 none 0 p.2 none 0 []
theorem er_idS {x : S} {p : ByteArray × List Int} (h : er x = idS p) : x.t = p.1 ∧ x.s = p.2 ∧ x.k = 1 ∧ x.n = 0 ∧ x.l = [] := by
  cases x with
  | mk k n t sa sc s A c l =>
    simp only [er, idS, S.mk.injEq] at h
    obtain ⟨h1, h2, h3, _, _, h6, _, _, h9⟩ := h
    refine ⟨h3, h6, h1, h2, ?_⟩
    cases l with
    | nil => rfl
    | cons _ _ => simp [erL] at h9
theorem eqB_id {x d : S} {p : ByteArray × List Int} (h : er x = idS p) (h1 : d.k = 1) (h2 : d.n = 0) (h3 : d.l = []) : eqB x d = (p.1.toList == d.t.toList && p.2 == d.s) := by
  obtain ⟨e1, e2, e3, e4, e5⟩ := er_idS h
  cases x with
  | mk k n t sa sc s A c l =>
    cases d with
    | mk k' n' t' sa' sc' s' A' c' l' =>
      simp only [S.t, S.s, S.k, S.n, S.l] at *
      subst e1 e2 e3 e4 e5 h1 h2 h3
      simp [eqB, eqL]
end S
/-- Whether the identifier stands in acc. -/
def hasI (acc : List (ByteArray × List Int)) (t : ByteArray) (s : List Int) : Bool := acc.any fun p => p.1.toList == t.toList && p.2 == s
theorem hasI_step {acc : List (ByteArray × List Int)} {j : Nat} (h : j < acc.length) (t : ByteArray) (s : List Int) : hasI (acc.take (j + 1)) t s = (hasI (acc.take j) t s || (acc[j].1.toList == t.toList && acc[j].2 == s)) := by
  unfold hasI
  rw [List.take_succ_eq_append_getElem h, List.any_append]
  simp
theorem hasI_yes {acc : List (ByteArray × List Int)} {j : Nat} (h : j < acc.length) {t : ByteArray} {s : List Int} (he : (acc[j].1.toList == t.toList && acc[j].2 == s) = true) : hasI acc t s = true := by
  unfold hasI
  rw [List.any_eq_true]
  exact ⟨acc[j], List.getElem_mem h, he⟩
theorem ids_get {ds : List S} {acc : List (ByteArray × List Int)} (h : ds.map S.er = acc.map S.idS) {j : Nat} (hj : j < ds.length) (hj2 : j < acc.length) : S.er ds[j] = S.idS acc[j] := by
  have h1 : (ds.map S.er)[j]? = (acc.map S.idS)[j]? := by rw [h]
  simpa [List.getElem?_map, List.getElem?_eq_getElem hj, List.getElem?_eq_getElem hj2] using h1
theorem ids_len {ds : List S} {acc : List (ByteArray × List Int)} (h : ds.map S.er = acc.map S.idS) : ds.length = acc.length := by
  have := congrArg List.length h
  simpa using this

set_option maxRecDepth 100000 in
set_option maxHeartbeats 1000000 in
theorem l2HasId_any (A : Option Addr) (c : Nat) (ds : List S) (acc : List (ByteArray × List Int)) (d : S) (B : Nat) (w : World) (hids : ds.map S.er = acc.map S.idS) (hin : S.E.LIn w B A c ds) (hd : d.In w B) (hB : B ≤ w.heap.size) :
    Calls Tryz.prog 69 #[.slice A ds.length c, d.val] w fun e w' => e = .returned (.bool (hasI acc d.t d.s)) ∧ Below w.heap.size w w' := by
  have hcap := hin.cap
  have hlen := ids_len hids
  have hlen1 : ds.length ≤ acc.length := by omega
  have hlen2 : acc.length ≤ ds.length := by omega
  have HI := Lib.hid hids
  clear hlen hids
  obtain ⟨W1, hW1⟩ : ∃ W1, W1 = w.alloc (.cells #[.int .i64 d.k, .int .i64 d.n, .string d.t, .slice d.sa d.s.length d.sc, .slice d.A d.l.length d.c] 43) := ⟨_, rfl⟩
  have z1 : W1.heap.size = w.heap.size + 1 := by rw [hW1]; simp
  have B1 : Below w.heap.size w W1 := by rw [hW1]; exact (Below.refl _ _).alloc (Nat.le_refl _) _
  have x0 : S.Box W1 w.heap.size d := by rw [hW1]; exact S.Box.new w d _
  unfold S.val
  go_enter Tryz.func69, Tryz.ntmps69
  go_wp2_with fail
  rw [← hW1]
  clear hW1
  go_loopw [9] (fun i wr => ∃ j : Nat, j ≤ ds.length ∧ i = .int .i64 j ∧ Hid (hasI (acc.take j) d.t d.s = false) ∧ S.Box wr w.heap.size d ∧ w.heap.size < wr.heap.size ∧ Below w.heap.size w wr) (fun i _ => ds.length - (intOf i).toNat)
  case atStart => exact ⟨0, Nat.zero_le _, rfl, by simp [Hid, hasI], x0, by omega, B1⟩
  case round =>
    obtain ⟨j, hj, rfl, HN, hx, hsz, hb⟩ := hrel
    by_cases hlt : j < ds.length
    · have hlt2 : j < acc.length := by omega
      obtain ⟨b, o, rfl, hblk, c0, c1, c2, c3, c4, hix⟩ := S.atE (hin.below (hb.mono hB)) (i := j) (x := ds[j]) (List.getElem?_eq_getElem hlt)
      have g2 : (j : Int) < (ds.length : Int) := by omega
      have hid := ids_get HI.out hlt hlt2
      obtain ⟨e1, e2, e3, e4, e5⟩ := S.er_idS hid
      clear e3 e4 e5
      have hs := hasI_step hlt2 d.t d.s
      have bA : Below wr.heap.size wr (wr.alloc (.cells #[.int .i64 ds[j].k, .int .i64 ds[j].n, .string ds[j].t, .slice ds[j].sa ds[j].s.length ds[j].sc, .slice ds[j].A ds[j].l.length ds[j].c] 43)) := (Below.refl _ _).alloc (Nat.le_refl _) _
      have y0 := S.Box.new wr ds[j] 43
      have xA := hx.below (w' := wr.alloc (.cells #[.int .i64 ds[j].k, .int .i64 ds[j].n, .string ds[j].t, .slice ds[j].sa ds[j].s.length ds[j].sc, .slice ds[j].A ds[j].l.length ds[j].c] 43)) bA hsz
      obtain ⟨a0, a1, a2, a3, a4⟩ := xA
      obtain ⟨d0, d1, d2, d3, d4⟩ := y0
      have hT : Hid (ds[j].t = acc[j].1) := e1
      have hS : Hid (ds[j].s = acc[j].2) := e2
      have HS := Lib.hid hs
      clear hid e1 e2 hs
      go_wp2_with fail
      refine (l2Same_any ds[j] d B _ (hix.below (bA.mono (by omega))) ((hd.below (hb.mono hB)).below (bA.mono (by omega))) (by simp; omega)).mono ?_
      rintro e w1 ⟨rfl, hb1⟩
      have hb2 : Below wr.heap.size wr w1 := bA.trans (hb1.mono (by simp))
      have hx1 := hx.below hb2 hsz
      have zz := hb2.size
      have hb3 := hb.trans (hb2.mono (by omega))
      clear a0 a1 a2 a3 a4 d0 d1 d2 d3 d4 c0 c1 c2 c3 c4 hb1 hb2 bA hx
      cases hq : (ds[j].t.toList == d.t.toList && ds[j].s == d.s)
      · have HN2 : Hid (hasI (acc.take (j + 1)) d.t d.s = false) := by show _ = _; rw [HS.out, HN.out, ← hT.out, ← hS.out, hq]; rfl
        clear hq
        go_wp2_with fail
        refine ⟨⟨j + 1, by omega, by go_num, HN2, hx1, by omega, hb3⟩, by simp [intOf]; omega⟩
      · have HY := Lib.hid (hasI_yes hlt2 (t := d.t) (s := d.s) (by rw [← hT.out, ← hS.out, hq]))
        clear hq
        go_wp2_with fail
        go_ret
        exact ⟨ret_bool HY.out.symm, hb3⟩
    · have hj' : j = ds.length := by omega
      subst hj'
      have HF : Hid (hasI acc d.t d.s = false) := by have := HN.out; rwa [List.take_of_length_le (by omega)] at this
      go_wp2_with fail
      go_ret
      exact ⟨ret_bool HF.out.symm, hb⟩

end Go.Proofs.YtnldlbglgalbaabGreat

namespace Go.Proofs.YtnldlbglgalbaabGreat
open Go.RowKit
namespace S
/-- A row of syntax objects that can be read (an empty one may lie nowhere). -/
def Row (w : World) (B : Nat) (A : Option Addr) (c : Nat) (l : List S) : Prop := (l.length ≤ c ∧ c ≤ 9223372036854775807) ∧ (l ≠ [] → S.E.LIn w B A c l)
theorem Row.cap {w : World} {B : Nat} {A : Option Addr} {c : Nat} {l : List S} (h : Row w B A c l) : l.length ≤ c ∧ c ≤ 9223372036854775807 := h.1
theorem Row.below {w w' : World} {B : Nat} {A : Option Addr} {c : Nat} {l : List S} (h : Row w B A c l) (hb : Below B w w') : Row w' B A c l := ⟨h.1, fun hne => (h.2 hne).below hb⟩
theorem Row.of_itm {w : World} {B : Nat} {A : Option Addr} {c : Nat} {l : List S} (h : (itm A c l).In w B) : Row w B A c l := by
  unfold itm S.In at h
  obtain ⟨⟨h1, h2, _⟩, _, h5, h6⟩ := h
  have h2 : c ≤ 9223372036854775807 := by unfold maxLen at h2; omega
  refine ⟨⟨h1, h2⟩, fun hne => ⟨⟨h1, h2⟩, fun hA => ?_, h5, fun x hx => InL_iff.1 h6 x hx⟩⟩
  obtain ⟨b, o, e, _⟩ := h5 hne
  rw [hA] at e
  cases e
/-- The program's: whether d is one of the literals. -/
def litP (l : List S) (d : S) : Bool := l.any fun x => S.eqB x d
def isNoneL (x : S) : Bool := !x.isI || (x.isDots || x.isWild)
def areLits (l : List S) : Bool := decide (l.length ≤ 8) && !l.any isNoneL
end S
theorem any_none {α : Type} {p : α → Bool} {l : List α} (h : ∀ x ∈ l, p x = false) : l.any p = false := by
  rw [List.any_eq_false]
  intro x hx
  simp [h x hx]
theorem any_yes {α : Type} {p : α → Bool} {l : List α} {j : Nat} (h : j < l.length) (hy : p l[j] = true) : l.any p = true := List.any_eq_true.2 ⟨_, List.getElem_mem h, hy⟩

set_option maxRecDepth 100000 in
set_option maxHeartbeats 800000 in
theorem implWild_any (d : S) (w : World) : Calls Tryz.prog 111 #[d.val] w fun e w' => e = .returned (.bool d.isWild) ∧ Below w.heap.size w w' := by
  have K : Hid (d.isWild = (decide (d.k = 1) && (d.t.toList == [95]))) := rfl
  have bA : Below w.heap.size w (w.alloc (.cells #[.int .i64 d.k, .int .i64 d.n, .string d.t, .slice d.sa d.s.length d.sc, .slice d.A d.l.length d.c] 43)) := (Below.refl _ _).alloc (Nat.le_refl _) _
  unfold S.val
  by_cases h : d.k = 1
  · have e1 : (d.k == 1) = true := by simp [h]
    have H := Lib.hid (decide_eq_true h)
    clear h
    go_enter Tryz.func111, Tryz.ntmps111
    go_wp2_with fail
    go_ret
    exact ⟨ret_bool (by rw [K.out, H.out, Bool.true_and]), bA⟩
  · have e1 : (d.k == 1) = false := by simpa using h
    have H := Lib.hid (decide_eq_false h)
    clear h
    go_enter Tryz.func111, Tryz.ntmps111
    go_wp2_with fail
    go_ret
    exact ⟨ret_bool (by rw [K.out, H.out]; rfl), bA⟩

set_option maxRecDepth 100000 in
set_option maxHeartbeats 1000000 in
theorem litThis_any (x d : S) (g B : Nat) (w : World) (hs : x.size ≤ 2000000) (hx : x.In w B) (hd : d.In w B) (hB : B ≤ w.heap.size) (hbx : S.Box w g d) (hg : g < w.heap.size) :
    Calls Tryz.prog 113 #[x.val, .pointer (some ⟨g, 0, none⟩)] w fun e w' => e = .returned (.bool (S.eqB x d)) ∧ Below w.heap.size w w' := by
  have bA : Below w.heap.size w (w.alloc (.cells #[.int .i64 x.k, .int .i64 x.n, .string x.t, .slice x.sa x.s.length x.sc, .slice x.A x.l.length x.c] 43)) := (Below.refl _ _).alloc (Nat.le_refl _) _
  have y0 := S.Box.new w x 43
  obtain ⟨d0, d1, d2, d3, d4⟩ := y0
  obtain ⟨a0, a1, a2, a3, a4⟩ := hbx.below bA hg
  unfold S.val
  go_enter Tryz.func113, Tryz.ntmps113
  go_wp2_with fail
  refine (implSEqual_any 2000000 x d B _ hs (hx.below (bA.mono hB)) (hd.below (bA.mono hB)) (by simp; omega)).mono ?_
  rintro e w1 ⟨rfl, hb1⟩
  have hb2 : Below w.heap.size w w1 := bA.trans (hb1.mono (by simp))
  clear hb1 a0 a1 a2 a3 a4 d0 d1 d2 d3 d4
  go_wp2_with fail
  go_ret
  exact ⟨rfl, hb2⟩

set_option maxRecDepth 100000 in
set_option maxHeartbeats 2000000 in
theorem noneLit_any (x : S) (B : Nat) (w : World) (hx : x.In w B) (hB : B ≤ w.heap.size) :
    Calls Tryz.prog 110 #[x.val] w fun e w' => e = .returned (.bool (S.isNoneL x)) ∧ Below w.heap.size w w' := by
  obtain ⟨W1, hW1⟩ : ∃ W1, W1 = w.alloc (.cells #[.int .i64 x.k, .int .i64 x.n, .string x.t, .slice x.sa x.s.length x.sc, .slice x.A x.l.length x.c] 43) := ⟨_, rfl⟩
  have b1 : Below w.heap.size w W1 := by rw [hW1]; exact (Below.refl _ _).alloc (Nat.le_refl _) _
  have z1 : W1.heap.size = w.heap.size + 1 := by rw [hW1]; simp
  have X1 : S.Box W1 w.heap.size x := by rw [hW1]; exact S.Box.new _ _ _
  have HM : Hid (S.isNoneL x = (!x.isI || (x.isDots || x.isWild))) := rfl
  have hc1 := implIdent_any x B W1 (hx.below (b1.mono hB)) (by omega)
  unfold S.val at hc1 ⊢
  go_enter Tryz.func110, Tryz.ntmps110
  go_upto_region 1 with fail
  rw [← hW1]
  clear hW1
  have X1q := X1
  obtain ⟨x0, x1, x2, x3, x4⟩ := X1q
  go_wp2_with fail
  clear x0 x1 x2 x3 x4
  cases q1 : x.isI
  · rw [q1] at hc1
    have HQ : Hid (S.isNoneL x = true) := by show _ = _; rw [HM.out, q1]; rfl
    clear q1
    (with_reducible refine hc1.mono ?_)
    clear hc1
    rintro e w2 ⟨rfl, hb2⟩
    obtain ⟨x0, x1, x2, x3, x4⟩ := X1.below hb2 (by omega)
    go_wp2_with fail
    go_ret
    exact ⟨ret_bool HQ.out.symm, b1.trans (hb2.mono (by omega))⟩
  · rw [q1] at hc1
    have HQ1 := Lib.hid q1
    clear q1
    (with_reducible refine hc1.mono ?_)
    clear hc1
    rintro e w2 ⟨rfl, hb2⟩
    have z2 := hb2.size
    have X2 := X1.below hb2 (by omega)
    have X2q := X2
    obtain ⟨x0, x1, x2, x3, x4⟩ := X2q
    have hc2 := implDots_any x w2
    unfold S.val at hc2
    go_wp2_with fail
    clear x0 x1 x2 x3 x4
    cases q2 : x.isDots
    · rw [q2] at hc2
      have HQ2 : Hid (S.isNoneL x = x.isWild) := by show _ = _; rw [HM.out, HQ1.out, q2]; rfl
      clear q2
      (with_reducible refine hc2.mono ?_)
      clear hc2
      rintro e w3 ⟨rfl, hb3⟩
      have z3 := hb3.size
      have X3 := X2.below hb3 (by omega)
      obtain ⟨x0, x1, x2, x3, x4⟩ := X3
      have hc3 := implWild_any x w3
      unfold S.val at hc3
      go_wp2_with fail
      clear x0 x1 x2 x3 x4
      (with_reducible refine hc3.mono ?_)
      clear hc3
      rintro e w4 ⟨rfl, hb4⟩
      go_wp2_with fail
      go_ret
      exact ⟨ret_bool HQ2.out.symm, b1.trans ((hb2.trans ((hb3.trans (hb4.mono (by omega))).mono (by omega))).mono (by omega))⟩
    · rw [q2] at hc2
      have HQ2 : Hid (S.isNoneL x = true) := by show _ = _; rw [HM.out, HQ1.out, q2]; rfl
      clear q2
      (with_reducible refine hc2.mono ?_)
      clear hc2
      rintro e w3 ⟨rfl, hb3⟩
      obtain ⟨x0, x1, x2, x3, x4⟩ := X2.below hb3 (by omega)
      go_wp2_with fail
      go_ret
      exact ⟨ret_bool HQ2.out.symm, b1.trans ((hb2.trans (hb3.mono (by omega))).mono (by omega))⟩

set_option maxRecDepth 100000 in
set_option maxHeartbeats 2000000 in
theorem conLit_any (A : Option Addr) (c : Nat) (l : List S) (d : S) (g : Nat) (B : Nat) (w : World) (hin : S.Row w B A c l) (hB : B ≤ w.heap.size) (hd : d.In w B) (hbx : S.Box w g d) (hg : g < w.heap.size) (hs : ∀ x ∈ l, x.size ≤ 2000000) :
    Calls Tryz.prog 112 #[.slice A l.length c, .func (.func 113) #[] #[.pointer (some ⟨g, 0, none⟩)]] w fun e w' => e = .returned (.bool (S.litP l d)) ∧ Below w.heap.size w w' := by
  have hcap := hin.cap
  have key : Calls Tryz.prog 137 #[.slice A l.length c, .func (.func 113) #[] #[.pointer (some ⟨g, 0, none⟩)]] w fun e w' => (∃ r : Int, e = .returned (.int .i64 r) ∧ decide (0 ≤ r) = S.litP l d) ∧ Below w.heap.size w w' := by
    go_enter Tryz.func137, Tryz.ntmps137
    go_wp2_with fail
    go_loopw [5, 8] (fun _ i wr => ∃ j : Nat, j ≤ l.length ∧ i = .int .i64 j ∧ Hid (∀ x ∈ l.take j, S.eqB x d = false) ∧ Below w.heap.size w wr) (fun _ i _ => l.length - (intOf i).toNat)
    case atStart => exact ⟨0, Nat.zero_le _, rfl, by simp [Hid], Below.refl _ _⟩
    case round =>
      obtain ⟨j, hj, rfl, HN, hb⟩ := hrel
      by_cases hlt : j < l.length
      · have hsz := hb.size
        obtain ⟨b, o, rfl, hblk, c0, c1, c2, c3, c4, hix⟩ := S.atE ((hin.below (hb.mono hB)).2 (by rintro rfl; simp at hlt)) (i := j) (x := l[j]) (List.getElem?_eq_getElem hlt)
        have g2 : (j : Int) < (l.length : Int) := by omega
        have hc := litThis_any l[j] d g B wr (hs _ (List.getElem_mem hlt)) hix (hd.below (hb.mono hB)) (by omega) (hbx.below hb hg) (by omega)
        unfold S.val at hc
        go_wp2_with fail
        (with_reducible refine hc.mono ?_)
        clear hc
        rintro e w1 ⟨rfl, hb1⟩
        have hb3 := hb.trans (hb1.mono (by omega))
        clear c0 c1 c2 c3 c4 hb1
        cases hq : (fun x => S.eqB x d) l[j]
        · have HN2 : Hid (∀ x ∈ l.take (j + 1), S.eqB x d = false) := none_succ hlt HN.out hq
          rw [show S.eqB l[j] d = false from hq]
          clear hq
          go_wp2_with fail
          refine ⟨⟨j + 1, by omega, by go_num, HN2, hb3⟩, by simp [intOf]; omega⟩
        · have HY : Hid (S.litP l d = true) := any_yes (p := fun x => S.eqB x d) hlt hq
          rw [show S.eqB l[j] d = true from hq]
          clear hq
          go_wp2_with fail
          go_ret
          exact ⟨⟨j, rfl, by rw [HY.out]; simp⟩, hb3⟩
      · have hj' : j = l.length := by omega
        subst hj'
        have HF : Hid (S.litP l d = false) := any_none (p := fun x => S.eqB x d) (by have := HN.out; rwa [List.take_length] at this)
        go_wp2_with fail
        go_ret
        exact ⟨⟨-1, rfl, by rw [HF.out]; rfl⟩, hb⟩
  go_enter Tryz.func112, Tryz.ntmps112
  go_wp2_with fail
  refine key.mono ?_
  rintro e w1 ⟨⟨r, rfl, hr⟩, hb1⟩
  have HR := Lib.hid hr
  clear hr key
  go_wp2_with fail
  go_ret
  exact ⟨ret_bool HR.out, hb1⟩

set_option maxRecDepth 100000 in
set_option maxHeartbeats 2000000 in
theorem conNoneL_any (A : Option Addr) (c : Nat) (l : List S) (B : Nat) (w : World) (hin : S.Row w B A c l) (hB : B ≤ w.heap.size) :
    Calls Tryz.prog 112 #[.slice A l.length c, .func (.func 110) #[] #[]] w fun e w' => e = .returned (.bool (l.any S.isNoneL)) ∧ Below w.heap.size w w' := by
  have hcap := hin.cap
  have key : Calls Tryz.prog 137 #[.slice A l.length c, .func (.func 110) #[] #[]] w fun e w' => (∃ r : Int, e = .returned (.int .i64 r) ∧ decide (0 ≤ r) = l.any S.isNoneL) ∧ Below w.heap.size w w' := by
    go_enter Tryz.func137, Tryz.ntmps137
    go_wp2_with fail
    go_loopw [5, 8] (fun _ i wr => ∃ j : Nat, j ≤ l.length ∧ i = .int .i64 j ∧ Hid (∀ x ∈ l.take j, S.isNoneL x = false) ∧ Below w.heap.size w wr) (fun _ i _ => l.length - (intOf i).toNat)
    case atStart => exact ⟨0, Nat.zero_le _, rfl, by simp [Hid], Below.refl _ _⟩
    case round =>
      obtain ⟨j, hj, rfl, HN, hb⟩ := hrel
      by_cases hlt : j < l.length
      · have hsz := hb.size
        obtain ⟨b, o, rfl, hblk, c0, c1, c2, c3, c4, hix⟩ := S.atE ((hin.below (hb.mono hB)).2 (by rintro rfl; simp at hlt)) (i := j) (x := l[j]) (List.getElem?_eq_getElem hlt)
        have g2 : (j : Int) < (l.length : Int) := by omega
        have hc := noneLit_any l[j] B wr hix (by omega)
        unfold S.val at hc
        go_wp2_with fail
        (with_reducible refine hc.mono ?_)
        clear hc
        rintro e w1 ⟨rfl, hb1⟩
        have hb3 := hb.trans (hb1.mono (by omega))
        clear c0 c1 c2 c3 c4 hb1
        cases hq : (fun x => S.isNoneL x) l[j]
        · have HN2 : Hid (∀ x ∈ l.take (j + 1), S.isNoneL x = false) := none_succ hlt HN.out hq
          rw [show S.isNoneL l[j] = false from hq]
          clear hq
          go_wp2_with fail
          refine ⟨⟨j + 1, by omega, by go_num, HN2, hb3⟩, by simp [intOf]; omega⟩
        · have HY : Hid (l.any S.isNoneL = true) := any_yes (p := fun x => S.isNoneL x) hlt hq
          rw [show S.isNoneL l[j] = true from hq]
          clear hq
          go_wp2_with fail
          go_ret
          exact ⟨⟨j, rfl, by rw [HY.out]; simp⟩, hb3⟩
      · have hj' : j = l.length := by omega
        subst hj'
        have HF : Hid (l.any S.isNoneL = false) := any_none (p := fun x => S.isNoneL x) (by have := HN.out; rwa [List.take_length] at this)
        go_wp2_with fail
        go_ret
        exact ⟨⟨-1, rfl, by rw [HF.out]; rfl⟩, hb⟩
  go_enter Tryz.func112, Tryz.ntmps112
  go_wp2_with fail
  refine key.mono ?_
  rintro e w1 ⟨⟨r, rfl, hr⟩, hb1⟩
  have HR := Lib.hid hr
  clear hr key
  go_wp2_with fail
  go_ret
  exact ⟨ret_bool HR.out, hb1⟩

set_option maxRecDepth 100000 in
set_option maxHeartbeats 2000000 in
theorem areLits_any (A : Option Addr) (c : Nat) (l : List S) (B : Nat) (w : World) (hin : S.Row w B A c l) (hB : B ≤ w.heap.size) :
    Calls Tryz.prog 79 #[.slice A l.length c] w fun e w' => e = .returned (.bool (S.areLits l)) ∧ Below w.heap.size w w' := by
  have hcap := hin.cap
  have hc := conNoneL_any A c l B w hin hB
  have HM : Hid (S.areLits l = (decide (l.length ≤ 8) && !l.any S.isNoneL)) := rfl
  by_cases h : l.length ≤ 8
  · have g1 : (l.length : Int) ≤ 8 := by omega
    have HQ : Hid (S.areLits l = !l.any S.isNoneL) := by show _ = _; rw [HM.out, decide_eq_true h]; rfl
    clear h
    go_enter Tryz.func79, Tryz.ntmps79
    go_wp2_with fail
    (with_reducible refine hc.mono ?_)
    clear hc
    rintro e w1 ⟨rfl, hb1⟩
    go_wp2_with fail
    go_ret
    exact ⟨ret_bool HQ.out.symm, hb1⟩
  · have g1 : ¬ (l.length : Int) ≤ 8 := by omega
    have HQ : Hid (S.areLits l = false) := by show _ = _; rw [HM.out, decide_eq_false h]; rfl
    clear h hc
    go_enter Tryz.func79, Tryz.ntmps79
    go_wp2_with fail
    go_ret
    exact ⟨ret_bool HQ.out.symm, Below.refl _ _⟩
end Go.Proofs.YtnldlbglgalbaabGreat
