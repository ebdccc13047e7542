/-
  BoxedVariables: the program's closure, its walk over the nodes, and both functions (written by gen/kobox.py).
-/
import Derived.Test.YtbeikpbnidbjfaaKoX
import Derived.Test.YtbeikpbnidbjfaaKoBnds
namespace Go.Proofs.Ytbeikpbnidbjfaa
open Go.RowKit Go.Maps Go.WideMaps Go.ChangeMaps

/-- A variable in block gv that points to a list of numbers. -/
structure NS (gv gs M B base : Nat) (v : Value) (acc : List Int) (w : World) : Prop where
  nl : NL gs M base v acc w
  cell : CellN gv (.pointer (some ⟨gs, 0, none⟩)) w
  b1 : B ≤ gv
  b2 : B ≤ gs
  b3 : B ≤ M
  n1 : gv ≠ gs
  n2 : gv ≠ M
  lb : gv < base
  bw : base ≤ w.heap.size
theorem NS.alloc {gv gs M B base : Nat} {v : Value} {acc : List Int} {w : World} (h : NS gv gs M B base v acc w) (o : Obj) : NS gv gs M B base v acc (w.alloc o) :=
  ⟨h.nl.alloc o, h.cell.alloc o, h.b1, h.b2, h.b3, h.n1, h.n2, h.lb, by have := h.bw; simp; omega⟩
theorem NS.step {gv gs M B base : Nat} {v v' : Value} {acc acc' : List Int} {w w' : World} (h : NS gv gs M B base v acc w) (hn : NL gs M base v' acc' w') (hg : GrewN [gs, M] base acc' v w v' w') : NS gv gs M B base v' acc' w' := by
  have hz := hg.2.1.size
  refine ⟨hn, h.cell.keep hz (hg.block h.cell.lt ?_ fun e => ?_), h.b1, h.b2, h.b3, h.n1, h.n2, h.lb, by have := h.bw; omega⟩
  · simp only [List.mem_cons, List.not_mem_nil, or_false, not_or]; exact ⟨h.n1, h.n2⟩
  · have := (h.nl.row.lt gv e).1
    have := h.lb
    omega
theorem NS.below {gv gs M B base : Nat} {v v' : Value} {acc acc' : List Int} {w w' : World} (h : NS gv gs M B base v acc w) (hg : GrewN [gs, M] base acc' v w v' w') : Below B w w' :=
  hg.below (by have := h.b2; have := h.b3; simp; omega) (fun g e => by have := (h.nl.row.lt g e).1; have := h.b1; have := h.lb; omega) (by have := h.bw; have := h.b1; have := h.lb; omega)
theorem NS.box {gv gs M B base b : Nat} {v v' : Value} {acc acc' : List Int} {w w' : World} (h : NS gv gs M B base v acc w) (hg : GrewN [gs, M] base acc' v w v' w') (hb : b < w.heap.size) (h1 : base ≤ b) (h2 : v.ownBlock ≠ some b) : w'.heap[b]? = w.heap[b]? :=
  hg.block hb (by have := h.nl.gb; have := h.nl.mb; simp; omega) h2

set_option maxRecDepth 100000 in
set_option maxHeartbeats 4000000 in
theorem bxd1_any (d : Tr Ko) (gv gs M B base : Nat) (acc : List Int) (v : Value) (w : World) (hin : Ko.E.In w B d) (hN : NS gv gs M B base v acc w) (hacc : acc.length + Ko.bulk1 d.a ≤ 4000000) :
    Calls Try.prog 80 #[Ko.val d, .pointer (some ⟨gv, 0, none⟩)] w fun e w' => e = .returned (.tuple #[]) ∧ ∃ v', NS gv gs M B base v' (Ko.boxed d.a acc) w' ∧ GrewN [gs, M] base (Ko.boxed d.a acc) v w v' w' := by
  have hs := (Ko.E_in hin).1.s
  have hwf := (Ko.E_in hin).1.wf
  have hscap := hs.cap
  have hbw := hN.bw
  have hkb : Ko.bulk1 d.a = 1 + (d.a.s.length + d.a.d.bulk) := rfl
  have hv2 : v.ownBlock ≠ some w.heap.size := fun e => by have := (hN.nl.row.lt _ e).2; omega
  obtain ⟨W, hW⟩ : ∃ W, W = w.alloc (.cells #[.int .i64 d.a.k, .int .i64 d.a.n, .slice d.a.sA d.a.s.length d.a.sC, .int .i64 d.a.d.k, .int .i64 d.a.d.n, .string d.a.d.t, .slice d.a.d.A d.a.d.l.length d.a.d.c, .slice d.A d.l.length d.c] 36) := ⟨_, rfl⟩
  have hgW : GrewN [gs, M] base acc v w v W := by rw [hW]; exact GrewN.alloc0 hN.nl.row _
  have zW : W.heap.size = w.heap.size + 1 := by rw [hW]; simp
  have X0 : Ko.Box W w.heap.size d := by rw [hW]; exact Ko.Box.new _ _ _
  have hNW : NS gv gs M B base v acc W := by rw [hW]; exact hN.alloc _
  have p0 := (hN.cell.alloc (.cells #[.int .i64 d.a.k, .int .i64 d.a.n, .slice d.a.sA d.a.s.length d.a.sC, .int .i64 d.a.d.k, .int .i64 d.a.d.n, .string d.a.d.t, .slice d.a.d.A d.a.d.l.length d.a.d.c, .slice d.A d.l.length d.c] 36)).cell
  unfold Ko.val
  by_cases hk4 : d.a.k = 4
  · have hb4 : (d.a.k == 4) = true := by simp [hk4]
    have hb9 : (d.a.k == 9) = false := by simp [hk4]
    have h0 : Ko.boxed d.a acc = addN acc d.a.n := Ko.boxed4 hk4 _
    have H0 := Lib.hid h0
    clear hk4 h0
    have HX := Lib.hid X0
    obtain ⟨a0, a1, a2, a3, a4, a5, a6, a7⟩ := X0
    go_enter Try.func80, Try.ntmps80
    go_wp2_with (go_at_call 73; rw [← hW]; refine (nlAdd_any gs M base v acc d.a.n W hNW.nl hNW.bw hwf.1 (by omega)).mono ?_)
    rintro e w1 ⟨rfl, v', hn1, hg1⟩
    have hNS := hNW.step hn1 hg1
    have hG := hgW.trans hg1
    have X1 := HX.out.keep (hNW.box hg1 (b := w.heap.size) (by omega) (by omega) hv2)
    clear hW a0 a1 a2 a3 a4 a5 a6 a7
    obtain ⟨a0, a1, a2, a3, a4, a5, a6, a7⟩ := X1
    have HN := Lib.hid hNS
    have HG := Lib.hid hG
    clear hNS hG hn1 hg1
    go_wp2_with fail
    go_end0
    exact ⟨rfl, v', by rw [H0.out]; exact HN.out, by rw [H0.out]; exact HG.out⟩
  · have hb4 : (d.a.k == 4) = false := by simp [hk4]
    by_cases hk9 : d.a.k = 9
    · have hb9 : (d.a.k == 9) = true := by simp [hk9]
      have h0 : Ko.boxed d.a acc = addsN acc d.a.s := Ko.boxed9 hk9 _
      have H0 := Lib.hid h0
      clear hk4 hk9 h0
      have HX := Lib.hid X0
      obtain ⟨a0, a1, a2, a3, a4, a5, a6, a7⟩ := X0
      go_enter Try.func80, Try.ntmps80
      go_wp2_with fail
      rw [← hW]
      clear hW a0 a1 a2 a3 a4 a5 a6 a7
      go_loopw [18] (fun i wr => ∃ (j : Nat) (q : Value), j ≤ d.a.s.length ∧ i = .int .i64 j ∧ NS gv gs M B base q (addsN acc (d.a.s.take j)) wr ∧ GrewN [gs, M] base (addsN acc (d.a.s.take j)) v W q wr) (fun i _ => d.a.s.length - (intOf i).toNat)
      case atStart => exact ⟨0, v, Nat.zero_le _, rfl, hNW, GrewN.refl hNW.nl.row⟩
      case round =>
        obtain ⟨j, q, hj, rfl, hNq, hG⟩ := hrel
        have hs2 := hG.2.1.size
        by_cases hlt : j < d.a.s.length
        · obtain ⟨b, o, hA, hblk, hcell⟩ := (hs.below (hN.below (hgW.trans hG))).at_ hlt
          have hlen := addsN_len acc (d.a.s.take j)
          have htk : (d.a.s.take j).length ≤ d.a.s.length := by rw [List.length_take]; omega
          have gg : (j : Int) < (d.a.s.length : Int) := by omega
          have HST := Lib.hid (addsN_take_succ acc d.a.s j hlt)
          have p1 := hNq.cell.cell
          rw [hA]
          clear hA p0
          go_wp2_with (go_at_call 73; refine (nlAdd_any gs M base q (addsN acc (d.a.s.take j)) d.a.s[j] wr hNq.nl hNq.bw (hwf.2 _ (List.getElem_mem hlt)) (by omega)).mono ?_)
          rintro e w1 ⟨rfl, v', hn1, hg1⟩
          have HN := Lib.hid (hNq.step hn1 hg1)
          have HG := Lib.hid (hG.trans hg1)
          clear hn1 hg1
          go_wp2_with fail
          go_roundw
          case rel => exact ⟨j + 1, v', by omega, by go_num, by rw [HST.out]; exact HN.out, by rw [HST.out]; exact HG.out⟩
          case measure => simp [intOf]; omega
        · have hj' : j = d.a.s.length := by omega
          subst hj'
          rw [List.take_length, ← H0.out] at hG hNq
          have HN := Lib.hid hNq
          have HG := Lib.hid (hgW.trans hG)
          clear hG hNq
          go_wp2_with fail
          go_end0
          exact ⟨rfl, q, HN.out, HG.out⟩
    · have hb9 : (d.a.k == 9) = false := by simp [hk9]
      have h0 : Ko.boxed d.a acc = acc := Ko.boxed0 hk4 hk9 _
      have H0 := Lib.hid h0
      clear hk4 hk9 h0
      obtain ⟨a0, a1, a2, a3, a4, a5, a6, a7⟩ := X0
      go_enter Try.func80, Try.ntmps80
      go_wp2_with fail
      rw [← hW]
      go_end0
      exact ⟨rfl, v, by rw [H0.out]; exact hNW, by rw [H0.out]; exact hgW⟩

def KoEachXOk (m : Nat) : Prop := ∀ (d : Tr Ko) (gv gs M B base : Nat) (acc : List Int) (v : Value) (w : World), d.size ≤ m → Ko.E.In w B d → NS gv gs M B base v acc w → acc.length + d.bulk Ko.bulk1 ≤ 4000000 →
    Calls Try.prog 77 #[Ko.val d, .func (.func 80) #[] #[.pointer (some ⟨gv, 0, none⟩)]] w fun e w' => e = .returned (.tuple #[]) ∧ ∃ v', NS gv gs M B base v' (d.walk Ko.boxed acc) w' ∧ GrewN [gs, M] base (d.walk Ko.boxed acc) v w v' w'

set_option maxRecDepth 100000 in
set_option maxHeartbeats 4000000 in
theorem eachX_step (m : Nat) (ih : KoEachXOk m) : KoEachXOk (m + 1) := by
  intro d gv gs M B base acc v w hm hin hN hacc
  have hbw := hN.bw
  have hcap := (Ko.E_in hin).2.cap
  have hsq := Tr.size_eq d
  have hbq := Tr.bulk_eq Ko.bulk1 d
  have hBw : B ≤ w.heap.size := by have := hN.b1; have := hN.lb; omega
  obtain ⟨acc0, hacc0⟩ : ∃ a, a = Ko.boxed d.a acc := ⟨_, rfl⟩
  have K : Hid (d.walk Ko.boxed acc = Tr.walkL Ko.boxed d.l acc0) := by rw [hacc0]; exact Tr.walk_eq _ _ _
  have hal : acc0.length ≤ acc.length + Ko.bulk1 d.a := by rw [hacc0]; exact Ko.boxed_len _ _
  have hv2 : v.ownBlock ≠ some w.heap.size := fun e => by have := (hN.nl.row.lt _ e).2; omega
  obtain ⟨W, hW⟩ : ∃ W, W = w.alloc (.cells #[.int .i64 d.a.k, .int .i64 d.a.n, .slice d.a.sA d.a.s.length d.a.sC, .int .i64 d.a.d.k, .int .i64 d.a.d.n, .string d.a.d.t, .slice d.a.d.A d.a.d.l.length d.a.d.c, .slice d.A d.l.length d.c] 36) := ⟨_, rfl⟩
  have hgW : GrewN [gs, M] base acc v w v W := by rw [hW]; exact GrewN.alloc0 hN.nl.row _
  have hNW : NS gv gs M B base v acc W := by rw [hW]; exact hN.alloc _
  have zW : W.heap.size = w.heap.size + 1 := by rw [hW]; simp
  have X0 : Ko.Box W w.heap.size d := by rw [hW]; exact Ko.Box.new _ _ _
  have hinW : Ko.E.In W B d := by rw [hW]; exact Elem.In.alloc hin hBw _
  unfold Ko.val
  have X0q := X0
  obtain ⟨a0, a1, a2, a3, a4, a5, a6, a7⟩ := X0q
  go_enter Try.func77, Try.ntmps77
  go_wp2_with fail
  rw [← hW]
  clear hW a0 a1 a2 a3 a4 a5 a6 a7
  refine (bxd1_any d gv gs M B base acc v W hinW hNW (by omega)).mono ?_
  rintro e w1 ⟨rfl, v1, hn1, hg1⟩
  rw [← hacc0] at hg1 hn1
  have z1 := hg1.2.1.size
  have X1 := X0.keep (hNW.box hg1 (b := w.heap.size) (by omega) (by omega) hv2)
  obtain ⟨a0, a1, a2, a3, a4, a5, a6, a7⟩ := X1
  have HG1 := Lib.hid (hgW.trans hg1)
  have HN1 := Lib.hid hn1
  clear hg1 hn1 hNW hgW X0 hacc0 a0 a1 a2 a3 a4 a5 a6
  go_wp2_with fail
  go_loopw [12] (fun i wr => ∃ (j : Nat) (q : Value), j ≤ d.l.length ∧ i = .int .i64 j ∧ NS gv gs M B base q (Tr.walkL Ko.boxed (d.l.take j) acc0) wr ∧ GrewN [gs, M] base (Tr.walkL Ko.boxed (d.l.take j) acc0) v w q wr) (fun i _ => d.l.length - (intOf i).toNat)
  case atStart => exact ⟨0, v1, Nat.zero_le _, rfl, HN1.out, HG1.out⟩
  case round =>
    obtain ⟨j, q, hj, rfl, hNq, hG⟩ := hrel
    have hs2 := hG.2.1.size
    by_cases hlt : j < d.l.length
    · obtain ⟨b, o, hA, hblk, c0, c1, c2, c3, c4, c5, c6, c7, hix⟩ := Ko.at_ ((Ko.E_in hin).2.below (hN.below hG)) (i := j) (x := d.l[j]) (List.getElem?_eq_getElem hlt)
      have hsz := Tr.sizeL_mem (l := d.l) (List.getElem_mem hlt)
      have hwl := Tr.walkL_len Ko.boxed_len (d.l.take j) acc0
      have hbd := Tr.bulkL_drop Ko.bulk1 d.l j hlt
      have HG1 := Lib.hid (hG.alloc (.cells #[.int .i64 d.l[j].a.k, .int .i64 d.l[j].a.n, .slice d.l[j].a.sA d.l[j].a.s.length d.l[j].a.sC, .int .i64 d.l[j].a.d.k, .int .i64 d.l[j].a.d.n, .string d.l[j].a.d.t, .slice d.l[j].a.d.A d.l[j].a.d.l.length d.l[j].a.d.c, .slice d.l[j].A d.l[j].l.length d.l[j].c] 36))
      have HN2 := Lib.hid (hNq.alloc (.cells #[.int .i64 d.l[j].a.k, .int .i64 d.l[j].a.n, .slice d.l[j].a.sA d.l[j].a.s.length d.l[j].a.sC, .int .i64 d.l[j].a.d.k, .int .i64 d.l[j].a.d.n, .string d.l[j].a.d.t, .slice d.l[j].a.d.A d.l[j].a.d.l.length d.l[j].a.d.c, .slice d.l[j].A d.l[j].l.length d.l[j].c] 36))
      clear hG hNq
      rw [hA]
      go_wp2_with fail
      refine (ih d.l[j] gv gs M B base (Tr.walkL Ko.boxed (d.l.take j) acc0) _ _ (by omega) (Elem.In.alloc hix (by omega) _) HN2.out (by omega)).mono ?_
      rintro e w1 ⟨rfl, v', hn3, hG2⟩
      have HG3 := Lib.hid (HG1.out.trans hG2)
      have HN3 := Lib.hid hn3
      clear hG2 hn3
      go_wp2_with fail
      refine ⟨⟨j + 1, v', by omega, by go_num, ?_, ?_⟩, by simp [intOf]; omega⟩
      · rw [Tr.walkL_take_succ Ko.boxed d.l j hlt]
        exact HN3.out
      · rw [Tr.walkL_take_succ Ko.boxed d.l j hlt]
        exact HG3.out
    · have hj' : j = d.l.length := by omega
      subst hj'
      rw [List.take_length] at hG hNq
      have HG := Lib.hid hG
      have HN := Lib.hid hNq
      clear hG hNq
      go_wp2_with fail
      go_end0
      exact ⟨rfl, q, by rw [K.out]; exact HN.out, by rw [K.out]; exact HG.out⟩
theorem eachX_any : ∀ m, KoEachXOk m := by
  intro m
  induction m with
  | zero => intro d gv gs M B base acc v w h; have := d.size_pos; omega
  | succ m ih => exact eachX_step m ih

set_option maxRecDepth 100000 in
set_option maxHeartbeats 2000000 in
theorem nlNew_any (w : World) : Calls Try.prog 70 #[] w fun e w' => e = .returned (.pointer (some ⟨w.heap.size + 1, 0, none⟩)) ∧ w'.heap.size = w.heap.size + 2 ∧ Below w.heap.size w w' ∧ ∀ base, w.heap.size + 2 ≤ base → NL (w.heap.size + 1) w.heap.size base (.slice none 0 0) [] w' := by
  have hmm := @run_makeMap Try.prog
  obtain ⟨W, hW⟩ : ∃ W, W = w.alloc (.map #[] 0) := ⟨_, rfl⟩
  obtain ⟨W2, hW2⟩ : ∃ W2, W2 = W.alloc (.cells #[.slice none 0 0, .map (some w.heap.size)] 92) := ⟨_, rfl⟩
  have zW : W.heap.size = w.heap.size + 1 := by rw [hW]; simp
  have zW2 : W2.heap.size = w.heap.size + 2 := by rw [hW2]; simp [zW]
  have b1 : Below w.heap.size w W := by rw [hW]; exact (Below.refl _ _).alloc (Nat.le_refl _) _
  have b2 : Below w.heap.size w W2 := by rw [hW2]; exact b1.alloc (by omega) _
  have bk : D.Blk W2 (w.heap.size + 1) 92 #[.slice none 0 0, .map (some w.heap.size)] := by rw [hW2, ← zW]; exact D.Blk.new _ _ _
  have hm : IMap W2 (.bool false) w.heap.size 0 (fun k => .bool (([] : List Int).contains k)) := by
    have h := IMap.new w (.bool false)
    rw [← hW] at h
    exact h.keep (by rw [hW2]; exact Below.heap_alloc _ _ _ (by omega))
  have HN : Hid (∀ base, w.heap.size + 2 ≤ base → NL (w.heap.size + 1) w.heap.size base (.slice none 0 0) [] W2) := fun base hb => ⟨by omega, bk.cell 0, bk.cell 1, bk.frozen 0, hm, World.ownsRow_nil _ _ _ _, by omega, by omega, by omega⟩
  clear bk hm
  go_enter Try.func70, Try.ntmps70
  go_wp2_with fail
  go_ret
  rw [← hW, ← hW2]
  exact ⟨rfl, zW2, b2, HN.out⟩

set_option maxRecDepth 100000 in
set_option maxHeartbeats 2000000 in
theorem implBxd_any (d : Tr Ko) (B : Nat) (w : World) (hin : Ko.E.In w B d) (hB : B ≤ w.heap.size) (hb : d.bulk Ko.bulk ≤ 1500000) : Calls Try.prog 32 #[Ko.val d] w (RetI (d.walk Ko.boxed []) w) := by
  have hb1 := Tr.bulk1_eq d
  have hsz := Tr.size_le_bulk Ko.bulk d
  obtain ⟨W, hW⟩ : ∃ W, W = w.alloc (.cells #[.int .i64 d.a.k, .int .i64 d.a.n, .slice d.a.sA d.a.s.length d.a.sC, .int .i64 d.a.d.k, .int .i64 d.a.d.n, .string d.a.d.t, .slice d.a.d.A d.a.d.l.length d.a.d.c, .slice d.A d.l.length d.c] 36) := ⟨_, rfl⟩
  have zW : W.heap.size = w.heap.size + 1 := by rw [hW]; simp
  have b1 : Below w.heap.size w W := by rw [hW]; exact (Below.refl _ _).alloc (Nat.le_refl _) _
  have X0 : Ko.Box W w.heap.size d := by rw [hW]; exact Ko.Box.new _ _ _
  have hmf : ∀ (fn : Fn) (first cap : Array Value) (w : World), (Instr.makeFunc fn first cap).run Try.prog w = .ok (.func fn first cap) w := fun _ _ _ _ => rfl
  unfold Ko.val
  have X0q := X0
  obtain ⟨a0, a1, a2, a3, a4, a5, a6, a7⟩ := X0q
  go_enter Try.func32, Try.ntmps32
  go_wp2_with fail
  rw [← hW]
  clear hW a0 a1 a2 a3 a4 a5 a6 a7
  refine (nlNew_any W).mono ?_
  rintro e w1 ⟨rfl, z1, hb1', hNL⟩
  rw [zW] at hNL z1
  obtain ⟨W2, hW2⟩ : ∃ W2, W2 = w1.alloc (.cells #[.pointer (some ⟨w.heap.size + 1 + 1, 0, none⟩)] 84) := ⟨_, rfl⟩
  have z2 : W2.heap.size = w.heap.size + 4 := by rw [hW2]; simp; omega
  have hc2 : CellN (w.heap.size + 1 + 2) (.pointer (some ⟨w.heap.size + 1 + 1, 0, none⟩)) W2 := by
    have h := CellN.new w1 (.pointer (some ⟨w.heap.size + 1 + 1, 0, none⟩)) 84
    rw [← hW2] at h
    have e : w1.heap.size = w.heap.size + 1 + 2 := by omega
    rwa [e] at h
  have b2 : Below w.heap.size w W2 := by rw [hW2]; exact (b1.trans (hb1'.mono (by omega))).alloc (by omega) _
  have hNS : NS (w.heap.size + 1 + 2) (w.heap.size + 1 + 1) (w.heap.size + 1) w.heap.size (w.heap.size + 4) (.slice none 0 0) [] W2 := by
    refine ⟨by rw [hW2]; exact (hNL (w.heap.size + 4) (by omega)).alloc _, hc2, by omega, by omega, by omega, by omega, by omega, by omega, by omega⟩
  have hin2 : Ko.E.In W2 w.heap.size d := Elem.In.below (Elem.In.more hin hB) b2
  have X2 : Ko.Box W2 w.heap.size d := by rw [hW2]; exact Ko.Box.below (Ko.Box.below X0 hb1' (by omega)) ((Below.refl _ _).alloc (Nat.le_refl w1.heap.size) _) (by omega)
  have ew : w1.heap.size = w.heap.size + 1 + 2 := by omega
  have X1 := Ko.Box.below X0 hb1' (by omega)
  obtain ⟨a0, a1, a2, a3, a4, a5, a6, a7⟩ := X1
  have HNS := Lib.hid hNS
  have HI := Lib.hid hin2
  have HB2 := Lib.hid b2
  clear hNL hc2 hNS hin2 hb1' b1 b2 X0 X2
  go_wp2_with fail
  rw [← hW2]
  clear hW2 a0 a1 a2 a3 a4 a5 a6 a7
  refine (eachX_any _ d (w.heap.size + 1 + 2) (w.heap.size + 1 + 1) (w.heap.size + 1) w.heap.size (w.heap.size + 4) [] (.slice none 0 0) W2 (Nat.le_refl _) HI.out HNS.out (by simp; omega)).mono ?_
  rintro e w3 ⟨rfl, v', hn3, hG⟩
  have hb3 : Below w.heap.size W2 w3 := HNS.out.below hG
  have z3 := hb3.size
  have q0 := hn3.cell.cell
  have q1 := hn3.nl.c0
  obtain ⟨A', c', rfl, ho⟩ := own_of_row hG.1
  have HO := Lib.hid (ho.wide (lo' := w.heap.size) (by omega) (Nat.le_refl _))
  have HB := Lib.hid (HB2.out.trans hb3)
  clear hG ho hn3 hb3
  go_wp2_with fail
  go_ret
  exact ⟨A', c', rfl, HO.out, HB.out⟩

set_option maxRecDepth 100000 in
set_option maxHeartbeats 2000000 in
theorem specBxdV_any (d : Tr Ko) (B : Nat) (w : World) (hin : Ko.E.In w B d) (hB : B ≤ w.heap.size) (hb : d.bulk Ko.bulk ≤ 1500000) : Calls Try.prog 31 #[Ko.val d] w (RetI (d.walk Ko.boxed []) w) := by
  have hb1 := Tr.bulk1_eq d
  have hsz := Tr.size_le_bulk Ko.bulk d
  obtain ⟨W, hW⟩ : ∃ W, W = w.alloc (.cells #[.int .i64 d.a.k, .int .i64 d.a.n, .slice d.a.sA d.a.s.length d.a.sC, .int .i64 d.a.d.k, .int .i64 d.a.d.n, .string d.a.d.t, .slice d.a.d.A d.a.d.l.length d.a.d.c, .slice d.A d.l.length d.c] 36) := ⟨_, rfl⟩
  obtain ⟨W2, hW2⟩ : ∃ W2, W2 = W.alloc (.cells #[] 3) := ⟨_, rfl⟩
  have zW : W.heap.size = w.heap.size + 1 := by rw [hW]; simp
  have zW2 : W2.heap.size = w.heap.size + 2 := by rw [hW2]; simp [zW]
  have b1 : Below w.heap.size w W := by rw [hW]; exact (Below.refl _ _).alloc (Nat.le_refl _) _
  have b2 : Below w.heap.size w W2 := by rw [hW2]; exact b1.alloc (by omega) _
  have hin2 : Ko.E.In W2 w.heap.size d := Elem.In.below (Elem.In.more hin hB) b2
  have X0 : Ko.Box W w.heap.size d := by rw [hW]; exact Ko.Box.new _ _ _
  have r0 : W2.ownsRow (w.heap.size + 1) 3 1 (.slice (some ⟨w.heap.size + 1, 0, none⟩) 0 0) ([] : List Int).length (([] : List Int).map (Value.int .i64)) := by
    rw [hW2, ← zW]; exact World.ownsRow_made W #[] 0 (Nat.le_refl _) (by unfold maxLen; omega) (by simp)
  unfold Ko.val
  obtain ⟨a0, a1, a2, a3, a4, a5, a6, a7⟩ := X0
  go_enter Try.func31, Try.ntmps31
  go_wp2_with fail
  rw [← hW, ← hW2]
  clear hW hW2 a0 a1 a2 a3 a4 a5 a6 a7
  refine (specBxd_any _ d w.heap.size (w.heap.size + 1) [] _ W2 (Nat.le_refl _) hin2 (by omega) (by omega) r0 (by simp; omega)).mono ?_
  rintro e w1 ⟨v', rfl, hG⟩
  have hb3 : Below w.heap.size W2 w1 := hG.below (by simp) (fun g hg => by simp [Value.ownBlock] at hg; omega) (by omega)
  obtain ⟨A', c', rfl, ho⟩ := own_of_row hG.1
  have HO := Lib.hid (ho.wide (lo' := w.heap.size) (by omega) (Nat.le_refl _))
  have HB := Lib.hid (b2.trans hb3)
  clear hG ho hb3
  go_wp2_with fail
  go_ret
  exact ⟨A', c', rfl, HO.out, HB.out⟩
mutual
theorem Tr.walk_len1 {α : Type} {f : α → List Int → List Int} {k : α → Nat} (hf : ∀ a s, (f a s).length ≤ s.length + 1 + k a) : ∀ (d : Tr α) (s : List Int), (Tr.walk f d s).length ≤ s.length + 1 + d.bulk k
  | .mk a _ _ l, s => by
    have h1 := hf a s
    have h2 := Tr.walkL_len1 hf l (f a s)
    simp only [Tr.walk, Tr.bulk]; omega
theorem Tr.walkL_len1 {α : Type} {f : α → List Int → List Int} {k : α → Nat} (hf : ∀ a s, (f a s).length ≤ s.length + 1 + k a) : ∀ (l : List (Tr α)) (s : List Int), (Tr.walkL f l s).length ≤ s.length + Tr.bulkL k l
  | [], s => by simp [Tr.walkL, Tr.bulkL]
  | d :: r, s => by
    have h1 := Tr.walk_len1 hf d s
    have h2 := Tr.walkL_len1 hf r (Tr.walk f d s)
    simp only [Tr.walkL, Tr.bulkL]; omega
end
theorem Ko.boxedV_len (d : Tr Ko) : (d.walk Ko.boxed []).length ≤ 1 + d.bulk Ko.bulk := by
  have h := Tr.walk_len1 (f := Ko.boxed) (k := Ko.bulk) (fun a s => by have := Ko.boxed_len a s; unfold Ko.bulk1 at this; omega) d []
  simpa using h
end Go.Proofs.Ytbeikpbnidbjfaa
