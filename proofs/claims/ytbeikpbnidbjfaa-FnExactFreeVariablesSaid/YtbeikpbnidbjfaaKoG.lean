/-
  FreeVariables: the program's closure, and both functions (written by gen/kofree.py).
-/
import Derived.Test.YtbeikpbnidbjfaaKoF
import Derived.Test.YtbeikpbnidbjfaaKoY
import Derived.Deep.DeepCutAuto
namespace Go.Proofs.Ytbeikpbnidbjfaa
open Go.RowKit Go.Maps Go.WideMaps Go.ChangeMaps

theorem zeroInt (w : World) : (zeroValue 3).run Try.prog w = .ok (.int .i64 0) w := by kernel_rfl
def cntF (bd : List Int) : Int → Int := fun k => (bd.count k : Int)
theorem cntF_snoc (bd : List Int) (x : Int) : updI (fun k => .int .i64 (cntF bd k)) x (.int .i64 (cntF bd x + 1)) = fun k => .int .i64 (cntF (bd ++ [x]) k) := by
  funext u
  unfold updI cntF
  by_cases e : u = x
  · subst e; simp
  · rw [if_neg e]; simp [List.count_append, List.count_singleton, Ne.symm e]
def decF (bd s : List Int) : Int → Int := fun k => (bd.count k : Int) - (s.count k : Int)
theorem decF_nil (bd : List Int) : decF bd [] = cntF bd := by funext k; simp [decF, cntF]
theorem decF_all (bd s : List Int) : decF (bd ++ s) s = cntF bd := by funext k; simp [decF, cntF, List.count_append]
theorem decF_snoc (bd s : List Int) (x : Int) : updI (fun k => .int .i64 (decF bd s k)) x (.int .i64 (decF bd s x - 1)) = fun k => .int .i64 (decF bd (s ++ [x]) k) := by
  funext u
  unfold updI decF
  by_cases e : u = x
  · subst e; simp [List.count_append]; omega
  · rw [if_neg e]; simp [List.count_append, List.count_singleton, Ne.symm e]
theorem cntF_le (bd : List Int) (x : Int) : 0 ≤ cntF bd x ∧ cntF bd x ≤ bd.length := by
  unfold cntF
  have := List.count_le_length (a := x) (l := bd)
  omega
theorem decF_le (bd s : List Int) (x : Int) : -(s.length : Int) ≤ decF bd s x ∧ decF bd s x ≤ bd.length := by
  unfold decF
  have := List.count_le_length (a := x) (l := bd)
  have := List.count_le_length (a := x) (l := s)
  omega
theorem cntF_has (bd : List Int) (x : Int) : (cntF bd x == 0) = !bd.contains x := by
  unfold cntF
  cases h : bd.contains x
  · have h2 : x ∉ bd := by simpa using h
    simp [List.count_eq_zero.2 h2]
  · have h2 : x ∈ bd := by simpa using h
    have h3 : 0 < bd.count x := List.count_pos_iff.2 h2
    simp only [Bool.not_true, beq_eq_false_iff_ne]
    omega
/-- The variables of the walk: the map of binders, the list, the walk itself. -/
structure FS (gb gv gf gs M Mb B base : Nat) (v : Value) (acc : List Int) (fu : Nat) (f : Int → Int) (w : World) : Prop where
  ns : NS gv gs M B base v acc w
  cb : CellN gb (.map (some Mb)) w
  cf : CellN gf (.func (.func 71) #[] #[.pointer (some ⟨gb, 0, none⟩), .pointer (some ⟨gv, 0, none⟩), .pointer (some ⟨gf, 0, none⟩)]) w
  map : ∃ n, n + fu ≤ 1099511627776 ∧ IMap w (.int .i64 0) Mb n (fun k => .int .i64 (f k))
  le : B ≤ gb ∧ B ≤ gf ∧ B ≤ Mb
  lb : gb < base ∧ gf < base ∧ Mb < base
  ne : gb ≠ gs ∧ gb ≠ M ∧ gb ≠ Mb ∧ gf ≠ gs ∧ gf ≠ M ∧ gf ≠ Mb ∧ gv ≠ Mb ∧ Mb ≠ gs ∧ Mb ≠ M
section
variable {gb gv gf gs M Mb B base fu : Nat} {v v' : Value} {acc acc' : List Int} {f : Int → Int} {w w' : World}
theorem FS.less {fu' : Nat} (h : FS gb gv gf gs M Mb B base v acc fu f w) (hf : fu' ≤ fu) : FS gb gv gf gs M Mb B base v acc fu' f w := by
  obtain ⟨n, h1, h2⟩ := h.map
  exact ⟨h.ns, h.cb, h.cf, ⟨n, by omega, h2⟩, h.le, h.lb, h.ne⟩
/-- Nothing of it has changed. -/
theorem FS.keep (h : FS gb gv gf gs M Mb B base v acc fu f w) (hz : w.heap.size ≤ w'.heap.size) (hk : ∀ k, k < w.heap.size → w'.heap[k]? = w.heap[k]?) : FS gb gv gf gs M Mb B base v acc fu f w' := by
  obtain ⟨n, h1, h2⟩ := h.map
  refine ⟨⟨h.ns.nl.keep hz fun k hk2 => hk k ?_, h.ns.cell.keep hz (hk gv h.ns.cell.lt), h.ns.b1, h.ns.b2, h.ns.b3, h.ns.n1, h.ns.n2, h.ns.lb, by have := h.ns.bw; omega⟩, h.cb.keep hz (hk gb h.cb.lt), h.cf.keep hz (hk gf h.cf.lt), ⟨n, h1, h2.keep (hk Mb h2.lt)⟩, h.le, h.lb, h.ne⟩
  rcases hk2 with rfl | rfl | hk2
  · exact h.ns.nl.lt
  · exact h.ns.nl.map.lt
  · exact (h.ns.nl.row.lt k hk2).2
theorem FS.below_ (h : FS gb gv gf gs M Mb B base v acc fu f w) (hb : Below w.heap.size w w') : FS gb gv gf gs M Mb B base v acc fu f w' := h.keep hb.size hb.block
theorem FS.alloc (h : FS gb gv gf gs M Mb B base v acc fu f w) (o : Obj) : FS gb gv gf gs M Mb B base v acc fu f (w.alloc o) := h.keep (by simp) fun k hk => Below.heap_alloc _ _ _ hk
/-- One number added. -/
theorem FS.add (h : FS gb gv gf gs M Mb B base v acc fu f w) (hn : NL gs M base v' acc' w') (hg : GrewN [gs, M] base acc' v w v' w') : FS gb gv gf gs M Mb B base v' acc' fu f w' := by
  obtain ⟨n, h1, h2⟩ := h.map
  have hz := hg.2.1.size
  obtain ⟨e1, e2, e3, e4, e5, e6, e7, e8, e9⟩ := h.ne
  obtain ⟨l1, l2, l3⟩ := h.lb
  have far : ∀ b, b < w.heap.size → b ≠ gs → b ≠ M → b < base → w'.heap[b]? = w.heap[b]? := fun b hb n1 n2 hlt =>
    hg.block hb (by simp only [List.mem_cons, List.not_mem_nil, or_false, not_or]; exact ⟨n1, n2⟩) (fun e => by have := (h.ns.nl.row.lt b e).1; omega)
  exact ⟨h.ns.step hn hg, h.cb.keep hz (far gb h.cb.lt e1 e2 l1), h.cf.keep hz (far gf h.cf.lt e4 e5 l2), ⟨n, h1, h2.keep (far Mb h2.lt e8 e9 l3)⟩, h.le, h.lb, h.ne⟩
theorem FS.look (h : FS gb gv gf gs M Mb B base v acc fu f w) {k : Int} (hk : (Lit.int .i64 k).wf = true) : (Instr.lookup 86 (.map (some Mb)) (.int .i64 k) false).run Try.prog w = .ok (.int .i64 (f k)) w := by
  obtain ⟨n, h1, h2⟩ := h.map
  exact h2.look Try.underlying86 (zeroInt w) hk
/-- The map of binders changed at a place. -/
theorem FS.put (h : FS gb gv gf gs M Mb B base v acc fu f w) (hfu : 1 ≤ fu) {k : Int} (hk : (Lit.int .i64 k).wf = true) (x : Int) {g : Int → Int} (hg : updI (fun k => .int .i64 (f k)) k (.int .i64 x) = fun k => .int .i64 (g k)) :
    ∃ w2, (Instr.mapUpdate 86 (.map (some Mb)) (.int .i64 k) (.int .i64 x)).run Try.prog w = .ok () w2 ∧ FS gb gv gf gs M Mb B base v acc (fu - 1) g w2 ∧ Chg [Mb] w w2 := by
  obtain ⟨n, h1, h2⟩ := h.map
  obtain ⟨w2, hrun, hm, hgr⟩ := h2.put (t := 86) Try.underlying86 (by unfold maxLen; omega) hk (.int .i64 x)
  rw [hg] at hm
  obtain ⟨e1, e2, e3, e4, e5, e6, e7, e8, e9⟩ := h.ne
  have hc : Chg [Mb] w w2 := chg_of_grown hgr (by simp)
  have far : ∀ b, b < w.heap.size → b ≠ Mb → w2.heap[b]? = w.heap[b]? := fun b hb hne => hc.block b hb (by simpa using hne)
  have hz := hc.size
  refine ⟨w2, hrun, ⟨⟨h.ns.nl.keep hz fun b hb => ?_, h.ns.cell.keep hz (far gv h.ns.cell.lt e7), h.ns.b1, h.ns.b2, h.ns.b3, h.ns.n1, h.ns.n2, h.ns.lb, by have := h.ns.bw; omega⟩, h.cb.keep hz (far gb h.cb.lt e3), h.cf.keep hz (far gf h.cf.lt e6), ⟨n + 1, by omega, hm⟩, h.le, h.lb, h.ne⟩, hc⟩
  rcases hb with rfl | rfl | hb
  · exact far _ h.ns.nl.lt (Ne.symm e8)
  · exact far _ h.ns.nl.map.lt (Ne.symm e9)
  · have h3 := h.ns.nl.row.lt b hb
    have h4 := h.lb.2.2
    exact far b h3.2 (by omega)
theorem FS.below (h : FS gb gv gf gs M Mb B base v acc fu f w) (hg : GrewN [gs, M, Mb] base acc' v w v' w') : Below B w w' :=
  hg.below (by have := h.ns.b2; have := h.ns.b3; have := h.le.2.2; simp; omega) (fun g e => by have := (h.ns.nl.row.lt g e).1; have := h.ns.b1; have := h.ns.lb; omega) (by have := h.ns.bw; have := h.ns.b1; have := h.ns.lb; omega)
theorem FS.box (h : FS gb gv gf gs M Mb B base v acc fu f w) {b : Nat} (hg : GrewN [gs, M, Mb] base acc' v w v' w') (hb : b < w.heap.size) (h1 : base ≤ b) (h2 : v.ownBlock ≠ some b) : w'.heap[b]? = w.heap[b]? :=
  hg.block hb (by have := h.ns.nl.gb; have := h.ns.nl.mb; have := h.lb.2.2; simp; omega) h2
end
theorem GrewN.more {F F' : List Nat} {base : Nat} {acc : List Int} {v v1 : Value} {w w1 : World} (h : GrewN F base acc v w v1 w1) (hF : ∀ k ∈ F, k ∈ F') : GrewN F' base acc v w v1 w1 :=
  ⟨h.1, h.2.1.mono fun k hk => by
    rcases List.mem_append.1 hk with hk | hk
    · exact List.mem_append.2 (.inl (hF k hk))
    · exact List.mem_append.2 (.inr hk), h.2.2⟩
theorem GrewN.chg {F : List Nat} {base : Nat} {acc : List Int} {v v1 : Value} {w w1 w2 : World} (h : GrewN F base acc v w v1 w1) (hc : Chg F w1 w2) (hr : w2.ownsRow base 3 1 v1 acc.length (acc.map (Value.int .i64))) : GrewN F base acc v w v1 w2 :=
  h.trans ⟨hr, hc.mono fun k hk => List.mem_append.2 (.inl hk), .inl rfl⟩

set_option maxRecDepth 100000 in
theorem implVar_any (d : Tr Ko) (w : World) : Calls Try.prog 72 #[Ko.val d] w fun e w' => e = .returned (.bool d.a.isVar) ∧ Below w.heap.size w w' := by
  have b1 : Below w.heap.size w (w.alloc (.cells #[.int .i64 d.a.k, .int .i64 d.a.n, .slice d.a.sA d.a.s.length d.a.sC, .int .i64 d.a.d.k, .int .i64 d.a.d.n, .string d.a.d.t, .slice d.a.d.A d.a.d.l.length d.a.d.c, .slice d.A d.l.length d.c] 36)) := (Below.refl _ _).alloc (Nat.le_refl _) _
  unfold Ko.val
  cases h2 : (d.a.k == 2)
  · have HQ : Hid (d.a.isVar = (d.a.k == 4)) := by show _ = _; unfold Ko.isVar; rw [h2]; rfl
    go_enter Try.func72, Try.ntmps72
    go_wp2_with fail
    go_ret
    exact ⟨ret_bool HQ.out.symm, b1⟩
  · have HQ : Hid (d.a.isVar = true) := by show _ = _; unfold Ko.isVar; rw [h2]; rfl
    go_enter Try.func72, Try.ntmps72
    go_wp2_with fail
    go_ret
    exact ⟨ret_bool HQ.out.symm, b1⟩

def KoVisOk (m : Nat) : Prop := ∀ (d : Tr Ko) (gb gv gf gs M Mb B base : Nat) (bd acc : List Int) (v : Value) (fu : Nat) (w : World), d.size ≤ m → Ko.E.In w B d → FS gb gv gf gs M Mb B base v acc fu (cntF bd) w → 2 * d.bulk Ko.bulk ≤ fu → acc.length + 1 + d.bulk Ko.bulk ≤ 4000000 → bd.length + d.bulk Ko.bulk ≤ 2000000 →
    Calls Try.prog 71 #[Ko.val d, .pointer (some ⟨gb, 0, none⟩), .pointer (some ⟨gv, 0, none⟩), .pointer (some ⟨gf, 0, none⟩)] w fun e w' => e = .returned (.tuple #[]) ∧ ∃ v', FS gb gv gf gs M Mb B base v' (d.free bd acc) (fu - 2 * d.bulk Ko.bulk) (cntF bd) w' ∧ GrewN [gs, M, Mb] base (d.free bd acc) v w v' w'

set_option maxRecDepth 100000 in
set_option maxHeartbeats 2000000 in
theorem vis_step (m : Nat) (ih : KoVisOk m) : KoVisOk (m + 1) := by
  intro d gb gv gf gs M Mb B base bd acc v fu w hm hin hF0 hfu hacc hbdl
  have hbw := hF0.ns.bw
  have hs := (Ko.E_in hin).1.s
  have hwf := (Ko.E_in hin).1.wf
  have hscap := hs.cap
  have hcap := (Ko.E_in hin).2.cap
  have hsq := Tr.size_eq d
  have hbq := Tr.bulk_eq Ko.bulk d
  have hkb : Ko.bulk d.a = d.a.s.length + d.a.d.bulk := rfl
  have hBw : B ≤ w.heap.size := by have := hF0.ns.b1; have := hF0.ns.lb; omega
  obtain ⟨acc0, hacc0⟩ : ∃ a, a = d.a.freeN bd acc := ⟨_, rfl⟩
  obtain ⟨b3, hb3e⟩ : ∃ x, x = bd ++ d.a.s := ⟨_, rfl⟩
  have HB3 := Lib.hid hb3e
  have HLB : Hid (b3.length = bd.length + d.a.s.length) := by show _ = _; rw [hb3e, List.length_append]
  have K : Hid (d.free bd acc = Tr.freeL d.l b3 acc0) := by rw [hacc0, hb3e]; exact Tr.free_eq _ _ _
  clear hb3e
  have hal : acc0.length ≤ acc.length + 1 := by rw [hacc0]; exact d.a.freeN_len _ _
  have Hacc := Lib.hid hacc0
  clear hacc0
  have hv2 : v.ownBlock ≠ some w.heap.size := fun e => by have := (hF0.ns.nl.row.lt _ e).2; omega
  obtain ⟨W, hW⟩ : ∃ W, W = w.alloc (.cells #[.int .i64 d.a.k, .int .i64 d.a.n, .slice d.a.sA d.a.s.length d.a.sC, .int .i64 d.a.d.k, .int .i64 d.a.d.n, .string d.a.d.t, .slice d.a.d.A d.a.d.l.length d.a.d.c, .slice d.A d.l.length d.c] 36) := ⟨_, rfl⟩
  have hgW : GrewN [gs, M, Mb] base acc v w v W := by rw [hW]; exact GrewN.alloc0 hF0.ns.nl.row _
  have hFW : FS gb gv gf gs M Mb B base v acc fu (cntF bd) W := by rw [hW]; exact hF0.alloc _
  have zW : W.heap.size = w.heap.size + 1 := by rw [hW]; simp
  have X0 : Ko.Box W w.heap.size d := by rw [hW]; exact Ko.Box.new _ _ _
  obtain ⟨X, hX⟩ : ∃ X, X = (d.a.isVar && !bd.contains d.a.n) := ⟨_, rfl⟩
  have HXX := Lib.hid hX
  clear hX
  have HX := Lib.hid X0
  unfold Ko.val
  obtain ⟨a0, a1, a2, a3, a4, a5, a6, a7⟩ := X0
  go_enter Try.func71, Try.ntmps71
  go_upto_region 1 with fail
  rw [← hW]
  clear hW
  go_cut [19] (fun b wx => b = .bool X ∧ Below W.heap.size W wx)
  case first =>
    cases hV : d.a.isVar
    · have HV := Lib.hid hV
      have e0 : X = false := by rw [HXX.out, hV]; rfl
      have E0 := Lib.hid e0
      clear hV e0
      go_wp2_with (go_at_call 72; refine (implVar_any d W).mono ?_; rintro e w1 ⟨rfl, hb1⟩; rw [HV.out])
      go_meet
      exact ⟨by rw [E0.out], hb1⟩
    · have HV := Lib.hid hV
      have hc := cntF_has bd d.a.n
      cases hb : bd.contains d.a.n
      · have e0 : X = true := by rw [HXX.out, hV, hb]; rfl
        have E0 := Lib.hid e0
        rw [hb] at hc
        have hx0 : cntF bd d.a.n = 0 := by simpa using hc
        have HX0 := Lib.hid hx0
        clear hV hb hc e0 hx0
        go_wp2_with (go_at_call 72; refine (implVar_any d W).mono ?_; rintro e w1 ⟨rfl, hb1⟩; rw [HV.out]; have z1 := hb1.size; have hF1 := hFW.below_ hb1; have p1 := hF1.cb.cell; have hlook := hF1.look hwf.1; rw [HX0.out] at hlook; have X1 := HX.out.below hb1 (by omega); obtain ⟨a0, a1, a2, a3, a4, a5, a6, a7⟩ := X1)
        go_meet
        exact ⟨by rw [E0.out], hb1⟩
      · have e0 : X = false := by rw [HXX.out, hV, hb]; rfl
        have E0 := Lib.hid e0
        rw [hb] at hc
        obtain ⟨x, hx⟩ : ∃ x, x = cntF bd d.a.n := ⟨_, rfl⟩
        rw [← hx] at hc
        have HXE := Lib.hid hx
        have hc2 : (x == 0) = false := hc
        clear hV hb hc e0 hx
        go_wp2_with (go_at_call 72; refine (implVar_any d W).mono ?_; rintro e w1 ⟨rfl, hb1⟩; rw [HV.out]; have z1 := hb1.size; have hF1 := hFW.below_ hb1; have p1 := hF1.cb.cell; have hlook := hF1.look hwf.1; rw [← HXE.out] at hlook; have X1 := HX.out.below hb1 (by omega); obtain ⟨a0, a1, a2, a3, a4, a5, a6, a7⟩ := X1)
        go_meet
        exact ⟨by rw [E0.out], hb1⟩
  case rest =>
    obtain ⟨rfl, hb1⟩ := hcut
    obtain ⟨w1, rfl⟩ : ∃ W, W = wc := ⟨_, rfl⟩
    have z1 := hb1.size
    have hF1 := hFW.below_ hb1
    have X1 := HX.out.below hb1 (by omega)
    clear a0 a1 a2 a3 a4 a5 a6 a7
    obtain ⟨a0, a1, a2, a3, a4, a5, a6, a7⟩ := X1
    cases hx : X
    · have h0 : acc0 = acc := by rw [Hacc.out]; unfold Ko.freeN; rw [← HXX.out, hx]; rfl
      have HF1 : Hid (FS gb gv gf gs M Mb B base v acc0 fu (cntF bd) w1) := by rw [h0]; exact hF1
      have HG1 : Hid (GrewN [gs, M, Mb] base acc0 v W v w1) := by rw [h0]; exact (GrewN.refl hFW.ns.nl.row).later hb1
      clear hx h0 hF1
      go_wp2_with fail
      clear a0 a1 a2 a3 a4 a5 a6 a7
      go_loopw [27] (fun i wr => ∃ j : Nat, j ≤ d.a.s.length ∧ i = .int .i64 j ∧ FS gb gv gf gs M Mb B base v acc0 (fu - j) (cntF (bd ++ d.a.s.take j)) wr ∧ GrewN [gs, M, Mb] base acc0 v W v wr) (fun i _ => d.a.s.length - (intOf i).toNat)
      case atStart => exact ⟨0, Nat.zero_le _, rfl, by simpa using HF1.out, HG1.out⟩
      case round =>
        obtain ⟨j, hj, rfl, hF, hG⟩ := hrel
        have hs2 := hG.2.1.size
        have X1 := HX.out.keep (hFW.box hG (b := w.heap.size) (by omega) (by omega) hv2)
        by_cases hlt : j < d.a.s.length
        · obtain ⟨b, o, hA, hblk, hcell⟩ := (hs.below (hF0.below (hgW.trans hG))).at_ hlt
          have gg : (j : Int) < (d.a.s.length : Int) := by omega
          have htk : (d.a.s.take j).length ≤ d.a.s.length := by rw [List.length_take]; omega
          obtain ⟨x, hx⟩ : ∃ x, x = cntF (bd ++ d.a.s.take j) d.a.s[j] := ⟨_, rfl⟩
          have hlook := hF.look (hwf.2 _ (List.getElem_mem hlt))
          rw [← hx] at hlook
          have hle := cntF_le (bd ++ d.a.s.take j) d.a.s[j]
          rw [← hx, List.length_append] at hle
          have hlb := HLB.out
          have x1 : -9000000 ≤ x := by omega
          have x2 : x ≤ 9000000 := by omega
          have hst := cntF_snoc (bd ++ d.a.s.take j) d.a.s[j]
          rw [← hx] at hst
          have htk2 : d.a.s.take (j + 1) = d.a.s.take j ++ [d.a.s[j]] := List.take_succ_eq_append_getElem hlt
          rw [List.append_assoc, ← htk2] at hst
          obtain ⟨w2, hrun, hF2, hc2⟩ := hF.put (by omega) (hwf.2 _ (List.getElem_mem hlt)) (x + 1) hst
          have HF2 := Lib.hid hF2
          have HG2 := Lib.hid (hG.chg (hc2.mono (by simp)) hF2.ns.nl.row)
          have p1 := hF.cb.cell
          have HA := Lib.hid hA
          rw [hA]
          clear hx hle hst htk2 hF hF2 hG hc2 X1 hA hlb
          go_wp2_with fail
          go_roundw
          case rel => exact ⟨j + 1, by omega, by go_num, HF2.out.less (by omega), HG2.out⟩
          case measure => simp [intOf]; omega
        · have hj' : j = d.a.s.length := by omega
          subst hj'
          rw [List.take_length, ← HB3.out] at hF
          have HF2 := Lib.hid hF
          have HG2 := Lib.hid hG
          clear hF hG
          obtain ⟨a0, a1, a2, a3, a4, a5, a6, a7⟩ := X1
          clear a0 a1 a2 a3 a4 a5 a6
          go_wp2_with fail
          clear a7
          obtain ⟨wi, rfl⟩ : ∃ W, W = wr := ⟨_, rfl⟩
          go_loopw [39] (fun i wr => ∃ (j : Nat) (q : Value), j ≤ d.l.length ∧ i = .int .i64 j ∧ FS gb gv gf gs M Mb B base q (Tr.freeL (d.l.take j) b3 acc0) (fu - d.a.s.length - 2 * Tr.bulkL Ko.bulk (d.l.take j)) (cntF b3) wr ∧ GrewN [gs, M, Mb] base (Tr.freeL (d.l.take j) b3 acc0) v W q wr) (fun i _ => d.l.length - (intOf i).toNat)
          case atStart => exact ⟨0, v, Nat.zero_le _, rfl, HF2.out.less (by omega), HG2.out⟩
          case round =>
            obtain ⟨j, q, hj, rfl, hF, hG⟩ := hrel
            have hs2 := hG.2.1.size
            by_cases hlt : j < d.l.length
            · obtain ⟨b, o, hA, hblk, k0, k1, k2, k3, k4, k5, k6, k7, hix⟩ := Ko.at_ ((Ko.E_in hin).2.below (hF0.below (hgW.trans hG))) (i := j) (x := d.l[j]) (List.getElem?_eq_getElem hlt)
              have hsz := Tr.sizeL_mem (l := d.l) (List.getElem_mem hlt)
              have hwl := Tr.freeL_len (d.l.take j) b3 acc0
              have hbd := Tr.bulkL_drop Ko.bulk d.l j hlt
              have hbt := Tr.bulkL_take_succ Ko.bulk d.l j hlt
              have HBT := Lib.hid hbt
              clear hbt
              have HG1 := Lib.hid (hG.alloc (.cells #[.int .i64 d.l[j].a.k, .int .i64 d.l[j].a.n, .slice d.l[j].a.sA d.l[j].a.s.length d.l[j].a.sC, .int .i64 d.l[j].a.d.k, .int .i64 d.l[j].a.d.n, .string d.l[j].a.d.t, .slice d.l[j].a.d.A d.l[j].a.d.l.length d.l[j].a.d.c, .slice d.l[j].A d.l[j].l.length d.l[j].c] 36))
              have HF3 := Lib.hid (hF.alloc (.cells #[.int .i64 d.l[j].a.k, .int .i64 d.l[j].a.n, .slice d.l[j].a.sA d.l[j].a.s.length d.l[j].a.sC, .int .i64 d.l[j].a.d.k, .int .i64 d.l[j].a.d.n, .string d.l[j].a.d.t, .slice d.l[j].a.d.A d.l[j].a.d.l.length d.l[j].a.d.c, .slice d.l[j].A d.l[j].l.length d.l[j].c] 36))
              have p1 := HF3.out.cf.cell
              clear hG hF
              rw [hA]
              go_wp2_with fail
              have hlb := HLB.out
              refine (ih d.l[j] gb gv gf gs M Mb B base b3 (Tr.freeL (d.l.take j) b3 acc0) q _ _ (by omega) (Elem.In.alloc hix (by omega) _) HF3.out (by omega) (by omega) (by omega)).mono ?_
              clear hlb
              rintro e w1 ⟨rfl, v', hF4, hG2⟩
              have HG3 := Lib.hid (HG1.out.trans hG2)
              have hbt := HBT.out
              have HF4 := Lib.hid (hF4.less (fu' := fu - d.a.s.length - 2 * Tr.bulkL Ko.bulk (d.l.take (j + 1))) (by omega))
              clear hG2 hF4 hbt p1
              go_wp2_with fail
              refine ⟨⟨j + 1, v', by omega, by go_num, ?_, ?_⟩, by simp [intOf]; omega⟩
              · rw [Tr.freeL_take_succ d.l j hlt]
                exact HF4.out
              · rw [Tr.freeL_take_succ d.l j hlt]
                exact HG3.out
            · have hj' : j = d.l.length := by omega
              subst hj'
              rw [List.take_length] at hG hF
              have X2 := HX.out.keep (hFW.box hG (b := w.heap.size) (by omega) (by omega) hv2)
              have HG3 := Lib.hid hG
              have HF3 := Lib.hid hF
              clear hG hF
              obtain ⟨a0, a1, a2, a3, a4, a5, a6, a7⟩ := X2
              go_wp2_with fail
              clear a0 a1 a2 a3 a4 a5 a6 a7
              obtain ⟨wj, rfl⟩ : ∃ W, W = wr := ⟨_, rfl⟩
              go_loopw [50] (fun i wr => ∃ j : Nat, j ≤ d.a.s.length ∧ i = .int .i64 j ∧ FS gb gv gf gs M Mb B base q (Tr.freeL d.l b3 acc0) (fu - d.a.s.length - 2 * Tr.bulkL Ko.bulk d.l - j) (decF b3 (d.a.s.take j)) wr ∧ GrewN [gs, M, Mb] base (Tr.freeL d.l b3 acc0) v W q wr) (fun i _ => d.a.s.length - (intOf i).toNat)
              case atStart => exact ⟨0, Nat.zero_le _, rfl, by rw [List.take_zero, decF_nil]; exact (HF3.out.less (by omega)), HG3.out⟩
              case round =>
                obtain ⟨j, hj, rfl, hF, hG⟩ := hrel
                have hs2 := hG.2.1.size
                have X1 := HX.out.keep (hFW.box hG (b := w.heap.size) (by omega) (by omega) hv2)
                by_cases hlt : j < d.a.s.length
                · obtain ⟨b, o, hA, hblk, hcell⟩ := (hs.below (hF0.below (hgW.trans hG))).at_ hlt
                  have gg : (j : Int) < (d.a.s.length : Int) := by omega
                  have htk : (d.a.s.take j).length ≤ d.a.s.length := by rw [List.length_take]; omega
                  obtain ⟨x, hx⟩ : ∃ x, x = decF b3 (d.a.s.take j) d.a.s[j] := ⟨_, rfl⟩
                  have hlook := hF.look (hwf.2 _ (List.getElem_mem hlt))
                  rw [← hx] at hlook
                  have hle := decF_le b3 (d.a.s.take j) d.a.s[j]
                  rw [← hx] at hle
                  have hlb := HLB.out
                  have x1 : -9000000 ≤ x := by omega
                  have x2 : x ≤ 9000000 := by omega
                  have hst := decF_snoc b3 (d.a.s.take j) d.a.s[j]
                  rw [← hx] at hst
                  have htk2 : d.a.s.take (j + 1) = d.a.s.take j ++ [d.a.s[j]] := List.take_succ_eq_append_getElem hlt
                  rw [← htk2] at hst
                  obtain ⟨w2, hrun, hF2, hc2⟩ := hF.put (by omega) (hwf.2 _ (List.getElem_mem hlt)) (x - 1) hst
                  have HF2 := Lib.hid hF2
                  have HG2 := Lib.hid (hG.chg (hc2.mono (by simp)) hF2.ns.nl.row)
                  have p1 := hF.cb.cell
                  have HA := Lib.hid hA
                  rw [hA]
                  clear hx hle hst htk2 hF hF2 hG hc2 X1 hA hlb
                  go_wp2_with fail
                  go_roundw
                  case rel => exact ⟨j + 1, by omega, by go_num, HF2.out.less (by omega), HG2.out⟩
                  case measure => simp [intOf]; omega
                · have hj' : j = d.a.s.length := by omega
                  subst hj'
                  rw [List.take_length, HB3.out, decF_all] at hF
                  have HF4 := Lib.hid (hF.less (fu' := fu - 2 * d.bulk Ko.bulk) (by omega))
                  have HG4 := Lib.hid hG
                  clear hF hG X1
                  go_wp2_with fail
                  go_end0
                  exact ⟨rfl, q, by rw [K.out, HB3.out]; exact HF4.out, by rw [K.out]; exact hgW.trans HG4.out⟩
    · have h0 : acc0 = addN acc d.a.n := by rw [Hacc.out]; unfold Ko.freeN; rw [← HXX.out, hx]; rfl
      have p2 := hF1.ns.cell.cell
      have H0 := Lib.hid h0
      clear hx h0
      go_wp2_with (go_at_call 73; refine (nlAdd_any gs M base v acc d.a.n w1 hF1.ns.nl hF1.ns.bw hwf.1 (by omega)).mono ?_)
      rintro e w2 ⟨rfl, vn, hn2, hg2⟩
      rw [← H0.out] at hn2 hg2
      have HF1 := Lib.hid (hF1.add hn2 hg2)
      have HG1 := Lib.hid (((GrewN.refl hFW.ns.nl.row).later hb1).trans (hg2.more (F' := [gs, M, Mb]) (by simp)))
      have X2 := HX.out.keep (hFW.box HG1.out (b := w.heap.size) (by omega) (by omega) hv2)
      clear a0 a1 a2 a3 a4 a5 a6 a7 hn2 hg2 hF1 p2
      obtain ⟨a0, a1, a2, a3, a4, a5, a6, a7⟩ := X2
      go_wp2_with fail
      clear a0 a1 a2 a3 a4 a5 a6 a7
      go_loopw [27] (fun i wr => ∃ j : Nat, j ≤ d.a.s.length ∧ i = .int .i64 j ∧ FS gb gv gf gs M Mb B base vn acc0 (fu - j) (cntF (bd ++ d.a.s.take j)) wr ∧ GrewN [gs, M, Mb] base acc0 v W vn wr) (fun i _ => d.a.s.length - (intOf i).toNat)
      case atStart => exact ⟨0, Nat.zero_le _, rfl, by simpa using HF1.out, HG1.out⟩
      case round =>
        obtain ⟨j, hj, rfl, hF, hG⟩ := hrel
        have hs2 := hG.2.1.size
        have X1 := HX.out.keep (hFW.box hG (b := w.heap.size) (by omega) (by omega) hv2)
        by_cases hlt : j < d.a.s.length
        · obtain ⟨b, o, hA, hblk, hcell⟩ := (hs.below (hF0.below (hgW.trans hG))).at_ hlt
          have gg : (j : Int) < (d.a.s.length : Int) := by omega
          have htk : (d.a.s.take j).length ≤ d.a.s.length := by rw [List.length_take]; omega
          obtain ⟨x, hx⟩ : ∃ x, x = cntF (bd ++ d.a.s.take j) d.a.s[j] := ⟨_, rfl⟩
          have hlook := hF.look (hwf.2 _ (List.getElem_mem hlt))
          rw [← hx] at hlook
          have hle := cntF_le (bd ++ d.a.s.take j) d.a.s[j]
          rw [← hx, List.length_append] at hle
          have hlb := HLB.out
          have x1 : -9000000 ≤ x := by omega
          have x2 : x ≤ 9000000 := by omega
          have hst := cntF_snoc (bd ++ d.a.s.take j) d.a.s[j]
          rw [← hx] at hst
          have htk2 : d.a.s.take (j + 1) = d.a.s.take j ++ [d.a.s[j]] := List.take_succ_eq_append_getElem hlt
          rw [List.append_assoc, ← htk2] at hst
          obtain ⟨w2, hrun, hF2, hc2⟩ := hF.put (by omega) (hwf.2 _ (List.getElem_mem hlt)) (x + 1) hst
          have HF2 := Lib.hid hF2
          have HG2 := Lib.hid (hG.chg (hc2.mono (by simp)) hF2.ns.nl.row)
          have p1 := hF.cb.cell
          have HA := Lib.hid hA
          rw [hA]
          clear hx hle hst htk2 hF hF2 hG hc2 X1 hA hlb
          go_wp2_with fail
          go_roundw
          case rel => exact ⟨j + 1, by omega, by go_num, HF2.out.less (by omega), HG2.out⟩
          case measure => simp [intOf]; omega
        · have hj' : j = d.a.s.length := by omega
          subst hj'
          rw [List.take_length, ← HB3.out] at hF
          have HF2 := Lib.hid hF
          have HG2 := Lib.hid hG
          clear hF hG
          obtain ⟨a0, a1, a2, a3, a4, a5, a6, a7⟩ := X1
          clear a0 a1 a2 a3 a4 a5 a6
          go_wp2_with fail
          clear a7
          obtain ⟨wi, rfl⟩ : ∃ W, W = wr := ⟨_, rfl⟩
          go_loopw [39] (fun i wr => ∃ (j : Nat) (q : Value), j ≤ d.l.length ∧ i = .int .i64 j ∧ FS gb gv gf gs M Mb B base q (Tr.freeL (d.l.take j) b3 acc0) (fu - d.a.s.length - 2 * Tr.bulkL Ko.bulk (d.l.take j)) (cntF b3) wr ∧ GrewN [gs, M, Mb] base (Tr.freeL (d.l.take j) b3 acc0) v W q wr) (fun i _ => d.l.length - (intOf i).toNat)
          case atStart => exact ⟨0, vn, Nat.zero_le _, rfl, HF2.out.less (by omega), HG2.out⟩
          case round =>
            obtain ⟨j, q, hj, rfl, hF, hG⟩ := hrel
            have hs2 := hG.2.1.size
            by_cases hlt : j < d.l.length
            · obtain ⟨b, o, hA, hblk, k0, k1, k2, k3, k4, k5, k6, k7, hix⟩ := Ko.at_ ((Ko.E_in hin).2.below (hF0.below (hgW.trans hG))) (i := j) (x := d.l[j]) (List.getElem?_eq_getElem hlt)
              have hsz := Tr.sizeL_mem (l := d.l) (List.getElem_mem hlt)
              have hwl := Tr.freeL_len (d.l.take j) b3 acc0
              have hbd := Tr.bulkL_drop Ko.bulk d.l j hlt
              have hbt := Tr.bulkL_take_succ Ko.bulk d.l j hlt
              have HBT := Lib.hid hbt
              clear hbt
              have HG1 := Lib.hid (hG.alloc (.cells #[.int .i64 d.l[j].a.k, .int .i64 d.l[j].a.n, .slice d.l[j].a.sA d.l[j].a.s.length d.l[j].a.sC, .int .i64 d.l[j].a.d.k, .int .i64 d.l[j].a.d.n, .string d.l[j].a.d.t, .slice d.l[j].a.d.A d.l[j].a.d.l.length d.l[j].a.d.c, .slice d.l[j].A d.l[j].l.length d.l[j].c] 36))
              have HF3 := Lib.hid (hF.alloc (.cells #[.int .i64 d.l[j].a.k, .int .i64 d.l[j].a.n, .slice d.l[j].a.sA d.l[j].a.s.length d.l[j].a.sC, .int .i64 d.l[j].a.d.k, .int .i64 d.l[j].a.d.n, .string d.l[j].a.d.t, .slice d.l[j].a.d.A d.l[j].a.d.l.length d.l[j].a.d.c, .slice d.l[j].A d.l[j].l.length d.l[j].c] 36))
              have p1 := HF3.out.cf.cell
              clear hG hF
              rw [hA]
              go_wp2_with fail
              have hlb := HLB.out
              refine (ih d.l[j] gb gv gf gs M Mb B base b3 (Tr.freeL (d.l.take j) b3 acc0) q _ _ (by omega) (Elem.In.alloc hix (by omega) _) HF3.out (by omega) (by omega) (by omega)).mono ?_
              clear hlb
              rintro e w1 ⟨rfl, v', hF4, hG2⟩
              have HG3 := Lib.hid (HG1.out.trans hG2)
              have hbt := HBT.out
              have HF4 := Lib.hid (hF4.less (fu' := fu - d.a.s.length - 2 * Tr.bulkL Ko.bulk (d.l.take (j + 1))) (by omega))
              clear hG2 hF4 hbt p1
              go_wp2_with fail
              refine ⟨⟨j + 1, v', by omega, by go_num, ?_, ?_⟩, by simp [intOf]; omega⟩
              · rw [Tr.freeL_take_succ d.l j hlt]
                exact HF4.out
              · rw [Tr.freeL_take_succ d.l j hlt]
                exact HG3.out
            · have hj' : j = d.l.length := by omega
              subst hj'
              rw [List.take_length] at hG hF
              have X2 := HX.out.keep (hFW.box hG (b := w.heap.size) (by omega) (by omega) hv2)
              have HG3 := Lib.hid hG
              have HF3 := Lib.hid hF
              clear hG hF
              obtain ⟨a0, a1, a2, a3, a4, a5, a6, a7⟩ := X2
              go_wp2_with fail
              clear a0 a1 a2 a3 a4 a5 a6 a7
              obtain ⟨wj, rfl⟩ : ∃ W, W = wr := ⟨_, rfl⟩
              go_loopw [50] (fun i wr => ∃ j : Nat, j ≤ d.a.s.length ∧ i = .int .i64 j ∧ FS gb gv gf gs M Mb B base q (Tr.freeL d.l b3 acc0) (fu - d.a.s.length - 2 * Tr.bulkL Ko.bulk d.l - j) (decF b3 (d.a.s.take j)) wr ∧ GrewN [gs, M, Mb] base (Tr.freeL d.l b3 acc0) v W q wr) (fun i _ => d.a.s.length - (intOf i).toNat)
              case atStart => exact ⟨0, Nat.zero_le _, rfl, by rw [List.take_zero, decF_nil]; exact (HF3.out.less (by omega)), HG3.out⟩
              case round =>
                obtain ⟨j, hj, rfl, hF, hG⟩ := hrel
                have hs2 := hG.2.1.size
                have X1 := HX.out.keep (hFW.box hG (b := w.heap.size) (by omega) (by omega) hv2)
                by_cases hlt : j < d.a.s.length
                · obtain ⟨b, o, hA, hblk, hcell⟩ := (hs.below (hF0.below (hgW.trans hG))).at_ hlt
                  have gg : (j : Int) < (d.a.s.length : Int) := by omega
                  have htk : (d.a.s.take j).length ≤ d.a.s.length := by rw [List.length_take]; omega
                  obtain ⟨x, hx⟩ : ∃ x, x = decF b3 (d.a.s.take j) d.a.s[j] := ⟨_, rfl⟩
                  have hlook := hF.look (hwf.2 _ (List.getElem_mem hlt))
                  rw [← hx] at hlook
                  have hle := decF_le b3 (d.a.s.take j) d.a.s[j]
                  rw [← hx] at hle
                  have hlb := HLB.out
                  have x1 : -9000000 ≤ x := by omega
                  have x2 : x ≤ 9000000 := by omega
                  have hst := decF_snoc b3 (d.a.s.take j) d.a.s[j]
                  rw [← hx] at hst
                  have htk2 : d.a.s.take (j + 1) = d.a.s.take j ++ [d.a.s[j]] := List.take_succ_eq_append_getElem hlt
                  rw [← htk2] at hst
                  obtain ⟨w2, hrun, hF2, hc2⟩ := hF.put (by omega) (hwf.2 _ (List.getElem_mem hlt)) (x - 1) hst
                  have HF2 := Lib.hid hF2
                  have HG2 := Lib.hid (hG.chg (hc2.mono (by simp)) hF2.ns.nl.row)
                  have p1 := hF.cb.cell
                  have HA := Lib.hid hA
                  rw [hA]
                  clear hx hle hst htk2 hF hF2 hG hc2 X1 hA hlb
                  go_wp2_with fail
                  go_roundw
                  case rel => exact ⟨j + 1, by omega, by go_num, HF2.out.less (by omega), HG2.out⟩
                  case measure => simp [intOf]; omega
                · have hj' : j = d.a.s.length := by omega
                  subst hj'
                  rw [List.take_length, HB3.out, decF_all] at hF
                  have HF4 := Lib.hid (hF.less (fu' := fu - 2 * d.bulk Ko.bulk) (by omega))
                  have HG4 := Lib.hid hG
                  clear hF hG X1
                  go_wp2_with fail
                  go_end0
                  exact ⟨rfl, q, by rw [K.out, HB3.out]; exact HF4.out, by rw [K.out]; exact hgW.trans HG4.out⟩
theorem vis_any : ∀ m, KoVisOk m := by
  intro m
  induction m with
  | zero => intro d gb gv gf gs M Mb B base bd acc v fu w h; have := d.size_pos; omega
  | succ m ih => exact vis_step m ih
end Go.Proofs.Ytbeikpbnidbjfaa
