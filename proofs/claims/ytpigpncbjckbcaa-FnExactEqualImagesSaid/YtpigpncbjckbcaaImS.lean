/-
  EqualImages of the model (written by gen/imeqs.py).
-/
import Derived.Test.YtpigpncbjckbcaaImE
namespace Go.Proofs.Ytpigpncbjckbcaa
open Go.RowKit

/-- Two boxes made at once. -/
def Cd.Two (wr : World) (x y : Cd) (s6 s7 : Value) (wx : World) : Prop := ∃ p q : Nat, s6 = .pointer (some ⟨p, 0, none⟩) ∧ s7 = .pointer (some ⟨q, 0, none⟩) ∧ Cd.Box wx p x ∧ Cd.Box wx q y ∧ wr.heap.size ≤ p ∧ p < wx.heap.size ∧ wr.heap.size ≤ q ∧ q < wx.heap.size ∧ Below wr.heap.size wr wx
theorem Cd.Two.lr (wr : World) (x y : Cd) (t : TypeId) : Cd.Two wr x y (.pointer (some ⟨wr.heap.size, 0, none⟩)) (.pointer (some ⟨wr.heap.size + 1, 0, none⟩)) ((wr.alloc (.cells #[.int .i64 x.p, .int .i64 x.s, .int .i64 x.c, .slice x.lA x.l.length x.lC] t)).alloc (.cells #[.int .i64 y.p, .int .i64 y.s, .int .i64 y.c, .slice y.lA y.l.length y.lC] t)).drew := by
  have h1 := Cd.Box.new wr x t
  have h2 := Cd.Box.new (wr.alloc (.cells #[.int .i64 x.p, .int .i64 x.s, .int .i64 x.c, .slice x.lA x.l.length x.lC] t)) y t
  rw [World.size_alloc] at h2
  have b1 : Below (wr.heap.size + 1) (wr.alloc (.cells #[.int .i64 x.p, .int .i64 x.s, .int .i64 x.c, .slice x.lA x.l.length x.lC] t)) ((wr.alloc (.cells #[.int .i64 x.p, .int .i64 x.s, .int .i64 x.c, .slice x.lA x.l.length x.lC] t)).alloc (.cells #[.int .i64 y.p, .int .i64 y.s, .int .i64 y.c, .slice y.lA y.l.length y.lC] t)) := (Below.refl _ _).alloc (by simp) _
  have bd := (Below.refl (wr.heap.size + 2) ((wr.alloc (.cells #[.int .i64 x.p, .int .i64 x.s, .int .i64 x.c, .slice x.lA x.l.length x.lC] t)).alloc (.cells #[.int .i64 y.p, .int .i64 y.s, .int .i64 y.c, .slice y.lA y.l.length y.lC] t))).drew
  refine ⟨_, _, rfl, rfl, (h1.below b1 (by omega)).below bd (by omega), h2.below bd (by omega), Nat.le_refl _, by simp [World.drew] <;> omega, by omega, by simp [World.drew] <;> omega, (((Below.refl _ _).alloc (Nat.le_refl _) _).alloc (by simp) _).drew⟩
theorem Cd.Two.rl (wr : World) (x y : Cd) (t : TypeId) : Cd.Two wr x y (.pointer (some ⟨wr.heap.size + 1, 0, none⟩)) (.pointer (some ⟨wr.heap.size, 0, none⟩)) ((wr.alloc (.cells #[.int .i64 y.p, .int .i64 y.s, .int .i64 y.c, .slice y.lA y.l.length y.lC] t)).alloc (.cells #[.int .i64 x.p, .int .i64 x.s, .int .i64 x.c, .slice x.lA x.l.length x.lC] t)).drew := by
  obtain ⟨p, q, e1, e2, h1, h2, h3, h4, h5, h6, h7⟩ := Cd.Two.lr wr y x t
  exact ⟨q, p, e2, e1, h2, h1, h5, h6, h3, h4, h7⟩
set_option maxRecDepth 100000 in
set_option maxHeartbeats 8000000 in
theorem specEqIm_any (a b : Im) (B : Nat) (w : World) (ha : Im.E.In w B a) (hb : Im.E.In w B b) (hB : B ≤ w.heap.size) :
    Calls Try.prog 10 #[Im.val a, Im.val b] w fun e w' => e = .returned (.bool (Im.eqB a b)) ∧ Below w.heap.size w w' := by
  obtain ⟨W1, hW1⟩ : ∃ W1, W1 = (w.alloc (.cells #[.slice a.lA a.l.length a.lC, .int .i64 a.m] 31)).alloc (.cells #[.slice b.lA b.l.length b.lC, .int .i64 b.m] 31) := ⟨_, rfl⟩
  have b1 : Below w.heap.size w W1 := by rw [hW1]; exact ((Below.refl _ _).alloc (Nat.le_refl _) _).alloc (by simp) _
  have z1 : w.heap.size + 2 ≤ W1.heap.size := by rw [hW1]; simp
  have xa : Im.Box W1 w.heap.size a := by rw [hW1]; exact (Im.Box.new w a _).below ((Below.refl (w.heap.size + 1) _).alloc (by simp) _) (by omega)
  have xb : Im.Box W1 (w.heap.size + 1) b := by rw [hW1]; have := Im.Box.new (w.alloc (.cells #[.slice a.lA a.l.length a.lC, .int .i64 a.m] 31)) b 31; simpa using this
  unfold Im.val
  have hoa := (Im.E_in (ha.below (b1.mono hB))).l
  have hob := (Im.E_in (hb.below (b1.mono hB))).l
  have hca := hoa.cap
  have hcb := hob.cap
  have hB1 : B ≤ W1.heap.size := by omega
  by_cases hlen : a.l.length = b.l.length
  · have hn1 : ((a.l.length : Int) != (b.l.length : Int)) = false := by simp [hlen]
    have hlen1 : b.l.length ≤ a.l.length := by omega
    have hlen2 : a.l.length ≤ b.l.length := by omega
    clear hlen
    cases hm : a.m == b.m
    · have HQ : Hid (Im.eqB a b = false) := by show _ = _; unfold Im.eqB; rw [hm]; rfl
      have hm2 : (a.m != b.m) = true := by simp [bne, hm]
      clear hm
      go_enter Try.func10, Try.ntmps10
      go_upto_region 1 with fail
      rw [← hW1]
      clear hW1
      obtain ⟨a0, a1⟩ := xa
      obtain ⟨d0, d1⟩ := xb
      go_wp2_with fail
      go_ret
      exact ⟨ret_bool HQ.out.symm, b1⟩
    · have HQ : Hid (Im.eqB a b = Cd.eqR a.l b.l) := by show _ = _; unfold Im.eqB; rw [hm]; rfl
      have hm2 : (a.m != b.m) = false := by simp [bne, hm]
      clear hm
      go_enter Try.func10, Try.ntmps10
      go_upto_region 1 with fail
      rw [← hW1]
      clear hW1
      have XA := Lib.hid xa
      have XB := Lib.hid xb
      obtain ⟨a0, a1⟩ := xa
      obtain ⟨d0, d1⟩ := xb
      go_wp2_with fail
      clear a0 a1 d0 d1
      go_loopw [26] (fun i wr => ∃ j : Nat, j ≤ a.l.length ∧ i = .int .i64 j ∧ Hid (Cd.eqR (a.l.drop j) (b.l.drop j) = Im.eqB a b) ∧ Below W1.heap.size W1 wr) (fun i _ => a.l.length - (intOf i).toNat)
      case atStart => exact ⟨0, Nat.zero_le _, rfl, by simp [Hid, HQ.out], Below.refl _ _⟩
      case round =>
        obtain ⟨j, hj, rfl, HE, hbr⟩ := hrel
        have zr := hbr.size
        by_cases hlt : j < a.l.length
        · have hlt' : j < b.l.length := by omega
          have HS := Lib.hid (Cd.eqR_drop hlt hlt')
          obtain ⟨a0, a1⟩ := XA.out.below hbr (by omega)
          obtain ⟨d0, d1⟩ := XB.out.below hbr (by omega)
          have hja := hoa.below (hbr.mono hB1)
          have hjb := hob.below (hbr.mono hB1)
          obtain ⟨ab, ao, eA, hblk, c0, c1, c2, c3, hix⟩ := Cd.at_ hja (i := j) (x := a.l[j]) (List.getElem?_eq_getElem hlt)
          obtain ⟨bb, bo, eB, hblk', c0', c1', c2', c3', hix'⟩ := Cd.at_ hjb (i := j) (x := b.l[j]) (List.getElem?_eq_getElem hlt')
          rw [eA] at a0
          rw [eB] at d0
          have gg1 : (0 : Int) ≤ (j : Int) := by omega
          have gg2 : (j : Int) < (a.l.length : Int) := by omega
          have gg3 : (j : Int) < (b.l.length : Int) := by omega
          have EA := Lib.hid eA
          have EB := Lib.hid eB
          clear eA eB
          have lb1 : ab < wr.heap.size := by omega
          have lb2 : bb < wr.heap.size := by omega
          have lb3 : w.heap.size < wr.heap.size := by omega
          have lb4 : w.heap.size + 1 < wr.heap.size := by omega
          go_upto_region 6 with fail
          go_cut [6, 7] (fun s6 s7 wx => Cd.Two wr a.l[j] b.l[j] s6 s7 wx)
          case first =>
            first | go_region | fail
            all_goals (go_wp2_with fail; go_meet)
            all_goals first | exact Cd.Two.lr _ _ _ _ | exact Cd.Two.rl _ _ _ _
          case rest =>
            clear XA XB a0 a1 d0 d1 c0 c1 c2 c3 c0' c1' c2' c3' lb1 lb2 lb3 lb4
            obtain ⟨wx, rfl⟩ : ∃ W, W = wc := ⟨_, rfl⟩
            obtain ⟨p, q, rfl, rfl, X6, X7, lp, lp2, lq, lq2, hbw⟩ := hcut
            have zw := hbw.size
            have hbx : Below W1.heap.size W1 wx := hbr.trans (hbw.mono zr)
            have hxl := (Cd.E_in (hix.below (hbw.mono (by omega)))).l
            have hyl := (Cd.E_in (hix'.below (hbw.mono (by omega)))).l
            obtain ⟨x, hx⟩ : ∃ x, x = a.l[j] := ⟨_, rfl⟩
            obtain ⟨y, hy⟩ : ∃ y, y = b.l[j] := ⟨_, rfl⟩
            rw [← hx, ← hy] at HS
            rw [← hx] at X6 hxl
            rw [← hy] at X7 hyl
            clear hx hy hix hix' hbw hja hjb hbr EA EB HQ
            have X6h := Lib.hid X6
            have X7h := Lib.hid X7
            obtain ⟨x0, x1, x2, x3⟩ := X6
            obtain ⟨y0, y1, y2, y3⟩ := X7
            have HK : Hid (Cd.eqB x y = ((x.p == y.p) && ((x.s == y.s) && ((x.c == y.c) && Nt.eqR x.l y.l)))) := rfl
            have hcx := hxl.cap
            have hcy := hyl.cap
            cases q0 : (x.p == y.p)
            · have n0 : (x.p != y.p) = true := by simp [bne, q0]
              have HN : Hid (Im.eqB a b = false) := by show _ = _; rw [← HE.out, HS.out, HK.out, q0]; simp
              go_wp2_with fail
              go_ret
              exact ⟨ret_bool HN.out.symm, b1.trans (hbx.mono (by omega))⟩
            · have n0 : (x.p != y.p) = false := by simp [bne, q0]
              cases q1 : (x.s == y.s)
              · have n1 : (x.s != y.s) = true := by simp [bne, q1]
                have HN : Hid (Im.eqB a b = false) := by show _ = _; rw [← HE.out, HS.out, HK.out, q0, q1]; simp
                go_wp2_with fail
                go_ret
                exact ⟨ret_bool HN.out.symm, b1.trans (hbx.mono (by omega))⟩
              · have n1 : (x.s != y.s) = false := by simp [bne, q1]
                cases q2 : (x.c == y.c)
                · have n2 : (x.c != y.c) = true := by simp [bne, q2]
                  have HN : Hid (Im.eqB a b = false) := by show _ = _; rw [← HE.out, HS.out, HK.out, q0, q1, q2]; simp
                  go_wp2_with fail
                  go_ret
                  exact ⟨ret_bool HN.out.symm, b1.trans (hbx.mono (by omega))⟩
                · have n2 : (x.c != y.c) = false := by simp [bne, q2]
                  have HKK : Hid (Cd.eqB x y = Nt.eqR x.l y.l) := by show _ = _; rw [HK.out, q0, q1, q2]; rfl
                  clear q0 q1 q2
                  by_cases hxy : x.l.length = y.l.length
                  · have n3 : ((x.l.length : Int) != (y.l.length : Int)) = false := by simp [hxy]
                    have hxy1 : y.l.length ≤ x.l.length := by omega
                    have hxy2 : x.l.length ≤ y.l.length := by omega
                    clear hxy
                    go_wp2_with fail
                    clear x0 x1 x2 x3 y0 y1 y2 y3 n0 n1 n2 n3
                    go_loopw [70] (fun i wz => ∃ k : Nat, k ≤ x.l.length ∧ i = .int .i64 k ∧ Hid (Nt.eqR (x.l.drop k) (y.l.drop k) = Nt.eqR x.l y.l) ∧ Below wx.heap.size wx wz) (fun i _ => x.l.length - (intOf i).toNat)
                    case atStart => exact ⟨0, Nat.zero_le _, rfl, by simp [Hid], Below.refl _ _⟩
                    case round =>
                      obtain ⟨i, hi, rfl, HE2, hbz⟩ := hrel
                      obtain ⟨wz, hwz⟩ : ∃ W, W = wr := ⟨_, rfl⟩
                      rw [← hwz] at hbz ⊢
                      clear hwz
                      have zz := hbz.size
                      obtain ⟨_, _, _, lx⟩ := X6h.out.below hbz lp2
                      obtain ⟨_, _, _, ly⟩ := X7h.out.below hbz lq2
                      by_cases hil : i < x.l.length
                      · have hil' : i < y.l.length := by omega
                        have HT := Lib.hid (Nt.eqR_drop hil hil')
                        obtain ⟨eb, eo, eX, hbk, cc0, cc1, cc2, cc3, cc4, cc5, hiu⟩ := Nt.at_ (hxl.below (hbz.mono (by omega))) (i := i) (x := x.l[i]) (List.getElem?_eq_getElem hil)
                        obtain ⟨eb', eo', eY, hbk', dd0, dd1, dd2, dd3, dd4, dd5, hiv⟩ := Nt.at_ (hyl.below (hbz.mono (by omega))) (i := i) (x := y.l[i]) (List.getElem?_eq_getElem hil')
                        rw [eX] at lx
                        rw [eY] at ly
                        obtain ⟨u, hu⟩ : ∃ u, u = x.l[i] := ⟨_, rfl⟩
                        obtain ⟨v, hv⟩ : ∃ v, v = y.l[i] := ⟨_, rfl⟩
                        rw [← hu, ← hv] at HT
                        rw [← hu] at cc0 cc1 cc2 cc3 cc4 cc5 hiu
                        rw [← hv] at dd0 dd1 dd2 dd3 dd4 dd5 hiv
                        clear hu hv eX eY
                        have gg1 : (0 : Int) ≤ (i : Int) := by omega
                        have gg2 : (i : Int) < (x.l.length : Int) := by omega
                        have gg3 : (i : Int) < (y.l.length : Int) := by omega
                        have nc0 : ∀ x : Near wz, x.at_.cell? ⟨eb, eo + i * 6, none⟩ = some (.int .i64 u.o) := fun x => x.cell _ cc0 (by omega)
                        have nc1 : ∀ x : Near wz, x.at_.cell? ⟨eb, eo + i * 6 + 1, none⟩ = some (.int .i64 u.i) := fun x => x.cell _ cc1 (by omega)
                        have nc2 : ∀ x : Near wz, x.at_.cell? ⟨eb, eo + i * 6 + 2, none⟩ = some (.int .i64 u.t.k) := fun x => x.cell _ cc2 (by omega)
                        have nc3 : ∀ x : Near wz, x.at_.cell? ⟨eb, eo + i * 6 + 3, none⟩ = some (.int .i64 u.t.n) := fun x => x.cell _ cc3 (by omega)
                        have nc4 : ∀ x : Near wz, x.at_.cell? ⟨eb, eo + i * 6 + 4, none⟩ = some (.string u.t.t) := fun x => x.cell _ cc4 (by omega)
                        have nc5 : ∀ x : Near wz, x.at_.cell? ⟨eb, eo + i * 6 + 5, none⟩ = some (.slice u.t.A u.t.l.length u.t.c) := fun x => x.cell _ cc5 (by omega)
                        have nd0 : ∀ x : Near wz, x.at_.cell? ⟨eb', eo' + i * 6, none⟩ = some (.int .i64 v.o) := fun x => x.cell _ dd0 (by omega)
                        have nd1 : ∀ x : Near wz, x.at_.cell? ⟨eb', eo' + i * 6 + 1, none⟩ = some (.int .i64 v.i) := fun x => x.cell _ dd1 (by omega)
                        have nd2 : ∀ x : Near wz, x.at_.cell? ⟨eb', eo' + i * 6 + 2, none⟩ = some (.int .i64 v.t.k) := fun x => x.cell _ dd2 (by omega)
                        have nd3 : ∀ x : Near wz, x.at_.cell? ⟨eb', eo' + i * 6 + 3, none⟩ = some (.int .i64 v.t.n) := fun x => x.cell _ dd3 (by omega)
                        have nd4 : ∀ x : Near wz, x.at_.cell? ⟨eb', eo' + i * 6 + 4, none⟩ = some (.string v.t.t) := fun x => x.cell _ dd4 (by omega)
                        have nd5 : ∀ x : Near wz, x.at_.cell? ⟨eb', eo' + i * 6 + 5, none⟩ = some (.slice v.t.A v.t.l.length v.t.c) := fun x => x.cell _ dd5 (by omega)
                        have nlx : ∀ z : Near wz, z.at_.cell? ⟨p, 3, none⟩ = some (.slice (some ⟨eb, eo, none⟩) x.l.length x.lC) := fun z => z.cell 3 lx (by omega)
                        have nly : ∀ z : Near wz, z.at_.cell? ⟨q, 3, none⟩ = some (.slice (some ⟨eb', eo', none⟩) y.l.length y.lC) := fun z => z.cell 3 ly (by omega)
                        clear cc0 cc1 cc2 cc3 cc4 cc5 dd0 dd1 dd2 dd3 dd4 dd5 lx ly
                        have HK2 : Hid (Nt.eqB u v = ((u.o == v.o) && ((u.i == v.i) && D.eqB u.t v.t))) := rfl
                        cases r0 : (u.o == v.o)
                        · have n0 : (u.o != v.o) = true := by simp [bne, r0]
                          have HN : Hid (Im.eqB a b = false) := by show _ = _; rw [← HE.out, HS.out, HKK.out, ← HE2.out, HT.out, HK2.out, r0]; simp
                          go_upto_region 12 with fail
                          refine wp_region_near (by kernel_rfl) (by kernel_rfl) ?_
                          repeat (go_big_quiet_step (first | (go_at_call 25; with_reducible exact Calls.near (HC1.out _))))
                          refine wpQuiet_nil ?_
                          intro _ hw1
                          obtain ⟨nx, hw2⟩ := hw1
                          subst hw2
                          have hbn := nx.below
                          go_wp2_with fail
                          go_ret
                          exact ⟨ret_bool HN.out.symm, b1.trans ((hbx.trans ((hbz.trans (hbn.mono zz)).mono (by omega))).mono (by omega))⟩
                        · have n0 : (u.o != v.o) = false := by simp [bne, r0]
                          cases r1 : (u.i == v.i)
                          · have n1 : (u.i != v.i) = true := by simp [bne, r1]
                            have HN : Hid (Im.eqB a b = false) := by show _ = _; rw [← HE.out, HS.out, HKK.out, ← HE2.out, HT.out, HK2.out, r0, r1]; simp
                            go_upto_region 12 with fail
                            refine wp_region_near (by kernel_rfl) (by kernel_rfl) ?_
                            repeat (go_big_quiet_step (first | (go_at_call 25; with_reducible exact Calls.near (HC1.out _))))
                            refine wpQuiet_nil ?_
                            intro _ hw1
                            obtain ⟨nx, hw2⟩ := hw1
                            subst hw2
                            have hbn := nx.below
                            go_wp2_with fail
                            go_ret
                            exact ⟨ret_bool HN.out.symm, b1.trans ((hbx.trans ((hbz.trans (hbn.mono zz)).mono (by omega))).mono (by omega))⟩
                          · have n1 : (u.i != v.i) = false := by simp [bne, r1]
                            obtain ⟨XS, hXS⟩ : ∃ X, X = D.eqB u.t v.t := ⟨_, rfl⟩
                            have HC1 : Hid (∀ x : Near wz, Calls Try.prog 25 #[.agg #[.int .i64 u.t.k, .int .i64 u.t.n, .string u.t.t, .slice u.t.A u.t.l.length u.t.c], .agg #[.int .i64 v.t.k, .int .i64 v.t.n, .string v.t.t, .slice v.t.A v.t.l.length v.t.c]] x.at_ fun e w' => e = .returned (.bool XS) ∧ Below x.at_.heap.size x.at_ w') := fun x => by
                              rw [hXS]
                              exact specEqual_any u.t.size u.t v.t wz.heap.size x.at_ (Nat.le_refl _) ((Nt.E_in (Elem.In.more hiu (by omega))).t.below x.below) ((Nt.E_in (Elem.In.more hiv (by omega))).t.below x.below) x.size
                            rw [← hXS] at HK2
                            clear hXS
                            cases XS
                            · skip
                              have HN : Hid (Im.eqB a b = false) := by show _ = _; rw [← HE.out, HS.out, HKK.out, ← HE2.out, HT.out, HK2.out, r0, r1]; simp
                              go_upto_region 12 with fail
                              refine wp_region_near (by kernel_rfl) (by kernel_rfl) ?_
                              repeat (go_big_quiet_step (first | (go_at_call 25; with_reducible exact Calls.near (HC1.out _))))
                              refine wpQuiet_nil ?_
                              intro _ hw1
                              obtain ⟨nx, hw2⟩ := hw1
                              subst hw2
                              have hbn := nx.below
                              go_wp2_with fail
                              go_ret
                              exact ⟨ret_bool HN.out.symm, b1.trans ((hbx.trans ((hbz.trans (hbn.mono zz)).mono (by omega))).mono (by omega))⟩
                            · skip
                              have HN : Hid (Nt.eqR (x.l.drop (i + 1)) (y.l.drop (i + 1)) = Nt.eqR x.l y.l) := by show _ = _; rw [← HE2.out, HT.out, HK2.out, r0, r1]; rfl
                              go_upto_region 12 with fail
                              refine wp_region_near (by kernel_rfl) (by kernel_rfl) ?_
                              repeat (go_big_quiet_step (first | (go_at_call 25; with_reducible exact Calls.near (HC1.out _))))
                              refine wpQuiet_nil ?_
                              intro _ hw1
                              obtain ⟨nx, hw2⟩ := hw1
                              subst hw2
                              have hbn := nx.below
                              go_wp2_with fail
                              go_roundw
                              case rel => exact ⟨i + 1, by omega, by go_num, HN, hbz.trans (hbn.mono zz)⟩
                              case measure => simp [intOf]; omega
                      · have HV : Nt.eqR x.l y.l = true := by rw [← HE2.out, List.drop_eq_nil_of_le (by omega), List.drop_eq_nil_of_le (by omega)]; rfl
                        have HN : Hid (Cd.eqR (a.l.drop (j + 1)) (b.l.drop (j + 1)) = Im.eqB a b) := by show _ = _; rw [← HE.out, HS.out, HKK.out, HV, Bool.true_and]
                        clear HV
                        go_wp2_with fail
                        go_roundw
                        case rel => exact ⟨j + 1, by omega, by go_num, HN, hbx.trans (hbz.mono (by omega))⟩
                        case measure => simp [intOf]; omega
                  · have n3 : ((x.l.length : Int) != (y.l.length : Int)) = true := by simpa using (by omega : ¬ (x.l.length : Int) = (y.l.length : Int))
                    have HZ := Lib.hid (Nt.eqR_len hxy)
                    clear hxy
                    have HN : Hid (Im.eqB a b = false) := by show _ = _; rw [← HE.out, HS.out, HKK.out, HZ.out]; rfl
                    go_wp2_with fail
                    go_ret
                    exact ⟨ret_bool HN.out.symm, b1.trans (hbx.mono (by omega))⟩
        · have HF : Hid (Im.eqB a b = true) := by show _ = _; rw [← HE.out, List.drop_eq_nil_of_le (by omega), List.drop_eq_nil_of_le (by omega)]; rfl
          go_wp2_with fail
          go_ret
          exact ⟨ret_bool HF.out.symm, b1.trans (hbr.mono (by omega))⟩
  · have hn1 : ((a.l.length : Int) != (b.l.length : Int)) = true := by simpa using (by omega : ¬ (a.l.length : Int) = (b.l.length : Int))
    have HQ : Hid (Im.eqB a b = false) := by show _ = _; unfold Im.eqB; rw [Cd.eqR_len hlen]; simp
    clear hlen
    go_enter Try.func10, Try.ntmps10
    go_upto_region 1 with fail
    rw [← hW1]
    clear hW1
    obtain ⟨a0, a1⟩ := xa
    obtain ⟨d0, d1⟩ := xb
    go_wp2_with fail
    go_ret
    exact ⟨ret_bool HQ.out.symm, b1⟩
end Go.Proofs.Ytpigpncbjckbcaa
