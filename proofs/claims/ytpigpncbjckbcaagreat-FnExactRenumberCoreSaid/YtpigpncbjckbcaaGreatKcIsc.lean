/-
  Numbers that are variables, and different: the model's l5Unique, the program's addVariables.
-/
import Derived.Test.YtpigpncbjckbcaaGreatKoBox
import Derived.Test.YtpigpncbjckbcaaGreatWords
import Derived.Test.YtpigpncbjckbcaaGreatKcShape
import Derived.Test.YtpigpncbjckbcaaGreatKoFree
import Derived.Test.YtpigpncbjckbcaaGreatNear
import Derived.Deep.RegionHeld3
import Derived.Deep.DeepCutAuto
namespace Go.Proofs.YtpigpncbjckbcaaGreat
open Go.RowKit Go.Maps Go.WideMaps Go.ChangeMaps
def inR (n : Int) : Bool := decide (0 ≤ n ∧ n ≤ 99999)
def uniqK : List Int → List Int → Bool | _, [] => true | known, n :: r => (inR n && !known.contains n) && uniqK (known ++ [n]) r
theorem uniqK_append (a b : List Int) : ∀ known, uniqK known (a ++ b) = (uniqK known a && uniqK (known ++ a) b) := by
  induction a with
  | nil => intro known; simp [uniqK]
  | cons n r ih => intro known; simp only [List.cons_append, uniqK, ih, Bool.and_assoc, List.append_assoc, List.nil_append, List.singleton_append]
theorem uniqK_take_succ (known l : List Int) (j : Nat) (h : j < l.length) : uniqK known (l.take (j + 1)) = (uniqK known (l.take j) && (inR l[j] && !(known ++ l.take j).contains l[j])) := by
  rw [List.take_succ_eq_append_getElem h, uniqK_append]; simp [uniqK]
theorem uniqK_no (known l : List Int) (j : Nat) (h : j < l.length) (hq : (inR l[j] && !(known ++ l.take j).contains l[j]) = false) : uniqK known l = false := by
  have h1 := uniqK_append (l.take (j + 1)) (l.drop (j + 1)) known
  rw [List.take_append_drop, uniqK_take_succ known l j h, hq] at h1
  simpa using h1
theorem inR_wf {n : Int} (h : inR n = true) : (Lit.int .i64 n).wf = true := by
  unfold inR at h
  have h2 := of_decide_eq_true h
  have e1 : IntKind.i64.min = -9223372036854775808 := by decide
  have e2 : IntKind.i64.max = 9223372036854775807 := by decide
  show (decide (IntKind.i64.min ≤ n) && decide (n ≤ IntKind.i64.max)) = true
  rw [e1, e2]
  simp only [Bool.and_eq_true, decide_eq_true_eq]
  omega
theorem IIn.take {w : World} {B : Nat} {A : Option Addr} {c : Nat} {l : List Int} (h : IIn w B A c l) (j : Nat) : IIn w B A c (l.take j) := by
  refine ⟨⟨by have := h.cap; rw [List.length_take]; omega, h.cap.2⟩, h.nil, fun hl => ?_⟩
  obtain ⟨b, o, e, hb, hc⟩ := h.mem (by rintro rfl; simp at hl)
  refine ⟨b, o, e, hb, fun i u hu => hc i u ?_⟩
  rw [List.getElem?_take] at hu
  split at hu
  · exact hu
  · cases hu
set_option maxRecDepth 100000 in
set_option maxHeartbeats 2000000 in
theorem specUniq_any (A : Option Addr) (c : Nat) (l : List Int) (B : Nat) (w : World) (hin : IIn w B A c l) : Calls Tryz.prog 169 #[.slice A l.length c] w fun e w' => e = .returned (.bool (uniqK [] l)) ∧ w' = w := by
  have hcap := hin.cap
  go_enter Tryz.func169, Tryz.ntmps169
  go_wp2_with fail
  go_loopw [7] (fun i wr => ∃ j : Nat, j ≤ l.length ∧ i = .int .i64 j ∧ Hid (uniqK [] (l.take j) = true) ∧ wr = w) (fun i _ => l.length - (intOf i).toNat)
  case atStart => exact ⟨0, Nat.zero_le _, rfl, rfl, rfl⟩
  case round =>
    obtain ⟨j, hj, rfl, HN, rfl⟩ := hrel
    by_cases hlt : j < l.length
    · obtain ⟨b, o, rfl, hblk, c0⟩ := hin.at_ hlt
      have g2 : (j : Int) < (l.length : Int) := by omega
      have hl1 : (l.take j).length = j := by rw [List.length_take]; omega
      have hhas := fun n => specHas_any (some ⟨b, o, none⟩) c (l.take j) n B wr (hin.take j)
      rw [hl1] at hhas
      have HHAS := Lib.hid hhas
      clear hhas hl1
      by_cases hr : 0 ≤ l[j] ∧ l[j] ≤ 99999
      · have HR : Hid (decide (0 ≤ l[j] ∧ l[j] ≤ 99999) = true) := decide_eq_true hr
        cases hq : (l.take j).contains l[j]
        · have HQ := Lib.hid hq
          clear hq hr
          go_wp2_with (first | (go_at_call 43; with_reducible refine (l1In_any _ _ _ _).mono ?_; rintro e wn ⟨rfl, hwn⟩; obtain rfl := hwn; rw [HR.out]) | (go_at_call 170; with_reducible refine (HHAS.out _).mono ?_; rintro e wn ⟨rfl, hwn⟩; obtain rfl := hwn.symm; rw [HQ.out]))
          go_roundw
          case rel => exact ⟨j + 1, by omega, by go_num, by (show _ = _); rw [uniqK_take_succ [] l j hlt, HN.out, List.nil_append, HQ.out, show inR l[j] = true from HR.out]; rfl, by first | rfl | trivial⟩
          case measure => simp [intOf]; omega
        · have HQ := Lib.hid hq
          have HF := Lib.hid (uniqK_no [] l j hlt (by rw [List.nil_append, hq, Bool.not_true, Bool.and_false]))
          clear hq hr
          go_wp2_with (first | (go_at_call 43; with_reducible refine (l1In_any _ _ _ _).mono ?_; rintro e wn ⟨rfl, hwn⟩; obtain rfl := hwn; rw [HR.out]) | (go_at_call 170; with_reducible refine (HHAS.out _).mono ?_; rintro e wn ⟨rfl, hwn⟩; obtain rfl := hwn.symm; rw [HQ.out]))
          go_ret
          exact ⟨ret_bool HF.out.symm, by first | rfl | trivial⟩
      · have HR : Hid (decide (0 ≤ l[j] ∧ l[j] ≤ 99999) = false) := decide_eq_false hr
        have HF := Lib.hid (uniqK_no [] l j hlt (by rw [show inR l[j] = false from HR.out]; rfl))
        clear hr
        go_wp2_with (go_at_call 43; with_reducible refine (l1In_any _ _ _ _).mono ?_; rintro e wn ⟨rfl, hwn⟩; obtain rfl := hwn; rw [HR.out])
        go_ret
        exact ⟨ret_bool HF.out.symm, by first | rfl | trivial⟩
    · have hj' : j = l.length := by omega
      subst hj'
      have HF : Hid (uniqK [] l = true) := by have := HN.out; rwa [List.take_length] at this
      go_wp2_with fail
      go_ret
      exact ⟨ret_bool HF.out.symm, by first | rfl | trivial⟩
set_option maxRecDepth 100000 in
theorem implVarR_any (n : Int) (w : World) : Calls Tryz.prog 104 #[.int .i64 n] w fun e w' => e = .returned (.bool (inR n)) ∧ w' = w := by
  by_cases h1 : 0 ≤ n
  · by_cases h2 : n ≤ 99999
    · have HF : Hid (inR n = true) := decide_eq_true ⟨h1, h2⟩
      go_enter Tryz.func104, Tryz.ntmps104
      go_wp2_with fail
      go_ret
      exact ⟨ret_bool (by first | exact HF.out.symm | (rw [HF.out]; simp; omega)), by first | rfl | trivial⟩
    · have HF : Hid (inR n = false) := decide_eq_false fun h => h2 h.2
      go_enter Tryz.func104, Tryz.ntmps104
      go_wp2_with fail
      go_ret
      exact ⟨ret_bool (by first | exact HF.out.symm | (rw [HF.out]; simp; omega)), by first | rfl | trivial⟩
  · have HF : Hid (inR n = false) := decide_eq_false fun h => h1 h.1
    go_enter Tryz.func104, Tryz.ntmps104
    go_wp2_with fail
    go_ret
    exact ⟨ret_bool HF.out.symm, by first | rfl | trivial⟩
end Go.Proofs.YtpigpncbjckbcaaGreat
namespace Go.Proofs.YtpigpncbjckbcaaGreat
open Go.RowKit
def Tr.isCore (d : Tr Ko) (gl : List Int) : Bool := (decide (d.size ≤ 3000) && (decide (d.depth ≤ 150) && d.nodes)) && (uniqK [] (gl ++ d.walk Ko.bound []) && (d.free [] []).all fun n => gl.contains n)
theorem Tr.isCore_er {d e : Tr Ko} (h : Tr.er Ko.er d = Tr.er Ko.er e) (gl : List Int) : d.isCore gl = e.isCore gl := by
  unfold Tr.isCore
  rw [Tr.size_of_er d e h, Tr.depth_of_er d e h, Tr.nodes_of_er d e h, Tr.walk_of_er Ko.bound_er d e h, Tr.free_of_er d e h]
theorem wp_append_list {P : Program} (w : World) {o : Oper} {a : Act} {K : Act → World → Prop} {Q : Exit → Act → World → Prop} (s x : Operand) (t : TypeId)
    (ho : o.op = .call { callee := .builtin .append, args := #[s, x], argTypes := #[t, t] })
    (base : Nat) (e : TypeId) (i : TypeInfo) (z : Value) (ht : P.underlying t = some (.slice e)) (hi : P.info? e = some i) (hz : i.zero = some z)
    (hsize : i.size = 1) (hby : i.bytes = 8) (hzs : z.cells.size = 1)
    (v : Value) (n : Nat) (xs : List Value) (hs : a.eval s = v) (hown : w.ownsRow base e 1 v n xs)
    {B : Nat} {A : Option Addr} {c : Nat} {l : List Int} (hx : a.eval x = .slice A l.length c) (hin : IIn w B A c l)
    (hn : n ≤ 4000000) (hl : l.length ≤ 4000000) (hbase : base ≤ w.heap.size)
    (h : ∀ v' w', w'.ownsRow base e 1 v' (n + l.length) (xs ++ l.map (Value.int .i64)) → Below base w w' → K (a.put o.dst v') w') :
    Oper.wp P o a w K Q := by
  have hcap := hin.cap
  cases A with
  | none =>
    have hc := hin.nil rfl
    have hl0 : l = [] := List.length_eq_zero_iff.1 (by omega)
    subst hl0
    subst hc
    have hrun := run_append_owned_none (P := P) (w := w) base t o.type e i 1 ht hi v n xs hown
    unfold Oper.wp
    simp [execOp, ho, resolve, invoke, builtin, hs, hx, hrun, Result.andThen]
    exact h v w (by simpa using hown) (Below.refl _ _)
  | some ad =>
    obtain ⟨v', w', hr, h2, h3, _, h5⟩ := run_append_own_at (P := P) w base t o.type e i z 1 8 ht hi hz hsize hby hzs (by decide) v n xs hown ad l.length c (l.map (Value.int .i64)) (by simp) (fun j u hu => by
      have hne : l ≠ [] := by rintro rfl; simp at hu
      obtain ⟨b, o, e, _, _⟩ := hin.mem hne
      obtain rfl := Option.some.inj e
      exact iall hin j u hu) (iallone l) (by unfold maxLen; omega) (by omega) hbase
    unfold Oper.wp execOp
    simp only [ho, resolve, invoke, builtin, Sem.run_bind, Sem.run_pure, Result.andThen_ok, List.map_toArray, List.map_cons, List.map_nil, hs, hx, hr]
    exact h v' w' h2 ((Below.refl _ _).grown h3 hbase (fun k hk => (hown.lt k hk).1))
set_option maxRecDepth 100000 in
set_option maxHeartbeats 600000 in
theorem specIsc_any (d : Tr Ko) (Ag : Option Addr) (cg : Nat) (gl : List Int) (B : Nat) (w : World) (hin : Ko.E.In w B d) (hgl : IIn w B Ag cg gl) (hB : B ≤ w.heap.size) (hb : d.bulk Ko.bulk ≤ 1500000) (hlen : gl.length ≤ 4000000) :
    Calls Tryz.prog 96 #[Ko.val d, .slice Ag gl.length cg] w fun e w' => e = .returned (.bool (d.isCore gl)) ∧ Below w.heap.size w w' := by
  have hsz := Tr.size_le_bulk Ko.bulk d
  have hgcap := hgl.cap
  obtain ⟨W, hW⟩ : ∃ W, W = w.alloc (.cells #[.int .i64 d.a.k, .int .i64 d.a.n, .slice d.a.sA d.a.s.length d.a.sC, .int .i64 d.a.d.k, .int .i64 d.a.d.n, .string d.a.d.t, .slice d.a.d.A d.a.d.l.length d.a.d.c, .slice d.A d.l.length d.c] 35) := ⟨_, rfl⟩
  have zW : W.heap.size = w.heap.size + 1 := by rw [hW]; simp
  have b1 : Below w.heap.size w W := by rw [hW]; exact (Below.refl _ _).alloc (Nat.le_refl _) _
  have X0 : Ko.Box W w.heap.size d := by rw [hW]; exact Ko.Box.new _ _ _
  have HX := Lib.hid X0
  have hinW : ∀ z : World, Below W.heap.size W z → Ko.E.In z B d := fun z hz => Elem.In.below hin ((b1.trans (hz.mono (by omega))).mono hB)
  have lw : w.heap.size < W.heap.size := by omega
  have lB : B ≤ W.heap.size := by omega
  have HC1 : Hid (∀ z : Near W, Calls Tryz.prog 95 #[.agg #[.int .i64 d.a.k, .int .i64 d.a.n, .slice d.a.sA d.a.s.length d.a.sC, .int .i64 d.a.d.k, .int .i64 d.a.d.n, .string d.a.d.t, .slice d.a.d.A d.a.d.l.length d.a.d.c, .slice d.A d.l.length d.c]] z.at_ fun e w' => e = .returned (.bool (decide (d.size ≤ 3000))) ∧ Below z.at_.heap.size z.at_ w') := fun z => kSmall_any d B _ (hinW _ z.below) (Nat.le_trans lB z.size)
  have HC2 : Hid (∀ z : Near W, Calls Tryz.prog 167 #[.agg #[.int .i64 d.a.k, .int .i64 d.a.n, .slice d.a.sA d.a.s.length d.a.sC, .int .i64 d.a.d.k, .int .i64 d.a.d.n, .string d.a.d.t, .slice d.a.d.A d.a.d.l.length d.a.d.c, .slice d.A d.l.length d.c]] z.at_ fun e w' => e = .returned (.int .i64 d.depth) ∧ Below z.at_.heap.size z.at_ w') := fun z => specKoDepth_any 2000000 d B _ (by omega) (by omega) (hinW _ z.below) (Nat.le_trans lB z.size)
  have HC3 : Hid (∀ z : Near W, Calls Tryz.prog 168 #[.agg #[.int .i64 d.a.k, .int .i64 d.a.n, .slice d.a.sA d.a.s.length d.a.sC, .int .i64 d.a.d.k, .int .i64 d.a.d.n, .string d.a.d.t, .slice d.a.d.A d.a.d.l.length d.a.d.c, .slice d.A d.l.length d.c]] z.at_ fun e w' => e = .returned (.bool d.nodes) ∧ Below z.at_.heap.size z.at_ w') := fun z => specNod_any _ d B _ (Nat.le_refl _) (hinW _ z.below) (Nat.le_trans lB z.size) hb
  have d0 : ∀ z : Near W, z.at_.cell? ⟨w.heap.size, 0, none⟩ = some (.int .i64 d.a.k) := fun z => z.cell 0 X0.c0 lw
  have d1 : ∀ z : Near W, z.at_.cell? ⟨w.heap.size, 1, none⟩ = some (.int .i64 d.a.n) := fun z => z.cell 1 X0.c1 lw
  have d2 : ∀ z : Near W, z.at_.cell? ⟨w.heap.size, 2, none⟩ = some (.slice d.a.sA d.a.s.length d.a.sC) := fun z => z.cell 2 X0.c2 lw
  have d3 : ∀ z : Near W, z.at_.cell? ⟨w.heap.size, 3, none⟩ = some (.int .i64 d.a.d.k) := fun z => z.cell 3 X0.c3 lw
  have d4 : ∀ z : Near W, z.at_.cell? ⟨w.heap.size, 4, none⟩ = some (.int .i64 d.a.d.n) := fun z => z.cell 4 X0.c4 lw
  have d5 : ∀ z : Near W, z.at_.cell? ⟨w.heap.size, 5, none⟩ = some (.string d.a.d.t) := fun z => z.cell 5 X0.c5 lw
  have d6 : ∀ z : Near W, z.at_.cell? ⟨w.heap.size, 6, none⟩ = some (.slice d.a.d.A d.a.d.l.length d.a.d.c) := fun z => z.cell 6 X0.c6 lw
  have d7 : ∀ z : Near W, z.at_.cell? ⟨w.heap.size, 7, none⟩ = some (.slice d.A d.l.length d.c) := fun z => z.cell 7 X0.c7 lw
  unfold Ko.val
  cases q1 : decide (d.size ≤ 3000)
  · have HF : Hid (d.isCore gl = false) := by show _ = _; unfold Tr.isCore; rw [q1]; rfl
    have HC1 : Hid (∀ z : Near W, Calls Tryz.prog 95 #[.agg #[.int .i64 d.a.k, .int .i64 d.a.n, .slice d.a.sA d.a.s.length d.a.sC, .int .i64 d.a.d.k, .int .i64 d.a.d.n, .string d.a.d.t, .slice d.a.d.A d.a.d.l.length d.a.d.c, .slice d.A d.l.length d.c]] z.at_ fun e w' => e = .returned (.bool false) ∧ Below z.at_.heap.size z.at_ w') := by have h := HC1.out; rw [q1] at h; exact h
    clear q1
    go_enter Tryz.func96, Tryz.ntmps96
    go_upto_region 1 with fail
    rw [← hW]
    clear hW X0
    refine wp_region_near (by kernel_rfl) (by kernel_rfl) ?_
    repeat (go_big_quiet_step (first | (go_at_call 95; with_reducible exact Calls.near (HC1.out _))))
    refine wpQuiet_nil ?_
    intro _ hw1
    obtain ⟨nx, hw2⟩ := hw1
    subst hw2
    go_wp2_with fail
    go_ret
    exact ⟨ret_bool HF.out.symm, b1.trans (nx.below.mono (by omega))⟩
  have HC1 : Hid (∀ z : Near W, Calls Tryz.prog 95 #[.agg #[.int .i64 d.a.k, .int .i64 d.a.n, .slice d.a.sA d.a.s.length d.a.sC, .int .i64 d.a.d.k, .int .i64 d.a.d.n, .string d.a.d.t, .slice d.a.d.A d.a.d.l.length d.a.d.c, .slice d.A d.l.length d.c]] z.at_ fun e w' => e = .returned (.bool true) ∧ Below z.at_.heap.size z.at_ w') := by have h := HC1.out; rw [q1] at h; exact h
  have Q1 := Lib.hid q1
  clear q1
  by_cases q2 : d.depth ≤ 150
  rotate_left
  · have HF : Hid (d.isCore gl = false) := by show _ = _; unfold Tr.isCore; rw [decide_eq_false q2]; simp
    have g1 : (150 : Int) < (d.depth : Int) := by omega
    clear q2
    go_enter Tryz.func96, Tryz.ntmps96
    go_upto_region 1 with fail
    rw [← hW]
    clear hW X0
    refine wp_region_near (by kernel_rfl) (by kernel_rfl) ?_
    repeat (go_big_quiet_step (first | (go_at_call 95; with_reducible exact Calls.near (HC1.out _)) | (go_at_call 167; with_reducible exact Calls.near (HC2.out _))))
    refine wpQuiet_nil ?_
    intro _ hw1
    obtain ⟨nx, hw2⟩ := hw1
    subst hw2
    go_wp2_with fail
    go_ret
    exact ⟨ret_bool HF.out.symm, b1.trans (nx.below.mono (by omega))⟩
  have g1 : ¬ (150 : Int) < (d.depth : Int) := by omega
  have Q2 := Lib.hid q2
  clear q2
  cases q3 : d.nodes
  · have HF : Hid (d.isCore gl = false) := by show _ = _; unfold Tr.isCore; rw [q3]; simp
    have HC3 : Hid (∀ z : Near W, Calls Tryz.prog 168 #[.agg #[.int .i64 d.a.k, .int .i64 d.a.n, .slice d.a.sA d.a.s.length d.a.sC, .int .i64 d.a.d.k, .int .i64 d.a.d.n, .string d.a.d.t, .slice d.a.d.A d.a.d.l.length d.a.d.c, .slice d.A d.l.length d.c]] z.at_ fun e w' => e = .returned (.bool false) ∧ Below z.at_.heap.size z.at_ w') := by have h := HC3.out; rw [q3] at h; exact h
    clear q3
    go_enter Tryz.func96, Tryz.ntmps96
    go_upto_region 1 with fail
    rw [← hW]
    clear hW X0
    refine wp_region_near (by kernel_rfl) (by kernel_rfl) ?_
    repeat (go_big_quiet_step (first | (go_at_call 95; with_reducible exact Calls.near (HC1.out _)) | (go_at_call 167; with_reducible exact Calls.near (HC2.out _)) | (go_at_call 168; with_reducible exact Calls.near (HC3.out _))))
    refine wpQuiet_nil ?_
    intro _ hw1
    obtain ⟨nx, hw2⟩ := hw1
    subst hw2
    go_wp2_with fail
    go_ret
    exact ⟨ret_bool HF.out.symm, b1.trans (nx.below.mono (by omega))⟩
  have Q3 := Lib.hid q3
  clear q3
  obtain ⟨i0, hi, hz0, hz1, hz2⟩ := info_parts infoI
  obtain ⟨Bd, hBd⟩ : ∃ x, x = d.walk Ko.bound [] := ⟨_, rfl⟩
  have HBD := Lib.hid hBd
  have hbdl : Bd.length ≤ 1500000 := by rw [hBd]; have := Tr.walk_len Ko.bound_len d []; simp only [List.length_nil] at this; omega
  clear hBd
  obtain ⟨L, hL⟩ : ∃ x, x = gl ++ Bd := ⟨_, rfl⟩
  have HL := Lib.hid hL
  clear hL
  obtain ⟨U, hU⟩ : ∃ x, x = uniqK [] L := ⟨_, rfl⟩
  have HU := Lib.hid hU
  clear hU
  have hglW : ∀ z : World, Below W.heap.size W z → IIn z B Ag cg gl := fun z hz => hgl.below ((b1.trans (hz.mono (by omega))).mono hB)
  clear d0 d1 d2 d3 d4 d5 d6 d7 HC1 HC2 HC3
  have X0q := X0
  obtain ⟨p0, p1, p2, p3, p4, p5, p6, p7⟩ := X0q
  have a0 := p0
  have a1 := p1
  have a2 := p2
  have a3 := p3
  have a4 := p4
  have a5 := p5
  have a6 := p6
  have a7 := p7
  have g2 : decide ((150 : Int) < (d.depth : Int)) = false := decide_eq_false g1
  clear g1
  go_enter Tryz.func96, Tryz.ntmps96
  go_upto_region 1 with fail
  rw [← hW]
  clear hW X0
  go_cut [28] (fun b wx => b = .bool (!U) ∧ Below W.heap.size W wx)
  case first =>
    go_region_held3 (fun w' => w'.cell? ⟨w.heap.size, 0, none⟩ = some (.int .i64 d.a.k) ∧ w'.cell? ⟨w.heap.size, 1, none⟩ = some (.int .i64 d.a.n) ∧ w'.cell? ⟨w.heap.size, 2, none⟩ = some (.slice d.a.sA d.a.s.length d.a.sC) ∧ w'.cell? ⟨w.heap.size, 3, none⟩ = some (.int .i64 d.a.d.k) ∧ w'.cell? ⟨w.heap.size, 4, none⟩ = some (.int .i64 d.a.d.n) ∧ w'.cell? ⟨w.heap.size, 5, none⟩ = some (.string d.a.d.t) ∧ w'.cell? ⟨w.heap.size, 6, none⟩ = some (.slice d.a.d.A d.a.d.l.length d.a.d.c) ∧ w'.cell? ⟨w.heap.size, 7, none⟩ = some (.slice d.A d.l.length d.c)) (go_keep) (first
      | (go_at_call 95; refine (kSmall_any d B _ ?_ ?_).mono ?_; exact Elem.In.drew (hinW W (Below.refl _ _)); (show B ≤ W.heap.size); omega; rintro e w1 ⟨rfl, hb1⟩; rw [Q1.out]; have hb1 : Below W.heap.size W w1 := below_undrew hb1; have z1 := hb1.size; have a0 := (hb1.cell (p := ⟨w.heap.size, 0, none⟩) lw).trans p0; have a1 := (hb1.cell (p := ⟨w.heap.size, 1, none⟩) lw).trans p1; have a2 := (hb1.cell (p := ⟨w.heap.size, 2, none⟩) lw).trans p2; have a3 := (hb1.cell (p := ⟨w.heap.size, 3, none⟩) lw).trans p3; have a4 := (hb1.cell (p := ⟨w.heap.size, 4, none⟩) lw).trans p4; have a5 := (hb1.cell (p := ⟨w.heap.size, 5, none⟩) lw).trans p5; have a6 := (hb1.cell (p := ⟨w.heap.size, 6, none⟩) lw).trans p6; have a7 := (hb1.cell (p := ⟨w.heap.size, 7, none⟩) lw).trans p7)
      | (go_at_call 167; refine (specKoDepth_any 2000000 d B w1 (by omega) (by omega) (hinW _ hb1) (by omega)).mono ?_; rintro e w2 ⟨rfl, hc2⟩; have hb2 := hb1.trans (hc2.mono z1); have z2 := hb2.size; have a0 := (hb2.cell (p := ⟨w.heap.size, 0, none⟩) lw).trans p0; have a1 := (hb2.cell (p := ⟨w.heap.size, 1, none⟩) lw).trans p1; have a2 := (hb2.cell (p := ⟨w.heap.size, 2, none⟩) lw).trans p2; have a3 := (hb2.cell (p := ⟨w.heap.size, 3, none⟩) lw).trans p3; have a4 := (hb2.cell (p := ⟨w.heap.size, 4, none⟩) lw).trans p4; have a5 := (hb2.cell (p := ⟨w.heap.size, 5, none⟩) lw).trans p5; have a6 := (hb2.cell (p := ⟨w.heap.size, 6, none⟩) lw).trans p6; have a7 := (hb2.cell (p := ⟨w.heap.size, 7, none⟩) lw).trans p7)
      | (go_at_call 168; refine (specNod_any _ d B w2 (Nat.le_refl _) (hinW _ hb2) (by omega) hb).mono ?_; rintro e w3 ⟨rfl, hc3⟩; rw [Q3.out]; have hb3 := hb2.trans (hc3.mono z2); have z3 := hb3.size; have a0 := (hb3.cell (p := ⟨w.heap.size, 0, none⟩) lw).trans p0; have a1 := (hb3.cell (p := ⟨w.heap.size, 1, none⟩) lw).trans p1; have a2 := (hb3.cell (p := ⟨w.heap.size, 2, none⟩) lw).trans p2; have a3 := (hb3.cell (p := ⟨w.heap.size, 3, none⟩) lw).trans p3; have a4 := (hb3.cell (p := ⟨w.heap.size, 4, none⟩) lw).trans p4; have a5 := (hb3.cell (p := ⟨w.heap.size, 5, none⟩) lw).trans p5; have a6 := (hb3.cell (p := ⟨w.heap.size, 6, none⟩) lw).trans p6; have a7 := (hb3.cell (p := ⟨w.heap.size, 7, none⟩) lw).trans p7)
      | (go_at_call 97; refine (l2IntsR_any Ag cg gl B w3 hlen (hglW _ hb3) (by omega)).mono ?_; rintro e w4 ⟨v4, rfl, hr4, hc4⟩; obtain ⟨A4, c4, rfl⟩ := irow_len hr4; have hb4 := hb3.trans (hc4.mono z3); have z4 := hb4.size; have y4 := hc4.size; have a0 := (hb4.cell (p := ⟨w.heap.size, 0, none⟩) lw).trans p0; have a1 := (hb4.cell (p := ⟨w.heap.size, 1, none⟩) lw).trans p1; have a2 := (hb4.cell (p := ⟨w.heap.size, 2, none⟩) lw).trans p2; have a3 := (hb4.cell (p := ⟨w.heap.size, 3, none⟩) lw).trans p3; have a4 := (hb4.cell (p := ⟨w.heap.size, 4, none⟩) lw).trans p4; have a5 := (hb4.cell (p := ⟨w.heap.size, 5, none⟩) lw).trans p5; have a6 := (hb4.cell (p := ⟨w.heap.size, 6, none⟩) lw).trans p6; have a7 := (hb4.cell (p := ⟨w.heap.size, 7, none⟩) lw).trans p7)
      | (go_at_call 45; refine (specBnd_any d.size d B w4.heap.size [] (.slice none 0 0) w4 (Nat.le_refl _) (hinW _ hb4) (by omega) (Nat.le_refl _) (World.ownsRow_nil _ _ _ _) (by simp; omega)).mono ?_; rintro e w5 ⟨v5, rfl, hG5⟩; have hc5 : Below w4.heap.size w4 w5 := hG5.below (by simp) (fun g hg => by simp [Value.ownBlock] at hg) (Nat.le_refl _); have hr5 := hG5.1; rw [← HBD.out] at hr5; obtain ⟨A5, c5, rfl, ho5⟩ := own_of_row hr5; have hb5 := hb4.trans (hc5.mono z4); have z5 := hb5.size; have y5 := hc5.size; have hr4b := irow_below hr4 hc5; have a0 := (hb5.cell (p := ⟨w.heap.size, 0, none⟩) lw).trans p0; have a1 := (hb5.cell (p := ⟨w.heap.size, 1, none⟩) lw).trans p1; have a2 := (hb5.cell (p := ⟨w.heap.size, 2, none⟩) lw).trans p2; have a3 := (hb5.cell (p := ⟨w.heap.size, 3, none⟩) lw).trans p3; have a4 := (hb5.cell (p := ⟨w.heap.size, 4, none⟩) lw).trans p4; have a5 := (hb5.cell (p := ⟨w.heap.size, 5, none⟩) lw).trans p5; have a6 := (hb5.cell (p := ⟨w.heap.size, 6, none⟩) lw).trans p6; have a7 := (hb5.cell (p := ⟨w.heap.size, 7, none⟩) lw).trans p7)
      | (go_at_call 169; refine (specUniq_any A6 c6 L _ w6 ho6.inn).mono ?_; rintro e w7 ⟨rfl, hw7⟩; obtain rfl := hw7.symm; rw [← HU.out])
      | (rw [if_pos (by rfl)]; refine wp_append_list w5 (.tmp 22) (.tmp 24) 22 rfl w3.heap.size 3 i0 (.int .i64 0) Tryz.underlying22 hi hz0 hz1 hz2 rfl (.slice A4 gl.length c4) gl.length (gl.map (Value.int .i64)) rfl hr4b rfl ho5.inn (by omega) (by omega) (by omega) ?_; intro v6 w6 hown6 hc6; have hr6 : w6.ownsRow w3.heap.size 3 1 v6 L.length (L.map (Value.int .i64)) := (by rw [HL.out]; simpa using hown6); obtain ⟨A6, c6, rfl, ho6⟩ := own_of_row hr6; have hb6 : Below W.heap.size W w6 := hb5.trans (hc6.mono z3); clear hown6; have a0 := (hb6.cell (p := ⟨w.heap.size, 0, none⟩) lw).trans p0; have a1 := (hb6.cell (p := ⟨w.heap.size, 1, none⟩) lw).trans p1; have a2 := (hb6.cell (p := ⟨w.heap.size, 2, none⟩) lw).trans p2; have a3 := (hb6.cell (p := ⟨w.heap.size, 3, none⟩) lw).trans p3; have a4 := (hb6.cell (p := ⟨w.heap.size, 4, none⟩) lw).trans p4; have a5 := (hb6.cell (p := ⟨w.heap.size, 5, none⟩) lw).trans p5; have a6 := (hb6.cell (p := ⟨w.heap.size, 6, none⟩) lw).trans p6; have a7 := (hb6.cell (p := ⟨w.heap.size, 7, none⟩) lw).trans p7))
    all_goals (go_wp2_with fail; go_meet)
    all_goals exact ⟨by first | rfl | simp, hb6⟩
  case rest =>
    obtain ⟨rfl, hbc⟩ := hcut
    obtain ⟨w1, rfl⟩ : ∃ W, W = wc := ⟨_, rfl⟩
    have z1 := hbc.size
    have X1 := HX.out.below hbc lw
    clear a0 p0 a1 p1 a2 p2 a3 p3 a4 p4 a5 p5 a6 p6 a7 p7
    obtain ⟨a0, a1, a2, a3, a4, a5, a6, a7⟩ := X1
    cases hu : U
    · have HF : Hid (d.isCore gl = false) := by show _ = _; unfold Tr.isCore; rw [← HBD.out, ← HL.out, ← HU.out, hu]; simp
      clear hu
      go_wp2_with fail
      go_ret
      exact ⟨ret_bool HF.out.symm, b1.trans (hbc.mono (by omega))⟩
    · have HF : Hid (d.isCore gl = (d.free [] []).all fun n => gl.contains n) := by show _ = _; unfold Tr.isCore; rw [← HBD.out, ← HL.out, ← HU.out, hu, Q1.out, decide_eq_true Q2.out, Q3.out]; rfl
      obtain ⟨f, hf⟩ : ∃ f, f = d.free [] [] := ⟨_, rfl⟩
      have hfre := specFreV_any d B w1 (hinW _ hbc) (by omega) hb
      have hfl := Ko.freeV_len d
      rw [← hf] at HF hfre hfl
      clear hu hf
      unfold Ko.val at hfre
      go_wp2_with (go_at_call 46; with_reducible refine hfre.mono ?_)
      clear hfre
      rintro e w2 ⟨A2, c2, rfl, ho2, hb2⟩
      have hglw := hglW _ (hbc.trans (hb2.mono z1))
      have HB2 := Lib.hid (b1.trans ((hbc.trans (hb2.mono z1)).mono (by omega)))
      have hi2 := ho2.inn
      have hcap2 := hi2.cap
      clear ho2 hb2 a0 a1 a2 a3 a4 a5 a6 a7
      go_wp2_with fail
      go_loopw [32] (fun i wr => ∃ j : Nat, j ≤ f.length ∧ i = .int .i64 j ∧ Hid (((f.take j).all fun n => gl.contains n) = true) ∧ wr = w2) (fun i _ => f.length - (intOf i).toNat)
      case atStart => exact ⟨0, Nat.zero_le _, rfl, rfl, rfl⟩
      case round =>
        obtain ⟨j, hj, rfl, HN, rfl⟩ := hrel
        by_cases hlt : j < f.length
        · obtain ⟨b, o, rfl, hblk, c0⟩ := hi2.at_ hlt
          have hhas := specHas_any Ag cg gl f[j] B wr hglw
          cases hq : gl.contains f[j]
          · have HQ : Hid ((f.all fun n => gl.contains n) = false) := by
              show _ = _
              rw [List.all_eq_false]
              exact ⟨f[j], List.getElem_mem hlt, by rw [hq]; simp⟩
            rw [hq] at hhas
            clear hq
            go_wp2_with (go_at_call 170; with_reducible refine hhas.mono ?_; rintro e wn ⟨rfl, hwn⟩; obtain rfl := hwn.symm)
            go_ret
            exact ⟨ret_bool (by rw [HF.out, HQ.out]), HB2.out⟩
          · have HQ := Lib.hid hq
            rw [hq] at hhas
            clear hq
            go_wp2_with (go_at_call 170; with_reducible refine hhas.mono ?_; rintro e wn ⟨rfl, hwn⟩; obtain rfl := hwn.symm)
            go_roundw
            case rel => exact ⟨j + 1, by omega, by go_num, by (show _ = _); rw [List.take_succ_eq_append_getElem hlt, List.all_append, HN.out]; simpa using HQ.out, by first | rfl | trivial⟩
            case measure => simp [intOf]; omega
        · have hj' : j = f.length := by omega
          subst hj'
          have HQ : Hid ((f.all fun n => gl.contains n) = true) := by have := HN.out; rwa [List.take_length] at this
          go_wp2_with fail
          go_ret
          exact ⟨ret_bool (by rw [HF.out, HQ.out]), HB2.out⟩
end Go.Proofs.YtpigpncbjckbcaaGreat
