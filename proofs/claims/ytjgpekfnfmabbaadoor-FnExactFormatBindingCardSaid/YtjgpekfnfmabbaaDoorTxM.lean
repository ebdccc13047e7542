/-
  FormatBinding, the model's and the program's (written by gen/txm.py).
-/
import Derived.Test.YtjgpekfnfmabbaaDoorTxB
import Derived.Test.YtjgpekfnfmabbaaDoorIsBd
import Derived.Test.YtjgpekfnfmabbaaDoorNear
import Derived.Deep.RegionHeld3
namespace Go.Proofs.YtjgpekfnfmabbaaDoor
open Go.RowKit

theorem setFrom_range : ∀ (l : List Int) (m : Int), 0 ≤ m → setFrom m l = true → ∀ n ∈ l, 0 ≤ n ∧ n ≤ 99999
  | [], _, _, _, n, hn => by cases hn
  | x :: r, m, hm, h, n, hn => by
    simp only [setFrom, Bool.and_eq_true, decide_eq_true_eq] at h
    rcases List.mem_cons.1 hn with rfl | hn
    · omega
    · exact setFrom_range r x (by omega) (by first | exact h.2 | exact h.2.2) n hn

def kindT (k : Int) : List UInt8 := if k = 1 then [102, 111, 114, 109] else if k = 2 then [112, 114, 105, 109, 105, 116, 105, 118, 101] else if k = 3 then [118, 97, 114, 105, 97, 98, 108, 101] else [109, 97, 99, 114, 111]
theorem kindT_len (k : Int) : (kindT k).length ≤ 9 := by
  unfold kindT
  split
  · simp
  · split
    · simp
    · split <;> simp
namespace Bd
def txt (b : Bd) : List UInt8 := b.t.data.toList ++ scT b.s ++ [32] ++ kindT b.k ++ [32] ++ Lib.itoa b.n
/-- FormatBinding's answer. -/
def fmt (b : Bd) : ByteArray := if b.isB then baL (txt b) else ⟨#[]⟩
theorem fmt_er {a b : Bd} (h : er a = er b) : fmt a = fmt b := by
  obtain ⟨h1, h2, h3, h4⟩ := fields_of_er h
  unfold fmt txt
  rw [isB_of_er h, h1, h2, h3, h4]
theorem isB_out {b : Bd} (h : b.isB = true) : b.t.size ≤ 20 ∧ (∀ n ∈ b.s, 0 ≤ n ∧ n ≤ 99999) ∧ (b.k = 1 ∨ b.k = 2 ∨ b.k = 3 ∨ b.k = 4) ∧ 0 ≤ b.n ∧ b.n ≤ 100000 := by
  unfold isB okN countI at h
  simp only [Bool.and_eq_true, decide_eq_true_eq] at h
  refine ⟨symB_small h.1, setFrom_range b.s 0 (by omega) h.2.1, ?_, h.2.2.1, ?_⟩
  · have h2 := h.2.2.2
    have h1 := h.2.2.1
    split at h2
    · omega
    · split at h2
      · omega
      · split at h2
        · omega
        · omega
  · have h2 := h.2.2.2
    split at h2
    · omega
    · split at h2
      · omega
      · split at h2
        · omega
        · omega
end Bd

set_option maxHeartbeats 1000000 in
theorem kindT_any (k : Int) (w : World) : Calls Tryd.prog 48 #[.int .i64 k] w fun e w' => e = .returned (.string (baL (kindT k))) ∧ Below w.heap.size w w' := by
  by_cases h0 : k = 1
  · have HE : Hid ((⟨#[102, 111, 114, 109]⟩ : ByteArray) = baL (kindT k)) := by show _ = _; unfold kindT; rw [if_pos h0]; rfl
    go_enter Tryd.func48, Tryd.ntmps48
    go_wp2_with fail
    go_ret
    exact ⟨by rw [← HE.out]; rfl, Below.refl _ _⟩
  have n0 : (k == 1) = false := by simpa using h0
  by_cases h1 : k = 2
  · have HE : Hid ((⟨#[112, 114, 105, 109, 105, 116, 105, 118, 101]⟩ : ByteArray) = baL (kindT k)) := by show _ = _; unfold kindT; rw [if_neg h0, if_pos h1]; rfl
    go_enter Tryd.func48, Tryd.ntmps48
    go_wp2_with fail
    go_ret
    exact ⟨by rw [← HE.out]; rfl, Below.refl _ _⟩
  have n1 : (k == 2) = false := by simpa using h1
  by_cases h2 : k = 3
  · have HE : Hid ((⟨#[118, 97, 114, 105, 97, 98, 108, 101]⟩ : ByteArray) = baL (kindT k)) := by show _ = _; unfold kindT; rw [if_neg h0, if_neg h1, if_pos h2]; rfl
    go_enter Tryd.func48, Tryd.ntmps48
    go_wp2_with fail
    go_ret
    exact ⟨by rw [← HE.out]; rfl, Below.refl _ _⟩
  have n2 : (k == 3) = false := by simpa using h2
  have HE : Hid ((⟨#[109, 97, 99, 114, 111]⟩ : ByteArray) = baL (kindT k)) := by show _ = _; unfold kindT; rw [if_neg h0, if_neg h1, if_neg h2]; rfl
  go_enter Tryd.func48, Tryd.ntmps48
  go_wp2_with fail
  go_ret
  exact ⟨by rw [← HE.out]; rfl, Below.refl _ _⟩

set_option maxRecDepth 100000 in
set_option maxHeartbeats 4000000 in
theorem implFB_any (b : Bd) (B : Nat) (w : World) (hs : b.s.length ≤ 2000000) (hin : b.In w B) (hB : B ≤ w.heap.size) (ht : Tab w) :
    Calls Tryd.prog 25 #[b.val] w fun e w' => e = .returned (.string b.fmt) ∧ Below w.heap.size w w' := by
  have hcap := hin.2.cap
  have hts := hin.1
  obtain ⟨W, hW⟩ : ∃ W, W = w.alloc (.cells #[.string b.t, .slice b.sa b.s.length b.sc, .int .i64 b.k, .int .i64 b.n] 54) := ⟨_, rfl⟩
  have zW : W.heap.size = w.heap.size + 1 := by rw [hW]; simp
  have bW : Below w.heap.size w W := by rw [hW]; exact (Below.refl _ _).alloc (Nat.le_refl _) _
  have X0 : Bd.Box W w.heap.size b := by rw [hW]; exact Bd.Box.new w b _
  have iW := hin.below (bW.mono hB)
  have hq := implIsB_any b B W iW (by omega)
  unfold Bd.val at hq ⊢
  have X0q := X0
  obtain ⟨a0, a1, a2, a3⟩ := X0q
  cases hv : b.isB
  · have HE : Hid (b.fmt = ⟨#[]⟩) := by show _ = _; unfold Bd.fmt; rw [hv]; rfl
    rw [hv] at hq
    clear hv
    go_enter Tryd.func25, Tryd.ntmps25
    go_wp2_with fail
    rw [← hW]
    (with_reducible refine hq.mono ?_)
    rintro e w1 ⟨rfl, hb1⟩
    go_wp2_with fail
    go_ret
    exact ⟨by rw [HE.out]; rfl, bW.trans (hb1.mono (by omega))⟩
  rw [hv] at hq
  obtain ⟨hts2, hr, hk, hn0, hn1⟩ := Bd.isB_out hv
  have HE : Hid (b.t ++ baL (scT b.s) ++ (⟨#[32]⟩ : ByteArray) ++ baL (kindT b.k) ++ (⟨#[32]⟩ : ByteArray) ++ baL (Lib.itoa b.n) = b.fmt) := by
    show _ = _
    unfold Bd.fmt Bd.txt
    rw [hv, if_pos rfl]
    refine baL_of ?_
    simp only [ba_app, baL_list]
  have g1 : (baL (scT b.s)).size ≤ 50000000 := by rw [baL_size]; have := scT_len hr; omega
  have g2 : (baL (kindT b.k)).size ≤ 9 := by rw [baL_size]; exact kindT_len _
  have g3 : (baL (Lib.itoa b.n)).size ≤ 21 := by rw [baL_size]; exact Lib.itoa_length_le b.n (by omega) (by omega)
  clear hv
  go_enter Tryd.func25, Tryd.ntmps25
  go_wp2_with fail
  rw [← hW]
  (with_reducible refine hq.mono ?_)
  clear hq
  rintro e w1 ⟨rfl, hb1⟩
  have z1 := hb1.size
  have b1 := bW.trans (hb1.mono (by omega))
  have X1 := X0.below hb1 (by omega)
  have i1 := iW.below (hb1.mono (by omega))
  have HT := ht.below b1 (Nat.le_refl _)
  have lw : w.heap.size < w1.heap.size := by omega
  have HC1 : Hid (∀ z : Near w1, Calls Tryd.prog 47 #[.slice b.sa b.s.length b.sc] z.at_ fun e w' => e = .returned (.string (baL (scT b.s))) ∧ Below z.at_.heap.size z.at_ w') := fun z => implSc_any b.sa b.sc b.s B _ (i1.below (z.below.mono (by omega))).2 (by have := z.size; omega) hr hs (HT.below z.below (Nat.le_refl _))
  have HC2 : Hid (∀ z : Near w1, Calls Tryd.prog 48 #[.int .i64 b.k] z.at_ fun e w' => e = .returned (.string (baL (kindT b.k))) ∧ Below z.at_.heap.size z.at_ w') := fun z => kindT_any b.k _
  have HC3 : Hid (∀ z : Near w1, Calls Tryd.prog 49 #[.int .i64 b.n] z.at_ fun e w' => e = .returned (.string (baL (Lib.itoa b.n))) ∧ Below z.at_.heap.size z.at_ w') := fun z => implFmtN_any b.n (by omega) (by omega) _ (HT.below z.below (Nat.le_refl _))
  have d0 : ∀ z : Near w1, z.at_.cell? ⟨w.heap.size, 0, none⟩ = some (.string b.t) := fun z => z.cell 0 X1.c0 lw
  have d1 : ∀ z : Near w1, z.at_.cell? ⟨w.heap.size, 1, none⟩ = some (.slice b.sa b.s.length b.sc) := fun z => z.cell 1 X1.c1 lw
  have d2 : ∀ z : Near w1, z.at_.cell? ⟨w.heap.size, 2, none⟩ = some (.int .i64 b.k) := fun z => z.cell 2 X1.c2 lw
  have d3 : ∀ z : Near w1, z.at_.cell? ⟨w.heap.size, 3, none⟩ = some (.int .i64 b.n) := fun z => z.cell 3 X1.c3 lw
  clear a0 a1 a2 a3 hr hk hn0 hn1 i1 X1 iW
  go_wp2_with fail
  refine wp_region_near (by kernel_rfl) (by kernel_rfl) ?_
  repeat (go_big_quiet_step (first | (go_at_call 47; with_reducible exact Calls.near (HC1.out _)) | (go_at_call 48; with_reducible exact Calls.near (HC2.out _)) | (go_at_call 49; with_reducible exact Calls.near (HC3.out _))))
  refine wpQuiet_nil ?_
  intro _ hw1
  obtain ⟨nx, hw2⟩ := hw1
  subst hw2
  go_wp2_with fail
  go_ret
  exact ⟨by rw [← HE.out]; rfl, b1.trans (nx.below.mono (by omega))⟩

theorem fb_gives {P : Program} {md : Region.Mode} {ops : Array Oper} {Q : Exit → Act → World → Prop} {S S' : World → Prop} (h : ∀ w, S' w → S w) :
    ∀ {fuel : Nat} {listed : Array Bool} {a : Act} {w : World}, wpAnyH P md ops Q S' fuel listed a w → wpAnyH P md ops Q S fuel listed a w
  | 0, _, _, _, hw => hw
  | _ + 1, _, _, _, hw => ⟨hw.1, fun i hi => wpOp_mono (fun _ _ h' => ⟨h _ h'.1, fb_gives h h'.2⟩) (hw.2 i hi)⟩

theorem fb_take {P : Program} {md : Region.Mode} {ops : Array Oper} {Q : Exit → Act → World → Prop} {S : World → Prop} {i : Nat} {oi : Oper} {d : Tmp} {v : Value} {fuel : Nat} {listed : Array Bool} {a : Act} {w : World} (hi : ops[i]? = some oi) (hd : oi.dst = some d)
    (hs : Region.noSelect ops = true) (hf : Region.free md ops listed i = true) (hr : (Region.ready md ops listed).contains i = true)
    (hQ : ∀ c a w, Q (.panic c) (a.put (some d) v) w → Q (.panic c) a w) (hy : YieldsIf P ops S oi v a) (hS : S w)
    (h : wpAnyH P md ops Q S fuel (listed.setIfInBounds i true) (a.put (some d) v) w) : wpAnyH P md ops Q S (fuel + 1) listed a w :=
  wpAnyH_take hi hs hf hr (by rw [hd]; exact hQ) hy hS (by rw [hd]; exact h)

theorem fb_named {K : Act → World → Prop} {a : Act} {w : World} (h : ∀ u, u = w → K a u) : K a w := h w rfl

set_option maxRecDepth 100000 in
set_option maxHeartbeats 4000000 in
theorem specFB1_any (t : ByteArray) (sa : Option Addr) (sc : Nat) (s : List Int) (n : Int) (B : Nat) (w : World) (hs : s.length ≤ 2000000) (hin : (⟨t, sa, sc, s, 1, n⟩ : Bd).In w B) (hB : B ≤ w.heap.size) :
    Calls Tryd.prog 23 #[.agg #[.string t, .slice sa s.length sc, .int .i64 1, .int .i64 n]] w fun e w' => e = .returned (.string (⟨t, sa, sc, s, 1, n⟩ : Bd).fmt) ∧ Below w.heap.size w w' := by
  have hcap := hin.2.cap
  have hts := hin.1
  simp only at hcap hts
  obtain ⟨W, hW⟩ : ∃ W, W = w.alloc (.cells #[.string t, .slice sa s.length sc, .int .i64 1, .int .i64 n] 54) := ⟨_, rfl⟩
  have zW : W.heap.size = w.heap.size + 1 := by rw [hW]; simp
  have bW : Below w.heap.size w W := by rw [hW]; exact (Below.refl _ _).alloc (Nat.le_refl _) _
  have X0 : Bd.Box W w.heap.size (⟨t, sa, sc, s, 1, n⟩ : Bd) := by rw [hW]; exact Bd.Box.new w (⟨t, sa, sc, s, 1, n⟩ : Bd) _
  have iW := hin.below (bW.mono hB)
  have hq : Calls Tryd.prog 43 #[.agg #[.string t, .slice sa s.length sc, .int .i64 1, .int .i64 n]] W fun e w' => e = .returned (.bool (⟨t, sa, sc, s, 1, n⟩ : Bd).isB) ∧ Below W.heap.size W w' := specIsB_any (⟨t, sa, sc, s, 1, n⟩ : Bd) B W iW (by omega)
  obtain ⟨a0, a1, a2, a3⟩ := X0
  simp only at a0 a1 a2 a3
  cases hv : (⟨t, sa, sc, s, 1, n⟩ : Bd).isB
  · have HE : Hid ((⟨t, sa, sc, s, 1, n⟩ : Bd).fmt = ⟨#[]⟩) := by show _ = _; unfold Bd.fmt; rw [hv]; rfl
    rw [hv] at hq
    clear hv
    go_enter Tryd.func23, Tryd.ntmps23
    go_wp2_with fail
    rw [← hW]
    (with_reducible refine hq.mono ?_)
    rintro e w1 ⟨rfl, hb1⟩
    go_wp2_with fail
    go_ret
    exact ⟨by rw [HE.out]; rfl, bW.trans (hb1.mono (by omega))⟩
  rw [hv] at hq
  obtain ⟨hts2, hr, hk, hn0, hn1⟩ := Bd.isB_out hv
  simp only at hts2 hr hn0 hn1
  have HE : Hid (t ++ baL (scT s) ++ (⟨#[32]⟩ : ByteArray) ++ (⟨#[102, 111, 114, 109]⟩ : ByteArray) ++ (⟨#[32]⟩ : ByteArray) ++ baL (Lib.itoa n) = (⟨t, sa, sc, s, 1, n⟩ : Bd).fmt) := by
    show _ = _
    unfold Bd.fmt Bd.txt
    rw [hv, if_pos rfl]
    refine baL_of ?_
    simp only [ba_app, baL_list]
    rfl
  have g1 : (baL (scT s)).size ≤ 50000000 := by rw [baL_size]; have := scT_len hr; omega
  have g3 : (baL (Lib.itoa n)).size ≤ 21 := by rw [baL_size]; exact Lib.itoa_length_le n (by omega) (by omega)
  clear hv hk
  go_enter Tryd.func23, Tryd.ntmps23
  go_wp2_with fail
  rw [← hW]
  (with_reducible refine hq.mono ?_)
  clear hq
  rintro e v1 ⟨rfl, hb1⟩
  have z1 := hb1.size
  have b1 := bW.trans (hb1.mono (by omega))
  have lw : w.heap.size < v1.heap.size := by omega
  have p0 := (hb1.cell (p := ⟨w.heap.size, 0, none⟩) (by show w.heap.size < _; omega)).trans a0
  have p1 := (hb1.cell (p := ⟨w.heap.size, 1, none⟩) (by show w.heap.size < _; omega)).trans a1
  have p2 := (hb1.cell (p := ⟨w.heap.size, 2, none⟩) (by show w.heap.size < _; omega)).trans a2
  have p3 := (hb1.cell (p := ⟨w.heap.size, 3, none⟩) (by show w.heap.size < _; omega)).trans a3
  have i1 := (iW.below (hb1.mono (by omega))).2
  simp only at i1
  clear a0 a1 a2 a3 hW
  have a0 := p0
  have a1 := p1
  have a2 := p2
  have a3 := p3
  go_wp2_with fail
  have l1 : (⟨#[32]⟩ : ByteArray).size = 1 := rfl
  have l2 : (⟨#[102, 111, 114, 109]⟩ : ByteArray).size = 4 := rfl
  have g4 : (Lib.itoa n).length ≤ 21 := Lib.itoa_length_le n (by omega) (by omega)
  have g2 : (scT s).length ≤ 50000000 := by rw [baL_size] at g1; exact g1
  have hwr : IntKind.i64.wrap 0 = 0 := by decide
  have hiv : IIn v1 B sa sc s := i1
  refine wp_region_held_drew (S := fun w' => w'.cell? ⟨w.heap.size, 0, none⟩ = some (.string t) ∧ w'.cell? ⟨w.heap.size, 1, none⟩ = some (.slice sa s.length sc) ∧ w'.cell? ⟨w.heap.size, 2, none⟩ = some (.int .i64 1) ∧ w'.cell? ⟨w.heap.size, 3, none⟩ = some (.int .i64 n)) (by kernel_rfl) (by exact ⟨a0, a1, a2, a3⟩) (fun held0 => ?_)
  obtain ⟨u0, hv0⟩ : ∃ c, c = v1.drew := ⟨_, rfl⟩
  have hc0 : Below v1.heap.size v1 u0 := by rw [hv0]; exact below_undrew (Below.refl _ _)
  have z0 := hc0.size
  rw [← hv0] at held0 ⊢
  clear hv0
  refine fb_take (i := 0) (oi := _) (d := 6) (v := ?vv1) rfl rfl (by kernel_rfl) (by kernel_rfl) (by kernel_rfl) (fun _ _ _ h => h) (Or.inl ⟨by rfl, ?hy1⟩) held0 ?_
  case hy1 => (intro w0 hSw; (try dsimp only at hSw); go_simp; first | done | with_reducible rfl | (split; (case isTrue hlt => (exfalso; (try simp only [ByteArray.size_append] at hlt); omega)); (case isFalse hlt => with_reducible rfl)))
  try simp only [Act.put, List.setIfInBounds_toArray, List.set_cons_zero, List.set_cons_succ]
  refine fb_take (i := 1) (oi := _) (d := 7) (v := ?vv2) rfl rfl (by kernel_rfl) (by kernel_rfl) (by kernel_rfl) (fun _ _ _ h => h) (Or.inl ⟨by rfl, ?hy2⟩) held0 ?_
  case hy2 => (intro w0 hSw; (try dsimp only at hSw); go_simp; first | done | with_reducible rfl | (split; (case isTrue hlt => (exfalso; (try simp only [ByteArray.size_append] at hlt); omega)); (case isFalse hlt => with_reducible rfl)))
  try simp only [Act.put, List.setIfInBounds_toArray, List.set_cons_zero, List.set_cons_succ]
  refine fb_take (i := 2) (oi := _) (d := 8) (v := ?vv3) rfl rfl (by kernel_rfl) (by kernel_rfl) (by kernel_rfl) (fun _ _ _ h => h) (Or.inl ⟨by rfl, ?hy3⟩) held0 ?_
  case hy3 => (intro w0 hSw; (try dsimp only at hSw); go_simp; first | done | with_reducible rfl | (split; (case isTrue hlt => (exfalso; (try simp only [ByteArray.size_append] at hlt); omega)); (case isFalse hlt => with_reducible rfl)))
  try simp only [Act.put, List.setIfInBounds_toArray, List.set_cons_zero, List.set_cons_succ]
  refine fb_take (i := 3) (oi := _) (d := 9) (v := ?vv4) rfl rfl (by kernel_rfl) (by kernel_rfl) (by kernel_rfl) (fun _ _ _ h => h) (Or.inl ⟨by rfl, ?hy4⟩) held0 ?_
  case hy4 => (intro w0 hSw; (try dsimp only at hSw); go_simp; first | done | with_reducible rfl | (split; (case isTrue hlt => (exfalso; (try simp only [ByteArray.size_append] at hlt); omega)); (case isFalse hlt => with_reducible rfl)))
  try simp only [Act.put, List.setIfInBounds_toArray, List.set_cons_zero, List.set_cons_succ]
  refine fb_take (i := 8) (oi := _) (d := 14) (v := ?vv5) rfl rfl (by kernel_rfl) (by kernel_rfl) (by kernel_rfl) (fun _ _ _ h => h) (Or.inl ⟨by rfl, ?hy5⟩) held0 ?_
  case hy5 => (intro w0 hSw; (try dsimp only at hSw); go_simp; first | done | with_reducible rfl | (split; (case isTrue hlt => (exfalso; (try simp only [ByteArray.size_append] at hlt); omega)); (case isFalse hlt => with_reducible rfl)))
  try simp only [Act.put, List.setIfInBounds_toArray, List.set_cons_zero, List.set_cons_succ]
  refine fb_take (i := 9) (oi := _) (d := 15) (v := ?vv6) rfl rfl (by kernel_rfl) (by kernel_rfl) (by kernel_rfl) (fun _ _ _ h => h) (Or.inl ⟨by rfl, ?hy6⟩) held0 ?_
  case hy6 => (intro w0 hSw; (try dsimp only at hSw); go_simp; first | done | with_reducible rfl | (split; (case isTrue hlt => (exfalso; (try simp only [ByteArray.size_append] at hlt); omega)); (case isFalse hlt => with_reducible rfl)))
  try simp only [Act.put, List.setIfInBounds_toArray, List.set_cons_zero, List.set_cons_succ]
  refine fb_take (i := 10) (oi := _) (d := 16) (v := ?vv7) rfl rfl (by kernel_rfl) (by kernel_rfl) (by kernel_rfl) (fun _ _ _ h => h) (Or.inl ⟨by rfl, ?hy7⟩) held0 ?_
  case hy7 => (intro w0 hSw; (try dsimp only at hSw); go_simp; first | done | with_reducible rfl | (split; (case isTrue hlt => (exfalso; (try simp only [ByteArray.size_append] at hlt); omega)); (case isFalse hlt => with_reducible rfl)))
  try simp only [Act.put, List.setIfInBounds_toArray, List.set_cons_zero, List.set_cons_succ]
  refine fb_take (i := 15) (oi := _) (d := 21) (v := ?vv8) rfl rfl (by kernel_rfl) (by kernel_rfl) (by kernel_rfl) (fun _ _ _ h => h) (Or.inl ⟨by rfl, ?hy8⟩) held0 ?_
  case hy8 => (intro w0 hSw; (try dsimp only at hSw); go_simp; first | done | with_reducible rfl | (split; (case isTrue hlt => (exfalso; (try simp only [ByteArray.size_append] at hlt); omega)); (case isFalse hlt => with_reducible rfl)))
  try simp only [Act.put, List.setIfInBounds_toArray, List.set_cons_zero, List.set_cons_succ]
  refine fb_take (i := 16) (oi := _) (d := 22) (v := ?vv9) rfl rfl (by kernel_rfl) (by kernel_rfl) (by kernel_rfl) (fun _ _ _ h => h) (Or.inl ⟨by rfl, ?hy9⟩) held0 ?_
  case hy9 => (intro w0 hSw; (try dsimp only at hSw); go_simp; first | done | with_reducible rfl | (split; (case isTrue hlt => (exfalso; (try simp only [ByteArray.size_append] at hlt); omega)); (case isFalse hlt => with_reducible rfl)))
  try simp only [Act.put, List.setIfInBounds_toArray, List.set_cons_zero, List.set_cons_succ]
  refine wpAnyH_ready (rs := [4, 7]) (by kernel_rfl) (by simp) ?_
  refine AllReadyH.cons rfl (fun K hK => ?_) ?_
  · go_simp
    (with_reducible refine (specSc_any sa sc s B u0 (hiv.below (hc0.mono (by omega))) (by omega) hr hs).mono ?_)
    rintro e u1 ⟨rfl, hq1⟩
    go_wp2_with fail
    have z1 := hq1.size
    have hc1 : Below v1.heap.size v1 u1 := hc0.trans (hq1.mono (by omega))
    refine hK.out _ _ ⟨(hq1.cell (p := ⟨w.heap.size, 0, none⟩) (by show w.heap.size < _; omega)).trans held0.1, (hq1.cell (p := ⟨w.heap.size, 1, none⟩) (by show w.heap.size < _; omega)).trans held0.2.1, (hq1.cell (p := ⟨w.heap.size, 2, none⟩) (by show w.heap.size < _; omega)).trans held0.2.2.1, (hq1.cell (p := ⟨w.heap.size, 3, none⟩) (by show w.heap.size < _; omega)).trans held0.2.2.2⟩ (fun held1 => ?_)
    clear hK K
    try simp only [Act.put, List.setIfInBounds_toArray, List.set_cons_zero, List.set_cons_succ]
    refine fb_take (i := 5) (oi := _) (d := 11) (v := ?vv10) rfl rfl (by kernel_rfl) (by kernel_rfl) (by kernel_rfl) (fun _ _ _ h => h) (Or.inl ⟨by rfl, ?hy10⟩) held1 ?_
    case hy10 => (intro w0 hSw; (try dsimp only at hSw); go_simp; first | done | with_reducible rfl | (split; (case isTrue hlt => (exfalso; (try simp only [ByteArray.size_append] at hlt); omega)); (case isFalse hlt => with_reducible rfl)))
    try simp only [Act.put, List.setIfInBounds_toArray, List.set_cons_zero, List.set_cons_succ]
    refine fb_take (i := 6) (oi := _) (d := 12) (v := ?vv11) rfl rfl (by kernel_rfl) (by kernel_rfl) (by kernel_rfl) (fun _ _ _ h => h) (Or.inl ⟨by rfl, ?hy11⟩) held1 ?_
    case hy11 => (intro w0 hSw; (try dsimp only at hSw); go_simp; first | done | with_reducible rfl | (split; (case isTrue hlt => (exfalso; (try simp only [ByteArray.size_append] at hlt); omega)); (case isFalse hlt => with_reducible rfl)))
    try simp only [Act.put, List.setIfInBounds_toArray, List.set_cons_zero, List.set_cons_succ]
    refine wpAnyH_ready (rs := [7, 17]) (by kernel_rfl) (by simp) ?_
    refine AllReadyH.cons rfl (fun K hK => ?_) ?_
    · go_simp
      refine fb_named ?_
      intro u2 hu2
      have hq2 : Below u1.heap.size u1 u2 := by rw [hu2]; exact (Below.refl _ _).alloc (Nat.le_refl _) _
      have hsl2 : u2.cell? ⟨u1.heap.size, 0, none⟩ = some (.string ⟨#[102, 111, 114, 109]⟩) := by rw [hu2]; simp [World.cell?_alloc_new]
      have lz2 : u1.heap.size < u2.heap.size := by rw [hu2]; simp
      clear hu2
      have z2 := hq2.size
      have hc2 : Below v1.heap.size v1 u2 := hc1.trans (hq2.mono (by omega))
      refine hK.out _ _ ⟨(hq2.cell (p := ⟨w.heap.size, 0, none⟩) (by show w.heap.size < _; omega)).trans held1.1, (hq2.cell (p := ⟨w.heap.size, 1, none⟩) (by show w.heap.size < _; omega)).trans held1.2.1, (hq2.cell (p := ⟨w.heap.size, 2, none⟩) (by show w.heap.size < _; omega)).trans held1.2.2.1, (hq2.cell (p := ⟨w.heap.size, 3, none⟩) (by show w.heap.size < _; omega)).trans held1.2.2.2⟩ (fun held2 => ?_)
      clear hK K
      try simp only [Act.put, List.setIfInBounds_toArray, List.set_cons_zero, List.set_cons_succ]
      refine fb_gives (S' := (fun w' => (w'.cell? ⟨w.heap.size, 0, none⟩ = some (.string t) ∧ w'.cell? ⟨w.heap.size, 1, none⟩ = some (.slice sa s.length sc) ∧ w'.cell? ⟨w.heap.size, 2, none⟩ = some (.int .i64 1) ∧ w'.cell? ⟨w.heap.size, 3, none⟩ = some (.int .i64 n)) ∧ w'.cell? ⟨u1.heap.size, 0, none⟩ = some (.string ⟨#[102, 111, 114, 109]⟩))) (fun _ h => h.1) ?_
      have heldB : (fun w' => (w'.cell? ⟨w.heap.size, 0, none⟩ = some (.string t) ∧ w'.cell? ⟨w.heap.size, 1, none⟩ = some (.slice sa s.length sc) ∧ w'.cell? ⟨w.heap.size, 2, none⟩ = some (.int .i64 1) ∧ w'.cell? ⟨w.heap.size, 3, none⟩ = some (.int .i64 n)) ∧ w'.cell? ⟨u1.heap.size, 0, none⟩ = some (.string ⟨#[102, 111, 114, 109]⟩)) u2 := ⟨held2, hsl2⟩
      refine fb_take (i := 11) (oi := _) (d := 17) (v := ?vv12) rfl rfl (by kernel_rfl) (by kernel_rfl) (by kernel_rfl) (fun _ _ _ h => h) (Or.inl ⟨by rfl, ?hy12⟩) heldB ?_
      case hy12 => (intro w0 hSw; (try dsimp only at hSw); go_simp; first | done | with_reducible rfl | (split; (case isTrue hlt => (exfalso; (try simp only [ByteArray.size_append] at hlt); omega)); (case isFalse hlt => with_reducible rfl)))
      try simp only [Act.put, List.setIfInBounds_toArray, List.set_cons_zero, List.set_cons_succ]
      refine fb_take (i := 12) (oi := _) (d := 18) (v := ?vv13) rfl rfl (by kernel_rfl) (by kernel_rfl) (by kernel_rfl) (fun _ _ _ h => h) (Or.inl ⟨by rfl, ?hy13⟩) heldB ?_
      case hy13 => (intro w0 hSw; (try dsimp only at hSw); go_simp; first | done | with_reducible rfl | (split; (case isTrue hlt => (exfalso; (try simp only [ByteArray.size_append] at hlt); omega)); (case isFalse hlt => with_reducible rfl)))
      try simp only [Act.put, List.setIfInBounds_toArray, List.set_cons_zero, List.set_cons_succ]
      refine fb_take (i := 13) (oi := _) (d := 19) (v := ?vv14) rfl rfl (by kernel_rfl) (by kernel_rfl) (by kernel_rfl) (fun _ _ _ h => h) (Or.inl ⟨by rfl, ?hy14⟩) heldB ?_
      case hy14 => (intro w0 hSw; (try dsimp only at hSw); go_simp; first | done | with_reducible rfl | (split; (case isTrue hlt => (exfalso; (try simp only [ByteArray.size_append] at hlt); omega)); (case isFalse hlt => with_reducible rfl)))
      try simp only [Act.put, List.setIfInBounds_toArray, List.set_cons_zero, List.set_cons_succ]
      refine fb_take (i := 14) (oi := _) (d := 20) (v := ?vv15) rfl rfl (by kernel_rfl) (by kernel_rfl) (by kernel_rfl) (fun _ _ _ h => h) (Or.inl ⟨by rfl, ?hy15⟩) heldB ?_
      case hy15 => (intro w0 hSw; (try dsimp only at hSw); go_simp; first | done | with_reducible rfl | (split; (case isTrue hlt => (exfalso; (try simp only [ByteArray.size_append] at hlt); omega)); (case isFalse hlt => with_reducible rfl)))
      try simp only [Act.put, List.setIfInBounds_toArray, List.set_cons_zero, List.set_cons_succ]
      refine wpAnyH_ready (rs := [17]) (by kernel_rfl) (by simp) ?_
      refine AllReadyH.cons rfl (fun K hK => ?_) ?_
      · go_simp
        (with_reducible refine (specFmtN_any n (by omega) (by omega) u2).mono ?_)
        rintro e u3 ⟨rfl, hq3⟩
        go_wp2_with fail
        have z3 := hq3.size
        have hc3 : Below v1.heap.size v1 u3 := hc2.trans (hq3.mono (by omega))
        refine hK.out _ _ ⟨⟨(hq3.cell (p := ⟨w.heap.size, 0, none⟩) (by show w.heap.size < _; omega)).trans heldB.1.1, (hq3.cell (p := ⟨w.heap.size, 1, none⟩) (by show w.heap.size < _; omega)).trans heldB.1.2.1, (hq3.cell (p := ⟨w.heap.size, 2, none⟩) (by show w.heap.size < _; omega)).trans heldB.1.2.2.1, (hq3.cell (p := ⟨w.heap.size, 3, none⟩) (by show w.heap.size < _; omega)).trans heldB.1.2.2.2⟩, (hq3.cell (p := ⟨u1.heap.size, 0, none⟩) (by show u1.heap.size < _; omega)).trans heldB.2⟩ (fun held3 => ?_)
        clear hK K
        try simp only [Act.put, List.setIfInBounds_toArray, List.set_cons_zero, List.set_cons_succ]
        refine fb_take (i := 18) (oi := _) (d := 24) (v := ?vv16) rfl rfl (by kernel_rfl) (by kernel_rfl) (by kernel_rfl) (fun _ _ _ h => h) (Or.inl ⟨by rfl, ?hy16⟩) held3 ?_
        case hy16 => (intro w0 hSw; (try dsimp only at hSw); go_simp; first | done | with_reducible rfl | (split; (case isTrue hlt => (exfalso; (try simp only [ByteArray.size_append] at hlt); omega)); (case isFalse hlt => with_reducible rfl)))
        try simp only [Act.put, List.setIfInBounds_toArray, List.set_cons_zero, List.set_cons_succ]
        refine fb_take (i := 19) (oi := _) (d := 2) (v := ?vv17) rfl rfl (by kernel_rfl) (by kernel_rfl) (by kernel_rfl) (fun _ _ _ h => h) (Or.inl ⟨by rfl, ?hy17⟩) held3 ?_
        case hy17 => (intro w0 hSw; (try dsimp only at hSw); go_simp; first | done | with_reducible rfl | (split; (case isTrue hlt => (exfalso; (try simp only [ByteArray.size_append] at hlt); omega)); (case isFalse hlt => with_reducible rfl)))
        try simp only [Act.put, List.setIfInBounds_toArray, List.set_cons_zero, List.set_cons_succ]
        refine wpAnyH_done (by kernel_rfl) ?_ _
        go_wp2_with fail
        go_ret
        exact ⟨by rw [← HE.out]; rfl, b1.trans (hc3.mono (by omega))⟩
      exact AllReadyH.nil
    refine AllReadyH.cons rfl (fun K hK => ?_) ?_
    · go_simp
      (with_reducible refine (specFmtN_any n (by omega) (by omega) u1).mono ?_)
      rintro e u2 ⟨rfl, hq2⟩
      go_wp2_with fail
      have z2 := hq2.size
      have hc2 : Below v1.heap.size v1 u2 := hc1.trans (hq2.mono (by omega))
      refine hK.out _ _ ⟨(hq2.cell (p := ⟨w.heap.size, 0, none⟩) (by show w.heap.size < _; omega)).trans held1.1, (hq2.cell (p := ⟨w.heap.size, 1, none⟩) (by show w.heap.size < _; omega)).trans held1.2.1, (hq2.cell (p := ⟨w.heap.size, 2, none⟩) (by show w.heap.size < _; omega)).trans held1.2.2.1, (hq2.cell (p := ⟨w.heap.size, 3, none⟩) (by show w.heap.size < _; omega)).trans held1.2.2.2⟩ (fun held2 => ?_)
      clear hK K
      try simp only [Act.put, List.setIfInBounds_toArray, List.set_cons_zero, List.set_cons_succ]
      refine wpAnyH_ready (rs := [7]) (by kernel_rfl) (by simp) ?_
      refine AllReadyH.cons rfl (fun K hK => ?_) ?_
      · go_simp
        refine fb_named ?_
        intro u3 hu3
        have hq3 : Below u2.heap.size u2 u3 := by rw [hu3]; exact (Below.refl _ _).alloc (Nat.le_refl _) _
        have hsl3 : u3.cell? ⟨u2.heap.size, 0, none⟩ = some (.string ⟨#[102, 111, 114, 109]⟩) := by rw [hu3]; simp [World.cell?_alloc_new]
        have lz3 : u2.heap.size < u3.heap.size := by rw [hu3]; simp
        clear hu3
        have z3 := hq3.size
        have hc3 : Below v1.heap.size v1 u3 := hc2.trans (hq3.mono (by omega))
        refine hK.out _ _ ⟨(hq3.cell (p := ⟨w.heap.size, 0, none⟩) (by show w.heap.size < _; omega)).trans held2.1, (hq3.cell (p := ⟨w.heap.size, 1, none⟩) (by show w.heap.size < _; omega)).trans held2.2.1, (hq3.cell (p := ⟨w.heap.size, 2, none⟩) (by show w.heap.size < _; omega)).trans held2.2.2.1, (hq3.cell (p := ⟨w.heap.size, 3, none⟩) (by show w.heap.size < _; omega)).trans held2.2.2.2⟩ (fun held3 => ?_)
        clear hK K
        try simp only [Act.put, List.setIfInBounds_toArray, List.set_cons_zero, List.set_cons_succ]
        refine fb_gives (S' := (fun w' => (w'.cell? ⟨w.heap.size, 0, none⟩ = some (.string t) ∧ w'.cell? ⟨w.heap.size, 1, none⟩ = some (.slice sa s.length sc) ∧ w'.cell? ⟨w.heap.size, 2, none⟩ = some (.int .i64 1) ∧ w'.cell? ⟨w.heap.size, 3, none⟩ = some (.int .i64 n)) ∧ w'.cell? ⟨u2.heap.size, 0, none⟩ = some (.string ⟨#[102, 111, 114, 109]⟩))) (fun _ h => h.1) ?_
        have heldB : (fun w' => (w'.cell? ⟨w.heap.size, 0, none⟩ = some (.string t) ∧ w'.cell? ⟨w.heap.size, 1, none⟩ = some (.slice sa s.length sc) ∧ w'.cell? ⟨w.heap.size, 2, none⟩ = some (.int .i64 1) ∧ w'.cell? ⟨w.heap.size, 3, none⟩ = some (.int .i64 n)) ∧ w'.cell? ⟨u2.heap.size, 0, none⟩ = some (.string ⟨#[102, 111, 114, 109]⟩)) u3 := ⟨held3, hsl3⟩
        refine fb_take (i := 11) (oi := _) (d := 17) (v := ?vv18) rfl rfl (by kernel_rfl) (by kernel_rfl) (by kernel_rfl) (fun _ _ _ h => h) (Or.inl ⟨by rfl, ?hy18⟩) heldB ?_
        case hy18 => (intro w0 hSw; (try dsimp only at hSw); go_simp; first | done | with_reducible rfl | (split; (case isTrue hlt => (exfalso; (try simp only [ByteArray.size_append] at hlt); omega)); (case isFalse hlt => with_reducible rfl)))
        try simp only [Act.put, List.setIfInBounds_toArray, List.set_cons_zero, List.set_cons_succ]
        refine fb_take (i := 12) (oi := _) (d := 18) (v := ?vv19) rfl rfl (by kernel_rfl) (by kernel_rfl) (by kernel_rfl) (fun _ _ _ h => h) (Or.inl ⟨by rfl, ?hy19⟩) heldB ?_
        case hy19 => (intro w0 hSw; (try dsimp only at hSw); go_simp; first | done | with_reducible rfl | (split; (case isTrue hlt => (exfalso; (try simp only [ByteArray.size_append] at hlt); omega)); (case isFalse hlt => with_reducible rfl)))
        try simp only [Act.put, List.setIfInBounds_toArray, List.set_cons_zero, List.set_cons_succ]
        refine fb_take (i := 13) (oi := _) (d := 19) (v := ?vv20) rfl rfl (by kernel_rfl) (by kernel_rfl) (by kernel_rfl) (fun _ _ _ h => h) (Or.inl ⟨by rfl, ?hy20⟩) heldB ?_
        case hy20 => (intro w0 hSw; (try dsimp only at hSw); go_simp; first | done | with_reducible rfl | (split; (case isTrue hlt => (exfalso; (try simp only [ByteArray.size_append] at hlt); omega)); (case isFalse hlt => with_reducible rfl)))
        try simp only [Act.put, List.setIfInBounds_toArray, List.set_cons_zero, List.set_cons_succ]
        refine fb_take (i := 14) (oi := _) (d := 20) (v := ?vv21) rfl rfl (by kernel_rfl) (by kernel_rfl) (by kernel_rfl) (fun _ _ _ h => h) (Or.inl ⟨by rfl, ?hy21⟩) heldB ?_
        case hy21 => (intro w0 hSw; (try dsimp only at hSw); go_simp; first | done | with_reducible rfl | (split; (case isTrue hlt => (exfalso; (try simp only [ByteArray.size_append] at hlt); omega)); (case isFalse hlt => with_reducible rfl)))
        try simp only [Act.put, List.setIfInBounds_toArray, List.set_cons_zero, List.set_cons_succ]
        refine fb_take (i := 18) (oi := _) (d := 24) (v := ?vv22) rfl rfl (by kernel_rfl) (by kernel_rfl) (by kernel_rfl) (fun _ _ _ h => h) (Or.inl ⟨by rfl, ?hy22⟩) heldB ?_
        case hy22 => (intro w0 hSw; (try dsimp only at hSw); go_simp; first | done | with_reducible rfl | (split; (case isTrue hlt => (exfalso; (try simp only [ByteArray.size_append] at hlt); omega)); (case isFalse hlt => with_reducible rfl)))
        try simp only [Act.put, List.setIfInBounds_toArray, List.set_cons_zero, List.set_cons_succ]
        refine fb_take (i := 19) (oi := _) (d := 2) (v := ?vv23) rfl rfl (by kernel_rfl) (by kernel_rfl) (by kernel_rfl) (fun _ _ _ h => h) (Or.inl ⟨by rfl, ?hy23⟩) heldB ?_
        case hy23 => (intro w0 hSw; (try dsimp only at hSw); go_simp; first | done | with_reducible rfl | (split; (case isTrue hlt => (exfalso; (try simp only [ByteArray.size_append] at hlt); omega)); (case isFalse hlt => with_reducible rfl)))
        try simp only [Act.put, List.setIfInBounds_toArray, List.set_cons_zero, List.set_cons_succ]
        refine wpAnyH_done (by kernel_rfl) ?_ _
        go_wp2_with fail
        go_ret
        exact ⟨by rw [← HE.out]; rfl, b1.trans (hc3.mono (by omega))⟩
      exact AllReadyH.nil
    exact AllReadyH.nil
  refine AllReadyH.cons rfl (fun K hK => ?_) ?_
  · go_simp
    refine fb_named ?_
    intro u1 hu1
    have hq1 : Below u0.heap.size u0 u1 := by rw [hu1]; exact (Below.refl _ _).alloc (Nat.le_refl _) _
    have hsl1 : u1.cell? ⟨u0.heap.size, 0, none⟩ = some (.string ⟨#[102, 111, 114, 109]⟩) := by rw [hu1]; simp [World.cell?_alloc_new]
    have lz1 : u0.heap.size < u1.heap.size := by rw [hu1]; simp
    clear hu1
    have z1 := hq1.size
    have hc1 : Below v1.heap.size v1 u1 := hc0.trans (hq1.mono (by omega))
    refine hK.out _ _ ⟨(hq1.cell (p := ⟨w.heap.size, 0, none⟩) (by show w.heap.size < _; omega)).trans held0.1, (hq1.cell (p := ⟨w.heap.size, 1, none⟩) (by show w.heap.size < _; omega)).trans held0.2.1, (hq1.cell (p := ⟨w.heap.size, 2, none⟩) (by show w.heap.size < _; omega)).trans held0.2.2.1, (hq1.cell (p := ⟨w.heap.size, 3, none⟩) (by show w.heap.size < _; omega)).trans held0.2.2.2⟩ (fun held1 => ?_)
    clear hK K
    try simp only [Act.put, List.setIfInBounds_toArray, List.set_cons_zero, List.set_cons_succ]
    refine fb_gives (S' := (fun w' => (w'.cell? ⟨w.heap.size, 0, none⟩ = some (.string t) ∧ w'.cell? ⟨w.heap.size, 1, none⟩ = some (.slice sa s.length sc) ∧ w'.cell? ⟨w.heap.size, 2, none⟩ = some (.int .i64 1) ∧ w'.cell? ⟨w.heap.size, 3, none⟩ = some (.int .i64 n)) ∧ w'.cell? ⟨u0.heap.size, 0, none⟩ = some (.string ⟨#[102, 111, 114, 109]⟩))) (fun _ h => h.1) ?_
    have heldB : (fun w' => (w'.cell? ⟨w.heap.size, 0, none⟩ = some (.string t) ∧ w'.cell? ⟨w.heap.size, 1, none⟩ = some (.slice sa s.length sc) ∧ w'.cell? ⟨w.heap.size, 2, none⟩ = some (.int .i64 1) ∧ w'.cell? ⟨w.heap.size, 3, none⟩ = some (.int .i64 n)) ∧ w'.cell? ⟨u0.heap.size, 0, none⟩ = some (.string ⟨#[102, 111, 114, 109]⟩)) u1 := ⟨held1, hsl1⟩
    refine fb_take (i := 11) (oi := _) (d := 17) (v := ?vv24) rfl rfl (by kernel_rfl) (by kernel_rfl) (by kernel_rfl) (fun _ _ _ h => h) (Or.inl ⟨by rfl, ?hy24⟩) heldB ?_
    case hy24 => (intro w0 hSw; (try dsimp only at hSw); go_simp; first | done | with_reducible rfl | (split; (case isTrue hlt => (exfalso; (try simp only [ByteArray.size_append] at hlt); omega)); (case isFalse hlt => with_reducible rfl)))
    try simp only [Act.put, List.setIfInBounds_toArray, List.set_cons_zero, List.set_cons_succ]
    refine fb_take (i := 12) (oi := _) (d := 18) (v := ?vv25) rfl rfl (by kernel_rfl) (by kernel_rfl) (by kernel_rfl) (fun _ _ _ h => h) (Or.inl ⟨by rfl, ?hy25⟩) heldB ?_
    case hy25 => (intro w0 hSw; (try dsimp only at hSw); go_simp; first | done | with_reducible rfl | (split; (case isTrue hlt => (exfalso; (try simp only [ByteArray.size_append] at hlt); omega)); (case isFalse hlt => with_reducible rfl)))
    try simp only [Act.put, List.setIfInBounds_toArray, List.set_cons_zero, List.set_cons_succ]
    refine wpAnyH_ready (rs := [4]) (by kernel_rfl) (by simp) ?_
    refine AllReadyH.cons rfl (fun K hK => ?_) ?_
    · go_simp
      (with_reducible refine (specSc_any sa sc s B u1 (hiv.below (hc1.mono (by omega))) (by omega) hr hs).mono ?_)
      rintro e u2 ⟨rfl, hq2⟩
      go_wp2_with fail
      have z2 := hq2.size
      have hc2 : Below v1.heap.size v1 u2 := hc1.trans (hq2.mono (by omega))
      refine hK.out _ _ ⟨⟨(hq2.cell (p := ⟨w.heap.size, 0, none⟩) (by show w.heap.size < _; omega)).trans heldB.1.1, (hq2.cell (p := ⟨w.heap.size, 1, none⟩) (by show w.heap.size < _; omega)).trans heldB.1.2.1, (hq2.cell (p := ⟨w.heap.size, 2, none⟩) (by show w.heap.size < _; omega)).trans heldB.1.2.2.1, (hq2.cell (p := ⟨w.heap.size, 3, none⟩) (by show w.heap.size < _; omega)).trans heldB.1.2.2.2⟩, (hq2.cell (p := ⟨u0.heap.size, 0, none⟩) (by show u0.heap.size < _; omega)).trans heldB.2⟩ (fun held2 => ?_)
      clear hK K
      try simp only [Act.put, List.setIfInBounds_toArray, List.set_cons_zero, List.set_cons_succ]
      refine fb_take (i := 5) (oi := _) (d := 11) (v := ?vv26) rfl rfl (by kernel_rfl) (by kernel_rfl) (by kernel_rfl) (fun _ _ _ h => h) (Or.inl ⟨by rfl, ?hy26⟩) held2 ?_
      case hy26 => (intro w0 hSw; (try dsimp only at hSw); go_simp; first | done | with_reducible rfl | (split; (case isTrue hlt => (exfalso; (try simp only [ByteArray.size_append] at hlt); omega)); (case isFalse hlt => with_reducible rfl)))
      try simp only [Act.put, List.setIfInBounds_toArray, List.set_cons_zero, List.set_cons_succ]
      refine fb_take (i := 6) (oi := _) (d := 12) (v := ?vv27) rfl rfl (by kernel_rfl) (by kernel_rfl) (by kernel_rfl) (fun _ _ _ h => h) (Or.inl ⟨by rfl, ?hy27⟩) held2 ?_
      case hy27 => (intro w0 hSw; (try dsimp only at hSw); go_simp; first | done | with_reducible rfl | (split; (case isTrue hlt => (exfalso; (try simp only [ByteArray.size_append] at hlt); omega)); (case isFalse hlt => with_reducible rfl)))
      try simp only [Act.put, List.setIfInBounds_toArray, List.set_cons_zero, List.set_cons_succ]
      refine fb_take (i := 13) (oi := _) (d := 19) (v := ?vv28) rfl rfl (by kernel_rfl) (by kernel_rfl) (by kernel_rfl) (fun _ _ _ h => h) (Or.inl ⟨by rfl, ?hy28⟩) held2 ?_
      case hy28 => (intro w0 hSw; (try dsimp only at hSw); go_simp; first | done | with_reducible rfl | (split; (case isTrue hlt => (exfalso; (try simp only [ByteArray.size_append] at hlt); omega)); (case isFalse hlt => with_reducible rfl)))
      try simp only [Act.put, List.setIfInBounds_toArray, List.set_cons_zero, List.set_cons_succ]
      refine fb_take (i := 14) (oi := _) (d := 20) (v := ?vv29) rfl rfl (by kernel_rfl) (by kernel_rfl) (by kernel_rfl) (fun _ _ _ h => h) (Or.inl ⟨by rfl, ?hy29⟩) held2 ?_
      case hy29 => (intro w0 hSw; (try dsimp only at hSw); go_simp; first | done | with_reducible rfl | (split; (case isTrue hlt => (exfalso; (try simp only [ByteArray.size_append] at hlt); omega)); (case isFalse hlt => with_reducible rfl)))
      try simp only [Act.put, List.setIfInBounds_toArray, List.set_cons_zero, List.set_cons_succ]
      refine wpAnyH_ready (rs := [17]) (by kernel_rfl) (by simp) ?_
      refine AllReadyH.cons rfl (fun K hK => ?_) ?_
      · go_simp
        (with_reducible refine (specFmtN_any n (by omega) (by omega) u2).mono ?_)
        rintro e u3 ⟨rfl, hq3⟩
        go_wp2_with fail
        have z3 := hq3.size
        have hc3 : Below v1.heap.size v1 u3 := hc2.trans (hq3.mono (by omega))
        refine hK.out _ _ ⟨⟨(hq3.cell (p := ⟨w.heap.size, 0, none⟩) (by show w.heap.size < _; omega)).trans held2.1.1, (hq3.cell (p := ⟨w.heap.size, 1, none⟩) (by show w.heap.size < _; omega)).trans held2.1.2.1, (hq3.cell (p := ⟨w.heap.size, 2, none⟩) (by show w.heap.size < _; omega)).trans held2.1.2.2.1, (hq3.cell (p := ⟨w.heap.size, 3, none⟩) (by show w.heap.size < _; omega)).trans held2.1.2.2.2⟩, (hq3.cell (p := ⟨u0.heap.size, 0, none⟩) (by show u0.heap.size < _; omega)).trans held2.2⟩ (fun held3 => ?_)
        clear hK K
        try simp only [Act.put, List.setIfInBounds_toArray, List.set_cons_zero, List.set_cons_succ]
        refine fb_take (i := 18) (oi := _) (d := 24) (v := ?vv30) rfl rfl (by kernel_rfl) (by kernel_rfl) (by kernel_rfl) (fun _ _ _ h => h) (Or.inl ⟨by rfl, ?hy30⟩) held3 ?_
        case hy30 => (intro w0 hSw; (try dsimp only at hSw); go_simp; first | done | with_reducible rfl | (split; (case isTrue hlt => (exfalso; (try simp only [ByteArray.size_append] at hlt); omega)); (case isFalse hlt => with_reducible rfl)))
        try simp only [Act.put, List.setIfInBounds_toArray, List.set_cons_zero, List.set_cons_succ]
        refine fb_take (i := 19) (oi := _) (d := 2) (v := ?vv31) rfl rfl (by kernel_rfl) (by kernel_rfl) (by kernel_rfl) (fun _ _ _ h => h) (Or.inl ⟨by rfl, ?hy31⟩) held3 ?_
        case hy31 => (intro w0 hSw; (try dsimp only at hSw); go_simp; first | done | with_reducible rfl | (split; (case isTrue hlt => (exfalso; (try simp only [ByteArray.size_append] at hlt); omega)); (case isFalse hlt => with_reducible rfl)))
        try simp only [Act.put, List.setIfInBounds_toArray, List.set_cons_zero, List.set_cons_succ]
        refine wpAnyH_done (by kernel_rfl) ?_ _
        go_wp2_with fail
        go_ret
        exact ⟨by rw [← HE.out]; rfl, b1.trans (hc3.mono (by omega))⟩
      exact AllReadyH.nil
    exact AllReadyH.nil
  exact AllReadyH.nil

set_option maxRecDepth 100000 in
set_option maxHeartbeats 4000000 in
theorem specFB2_any (t : ByteArray) (sa : Option Addr) (sc : Nat) (s : List Int) (n : Int) (B : Nat) (w : World) (hs : s.length ≤ 2000000) (hin : (⟨t, sa, sc, s, 2, n⟩ : Bd).In w B) (hB : B ≤ w.heap.size) :
    Calls Tryd.prog 23 #[.agg #[.string t, .slice sa s.length sc, .int .i64 2, .int .i64 n]] w fun e w' => e = .returned (.string (⟨t, sa, sc, s, 2, n⟩ : Bd).fmt) ∧ Below w.heap.size w w' := by
  have hcap := hin.2.cap
  have hts := hin.1
  simp only at hcap hts
  obtain ⟨W, hW⟩ : ∃ W, W = w.alloc (.cells #[.string t, .slice sa s.length sc, .int .i64 2, .int .i64 n] 54) := ⟨_, rfl⟩
  have zW : W.heap.size = w.heap.size + 1 := by rw [hW]; simp
  have bW : Below w.heap.size w W := by rw [hW]; exact (Below.refl _ _).alloc (Nat.le_refl _) _
  have X0 : Bd.Box W w.heap.size (⟨t, sa, sc, s, 2, n⟩ : Bd) := by rw [hW]; exact Bd.Box.new w (⟨t, sa, sc, s, 2, n⟩ : Bd) _
  have iW := hin.below (bW.mono hB)
  have hq : Calls Tryd.prog 43 #[.agg #[.string t, .slice sa s.length sc, .int .i64 2, .int .i64 n]] W fun e w' => e = .returned (.bool (⟨t, sa, sc, s, 2, n⟩ : Bd).isB) ∧ Below W.heap.size W w' := specIsB_any (⟨t, sa, sc, s, 2, n⟩ : Bd) B W iW (by omega)
  obtain ⟨a0, a1, a2, a3⟩ := X0
  simp only at a0 a1 a2 a3
  cases hv : (⟨t, sa, sc, s, 2, n⟩ : Bd).isB
  · have HE : Hid ((⟨t, sa, sc, s, 2, n⟩ : Bd).fmt = ⟨#[]⟩) := by show _ = _; unfold Bd.fmt; rw [hv]; rfl
    rw [hv] at hq
    clear hv
    go_enter Tryd.func23, Tryd.ntmps23
    go_wp2_with fail
    rw [← hW]
    (with_reducible refine hq.mono ?_)
    rintro e w1 ⟨rfl, hb1⟩
    go_wp2_with fail
    go_ret
    exact ⟨by rw [HE.out]; rfl, bW.trans (hb1.mono (by omega))⟩
  rw [hv] at hq
  obtain ⟨hts2, hr, hk, hn0, hn1⟩ := Bd.isB_out hv
  simp only at hts2 hr hn0 hn1
  have HE : Hid (t ++ baL (scT s) ++ (⟨#[32]⟩ : ByteArray) ++ (⟨#[112, 114, 105, 109, 105, 116, 105, 118, 101]⟩ : ByteArray) ++ (⟨#[32]⟩ : ByteArray) ++ baL (Lib.itoa n) = (⟨t, sa, sc, s, 2, n⟩ : Bd).fmt) := by
    show _ = _
    unfold Bd.fmt Bd.txt
    rw [hv, if_pos rfl]
    refine baL_of ?_
    simp only [ba_app, baL_list]
    rfl
  have g1 : (baL (scT s)).size ≤ 50000000 := by rw [baL_size]; have := scT_len hr; omega
  have g3 : (baL (Lib.itoa n)).size ≤ 21 := by rw [baL_size]; exact Lib.itoa_length_le n (by omega) (by omega)
  clear hv hk
  go_enter Tryd.func23, Tryd.ntmps23
  go_wp2_with fail
  rw [← hW]
  (with_reducible refine hq.mono ?_)
  clear hq
  rintro e v1 ⟨rfl, hb1⟩
  have z1 := hb1.size
  have b1 := bW.trans (hb1.mono (by omega))
  have lw : w.heap.size < v1.heap.size := by omega
  have p0 := (hb1.cell (p := ⟨w.heap.size, 0, none⟩) (by show w.heap.size < _; omega)).trans a0
  have p1 := (hb1.cell (p := ⟨w.heap.size, 1, none⟩) (by show w.heap.size < _; omega)).trans a1
  have p2 := (hb1.cell (p := ⟨w.heap.size, 2, none⟩) (by show w.heap.size < _; omega)).trans a2
  have p3 := (hb1.cell (p := ⟨w.heap.size, 3, none⟩) (by show w.heap.size < _; omega)).trans a3
  have i1 := (iW.below (hb1.mono (by omega))).2
  simp only at i1
  clear a0 a1 a2 a3 hW
  have a0 := p0
  have a1 := p1
  have a2 := p2
  have a3 := p3
  go_wp2_with fail
  have l1 : (⟨#[32]⟩ : ByteArray).size = 1 := rfl
  have l2 : (⟨#[112, 114, 105, 109, 105, 116, 105, 118, 101]⟩ : ByteArray).size = 9 := rfl
  have g4 : (Lib.itoa n).length ≤ 21 := Lib.itoa_length_le n (by omega) (by omega)
  have g2 : (scT s).length ≤ 50000000 := by rw [baL_size] at g1; exact g1
  have hwr : IntKind.i64.wrap 1 = 1 := by decide
  have hiv : IIn v1 B sa sc s := i1
  refine wp_region_held_drew (S := fun w' => w'.cell? ⟨w.heap.size, 0, none⟩ = some (.string t) ∧ w'.cell? ⟨w.heap.size, 1, none⟩ = some (.slice sa s.length sc) ∧ w'.cell? ⟨w.heap.size, 2, none⟩ = some (.int .i64 2) ∧ w'.cell? ⟨w.heap.size, 3, none⟩ = some (.int .i64 n)) (by kernel_rfl) (by exact ⟨a0, a1, a2, a3⟩) (fun held0 => ?_)
  obtain ⟨u0, hv0⟩ : ∃ c, c = v1.drew := ⟨_, rfl⟩
  have hc0 : Below v1.heap.size v1 u0 := by rw [hv0]; exact below_undrew (Below.refl _ _)
  have z0 := hc0.size
  rw [← hv0] at held0 ⊢
  clear hv0
  refine fb_take (i := 0) (oi := _) (d := 6) (v := ?vv32) rfl rfl (by kernel_rfl) (by kernel_rfl) (by kernel_rfl) (fun _ _ _ h => h) (Or.inl ⟨by rfl, ?hy32⟩) held0 ?_
  case hy32 => (intro w0 hSw; (try dsimp only at hSw); go_simp; first | done | with_reducible rfl | (split; (case isTrue hlt => (exfalso; (try simp only [ByteArray.size_append] at hlt); omega)); (case isFalse hlt => with_reducible rfl)))
  try simp only [Act.put, List.setIfInBounds_toArray, List.set_cons_zero, List.set_cons_succ]
  refine fb_take (i := 1) (oi := _) (d := 7) (v := ?vv33) rfl rfl (by kernel_rfl) (by kernel_rfl) (by kernel_rfl) (fun _ _ _ h => h) (Or.inl ⟨by rfl, ?hy33⟩) held0 ?_
  case hy33 => (intro w0 hSw; (try dsimp only at hSw); go_simp; first | done | with_reducible rfl | (split; (case isTrue hlt => (exfalso; (try simp only [ByteArray.size_append] at hlt); omega)); (case isFalse hlt => with_reducible rfl)))
  try simp only [Act.put, List.setIfInBounds_toArray, List.set_cons_zero, List.set_cons_succ]
  refine fb_take (i := 2) (oi := _) (d := 8) (v := ?vv34) rfl rfl (by kernel_rfl) (by kernel_rfl) (by kernel_rfl) (fun _ _ _ h => h) (Or.inl ⟨by rfl, ?hy34⟩) held0 ?_
  case hy34 => (intro w0 hSw; (try dsimp only at hSw); go_simp; first | done | with_reducible rfl | (split; (case isTrue hlt => (exfalso; (try simp only [ByteArray.size_append] at hlt); omega)); (case isFalse hlt => with_reducible rfl)))
  try simp only [Act.put, List.setIfInBounds_toArray, List.set_cons_zero, List.set_cons_succ]
  refine fb_take (i := 3) (oi := _) (d := 9) (v := ?vv35) rfl rfl (by kernel_rfl) (by kernel_rfl) (by kernel_rfl) (fun _ _ _ h => h) (Or.inl ⟨by rfl, ?hy35⟩) held0 ?_
  case hy35 => (intro w0 hSw; (try dsimp only at hSw); go_simp; first | done | with_reducible rfl | (split; (case isTrue hlt => (exfalso; (try simp only [ByteArray.size_append] at hlt); omega)); (case isFalse hlt => with_reducible rfl)))
  try simp only [Act.put, List.setIfInBounds_toArray, List.set_cons_zero, List.set_cons_succ]
  refine fb_take (i := 8) (oi := _) (d := 14) (v := ?vv36) rfl rfl (by kernel_rfl) (by kernel_rfl) (by kernel_rfl) (fun _ _ _ h => h) (Or.inl ⟨by rfl, ?hy36⟩) held0 ?_
  case hy36 => (intro w0 hSw; (try dsimp only at hSw); go_simp; first | done | with_reducible rfl | (split; (case isTrue hlt => (exfalso; (try simp only [ByteArray.size_append] at hlt); omega)); (case isFalse hlt => with_reducible rfl)))
  try simp only [Act.put, List.setIfInBounds_toArray, List.set_cons_zero, List.set_cons_succ]
  refine fb_take (i := 9) (oi := _) (d := 15) (v := ?vv37) rfl rfl (by kernel_rfl) (by kernel_rfl) (by kernel_rfl) (fun _ _ _ h => h) (Or.inl ⟨by rfl, ?hy37⟩) held0 ?_
  case hy37 => (intro w0 hSw; (try dsimp only at hSw); go_simp; first | done | with_reducible rfl | (split; (case isTrue hlt => (exfalso; (try simp only [ByteArray.size_append] at hlt); omega)); (case isFalse hlt => with_reducible rfl)))
  try simp only [Act.put, List.setIfInBounds_toArray, List.set_cons_zero, List.set_cons_succ]
  refine fb_take (i := 10) (oi := _) (d := 16) (v := ?vv38) rfl rfl (by kernel_rfl) (by kernel_rfl) (by kernel_rfl) (fun _ _ _ h => h) (Or.inl ⟨by rfl, ?hy38⟩) held0 ?_
  case hy38 => (intro w0 hSw; (try dsimp only at hSw); go_simp; first | done | with_reducible rfl | (split; (case isTrue hlt => (exfalso; (try simp only [ByteArray.size_append] at hlt); omega)); (case isFalse hlt => with_reducible rfl)))
  try simp only [Act.put, List.setIfInBounds_toArray, List.set_cons_zero, List.set_cons_succ]
  refine fb_take (i := 15) (oi := _) (d := 21) (v := ?vv39) rfl rfl (by kernel_rfl) (by kernel_rfl) (by kernel_rfl) (fun _ _ _ h => h) (Or.inl ⟨by rfl, ?hy39⟩) held0 ?_
  case hy39 => (intro w0 hSw; (try dsimp only at hSw); go_simp; first | done | with_reducible rfl | (split; (case isTrue hlt => (exfalso; (try simp only [ByteArray.size_append] at hlt); omega)); (case isFalse hlt => with_reducible rfl)))
  try simp only [Act.put, List.setIfInBounds_toArray, List.set_cons_zero, List.set_cons_succ]
  refine fb_take (i := 16) (oi := _) (d := 22) (v := ?vv40) rfl rfl (by kernel_rfl) (by kernel_rfl) (by kernel_rfl) (fun _ _ _ h => h) (Or.inl ⟨by rfl, ?hy40⟩) held0 ?_
  case hy40 => (intro w0 hSw; (try dsimp only at hSw); go_simp; first | done | with_reducible rfl | (split; (case isTrue hlt => (exfalso; (try simp only [ByteArray.size_append] at hlt); omega)); (case isFalse hlt => with_reducible rfl)))
  try simp only [Act.put, List.setIfInBounds_toArray, List.set_cons_zero, List.set_cons_succ]
  refine wpAnyH_ready (rs := [4, 7]) (by kernel_rfl) (by simp) ?_
  refine AllReadyH.cons rfl (fun K hK => ?_) ?_
  · go_simp
    (with_reducible refine (specSc_any sa sc s B u0 (hiv.below (hc0.mono (by omega))) (by omega) hr hs).mono ?_)
    rintro e u1 ⟨rfl, hq1⟩
    go_wp2_with fail
    have z1 := hq1.size
    have hc1 : Below v1.heap.size v1 u1 := hc0.trans (hq1.mono (by omega))
    refine hK.out _ _ ⟨(hq1.cell (p := ⟨w.heap.size, 0, none⟩) (by show w.heap.size < _; omega)).trans held0.1, (hq1.cell (p := ⟨w.heap.size, 1, none⟩) (by show w.heap.size < _; omega)).trans held0.2.1, (hq1.cell (p := ⟨w.heap.size, 2, none⟩) (by show w.heap.size < _; omega)).trans held0.2.2.1, (hq1.cell (p := ⟨w.heap.size, 3, none⟩) (by show w.heap.size < _; omega)).trans held0.2.2.2⟩ (fun held1 => ?_)
    clear hK K
    try simp only [Act.put, List.setIfInBounds_toArray, List.set_cons_zero, List.set_cons_succ]
    refine fb_take (i := 5) (oi := _) (d := 11) (v := ?vv41) rfl rfl (by kernel_rfl) (by kernel_rfl) (by kernel_rfl) (fun _ _ _ h => h) (Or.inl ⟨by rfl, ?hy41⟩) held1 ?_
    case hy41 => (intro w0 hSw; (try dsimp only at hSw); go_simp; first | done | with_reducible rfl | (split; (case isTrue hlt => (exfalso; (try simp only [ByteArray.size_append] at hlt); omega)); (case isFalse hlt => with_reducible rfl)))
    try simp only [Act.put, List.setIfInBounds_toArray, List.set_cons_zero, List.set_cons_succ]
    refine fb_take (i := 6) (oi := _) (d := 12) (v := ?vv42) rfl rfl (by kernel_rfl) (by kernel_rfl) (by kernel_rfl) (fun _ _ _ h => h) (Or.inl ⟨by rfl, ?hy42⟩) held1 ?_
    case hy42 => (intro w0 hSw; (try dsimp only at hSw); go_simp; first | done | with_reducible rfl | (split; (case isTrue hlt => (exfalso; (try simp only [ByteArray.size_append] at hlt); omega)); (case isFalse hlt => with_reducible rfl)))
    try simp only [Act.put, List.setIfInBounds_toArray, List.set_cons_zero, List.set_cons_succ]
    refine wpAnyH_ready (rs := [7, 17]) (by kernel_rfl) (by simp) ?_
    refine AllReadyH.cons rfl (fun K hK => ?_) ?_
    · go_simp
      refine fb_named ?_
      intro u2 hu2
      have hq2 : Below u1.heap.size u1 u2 := by rw [hu2]; exact (Below.refl _ _).alloc (Nat.le_refl _) _
      have hsl2 : u2.cell? ⟨u1.heap.size, 1, none⟩ = some (.string ⟨#[112, 114, 105, 109, 105, 116, 105, 118, 101]⟩) := by rw [hu2]; simp [World.cell?_alloc_new]
      have lz2 : u1.heap.size < u2.heap.size := by rw [hu2]; simp
      clear hu2
      have z2 := hq2.size
      have hc2 : Below v1.heap.size v1 u2 := hc1.trans (hq2.mono (by omega))
      refine hK.out _ _ ⟨(hq2.cell (p := ⟨w.heap.size, 0, none⟩) (by show w.heap.size < _; omega)).trans held1.1, (hq2.cell (p := ⟨w.heap.size, 1, none⟩) (by show w.heap.size < _; omega)).trans held1.2.1, (hq2.cell (p := ⟨w.heap.size, 2, none⟩) (by show w.heap.size < _; omega)).trans held1.2.2.1, (hq2.cell (p := ⟨w.heap.size, 3, none⟩) (by show w.heap.size < _; omega)).trans held1.2.2.2⟩ (fun held2 => ?_)
      clear hK K
      try simp only [Act.put, List.setIfInBounds_toArray, List.set_cons_zero, List.set_cons_succ]
      refine fb_gives (S' := (fun w' => (w'.cell? ⟨w.heap.size, 0, none⟩ = some (.string t) ∧ w'.cell? ⟨w.heap.size, 1, none⟩ = some (.slice sa s.length sc) ∧ w'.cell? ⟨w.heap.size, 2, none⟩ = some (.int .i64 2) ∧ w'.cell? ⟨w.heap.size, 3, none⟩ = some (.int .i64 n)) ∧ w'.cell? ⟨u1.heap.size, 1, none⟩ = some (.string ⟨#[112, 114, 105, 109, 105, 116, 105, 118, 101]⟩))) (fun _ h => h.1) ?_
      have heldB : (fun w' => (w'.cell? ⟨w.heap.size, 0, none⟩ = some (.string t) ∧ w'.cell? ⟨w.heap.size, 1, none⟩ = some (.slice sa s.length sc) ∧ w'.cell? ⟨w.heap.size, 2, none⟩ = some (.int .i64 2) ∧ w'.cell? ⟨w.heap.size, 3, none⟩ = some (.int .i64 n)) ∧ w'.cell? ⟨u1.heap.size, 1, none⟩ = some (.string ⟨#[112, 114, 105, 109, 105, 116, 105, 118, 101]⟩)) u2 := ⟨held2, hsl2⟩
      refine fb_take (i := 11) (oi := _) (d := 17) (v := ?vv43) rfl rfl (by kernel_rfl) (by kernel_rfl) (by kernel_rfl) (fun _ _ _ h => h) (Or.inl ⟨by rfl, ?hy43⟩) heldB ?_
      case hy43 => (intro w0 hSw; (try dsimp only at hSw); go_simp; first | done | with_reducible rfl | (split; (case isTrue hlt => (exfalso; (try simp only [ByteArray.size_append] at hlt); omega)); (case isFalse hlt => with_reducible rfl)))
      try simp only [Act.put, List.setIfInBounds_toArray, List.set_cons_zero, List.set_cons_succ]
      refine fb_take (i := 12) (oi := _) (d := 18) (v := ?vv44) rfl rfl (by kernel_rfl) (by kernel_rfl) (by kernel_rfl) (fun _ _ _ h => h) (Or.inl ⟨by rfl, ?hy44⟩) heldB ?_
      case hy44 => (intro w0 hSw; (try dsimp only at hSw); go_simp; first | done | with_reducible rfl | (split; (case isTrue hlt => (exfalso; (try simp only [ByteArray.size_append] at hlt); omega)); (case isFalse hlt => with_reducible rfl)))
      try simp only [Act.put, List.setIfInBounds_toArray, List.set_cons_zero, List.set_cons_succ]
      refine fb_take (i := 13) (oi := _) (d := 19) (v := ?vv45) rfl rfl (by kernel_rfl) (by kernel_rfl) (by kernel_rfl) (fun _ _ _ h => h) (Or.inl ⟨by rfl, ?hy45⟩) heldB ?_
      case hy45 => (intro w0 hSw; (try dsimp only at hSw); go_simp; first | done | with_reducible rfl | (split; (case isTrue hlt => (exfalso; (try simp only [ByteArray.size_append] at hlt); omega)); (case isFalse hlt => with_reducible rfl)))
      try simp only [Act.put, List.setIfInBounds_toArray, List.set_cons_zero, List.set_cons_succ]
      refine fb_take (i := 14) (oi := _) (d := 20) (v := ?vv46) rfl rfl (by kernel_rfl) (by kernel_rfl) (by kernel_rfl) (fun _ _ _ h => h) (Or.inl ⟨by rfl, ?hy46⟩) heldB ?_
      case hy46 => (intro w0 hSw; (try dsimp only at hSw); go_simp; first | done | with_reducible rfl | (split; (case isTrue hlt => (exfalso; (try simp only [ByteArray.size_append] at hlt); omega)); (case isFalse hlt => with_reducible rfl)))
      try simp only [Act.put, List.setIfInBounds_toArray, List.set_cons_zero, List.set_cons_succ]
      refine wpAnyH_ready (rs := [17]) (by kernel_rfl) (by simp) ?_
      refine AllReadyH.cons rfl (fun K hK => ?_) ?_
      · go_simp
        (with_reducible refine (specFmtN_any n (by omega) (by omega) u2).mono ?_)
        rintro e u3 ⟨rfl, hq3⟩
        go_wp2_with fail
        have z3 := hq3.size
        have hc3 : Below v1.heap.size v1 u3 := hc2.trans (hq3.mono (by omega))
        refine hK.out _ _ ⟨⟨(hq3.cell (p := ⟨w.heap.size, 0, none⟩) (by show w.heap.size < _; omega)).trans heldB.1.1, (hq3.cell (p := ⟨w.heap.size, 1, none⟩) (by show w.heap.size < _; omega)).trans heldB.1.2.1, (hq3.cell (p := ⟨w.heap.size, 2, none⟩) (by show w.heap.size < _; omega)).trans heldB.1.2.2.1, (hq3.cell (p := ⟨w.heap.size, 3, none⟩) (by show w.heap.size < _; omega)).trans heldB.1.2.2.2⟩, (hq3.cell (p := ⟨u1.heap.size, 1, none⟩) (by show u1.heap.size < _; omega)).trans heldB.2⟩ (fun held3 => ?_)
        clear hK K
        try simp only [Act.put, List.setIfInBounds_toArray, List.set_cons_zero, List.set_cons_succ]
        refine fb_take (i := 18) (oi := _) (d := 24) (v := ?vv47) rfl rfl (by kernel_rfl) (by kernel_rfl) (by kernel_rfl) (fun _ _ _ h => h) (Or.inl ⟨by rfl, ?hy47⟩) held3 ?_
        case hy47 => (intro w0 hSw; (try dsimp only at hSw); go_simp; first | done | with_reducible rfl | (split; (case isTrue hlt => (exfalso; (try simp only [ByteArray.size_append] at hlt); omega)); (case isFalse hlt => with_reducible rfl)))
        try simp only [Act.put, List.setIfInBounds_toArray, List.set_cons_zero, List.set_cons_succ]
        refine fb_take (i := 19) (oi := _) (d := 2) (v := ?vv48) rfl rfl (by kernel_rfl) (by kernel_rfl) (by kernel_rfl) (fun _ _ _ h => h) (Or.inl ⟨by rfl, ?hy48⟩) held3 ?_
        case hy48 => (intro w0 hSw; (try dsimp only at hSw); go_simp; first | done | with_reducible rfl | (split; (case isTrue hlt => (exfalso; (try simp only [ByteArray.size_append] at hlt); omega)); (case isFalse hlt => with_reducible rfl)))
        try simp only [Act.put, List.setIfInBounds_toArray, List.set_cons_zero, List.set_cons_succ]
        refine wpAnyH_done (by kernel_rfl) ?_ _
        go_wp2_with fail
        go_ret
        exact ⟨by rw [← HE.out]; rfl, b1.trans (hc3.mono (by omega))⟩
      exact AllReadyH.nil
    refine AllReadyH.cons rfl (fun K hK => ?_) ?_
    · go_simp
      (with_reducible refine (specFmtN_any n (by omega) (by omega) u1).mono ?_)
      rintro e u2 ⟨rfl, hq2⟩
      go_wp2_with fail
      have z2 := hq2.size
      have hc2 : Below v1.heap.size v1 u2 := hc1.trans (hq2.mono (by omega))
      refine hK.out _ _ ⟨(hq2.cell (p := ⟨w.heap.size, 0, none⟩) (by show w.heap.size < _; omega)).trans held1.1, (hq2.cell (p := ⟨w.heap.size, 1, none⟩) (by show w.heap.size < _; omega)).trans held1.2.1, (hq2.cell (p := ⟨w.heap.size, 2, none⟩) (by show w.heap.size < _; omega)).trans held1.2.2.1, (hq2.cell (p := ⟨w.heap.size, 3, none⟩) (by show w.heap.size < _; omega)).trans held1.2.2.2⟩ (fun held2 => ?_)
      clear hK K
      try simp only [Act.put, List.setIfInBounds_toArray, List.set_cons_zero, List.set_cons_succ]
      refine wpAnyH_ready (rs := [7]) (by kernel_rfl) (by simp) ?_
      refine AllReadyH.cons rfl (fun K hK => ?_) ?_
      · go_simp
        refine fb_named ?_
        intro u3 hu3
        have hq3 : Below u2.heap.size u2 u3 := by rw [hu3]; exact (Below.refl _ _).alloc (Nat.le_refl _) _
        have hsl3 : u3.cell? ⟨u2.heap.size, 1, none⟩ = some (.string ⟨#[112, 114, 105, 109, 105, 116, 105, 118, 101]⟩) := by rw [hu3]; simp [World.cell?_alloc_new]
        have lz3 : u2.heap.size < u3.heap.size := by rw [hu3]; simp
        clear hu3
        have z3 := hq3.size
        have hc3 : Below v1.heap.size v1 u3 := hc2.trans (hq3.mono (by omega))
        refine hK.out _ _ ⟨(hq3.cell (p := ⟨w.heap.size, 0, none⟩) (by show w.heap.size < _; omega)).trans held2.1, (hq3.cell (p := ⟨w.heap.size, 1, none⟩) (by show w.heap.size < _; omega)).trans held2.2.1, (hq3.cell (p := ⟨w.heap.size, 2, none⟩) (by show w.heap.size < _; omega)).trans held2.2.2.1, (hq3.cell (p := ⟨w.heap.size, 3, none⟩) (by show w.heap.size < _; omega)).trans held2.2.2.2⟩ (fun held3 => ?_)
        clear hK K
        try simp only [Act.put, List.setIfInBounds_toArray, List.set_cons_zero, List.set_cons_succ]
        refine fb_gives (S' := (fun w' => (w'.cell? ⟨w.heap.size, 0, none⟩ = some (.string t) ∧ w'.cell? ⟨w.heap.size, 1, none⟩ = some (.slice sa s.length sc) ∧ w'.cell? ⟨w.heap.size, 2, none⟩ = some (.int .i64 2) ∧ w'.cell? ⟨w.heap.size, 3, none⟩ = some (.int .i64 n)) ∧ w'.cell? ⟨u2.heap.size, 1, none⟩ = some (.string ⟨#[112, 114, 105, 109, 105, 116, 105, 118, 101]⟩))) (fun _ h => h.1) ?_
        have heldB : (fun w' => (w'.cell? ⟨w.heap.size, 0, none⟩ = some (.string t) ∧ w'.cell? ⟨w.heap.size, 1, none⟩ = some (.slice sa s.length sc) ∧ w'.cell? ⟨w.heap.size, 2, none⟩ = some (.int .i64 2) ∧ w'.cell? ⟨w.heap.size, 3, none⟩ = some (.int .i64 n)) ∧ w'.cell? ⟨u2.heap.size, 1, none⟩ = some (.string ⟨#[112, 114, 105, 109, 105, 116, 105, 118, 101]⟩)) u3 := ⟨held3, hsl3⟩
        refine fb_take (i := 11) (oi := _) (d := 17) (v := ?vv49) rfl rfl (by kernel_rfl) (by kernel_rfl) (by kernel_rfl) (fun _ _ _ h => h) (Or.inl ⟨by rfl, ?hy49⟩) heldB ?_
        case hy49 => (intro w0 hSw; (try dsimp only at hSw); go_simp; first | done | with_reducible rfl | (split; (case isTrue hlt => (exfalso; (try simp only [ByteArray.size_append] at hlt); omega)); (case isFalse hlt => with_reducible rfl)))
        try simp only [Act.put, List.setIfInBounds_toArray, List.set_cons_zero, List.set_cons_succ]
        refine fb_take (i := 12) (oi := _) (d := 18) (v := ?vv50) rfl rfl (by kernel_rfl) (by kernel_rfl) (by kernel_rfl) (fun _ _ _ h => h) (Or.inl ⟨by rfl, ?hy50⟩) heldB ?_
        case hy50 => (intro w0 hSw; (try dsimp only at hSw); go_simp; first | done | with_reducible rfl | (split; (case isTrue hlt => (exfalso; (try simp only [ByteArray.size_append] at hlt); omega)); (case isFalse hlt => with_reducible rfl)))
        try simp only [Act.put, List.setIfInBounds_toArray, List.set_cons_zero, List.set_cons_succ]
        refine fb_take (i := 13) (oi := _) (d := 19) (v := ?vv51) rfl rfl (by kernel_rfl) (by kernel_rfl) (by kernel_rfl) (fun _ _ _ h => h) (Or.inl ⟨by rfl, ?hy51⟩) heldB ?_
        case hy51 => (intro w0 hSw; (try dsimp only at hSw); go_simp; first | done | with_reducible rfl | (split; (case isTrue hlt => (exfalso; (try simp only [ByteArray.size_append] at hlt); omega)); (case isFalse hlt => with_reducible rfl)))
        try simp only [Act.put, List.setIfInBounds_toArray, List.set_cons_zero, List.set_cons_succ]
        refine fb_take (i := 14) (oi := _) (d := 20) (v := ?vv52) rfl rfl (by kernel_rfl) (by kernel_rfl) (by kernel_rfl) (fun _ _ _ h => h) (Or.inl ⟨by rfl, ?hy52⟩) heldB ?_
        case hy52 => (intro w0 hSw; (try dsimp only at hSw); go_simp; first | done | with_reducible rfl | (split; (case isTrue hlt => (exfalso; (try simp only [ByteArray.size_append] at hlt); omega)); (case isFalse hlt => with_reducible rfl)))
        try simp only [Act.put, List.setIfInBounds_toArray, List.set_cons_zero, List.set_cons_succ]
        refine fb_take (i := 18) (oi := _) (d := 24) (v := ?vv53) rfl rfl (by kernel_rfl) (by kernel_rfl) (by kernel_rfl) (fun _ _ _ h => h) (Or.inl ⟨by rfl, ?hy53⟩) heldB ?_
        case hy53 => (intro w0 hSw; (try dsimp only at hSw); go_simp; first | done | with_reducible rfl | (split; (case isTrue hlt => (exfalso; (try simp only [ByteArray.size_append] at hlt); omega)); (case isFalse hlt => with_reducible rfl)))
        try simp only [Act.put, List.setIfInBounds_toArray, List.set_cons_zero, List.set_cons_succ]
        refine fb_take (i := 19) (oi := _) (d := 2) (v := ?vv54) rfl rfl (by kernel_rfl) (by kernel_rfl) (by kernel_rfl) (fun _ _ _ h => h) (Or.inl ⟨by rfl, ?hy54⟩) heldB ?_
        case hy54 => (intro w0 hSw; (try dsimp only at hSw); go_simp; first | done | with_reducible rfl | (split; (case isTrue hlt => (exfalso; (try simp only [ByteArray.size_append] at hlt); omega)); (case isFalse hlt => with_reducible rfl)))
        try simp only [Act.put, List.setIfInBounds_toArray, List.set_cons_zero, List.set_cons_succ]
        refine wpAnyH_done (by kernel_rfl) ?_ _
        go_wp2_with fail
        go_ret
        exact ⟨by rw [← HE.out]; rfl, b1.trans (hc3.mono (by omega))⟩
      exact AllReadyH.nil
    exact AllReadyH.nil
  refine AllReadyH.cons rfl (fun K hK => ?_) ?_
  · go_simp
    refine fb_named ?_
    intro u1 hu1
    have hq1 : Below u0.heap.size u0 u1 := by rw [hu1]; exact (Below.refl _ _).alloc (Nat.le_refl _) _
    have hsl1 : u1.cell? ⟨u0.heap.size, 1, none⟩ = some (.string ⟨#[112, 114, 105, 109, 105, 116, 105, 118, 101]⟩) := by rw [hu1]; simp [World.cell?_alloc_new]
    have lz1 : u0.heap.size < u1.heap.size := by rw [hu1]; simp
    clear hu1
    have z1 := hq1.size
    have hc1 : Below v1.heap.size v1 u1 := hc0.trans (hq1.mono (by omega))
    refine hK.out _ _ ⟨(hq1.cell (p := ⟨w.heap.size, 0, none⟩) (by show w.heap.size < _; omega)).trans held0.1, (hq1.cell (p := ⟨w.heap.size, 1, none⟩) (by show w.heap.size < _; omega)).trans held0.2.1, (hq1.cell (p := ⟨w.heap.size, 2, none⟩) (by show w.heap.size < _; omega)).trans held0.2.2.1, (hq1.cell (p := ⟨w.heap.size, 3, none⟩) (by show w.heap.size < _; omega)).trans held0.2.2.2⟩ (fun held1 => ?_)
    clear hK K
    try simp only [Act.put, List.setIfInBounds_toArray, List.set_cons_zero, List.set_cons_succ]
    refine fb_gives (S' := (fun w' => (w'.cell? ⟨w.heap.size, 0, none⟩ = some (.string t) ∧ w'.cell? ⟨w.heap.size, 1, none⟩ = some (.slice sa s.length sc) ∧ w'.cell? ⟨w.heap.size, 2, none⟩ = some (.int .i64 2) ∧ w'.cell? ⟨w.heap.size, 3, none⟩ = some (.int .i64 n)) ∧ w'.cell? ⟨u0.heap.size, 1, none⟩ = some (.string ⟨#[112, 114, 105, 109, 105, 116, 105, 118, 101]⟩))) (fun _ h => h.1) ?_
    have heldB : (fun w' => (w'.cell? ⟨w.heap.size, 0, none⟩ = some (.string t) ∧ w'.cell? ⟨w.heap.size, 1, none⟩ = some (.slice sa s.length sc) ∧ w'.cell? ⟨w.heap.size, 2, none⟩ = some (.int .i64 2) ∧ w'.cell? ⟨w.heap.size, 3, none⟩ = some (.int .i64 n)) ∧ w'.cell? ⟨u0.heap.size, 1, none⟩ = some (.string ⟨#[112, 114, 105, 109, 105, 116, 105, 118, 101]⟩)) u1 := ⟨held1, hsl1⟩
    refine fb_take (i := 11) (oi := _) (d := 17) (v := ?vv55) rfl rfl (by kernel_rfl) (by kernel_rfl) (by kernel_rfl) (fun _ _ _ h => h) (Or.inl ⟨by rfl, ?hy55⟩) heldB ?_
    case hy55 => (intro w0 hSw; (try dsimp only at hSw); go_simp; first | done | with_reducible rfl | (split; (case isTrue hlt => (exfalso; (try simp only [ByteArray.size_append] at hlt); omega)); (case isFalse hlt => with_reducible rfl)))
    try simp only [Act.put, List.setIfInBounds_toArray, List.set_cons_zero, List.set_cons_succ]
    refine fb_take (i := 12) (oi := _) (d := 18) (v := ?vv56) rfl rfl (by kernel_rfl) (by kernel_rfl) (by kernel_rfl) (fun _ _ _ h => h) (Or.inl ⟨by rfl, ?hy56⟩) heldB ?_
    case hy56 => (intro w0 hSw; (try dsimp only at hSw); go_simp; first | done | with_reducible rfl | (split; (case isTrue hlt => (exfalso; (try simp only [ByteArray.size_append] at hlt); omega)); (case isFalse hlt => with_reducible rfl)))
    try simp only [Act.put, List.setIfInBounds_toArray, List.set_cons_zero, List.set_cons_succ]
    refine wpAnyH_ready (rs := [4]) (by kernel_rfl) (by simp) ?_
    refine AllReadyH.cons rfl (fun K hK => ?_) ?_
    · go_simp
      (with_reducible refine (specSc_any sa sc s B u1 (hiv.below (hc1.mono (by omega))) (by omega) hr hs).mono ?_)
      rintro e u2 ⟨rfl, hq2⟩
      go_wp2_with fail
      have z2 := hq2.size
      have hc2 : Below v1.heap.size v1 u2 := hc1.trans (hq2.mono (by omega))
      refine hK.out _ _ ⟨⟨(hq2.cell (p := ⟨w.heap.size, 0, none⟩) (by show w.heap.size < _; omega)).trans heldB.1.1, (hq2.cell (p := ⟨w.heap.size, 1, none⟩) (by show w.heap.size < _; omega)).trans heldB.1.2.1, (hq2.cell (p := ⟨w.heap.size, 2, none⟩) (by show w.heap.size < _; omega)).trans heldB.1.2.2.1, (hq2.cell (p := ⟨w.heap.size, 3, none⟩) (by show w.heap.size < _; omega)).trans heldB.1.2.2.2⟩, (hq2.cell (p := ⟨u0.heap.size, 1, none⟩) (by show u0.heap.size < _; omega)).trans heldB.2⟩ (fun held2 => ?_)
      clear hK K
      try simp only [Act.put, List.setIfInBounds_toArray, List.set_cons_zero, List.set_cons_succ]
      refine fb_take (i := 5) (oi := _) (d := 11) (v := ?vv57) rfl rfl (by kernel_rfl) (by kernel_rfl) (by kernel_rfl) (fun _ _ _ h => h) (Or.inl ⟨by rfl, ?hy57⟩) held2 ?_
      case hy57 => (intro w0 hSw; (try dsimp only at hSw); go_simp; first | done | with_reducible rfl | (split; (case isTrue hlt => (exfalso; (try simp only [ByteArray.size_append] at hlt); omega)); (case isFalse hlt => with_reducible rfl)))
      try simp only [Act.put, List.setIfInBounds_toArray, List.set_cons_zero, List.set_cons_succ]
      refine fb_take (i := 6) (oi := _) (d := 12) (v := ?vv58) rfl rfl (by kernel_rfl) (by kernel_rfl) (by kernel_rfl) (fun _ _ _ h => h) (Or.inl ⟨by rfl, ?hy58⟩) held2 ?_
      case hy58 => (intro w0 hSw; (try dsimp only at hSw); go_simp; first | done | with_reducible rfl | (split; (case isTrue hlt => (exfalso; (try simp only [ByteArray.size_append] at hlt); omega)); (case isFalse hlt => with_reducible rfl)))
      try simp only [Act.put, List.setIfInBounds_toArray, List.set_cons_zero, List.set_cons_succ]
      refine fb_take (i := 13) (oi := _) (d := 19) (v := ?vv59) rfl rfl (by kernel_rfl) (by kernel_rfl) (by kernel_rfl) (fun _ _ _ h => h) (Or.inl ⟨by rfl, ?hy59⟩) held2 ?_
      case hy59 => (intro w0 hSw; (try dsimp only at hSw); go_simp; first | done | with_reducible rfl | (split; (case isTrue hlt => (exfalso; (try simp only [ByteArray.size_append] at hlt); omega)); (case isFalse hlt => with_reducible rfl)))
      try simp only [Act.put, List.setIfInBounds_toArray, List.set_cons_zero, List.set_cons_succ]
      refine fb_take (i := 14) (oi := _) (d := 20) (v := ?vv60) rfl rfl (by kernel_rfl) (by kernel_rfl) (by kernel_rfl) (fun _ _ _ h => h) (Or.inl ⟨by rfl, ?hy60⟩) held2 ?_
      case hy60 => (intro w0 hSw; (try dsimp only at hSw); go_simp; first | done | with_reducible rfl | (split; (case isTrue hlt => (exfalso; (try simp only [ByteArray.size_append] at hlt); omega)); (case isFalse hlt => with_reducible rfl)))
      try simp only [Act.put, List.setIfInBounds_toArray, List.set_cons_zero, List.set_cons_succ]
      refine wpAnyH_ready (rs := [17]) (by kernel_rfl) (by simp) ?_
      refine AllReadyH.cons rfl (fun K hK => ?_) ?_
      · go_simp
        (with_reducible refine (specFmtN_any n (by omega) (by omega) u2).mono ?_)
        rintro e u3 ⟨rfl, hq3⟩
        go_wp2_with fail
        have z3 := hq3.size
        have hc3 : Below v1.heap.size v1 u3 := hc2.trans (hq3.mono (by omega))
        refine hK.out _ _ ⟨⟨(hq3.cell (p := ⟨w.heap.size, 0, none⟩) (by show w.heap.size < _; omega)).trans held2.1.1, (hq3.cell (p := ⟨w.heap.size, 1, none⟩) (by show w.heap.size < _; omega)).trans held2.1.2.1, (hq3.cell (p := ⟨w.heap.size, 2, none⟩) (by show w.heap.size < _; omega)).trans held2.1.2.2.1, (hq3.cell (p := ⟨w.heap.size, 3, none⟩) (by show w.heap.size < _; omega)).trans held2.1.2.2.2⟩, (hq3.cell (p := ⟨u0.heap.size, 1, none⟩) (by show u0.heap.size < _; omega)).trans held2.2⟩ (fun held3 => ?_)
        clear hK K
        try simp only [Act.put, List.setIfInBounds_toArray, List.set_cons_zero, List.set_cons_succ]
        refine fb_take (i := 18) (oi := _) (d := 24) (v := ?vv61) rfl rfl (by kernel_rfl) (by kernel_rfl) (by kernel_rfl) (fun _ _ _ h => h) (Or.inl ⟨by rfl, ?hy61⟩) held3 ?_
        case hy61 => (intro w0 hSw; (try dsimp only at hSw); go_simp; first | done | with_reducible rfl | (split; (case isTrue hlt => (exfalso; (try simp only [ByteArray.size_append] at hlt); omega)); (case isFalse hlt => with_reducible rfl)))
        try simp only [Act.put, List.setIfInBounds_toArray, List.set_cons_zero, List.set_cons_succ]
        refine fb_take (i := 19) (oi := _) (d := 2) (v := ?vv62) rfl rfl (by kernel_rfl) (by kernel_rfl) (by kernel_rfl) (fun _ _ _ h => h) (Or.inl ⟨by rfl, ?hy62⟩) held3 ?_
        case hy62 => (intro w0 hSw; (try dsimp only at hSw); go_simp; first | done | with_reducible rfl | (split; (case isTrue hlt => (exfalso; (try simp only [ByteArray.size_append] at hlt); omega)); (case isFalse hlt => with_reducible rfl)))
        try simp only [Act.put, List.setIfInBounds_toArray, List.set_cons_zero, List.set_cons_succ]
        refine wpAnyH_done (by kernel_rfl) ?_ _
        go_wp2_with fail
        go_ret
        exact ⟨by rw [← HE.out]; rfl, b1.trans (hc3.mono (by omega))⟩
      exact AllReadyH.nil
    exact AllReadyH.nil
  exact AllReadyH.nil

set_option maxRecDepth 100000 in
set_option maxHeartbeats 4000000 in
theorem specFB3_any (t : ByteArray) (sa : Option Addr) (sc : Nat) (s : List Int) (n : Int) (B : Nat) (w : World) (hs : s.length ≤ 2000000) (hin : (⟨t, sa, sc, s, 3, n⟩ : Bd).In w B) (hB : B ≤ w.heap.size) :
    Calls Tryd.prog 23 #[.agg #[.string t, .slice sa s.length sc, .int .i64 3, .int .i64 n]] w fun e w' => e = .returned (.string (⟨t, sa, sc, s, 3, n⟩ : Bd).fmt) ∧ Below w.heap.size w w' := by
  have hcap := hin.2.cap
  have hts := hin.1
  simp only at hcap hts
  obtain ⟨W, hW⟩ : ∃ W, W = w.alloc (.cells #[.string t, .slice sa s.length sc, .int .i64 3, .int .i64 n] 54) := ⟨_, rfl⟩
  have zW : W.heap.size = w.heap.size + 1 := by rw [hW]; simp
  have bW : Below w.heap.size w W := by rw [hW]; exact (Below.refl _ _).alloc (Nat.le_refl _) _
  have X0 : Bd.Box W w.heap.size (⟨t, sa, sc, s, 3, n⟩ : Bd) := by rw [hW]; exact Bd.Box.new w (⟨t, sa, sc, s, 3, n⟩ : Bd) _
  have iW := hin.below (bW.mono hB)
  have hq : Calls Tryd.prog 43 #[.agg #[.string t, .slice sa s.length sc, .int .i64 3, .int .i64 n]] W fun e w' => e = .returned (.bool (⟨t, sa, sc, s, 3, n⟩ : Bd).isB) ∧ Below W.heap.size W w' := specIsB_any (⟨t, sa, sc, s, 3, n⟩ : Bd) B W iW (by omega)
  obtain ⟨a0, a1, a2, a3⟩ := X0
  simp only at a0 a1 a2 a3
  cases hv : (⟨t, sa, sc, s, 3, n⟩ : Bd).isB
  · have HE : Hid ((⟨t, sa, sc, s, 3, n⟩ : Bd).fmt = ⟨#[]⟩) := by show _ = _; unfold Bd.fmt; rw [hv]; rfl
    rw [hv] at hq
    clear hv
    go_enter Tryd.func23, Tryd.ntmps23
    go_wp2_with fail
    rw [← hW]
    (with_reducible refine hq.mono ?_)
    rintro e w1 ⟨rfl, hb1⟩
    go_wp2_with fail
    go_ret
    exact ⟨by rw [HE.out]; rfl, bW.trans (hb1.mono (by omega))⟩
  rw [hv] at hq
  obtain ⟨hts2, hr, hk, hn0, hn1⟩ := Bd.isB_out hv
  simp only at hts2 hr hn0 hn1
  have HE : Hid (t ++ baL (scT s) ++ (⟨#[32]⟩ : ByteArray) ++ (⟨#[118, 97, 114, 105, 97, 98, 108, 101]⟩ : ByteArray) ++ (⟨#[32]⟩ : ByteArray) ++ baL (Lib.itoa n) = (⟨t, sa, sc, s, 3, n⟩ : Bd).fmt) := by
    show _ = _
    unfold Bd.fmt Bd.txt
    rw [hv, if_pos rfl]
    refine baL_of ?_
    simp only [ba_app, baL_list]
    rfl
  have g1 : (baL (scT s)).size ≤ 50000000 := by rw [baL_size]; have := scT_len hr; omega
  have g3 : (baL (Lib.itoa n)).size ≤ 21 := by rw [baL_size]; exact Lib.itoa_length_le n (by omega) (by omega)
  clear hv hk
  go_enter Tryd.func23, Tryd.ntmps23
  go_wp2_with fail
  rw [← hW]
  (with_reducible refine hq.mono ?_)
  clear hq
  rintro e v1 ⟨rfl, hb1⟩
  have z1 := hb1.size
  have b1 := bW.trans (hb1.mono (by omega))
  have lw : w.heap.size < v1.heap.size := by omega
  have p0 := (hb1.cell (p := ⟨w.heap.size, 0, none⟩) (by show w.heap.size < _; omega)).trans a0
  have p1 := (hb1.cell (p := ⟨w.heap.size, 1, none⟩) (by show w.heap.size < _; omega)).trans a1
  have p2 := (hb1.cell (p := ⟨w.heap.size, 2, none⟩) (by show w.heap.size < _; omega)).trans a2
  have p3 := (hb1.cell (p := ⟨w.heap.size, 3, none⟩) (by show w.heap.size < _; omega)).trans a3
  have i1 := (iW.below (hb1.mono (by omega))).2
  simp only at i1
  clear a0 a1 a2 a3 hW
  have a0 := p0
  have a1 := p1
  have a2 := p2
  have a3 := p3
  go_wp2_with fail
  have l1 : (⟨#[32]⟩ : ByteArray).size = 1 := rfl
  have l2 : (⟨#[118, 97, 114, 105, 97, 98, 108, 101]⟩ : ByteArray).size = 8 := rfl
  have g4 : (Lib.itoa n).length ≤ 21 := Lib.itoa_length_le n (by omega) (by omega)
  have g2 : (scT s).length ≤ 50000000 := by rw [baL_size] at g1; exact g1
  have hwr : IntKind.i64.wrap 2 = 2 := by decide
  have hiv : IIn v1 B sa sc s := i1
  refine wp_region_held_drew (S := fun w' => w'.cell? ⟨w.heap.size, 0, none⟩ = some (.string t) ∧ w'.cell? ⟨w.heap.size, 1, none⟩ = some (.slice sa s.length sc) ∧ w'.cell? ⟨w.heap.size, 2, none⟩ = some (.int .i64 3) ∧ w'.cell? ⟨w.heap.size, 3, none⟩ = some (.int .i64 n)) (by kernel_rfl) (by exact ⟨a0, a1, a2, a3⟩) (fun held0 => ?_)
  obtain ⟨u0, hv0⟩ : ∃ c, c = v1.drew := ⟨_, rfl⟩
  have hc0 : Below v1.heap.size v1 u0 := by rw [hv0]; exact below_undrew (Below.refl _ _)
  have z0 := hc0.size
  rw [← hv0] at held0 ⊢
  clear hv0
  refine fb_take (i := 0) (oi := _) (d := 6) (v := ?vv63) rfl rfl (by kernel_rfl) (by kernel_rfl) (by kernel_rfl) (fun _ _ _ h => h) (Or.inl ⟨by rfl, ?hy63⟩) held0 ?_
  case hy63 => (intro w0 hSw; (try dsimp only at hSw); go_simp; first | done | with_reducible rfl | (split; (case isTrue hlt => (exfalso; (try simp only [ByteArray.size_append] at hlt); omega)); (case isFalse hlt => with_reducible rfl)))
  try simp only [Act.put, List.setIfInBounds_toArray, List.set_cons_zero, List.set_cons_succ]
  refine fb_take (i := 1) (oi := _) (d := 7) (v := ?vv64) rfl rfl (by kernel_rfl) (by kernel_rfl) (by kernel_rfl) (fun _ _ _ h => h) (Or.inl ⟨by rfl, ?hy64⟩) held0 ?_
  case hy64 => (intro w0 hSw; (try dsimp only at hSw); go_simp; first | done | with_reducible rfl | (split; (case isTrue hlt => (exfalso; (try simp only [ByteArray.size_append] at hlt); omega)); (case isFalse hlt => with_reducible rfl)))
  try simp only [Act.put, List.setIfInBounds_toArray, List.set_cons_zero, List.set_cons_succ]
  refine fb_take (i := 2) (oi := _) (d := 8) (v := ?vv65) rfl rfl (by kernel_rfl) (by kernel_rfl) (by kernel_rfl) (fun _ _ _ h => h) (Or.inl ⟨by rfl, ?hy65⟩) held0 ?_
  case hy65 => (intro w0 hSw; (try dsimp only at hSw); go_simp; first | done | with_reducible rfl | (split; (case isTrue hlt => (exfalso; (try simp only [ByteArray.size_append] at hlt); omega)); (case isFalse hlt => with_reducible rfl)))
  try simp only [Act.put, List.setIfInBounds_toArray, List.set_cons_zero, List.set_cons_succ]
  refine fb_take (i := 3) (oi := _) (d := 9) (v := ?vv66) rfl rfl (by kernel_rfl) (by kernel_rfl) (by kernel_rfl) (fun _ _ _ h => h) (Or.inl ⟨by rfl, ?hy66⟩) held0 ?_
  case hy66 => (intro w0 hSw; (try dsimp only at hSw); go_simp; first | done | with_reducible rfl | (split; (case isTrue hlt => (exfalso; (try simp only [ByteArray.size_append] at hlt); omega)); (case isFalse hlt => with_reducible rfl)))
  try simp only [Act.put, List.setIfInBounds_toArray, List.set_cons_zero, List.set_cons_succ]
  refine fb_take (i := 8) (oi := _) (d := 14) (v := ?vv67) rfl rfl (by kernel_rfl) (by kernel_rfl) (by kernel_rfl) (fun _ _ _ h => h) (Or.inl ⟨by rfl, ?hy67⟩) held0 ?_
  case hy67 => (intro w0 hSw; (try dsimp only at hSw); go_simp; first | done | with_reducible rfl | (split; (case isTrue hlt => (exfalso; (try simp only [ByteArray.size_append] at hlt); omega)); (case isFalse hlt => with_reducible rfl)))
  try simp only [Act.put, List.setIfInBounds_toArray, List.set_cons_zero, List.set_cons_succ]
  refine fb_take (i := 9) (oi := _) (d := 15) (v := ?vv68) rfl rfl (by kernel_rfl) (by kernel_rfl) (by kernel_rfl) (fun _ _ _ h => h) (Or.inl ⟨by rfl, ?hy68⟩) held0 ?_
  case hy68 => (intro w0 hSw; (try dsimp only at hSw); go_simp; first | done | with_reducible rfl | (split; (case isTrue hlt => (exfalso; (try simp only [ByteArray.size_append] at hlt); omega)); (case isFalse hlt => with_reducible rfl)))
  try simp only [Act.put, List.setIfInBounds_toArray, List.set_cons_zero, List.set_cons_succ]
  refine fb_take (i := 10) (oi := _) (d := 16) (v := ?vv69) rfl rfl (by kernel_rfl) (by kernel_rfl) (by kernel_rfl) (fun _ _ _ h => h) (Or.inl ⟨by rfl, ?hy69⟩) held0 ?_
  case hy69 => (intro w0 hSw; (try dsimp only at hSw); go_simp; first | done | with_reducible rfl | (split; (case isTrue hlt => (exfalso; (try simp only [ByteArray.size_append] at hlt); omega)); (case isFalse hlt => with_reducible rfl)))
  try simp only [Act.put, List.setIfInBounds_toArray, List.set_cons_zero, List.set_cons_succ]
  refine fb_take (i := 15) (oi := _) (d := 21) (v := ?vv70) rfl rfl (by kernel_rfl) (by kernel_rfl) (by kernel_rfl) (fun _ _ _ h => h) (Or.inl ⟨by rfl, ?hy70⟩) held0 ?_
  case hy70 => (intro w0 hSw; (try dsimp only at hSw); go_simp; first | done | with_reducible rfl | (split; (case isTrue hlt => (exfalso; (try simp only [ByteArray.size_append] at hlt); omega)); (case isFalse hlt => with_reducible rfl)))
  try simp only [Act.put, List.setIfInBounds_toArray, List.set_cons_zero, List.set_cons_succ]
  refine fb_take (i := 16) (oi := _) (d := 22) (v := ?vv71) rfl rfl (by kernel_rfl) (by kernel_rfl) (by kernel_rfl) (fun _ _ _ h => h) (Or.inl ⟨by rfl, ?hy71⟩) held0 ?_
  case hy71 => (intro w0 hSw; (try dsimp only at hSw); go_simp; first | done | with_reducible rfl | (split; (case isTrue hlt => (exfalso; (try simp only [ByteArray.size_append] at hlt); omega)); (case isFalse hlt => with_reducible rfl)))
  try simp only [Act.put, List.setIfInBounds_toArray, List.set_cons_zero, List.set_cons_succ]
  refine wpAnyH_ready (rs := [4, 7]) (by kernel_rfl) (by simp) ?_
  refine AllReadyH.cons rfl (fun K hK => ?_) ?_
  · go_simp
    (with_reducible refine (specSc_any sa sc s B u0 (hiv.below (hc0.mono (by omega))) (by omega) hr hs).mono ?_)
    rintro e u1 ⟨rfl, hq1⟩
    go_wp2_with fail
    have z1 := hq1.size
    have hc1 : Below v1.heap.size v1 u1 := hc0.trans (hq1.mono (by omega))
    refine hK.out _ _ ⟨(hq1.cell (p := ⟨w.heap.size, 0, none⟩) (by show w.heap.size < _; omega)).trans held0.1, (hq1.cell (p := ⟨w.heap.size, 1, none⟩) (by show w.heap.size < _; omega)).trans held0.2.1, (hq1.cell (p := ⟨w.heap.size, 2, none⟩) (by show w.heap.size < _; omega)).trans held0.2.2.1, (hq1.cell (p := ⟨w.heap.size, 3, none⟩) (by show w.heap.size < _; omega)).trans held0.2.2.2⟩ (fun held1 => ?_)
    clear hK K
    try simp only [Act.put, List.setIfInBounds_toArray, List.set_cons_zero, List.set_cons_succ]
    refine fb_take (i := 5) (oi := _) (d := 11) (v := ?vv72) rfl rfl (by kernel_rfl) (by kernel_rfl) (by kernel_rfl) (fun _ _ _ h => h) (Or.inl ⟨by rfl, ?hy72⟩) held1 ?_
    case hy72 => (intro w0 hSw; (try dsimp only at hSw); go_simp; first | done | with_reducible rfl | (split; (case isTrue hlt => (exfalso; (try simp only [ByteArray.size_append] at hlt); omega)); (case isFalse hlt => with_reducible rfl)))
    try simp only [Act.put, List.setIfInBounds_toArray, List.set_cons_zero, List.set_cons_succ]
    refine fb_take (i := 6) (oi := _) (d := 12) (v := ?vv73) rfl rfl (by kernel_rfl) (by kernel_rfl) (by kernel_rfl) (fun _ _ _ h => h) (Or.inl ⟨by rfl, ?hy73⟩) held1 ?_
    case hy73 => (intro w0 hSw; (try dsimp only at hSw); go_simp; first | done | with_reducible rfl | (split; (case isTrue hlt => (exfalso; (try simp only [ByteArray.size_append] at hlt); omega)); (case isFalse hlt => with_reducible rfl)))
    try simp only [Act.put, List.setIfInBounds_toArray, List.set_cons_zero, List.set_cons_succ]
    refine wpAnyH_ready (rs := [7, 17]) (by kernel_rfl) (by simp) ?_
    refine AllReadyH.cons rfl (fun K hK => ?_) ?_
    · go_simp
      refine fb_named ?_
      intro u2 hu2
      have hq2 : Below u1.heap.size u1 u2 := by rw [hu2]; exact (Below.refl _ _).alloc (Nat.le_refl _) _
      have hsl2 : u2.cell? ⟨u1.heap.size, 2, none⟩ = some (.string ⟨#[118, 97, 114, 105, 97, 98, 108, 101]⟩) := by rw [hu2]; simp [World.cell?_alloc_new]
      have lz2 : u1.heap.size < u2.heap.size := by rw [hu2]; simp
      clear hu2
      have z2 := hq2.size
      have hc2 : Below v1.heap.size v1 u2 := hc1.trans (hq2.mono (by omega))
      refine hK.out _ _ ⟨(hq2.cell (p := ⟨w.heap.size, 0, none⟩) (by show w.heap.size < _; omega)).trans held1.1, (hq2.cell (p := ⟨w.heap.size, 1, none⟩) (by show w.heap.size < _; omega)).trans held1.2.1, (hq2.cell (p := ⟨w.heap.size, 2, none⟩) (by show w.heap.size < _; omega)).trans held1.2.2.1, (hq2.cell (p := ⟨w.heap.size, 3, none⟩) (by show w.heap.size < _; omega)).trans held1.2.2.2⟩ (fun held2 => ?_)
      clear hK K
      try simp only [Act.put, List.setIfInBounds_toArray, List.set_cons_zero, List.set_cons_succ]
      refine fb_gives (S' := (fun w' => (w'.cell? ⟨w.heap.size, 0, none⟩ = some (.string t) ∧ w'.cell? ⟨w.heap.size, 1, none⟩ = some (.slice sa s.length sc) ∧ w'.cell? ⟨w.heap.size, 2, none⟩ = some (.int .i64 3) ∧ w'.cell? ⟨w.heap.size, 3, none⟩ = some (.int .i64 n)) ∧ w'.cell? ⟨u1.heap.size, 2, none⟩ = some (.string ⟨#[118, 97, 114, 105, 97, 98, 108, 101]⟩))) (fun _ h => h.1) ?_
      have heldB : (fun w' => (w'.cell? ⟨w.heap.size, 0, none⟩ = some (.string t) ∧ w'.cell? ⟨w.heap.size, 1, none⟩ = some (.slice sa s.length sc) ∧ w'.cell? ⟨w.heap.size, 2, none⟩ = some (.int .i64 3) ∧ w'.cell? ⟨w.heap.size, 3, none⟩ = some (.int .i64 n)) ∧ w'.cell? ⟨u1.heap.size, 2, none⟩ = some (.string ⟨#[118, 97, 114, 105, 97, 98, 108, 101]⟩)) u2 := ⟨held2, hsl2⟩
      refine fb_take (i := 11) (oi := _) (d := 17) (v := ?vv74) rfl rfl (by kernel_rfl) (by kernel_rfl) (by kernel_rfl) (fun _ _ _ h => h) (Or.inl ⟨by rfl, ?hy74⟩) heldB ?_
      case hy74 => (intro w0 hSw; (try dsimp only at hSw); go_simp; first | done | with_reducible rfl | (split; (case isTrue hlt => (exfalso; (try simp only [ByteArray.size_append] at hlt); omega)); (case isFalse hlt => with_reducible rfl)))
      try simp only [Act.put, List.setIfInBounds_toArray, List.set_cons_zero, List.set_cons_succ]
      refine fb_take (i := 12) (oi := _) (d := 18) (v := ?vv75) rfl rfl (by kernel_rfl) (by kernel_rfl) (by kernel_rfl) (fun _ _ _ h => h) (Or.inl ⟨by rfl, ?hy75⟩) heldB ?_
      case hy75 => (intro w0 hSw; (try dsimp only at hSw); go_simp; first | done | with_reducible rfl | (split; (case isTrue hlt => (exfalso; (try simp only [ByteArray.size_append] at hlt); omega)); (case isFalse hlt => with_reducible rfl)))
      try simp only [Act.put, List.setIfInBounds_toArray, List.set_cons_zero, List.set_cons_succ]
      refine fb_take (i := 13) (oi := _) (d := 19) (v := ?vv76) rfl rfl (by kernel_rfl) (by kernel_rfl) (by kernel_rfl) (fun _ _ _ h => h) (Or.inl ⟨by rfl, ?hy76⟩) heldB ?_
      case hy76 => (intro w0 hSw; (try dsimp only at hSw); go_simp; first | done | with_reducible rfl | (split; (case isTrue hlt => (exfalso; (try simp only [ByteArray.size_append] at hlt); omega)); (case isFalse hlt => with_reducible rfl)))
      try simp only [Act.put, List.setIfInBounds_toArray, List.set_cons_zero, List.set_cons_succ]
      refine fb_take (i := 14) (oi := _) (d := 20) (v := ?vv77) rfl rfl (by kernel_rfl) (by kernel_rfl) (by kernel_rfl) (fun _ _ _ h => h) (Or.inl ⟨by rfl, ?hy77⟩) heldB ?_
      case hy77 => (intro w0 hSw; (try dsimp only at hSw); go_simp; first | done | with_reducible rfl | (split; (case isTrue hlt => (exfalso; (try simp only [ByteArray.size_append] at hlt); omega)); (case isFalse hlt => with_reducible rfl)))
      try simp only [Act.put, List.setIfInBounds_toArray, List.set_cons_zero, List.set_cons_succ]
      refine wpAnyH_ready (rs := [17]) (by kernel_rfl) (by simp) ?_
      refine AllReadyH.cons rfl (fun K hK => ?_) ?_
      · go_simp
        (with_reducible refine (specFmtN_any n (by omega) (by omega) u2).mono ?_)
        rintro e u3 ⟨rfl, hq3⟩
        go_wp2_with fail
        have z3 := hq3.size
        have hc3 : Below v1.heap.size v1 u3 := hc2.trans (hq3.mono (by omega))
        refine hK.out _ _ ⟨⟨(hq3.cell (p := ⟨w.heap.size, 0, none⟩) (by show w.heap.size < _; omega)).trans heldB.1.1, (hq3.cell (p := ⟨w.heap.size, 1, none⟩) (by show w.heap.size < _; omega)).trans heldB.1.2.1, (hq3.cell (p := ⟨w.heap.size, 2, none⟩) (by show w.heap.size < _; omega)).trans heldB.1.2.2.1, (hq3.cell (p := ⟨w.heap.size, 3, none⟩) (by show w.heap.size < _; omega)).trans heldB.1.2.2.2⟩, (hq3.cell (p := ⟨u1.heap.size, 2, none⟩) (by show u1.heap.size < _; omega)).trans heldB.2⟩ (fun held3 => ?_)
        clear hK K
        try simp only [Act.put, List.setIfInBounds_toArray, List.set_cons_zero, List.set_cons_succ]
        refine fb_take (i := 18) (oi := _) (d := 24) (v := ?vv78) rfl rfl (by kernel_rfl) (by kernel_rfl) (by kernel_rfl) (fun _ _ _ h => h) (Or.inl ⟨by rfl, ?hy78⟩) held3 ?_
        case hy78 => (intro w0 hSw; (try dsimp only at hSw); go_simp; first | done | with_reducible rfl | (split; (case isTrue hlt => (exfalso; (try simp only [ByteArray.size_append] at hlt); omega)); (case isFalse hlt => with_reducible rfl)))
        try simp only [Act.put, List.setIfInBounds_toArray, List.set_cons_zero, List.set_cons_succ]
        refine fb_take (i := 19) (oi := _) (d := 2) (v := ?vv79) rfl rfl (by kernel_rfl) (by kernel_rfl) (by kernel_rfl) (fun _ _ _ h => h) (Or.inl ⟨by rfl, ?hy79⟩) held3 ?_
        case hy79 => (intro w0 hSw; (try dsimp only at hSw); go_simp; first | done | with_reducible rfl | (split; (case isTrue hlt => (exfalso; (try simp only [ByteArray.size_append] at hlt); omega)); (case isFalse hlt => with_reducible rfl)))
        try simp only [Act.put, List.setIfInBounds_toArray, List.set_cons_zero, List.set_cons_succ]
        refine wpAnyH_done (by kernel_rfl) ?_ _
        go_wp2_with fail
        go_ret
        exact ⟨by rw [← HE.out]; rfl, b1.trans (hc3.mono (by omega))⟩
      exact AllReadyH.nil
    refine AllReadyH.cons rfl (fun K hK => ?_) ?_
    · go_simp
      (with_reducible refine (specFmtN_any n (by omega) (by omega) u1).mono ?_)
      rintro e u2 ⟨rfl, hq2⟩
      go_wp2_with fail
      have z2 := hq2.size
      have hc2 : Below v1.heap.size v1 u2 := hc1.trans (hq2.mono (by omega))
      refine hK.out _ _ ⟨(hq2.cell (p := ⟨w.heap.size, 0, none⟩) (by show w.heap.size < _; omega)).trans held1.1, (hq2.cell (p := ⟨w.heap.size, 1, none⟩) (by show w.heap.size < _; omega)).trans held1.2.1, (hq2.cell (p := ⟨w.heap.size, 2, none⟩) (by show w.heap.size < _; omega)).trans held1.2.2.1, (hq2.cell (p := ⟨w.heap.size, 3, none⟩) (by show w.heap.size < _; omega)).trans held1.2.2.2⟩ (fun held2 => ?_)
      clear hK K
      try simp only [Act.put, List.setIfInBounds_toArray, List.set_cons_zero, List.set_cons_succ]
      refine wpAnyH_ready (rs := [7]) (by kernel_rfl) (by simp) ?_
      refine AllReadyH.cons rfl (fun K hK => ?_) ?_
      · go_simp
        refine fb_named ?_
        intro u3 hu3
        have hq3 : Below u2.heap.size u2 u3 := by rw [hu3]; exact (Below.refl _ _).alloc (Nat.le_refl _) _
        have hsl3 : u3.cell? ⟨u2.heap.size, 2, none⟩ = some (.string ⟨#[118, 97, 114, 105, 97, 98, 108, 101]⟩) := by rw [hu3]; simp [World.cell?_alloc_new]
        have lz3 : u2.heap.size < u3.heap.size := by rw [hu3]; simp
        clear hu3
        have z3 := hq3.size
        have hc3 : Below v1.heap.size v1 u3 := hc2.trans (hq3.mono (by omega))
        refine hK.out _ _ ⟨(hq3.cell (p := ⟨w.heap.size, 0, none⟩) (by show w.heap.size < _; omega)).trans held2.1, (hq3.cell (p := ⟨w.heap.size, 1, none⟩) (by show w.heap.size < _; omega)).trans held2.2.1, (hq3.cell (p := ⟨w.heap.size, 2, none⟩) (by show w.heap.size < _; omega)).trans held2.2.2.1, (hq3.cell (p := ⟨w.heap.size, 3, none⟩) (by show w.heap.size < _; omega)).trans held2.2.2.2⟩ (fun held3 => ?_)
        clear hK K
        try simp only [Act.put, List.setIfInBounds_toArray, List.set_cons_zero, List.set_cons_succ]
        refine fb_gives (S' := (fun w' => (w'.cell? ⟨w.heap.size, 0, none⟩ = some (.string t) ∧ w'.cell? ⟨w.heap.size, 1, none⟩ = some (.slice sa s.length sc) ∧ w'.cell? ⟨w.heap.size, 2, none⟩ = some (.int .i64 3) ∧ w'.cell? ⟨w.heap.size, 3, none⟩ = some (.int .i64 n)) ∧ w'.cell? ⟨u2.heap.size, 2, none⟩ = some (.string ⟨#[118, 97, 114, 105, 97, 98, 108, 101]⟩))) (fun _ h => h.1) ?_
        have heldB : (fun w' => (w'.cell? ⟨w.heap.size, 0, none⟩ = some (.string t) ∧ w'.cell? ⟨w.heap.size, 1, none⟩ = some (.slice sa s.length sc) ∧ w'.cell? ⟨w.heap.size, 2, none⟩ = some (.int .i64 3) ∧ w'.cell? ⟨w.heap.size, 3, none⟩ = some (.int .i64 n)) ∧ w'.cell? ⟨u2.heap.size, 2, none⟩ = some (.string ⟨#[118, 97, 114, 105, 97, 98, 108, 101]⟩)) u3 := ⟨held3, hsl3⟩
        refine fb_take (i := 11) (oi := _) (d := 17) (v := ?vv80) rfl rfl (by kernel_rfl) (by kernel_rfl) (by kernel_rfl) (fun _ _ _ h => h) (Or.inl ⟨by rfl, ?hy80⟩) heldB ?_
        case hy80 => (intro w0 hSw; (try dsimp only at hSw); go_simp; first | done | with_reducible rfl | (split; (case isTrue hlt => (exfalso; (try simp only [ByteArray.size_append] at hlt); omega)); (case isFalse hlt => with_reducible rfl)))
        try simp only [Act.put, List.setIfInBounds_toArray, List.set_cons_zero, List.set_cons_succ]
        refine fb_take (i := 12) (oi := _) (d := 18) (v := ?vv81) rfl rfl (by kernel_rfl) (by kernel_rfl) (by kernel_rfl) (fun _ _ _ h => h) (Or.inl ⟨by rfl, ?hy81⟩) heldB ?_
        case hy81 => (intro w0 hSw; (try dsimp only at hSw); go_simp; first | done | with_reducible rfl | (split; (case isTrue hlt => (exfalso; (try simp only [ByteArray.size_append] at hlt); omega)); (case isFalse hlt => with_reducible rfl)))
        try simp only [Act.put, List.setIfInBounds_toArray, List.set_cons_zero, List.set_cons_succ]
        refine fb_take (i := 13) (oi := _) (d := 19) (v := ?vv82) rfl rfl (by kernel_rfl) (by kernel_rfl) (by kernel_rfl) (fun _ _ _ h => h) (Or.inl ⟨by rfl, ?hy82⟩) heldB ?_
        case hy82 => (intro w0 hSw; (try dsimp only at hSw); go_simp; first | done | with_reducible rfl | (split; (case isTrue hlt => (exfalso; (try simp only [ByteArray.size_append] at hlt); omega)); (case isFalse hlt => with_reducible rfl)))
        try simp only [Act.put, List.setIfInBounds_toArray, List.set_cons_zero, List.set_cons_succ]
        refine fb_take (i := 14) (oi := _) (d := 20) (v := ?vv83) rfl rfl (by kernel_rfl) (by kernel_rfl) (by kernel_rfl) (fun _ _ _ h => h) (Or.inl ⟨by rfl, ?hy83⟩) heldB ?_
        case hy83 => (intro w0 hSw; (try dsimp only at hSw); go_simp; first | done | with_reducible rfl | (split; (case isTrue hlt => (exfalso; (try simp only [ByteArray.size_append] at hlt); omega)); (case isFalse hlt => with_reducible rfl)))
        try simp only [Act.put, List.setIfInBounds_toArray, List.set_cons_zero, List.set_cons_succ]
        refine fb_take (i := 18) (oi := _) (d := 24) (v := ?vv84) rfl rfl (by kernel_rfl) (by kernel_rfl) (by kernel_rfl) (fun _ _ _ h => h) (Or.inl ⟨by rfl, ?hy84⟩) heldB ?_
        case hy84 => (intro w0 hSw; (try dsimp only at hSw); go_simp; first | done | with_reducible rfl | (split; (case isTrue hlt => (exfalso; (try simp only [ByteArray.size_append] at hlt); omega)); (case isFalse hlt => with_reducible rfl)))
        try simp only [Act.put, List.setIfInBounds_toArray, List.set_cons_zero, List.set_cons_succ]
        refine fb_take (i := 19) (oi := _) (d := 2) (v := ?vv85) rfl rfl (by kernel_rfl) (by kernel_rfl) (by kernel_rfl) (fun _ _ _ h => h) (Or.inl ⟨by rfl, ?hy85⟩) heldB ?_
        case hy85 => (intro w0 hSw; (try dsimp only at hSw); go_simp; first | done | with_reducible rfl | (split; (case isTrue hlt => (exfalso; (try simp only [ByteArray.size_append] at hlt); omega)); (case isFalse hlt => with_reducible rfl)))
        try simp only [Act.put, List.setIfInBounds_toArray, List.set_cons_zero, List.set_cons_succ]
        refine wpAnyH_done (by kernel_rfl) ?_ _
        go_wp2_with fail
        go_ret
        exact ⟨by rw [← HE.out]; rfl, b1.trans (hc3.mono (by omega))⟩
      exact AllReadyH.nil
    exact AllReadyH.nil
  refine AllReadyH.cons rfl (fun K hK => ?_) ?_
  · go_simp
    refine fb_named ?_
    intro u1 hu1
    have hq1 : Below u0.heap.size u0 u1 := by rw [hu1]; exact (Below.refl _ _).alloc (Nat.le_refl _) _
    have hsl1 : u1.cell? ⟨u0.heap.size, 2, none⟩ = some (.string ⟨#[118, 97, 114, 105, 97, 98, 108, 101]⟩) := by rw [hu1]; simp [World.cell?_alloc_new]
    have lz1 : u0.heap.size < u1.heap.size := by rw [hu1]; simp
    clear hu1
    have z1 := hq1.size
    have hc1 : Below v1.heap.size v1 u1 := hc0.trans (hq1.mono (by omega))
    refine hK.out _ _ ⟨(hq1.cell (p := ⟨w.heap.size, 0, none⟩) (by show w.heap.size < _; omega)).trans held0.1, (hq1.cell (p := ⟨w.heap.size, 1, none⟩) (by show w.heap.size < _; omega)).trans held0.2.1, (hq1.cell (p := ⟨w.heap.size, 2, none⟩) (by show w.heap.size < _; omega)).trans held0.2.2.1, (hq1.cell (p := ⟨w.heap.size, 3, none⟩) (by show w.heap.size < _; omega)).trans held0.2.2.2⟩ (fun held1 => ?_)
    clear hK K
    try simp only [Act.put, List.setIfInBounds_toArray, List.set_cons_zero, List.set_cons_succ]
    refine fb_gives (S' := (fun w' => (w'.cell? ⟨w.heap.size, 0, none⟩ = some (.string t) ∧ w'.cell? ⟨w.heap.size, 1, none⟩ = some (.slice sa s.length sc) ∧ w'.cell? ⟨w.heap.size, 2, none⟩ = some (.int .i64 3) ∧ w'.cell? ⟨w.heap.size, 3, none⟩ = some (.int .i64 n)) ∧ w'.cell? ⟨u0.heap.size, 2, none⟩ = some (.string ⟨#[118, 97, 114, 105, 97, 98, 108, 101]⟩))) (fun _ h => h.1) ?_
    have heldB : (fun w' => (w'.cell? ⟨w.heap.size, 0, none⟩ = some (.string t) ∧ w'.cell? ⟨w.heap.size, 1, none⟩ = some (.slice sa s.length sc) ∧ w'.cell? ⟨w.heap.size, 2, none⟩ = some (.int .i64 3) ∧ w'.cell? ⟨w.heap.size, 3, none⟩ = some (.int .i64 n)) ∧ w'.cell? ⟨u0.heap.size, 2, none⟩ = some (.string ⟨#[118, 97, 114, 105, 97, 98, 108, 101]⟩)) u1 := ⟨held1, hsl1⟩
    refine fb_take (i := 11) (oi := _) (d := 17) (v := ?vv86) rfl rfl (by kernel_rfl) (by kernel_rfl) (by kernel_rfl) (fun _ _ _ h => h) (Or.inl ⟨by rfl, ?hy86⟩) heldB ?_
    case hy86 => (intro w0 hSw; (try dsimp only at hSw); go_simp; first | done | with_reducible rfl | (split; (case isTrue hlt => (exfalso; (try simp only [ByteArray.size_append] at hlt); omega)); (case isFalse hlt => with_reducible rfl)))
    try simp only [Act.put, List.setIfInBounds_toArray, List.set_cons_zero, List.set_cons_succ]
    refine fb_take (i := 12) (oi := _) (d := 18) (v := ?vv87) rfl rfl (by kernel_rfl) (by kernel_rfl) (by kernel_rfl) (fun _ _ _ h => h) (Or.inl ⟨by rfl, ?hy87⟩) heldB ?_
    case hy87 => (intro w0 hSw; (try dsimp only at hSw); go_simp; first | done | with_reducible rfl | (split; (case isTrue hlt => (exfalso; (try simp only [ByteArray.size_append] at hlt); omega)); (case isFalse hlt => with_reducible rfl)))
    try simp only [Act.put, List.setIfInBounds_toArray, List.set_cons_zero, List.set_cons_succ]
    refine wpAnyH_ready (rs := [4]) (by kernel_rfl) (by simp) ?_
    refine AllReadyH.cons rfl (fun K hK => ?_) ?_
    · go_simp
      (with_reducible refine (specSc_any sa sc s B u1 (hiv.below (hc1.mono (by omega))) (by omega) hr hs).mono ?_)
      rintro e u2 ⟨rfl, hq2⟩
      go_wp2_with fail
      have z2 := hq2.size
      have hc2 : Below v1.heap.size v1 u2 := hc1.trans (hq2.mono (by omega))
      refine hK.out _ _ ⟨⟨(hq2.cell (p := ⟨w.heap.size, 0, none⟩) (by show w.heap.size < _; omega)).trans heldB.1.1, (hq2.cell (p := ⟨w.heap.size, 1, none⟩) (by show w.heap.size < _; omega)).trans heldB.1.2.1, (hq2.cell (p := ⟨w.heap.size, 2, none⟩) (by show w.heap.size < _; omega)).trans heldB.1.2.2.1, (hq2.cell (p := ⟨w.heap.size, 3, none⟩) (by show w.heap.size < _; omega)).trans heldB.1.2.2.2⟩, (hq2.cell (p := ⟨u0.heap.size, 2, none⟩) (by show u0.heap.size < _; omega)).trans heldB.2⟩ (fun held2 => ?_)
      clear hK K
      try simp only [Act.put, List.setIfInBounds_toArray, List.set_cons_zero, List.set_cons_succ]
      refine fb_take (i := 5) (oi := _) (d := 11) (v := ?vv88) rfl rfl (by kernel_rfl) (by kernel_rfl) (by kernel_rfl) (fun _ _ _ h => h) (Or.inl ⟨by rfl, ?hy88⟩) held2 ?_
      case hy88 => (intro w0 hSw; (try dsimp only at hSw); go_simp; first | done | with_reducible rfl | (split; (case isTrue hlt => (exfalso; (try simp only [ByteArray.size_append] at hlt); omega)); (case isFalse hlt => with_reducible rfl)))
      try simp only [Act.put, List.setIfInBounds_toArray, List.set_cons_zero, List.set_cons_succ]
      refine fb_take (i := 6) (oi := _) (d := 12) (v := ?vv89) rfl rfl (by kernel_rfl) (by kernel_rfl) (by kernel_rfl) (fun _ _ _ h => h) (Or.inl ⟨by rfl, ?hy89⟩) held2 ?_
      case hy89 => (intro w0 hSw; (try dsimp only at hSw); go_simp; first | done | with_reducible rfl | (split; (case isTrue hlt => (exfalso; (try simp only [ByteArray.size_append] at hlt); omega)); (case isFalse hlt => with_reducible rfl)))
      try simp only [Act.put, List.setIfInBounds_toArray, List.set_cons_zero, List.set_cons_succ]
      refine fb_take (i := 13) (oi := _) (d := 19) (v := ?vv90) rfl rfl (by kernel_rfl) (by kernel_rfl) (by kernel_rfl) (fun _ _ _ h => h) (Or.inl ⟨by rfl, ?hy90⟩) held2 ?_
      case hy90 => (intro w0 hSw; (try dsimp only at hSw); go_simp; first | done | with_reducible rfl | (split; (case isTrue hlt => (exfalso; (try simp only [ByteArray.size_append] at hlt); omega)); (case isFalse hlt => with_reducible rfl)))
      try simp only [Act.put, List.setIfInBounds_toArray, List.set_cons_zero, List.set_cons_succ]
      refine fb_take (i := 14) (oi := _) (d := 20) (v := ?vv91) rfl rfl (by kernel_rfl) (by kernel_rfl) (by kernel_rfl) (fun _ _ _ h => h) (Or.inl ⟨by rfl, ?hy91⟩) held2 ?_
      case hy91 => (intro w0 hSw; (try dsimp only at hSw); go_simp; first | done | with_reducible rfl | (split; (case isTrue hlt => (exfalso; (try simp only [ByteArray.size_append] at hlt); omega)); (case isFalse hlt => with_reducible rfl)))
      try simp only [Act.put, List.setIfInBounds_toArray, List.set_cons_zero, List.set_cons_succ]
      refine wpAnyH_ready (rs := [17]) (by kernel_rfl) (by simp) ?_
      refine AllReadyH.cons rfl (fun K hK => ?_) ?_
      · go_simp
        (with_reducible refine (specFmtN_any n (by omega) (by omega) u2).mono ?_)
        rintro e u3 ⟨rfl, hq3⟩
        go_wp2_with fail
        have z3 := hq3.size
        have hc3 : Below v1.heap.size v1 u3 := hc2.trans (hq3.mono (by omega))
        refine hK.out _ _ ⟨⟨(hq3.cell (p := ⟨w.heap.size, 0, none⟩) (by show w.heap.size < _; omega)).trans held2.1.1, (hq3.cell (p := ⟨w.heap.size, 1, none⟩) (by show w.heap.size < _; omega)).trans held2.1.2.1, (hq3.cell (p := ⟨w.heap.size, 2, none⟩) (by show w.heap.size < _; omega)).trans held2.1.2.2.1, (hq3.cell (p := ⟨w.heap.size, 3, none⟩) (by show w.heap.size < _; omega)).trans held2.1.2.2.2⟩, (hq3.cell (p := ⟨u0.heap.size, 2, none⟩) (by show u0.heap.size < _; omega)).trans held2.2⟩ (fun held3 => ?_)
        clear hK K
        try simp only [Act.put, List.setIfInBounds_toArray, List.set_cons_zero, List.set_cons_succ]
        refine fb_take (i := 18) (oi := _) (d := 24) (v := ?vv92) rfl rfl (by kernel_rfl) (by kernel_rfl) (by kernel_rfl) (fun _ _ _ h => h) (Or.inl ⟨by rfl, ?hy92⟩) held3 ?_
        case hy92 => (intro w0 hSw; (try dsimp only at hSw); go_simp; first | done | with_reducible rfl | (split; (case isTrue hlt => (exfalso; (try simp only [ByteArray.size_append] at hlt); omega)); (case isFalse hlt => with_reducible rfl)))
        try simp only [Act.put, List.setIfInBounds_toArray, List.set_cons_zero, List.set_cons_succ]
        refine fb_take (i := 19) (oi := _) (d := 2) (v := ?vv93) rfl rfl (by kernel_rfl) (by kernel_rfl) (by kernel_rfl) (fun _ _ _ h => h) (Or.inl ⟨by rfl, ?hy93⟩) held3 ?_
        case hy93 => (intro w0 hSw; (try dsimp only at hSw); go_simp; first | done | with_reducible rfl | (split; (case isTrue hlt => (exfalso; (try simp only [ByteArray.size_append] at hlt); omega)); (case isFalse hlt => with_reducible rfl)))
        try simp only [Act.put, List.setIfInBounds_toArray, List.set_cons_zero, List.set_cons_succ]
        refine wpAnyH_done (by kernel_rfl) ?_ _
        go_wp2_with fail
        go_ret
        exact ⟨by rw [← HE.out]; rfl, b1.trans (hc3.mono (by omega))⟩
      exact AllReadyH.nil
    exact AllReadyH.nil
  exact AllReadyH.nil

set_option maxRecDepth 100000 in
set_option maxHeartbeats 4000000 in
theorem specFB4_any (t : ByteArray) (sa : Option Addr) (sc : Nat) (s : List Int) (n : Int) (B : Nat) (w : World) (hs : s.length ≤ 2000000) (hin : (⟨t, sa, sc, s, 4, n⟩ : Bd).In w B) (hB : B ≤ w.heap.size) :
    Calls Tryd.prog 23 #[.agg #[.string t, .slice sa s.length sc, .int .i64 4, .int .i64 n]] w fun e w' => e = .returned (.string (⟨t, sa, sc, s, 4, n⟩ : Bd).fmt) ∧ Below w.heap.size w w' := by
  have hcap := hin.2.cap
  have hts := hin.1
  simp only at hcap hts
  obtain ⟨W, hW⟩ : ∃ W, W = w.alloc (.cells #[.string t, .slice sa s.length sc, .int .i64 4, .int .i64 n] 54) := ⟨_, rfl⟩
  have zW : W.heap.size = w.heap.size + 1 := by rw [hW]; simp
  have bW : Below w.heap.size w W := by rw [hW]; exact (Below.refl _ _).alloc (Nat.le_refl _) _
  have X0 : Bd.Box W w.heap.size (⟨t, sa, sc, s, 4, n⟩ : Bd) := by rw [hW]; exact Bd.Box.new w (⟨t, sa, sc, s, 4, n⟩ : Bd) _
  have iW := hin.below (bW.mono hB)
  have hq : Calls Tryd.prog 43 #[.agg #[.string t, .slice sa s.length sc, .int .i64 4, .int .i64 n]] W fun e w' => e = .returned (.bool (⟨t, sa, sc, s, 4, n⟩ : Bd).isB) ∧ Below W.heap.size W w' := specIsB_any (⟨t, sa, sc, s, 4, n⟩ : Bd) B W iW (by omega)
  obtain ⟨a0, a1, a2, a3⟩ := X0
  simp only at a0 a1 a2 a3
  cases hv : (⟨t, sa, sc, s, 4, n⟩ : Bd).isB
  · have HE : Hid ((⟨t, sa, sc, s, 4, n⟩ : Bd).fmt = ⟨#[]⟩) := by show _ = _; unfold Bd.fmt; rw [hv]; rfl
    rw [hv] at hq
    clear hv
    go_enter Tryd.func23, Tryd.ntmps23
    go_wp2_with fail
    rw [← hW]
    (with_reducible refine hq.mono ?_)
    rintro e w1 ⟨rfl, hb1⟩
    go_wp2_with fail
    go_ret
    exact ⟨by rw [HE.out]; rfl, bW.trans (hb1.mono (by omega))⟩
  rw [hv] at hq
  obtain ⟨hts2, hr, hk, hn0, hn1⟩ := Bd.isB_out hv
  simp only at hts2 hr hn0 hn1
  have HE : Hid (t ++ baL (scT s) ++ (⟨#[32]⟩ : ByteArray) ++ (⟨#[109, 97, 99, 114, 111]⟩ : ByteArray) ++ (⟨#[32]⟩ : ByteArray) ++ baL (Lib.itoa n) = (⟨t, sa, sc, s, 4, n⟩ : Bd).fmt) := by
    show _ = _
    unfold Bd.fmt Bd.txt
    rw [hv, if_pos rfl]
    refine baL_of ?_
    simp only [ba_app, baL_list]
    rfl
  have g1 : (baL (scT s)).size ≤ 50000000 := by rw [baL_size]; have := scT_len hr; omega
  have g3 : (baL (Lib.itoa n)).size ≤ 21 := by rw [baL_size]; exact Lib.itoa_length_le n (by omega) (by omega)
  clear hv hk
  go_enter Tryd.func23, Tryd.ntmps23
  go_wp2_with fail
  rw [← hW]
  (with_reducible refine hq.mono ?_)
  clear hq
  rintro e v1 ⟨rfl, hb1⟩
  have z1 := hb1.size
  have b1 := bW.trans (hb1.mono (by omega))
  have lw : w.heap.size < v1.heap.size := by omega
  have p0 := (hb1.cell (p := ⟨w.heap.size, 0, none⟩) (by show w.heap.size < _; omega)).trans a0
  have p1 := (hb1.cell (p := ⟨w.heap.size, 1, none⟩) (by show w.heap.size < _; omega)).trans a1
  have p2 := (hb1.cell (p := ⟨w.heap.size, 2, none⟩) (by show w.heap.size < _; omega)).trans a2
  have p3 := (hb1.cell (p := ⟨w.heap.size, 3, none⟩) (by show w.heap.size < _; omega)).trans a3
  have i1 := (iW.below (hb1.mono (by omega))).2
  simp only at i1
  clear a0 a1 a2 a3 hW
  have a0 := p0
  have a1 := p1
  have a2 := p2
  have a3 := p3
  go_wp2_with fail
  have l1 : (⟨#[32]⟩ : ByteArray).size = 1 := rfl
  have l2 : (⟨#[109, 97, 99, 114, 111]⟩ : ByteArray).size = 5 := rfl
  have g4 : (Lib.itoa n).length ≤ 21 := Lib.itoa_length_le n (by omega) (by omega)
  have g2 : (scT s).length ≤ 50000000 := by rw [baL_size] at g1; exact g1
  have hwr : IntKind.i64.wrap 3 = 3 := by decide
  have hiv : IIn v1 B sa sc s := i1
  refine wp_region_held_drew (S := fun w' => w'.cell? ⟨w.heap.size, 0, none⟩ = some (.string t) ∧ w'.cell? ⟨w.heap.size, 1, none⟩ = some (.slice sa s.length sc) ∧ w'.cell? ⟨w.heap.size, 2, none⟩ = some (.int .i64 4) ∧ w'.cell? ⟨w.heap.size, 3, none⟩ = some (.int .i64 n)) (by kernel_rfl) (by exact ⟨a0, a1, a2, a3⟩) (fun held0 => ?_)
  obtain ⟨u0, hv0⟩ : ∃ c, c = v1.drew := ⟨_, rfl⟩
  have hc0 : Below v1.heap.size v1 u0 := by rw [hv0]; exact below_undrew (Below.refl _ _)
  have z0 := hc0.size
  rw [← hv0] at held0 ⊢
  clear hv0
  refine fb_take (i := 0) (oi := _) (d := 6) (v := ?vv94) rfl rfl (by kernel_rfl) (by kernel_rfl) (by kernel_rfl) (fun _ _ _ h => h) (Or.inl ⟨by rfl, ?hy94⟩) held0 ?_
  case hy94 => (intro w0 hSw; (try dsimp only at hSw); go_simp; first | done | with_reducible rfl | (split; (case isTrue hlt => (exfalso; (try simp only [ByteArray.size_append] at hlt); omega)); (case isFalse hlt => with_reducible rfl)))
  try simp only [Act.put, List.setIfInBounds_toArray, List.set_cons_zero, List.set_cons_succ]
  refine fb_take (i := 1) (oi := _) (d := 7) (v := ?vv95) rfl rfl (by kernel_rfl) (by kernel_rfl) (by kernel_rfl) (fun _ _ _ h => h) (Or.inl ⟨by rfl, ?hy95⟩) held0 ?_
  case hy95 => (intro w0 hSw; (try dsimp only at hSw); go_simp; first | done | with_reducible rfl | (split; (case isTrue hlt => (exfalso; (try simp only [ByteArray.size_append] at hlt); omega)); (case isFalse hlt => with_reducible rfl)))
  try simp only [Act.put, List.setIfInBounds_toArray, List.set_cons_zero, List.set_cons_succ]
  refine fb_take (i := 2) (oi := _) (d := 8) (v := ?vv96) rfl rfl (by kernel_rfl) (by kernel_rfl) (by kernel_rfl) (fun _ _ _ h => h) (Or.inl ⟨by rfl, ?hy96⟩) held0 ?_
  case hy96 => (intro w0 hSw; (try dsimp only at hSw); go_simp; first | done | with_reducible rfl | (split; (case isTrue hlt => (exfalso; (try simp only [ByteArray.size_append] at hlt); omega)); (case isFalse hlt => with_reducible rfl)))
  try simp only [Act.put, List.setIfInBounds_toArray, List.set_cons_zero, List.set_cons_succ]
  refine fb_take (i := 3) (oi := _) (d := 9) (v := ?vv97) rfl rfl (by kernel_rfl) (by kernel_rfl) (by kernel_rfl) (fun _ _ _ h => h) (Or.inl ⟨by rfl, ?hy97⟩) held0 ?_
  case hy97 => (intro w0 hSw; (try dsimp only at hSw); go_simp; first | done | with_reducible rfl | (split; (case isTrue hlt => (exfalso; (try simp only [ByteArray.size_append] at hlt); omega)); (case isFalse hlt => with_reducible rfl)))
  try simp only [Act.put, List.setIfInBounds_toArray, List.set_cons_zero, List.set_cons_succ]
  refine fb_take (i := 8) (oi := _) (d := 14) (v := ?vv98) rfl rfl (by kernel_rfl) (by kernel_rfl) (by kernel_rfl) (fun _ _ _ h => h) (Or.inl ⟨by rfl, ?hy98⟩) held0 ?_
  case hy98 => (intro w0 hSw; (try dsimp only at hSw); go_simp; first | done | with_reducible rfl | (split; (case isTrue hlt => (exfalso; (try simp only [ByteArray.size_append] at hlt); omega)); (case isFalse hlt => with_reducible rfl)))
  try simp only [Act.put, List.setIfInBounds_toArray, List.set_cons_zero, List.set_cons_succ]
  refine fb_take (i := 9) (oi := _) (d := 15) (v := ?vv99) rfl rfl (by kernel_rfl) (by kernel_rfl) (by kernel_rfl) (fun _ _ _ h => h) (Or.inl ⟨by rfl, ?hy99⟩) held0 ?_
  case hy99 => (intro w0 hSw; (try dsimp only at hSw); go_simp; first | done | with_reducible rfl | (split; (case isTrue hlt => (exfalso; (try simp only [ByteArray.size_append] at hlt); omega)); (case isFalse hlt => with_reducible rfl)))
  try simp only [Act.put, List.setIfInBounds_toArray, List.set_cons_zero, List.set_cons_succ]
  refine fb_take (i := 10) (oi := _) (d := 16) (v := ?vv100) rfl rfl (by kernel_rfl) (by kernel_rfl) (by kernel_rfl) (fun _ _ _ h => h) (Or.inl ⟨by rfl, ?hy100⟩) held0 ?_
  case hy100 => (intro w0 hSw; (try dsimp only at hSw); go_simp; first | done | with_reducible rfl | (split; (case isTrue hlt => (exfalso; (try simp only [ByteArray.size_append] at hlt); omega)); (case isFalse hlt => with_reducible rfl)))
  try simp only [Act.put, List.setIfInBounds_toArray, List.set_cons_zero, List.set_cons_succ]
  refine fb_take (i := 15) (oi := _) (d := 21) (v := ?vv101) rfl rfl (by kernel_rfl) (by kernel_rfl) (by kernel_rfl) (fun _ _ _ h => h) (Or.inl ⟨by rfl, ?hy101⟩) held0 ?_
  case hy101 => (intro w0 hSw; (try dsimp only at hSw); go_simp; first | done | with_reducible rfl | (split; (case isTrue hlt => (exfalso; (try simp only [ByteArray.size_append] at hlt); omega)); (case isFalse hlt => with_reducible rfl)))
  try simp only [Act.put, List.setIfInBounds_toArray, List.set_cons_zero, List.set_cons_succ]
  refine fb_take (i := 16) (oi := _) (d := 22) (v := ?vv102) rfl rfl (by kernel_rfl) (by kernel_rfl) (by kernel_rfl) (fun _ _ _ h => h) (Or.inl ⟨by rfl, ?hy102⟩) held0 ?_
  case hy102 => (intro w0 hSw; (try dsimp only at hSw); go_simp; first | done | with_reducible rfl | (split; (case isTrue hlt => (exfalso; (try simp only [ByteArray.size_append] at hlt); omega)); (case isFalse hlt => with_reducible rfl)))
  try simp only [Act.put, List.setIfInBounds_toArray, List.set_cons_zero, List.set_cons_succ]
  refine wpAnyH_ready (rs := [4, 7]) (by kernel_rfl) (by simp) ?_
  refine AllReadyH.cons rfl (fun K hK => ?_) ?_
  · go_simp
    (with_reducible refine (specSc_any sa sc s B u0 (hiv.below (hc0.mono (by omega))) (by omega) hr hs).mono ?_)
    rintro e u1 ⟨rfl, hq1⟩
    go_wp2_with fail
    have z1 := hq1.size
    have hc1 : Below v1.heap.size v1 u1 := hc0.trans (hq1.mono (by omega))
    refine hK.out _ _ ⟨(hq1.cell (p := ⟨w.heap.size, 0, none⟩) (by show w.heap.size < _; omega)).trans held0.1, (hq1.cell (p := ⟨w.heap.size, 1, none⟩) (by show w.heap.size < _; omega)).trans held0.2.1, (hq1.cell (p := ⟨w.heap.size, 2, none⟩) (by show w.heap.size < _; omega)).trans held0.2.2.1, (hq1.cell (p := ⟨w.heap.size, 3, none⟩) (by show w.heap.size < _; omega)).trans held0.2.2.2⟩ (fun held1 => ?_)
    clear hK K
    try simp only [Act.put, List.setIfInBounds_toArray, List.set_cons_zero, List.set_cons_succ]
    refine fb_take (i := 5) (oi := _) (d := 11) (v := ?vv103) rfl rfl (by kernel_rfl) (by kernel_rfl) (by kernel_rfl) (fun _ _ _ h => h) (Or.inl ⟨by rfl, ?hy103⟩) held1 ?_
    case hy103 => (intro w0 hSw; (try dsimp only at hSw); go_simp; first | done | with_reducible rfl | (split; (case isTrue hlt => (exfalso; (try simp only [ByteArray.size_append] at hlt); omega)); (case isFalse hlt => with_reducible rfl)))
    try simp only [Act.put, List.setIfInBounds_toArray, List.set_cons_zero, List.set_cons_succ]
    refine fb_take (i := 6) (oi := _) (d := 12) (v := ?vv104) rfl rfl (by kernel_rfl) (by kernel_rfl) (by kernel_rfl) (fun _ _ _ h => h) (Or.inl ⟨by rfl, ?hy104⟩) held1 ?_
    case hy104 => (intro w0 hSw; (try dsimp only at hSw); go_simp; first | done | with_reducible rfl | (split; (case isTrue hlt => (exfalso; (try simp only [ByteArray.size_append] at hlt); omega)); (case isFalse hlt => with_reducible rfl)))
    try simp only [Act.put, List.setIfInBounds_toArray, List.set_cons_zero, List.set_cons_succ]
    refine wpAnyH_ready (rs := [7, 17]) (by kernel_rfl) (by simp) ?_
    refine AllReadyH.cons rfl (fun K hK => ?_) ?_
    · go_simp
      refine fb_named ?_
      intro u2 hu2
      have hq2 : Below u1.heap.size u1 u2 := by rw [hu2]; exact (Below.refl _ _).alloc (Nat.le_refl _) _
      have hsl2 : u2.cell? ⟨u1.heap.size, 3, none⟩ = some (.string ⟨#[109, 97, 99, 114, 111]⟩) := by rw [hu2]; simp [World.cell?_alloc_new]
      have lz2 : u1.heap.size < u2.heap.size := by rw [hu2]; simp
      clear hu2
      have z2 := hq2.size
      have hc2 : Below v1.heap.size v1 u2 := hc1.trans (hq2.mono (by omega))
      refine hK.out _ _ ⟨(hq2.cell (p := ⟨w.heap.size, 0, none⟩) (by show w.heap.size < _; omega)).trans held1.1, (hq2.cell (p := ⟨w.heap.size, 1, none⟩) (by show w.heap.size < _; omega)).trans held1.2.1, (hq2.cell (p := ⟨w.heap.size, 2, none⟩) (by show w.heap.size < _; omega)).trans held1.2.2.1, (hq2.cell (p := ⟨w.heap.size, 3, none⟩) (by show w.heap.size < _; omega)).trans held1.2.2.2⟩ (fun held2 => ?_)
      clear hK K
      try simp only [Act.put, List.setIfInBounds_toArray, List.set_cons_zero, List.set_cons_succ]
      refine fb_gives (S' := (fun w' => (w'.cell? ⟨w.heap.size, 0, none⟩ = some (.string t) ∧ w'.cell? ⟨w.heap.size, 1, none⟩ = some (.slice sa s.length sc) ∧ w'.cell? ⟨w.heap.size, 2, none⟩ = some (.int .i64 4) ∧ w'.cell? ⟨w.heap.size, 3, none⟩ = some (.int .i64 n)) ∧ w'.cell? ⟨u1.heap.size, 3, none⟩ = some (.string ⟨#[109, 97, 99, 114, 111]⟩))) (fun _ h => h.1) ?_
      have heldB : (fun w' => (w'.cell? ⟨w.heap.size, 0, none⟩ = some (.string t) ∧ w'.cell? ⟨w.heap.size, 1, none⟩ = some (.slice sa s.length sc) ∧ w'.cell? ⟨w.heap.size, 2, none⟩ = some (.int .i64 4) ∧ w'.cell? ⟨w.heap.size, 3, none⟩ = some (.int .i64 n)) ∧ w'.cell? ⟨u1.heap.size, 3, none⟩ = some (.string ⟨#[109, 97, 99, 114, 111]⟩)) u2 := ⟨held2, hsl2⟩
      refine fb_take (i := 11) (oi := _) (d := 17) (v := ?vv105) rfl rfl (by kernel_rfl) (by kernel_rfl) (by kernel_rfl) (fun _ _ _ h => h) (Or.inl ⟨by rfl, ?hy105⟩) heldB ?_
      case hy105 => (intro w0 hSw; (try dsimp only at hSw); go_simp; first | done | with_reducible rfl | (split; (case isTrue hlt => (exfalso; (try simp only [ByteArray.size_append] at hlt); omega)); (case isFalse hlt => with_reducible rfl)))
      try simp only [Act.put, List.setIfInBounds_toArray, List.set_cons_zero, List.set_cons_succ]
      refine fb_take (i := 12) (oi := _) (d := 18) (v := ?vv106) rfl rfl (by kernel_rfl) (by kernel_rfl) (by kernel_rfl) (fun _ _ _ h => h) (Or.inl ⟨by rfl, ?hy106⟩) heldB ?_
      case hy106 => (intro w0 hSw; (try dsimp only at hSw); go_simp; first | done | with_reducible rfl | (split; (case isTrue hlt => (exfalso; (try simp only [ByteArray.size_append] at hlt); omega)); (case isFalse hlt => with_reducible rfl)))
      try simp only [Act.put, List.setIfInBounds_toArray, List.set_cons_zero, List.set_cons_succ]
      refine fb_take (i := 13) (oi := _) (d := 19) (v := ?vv107) rfl rfl (by kernel_rfl) (by kernel_rfl) (by kernel_rfl) (fun _ _ _ h => h) (Or.inl ⟨by rfl, ?hy107⟩) heldB ?_
      case hy107 => (intro w0 hSw; (try dsimp only at hSw); go_simp; first | done | with_reducible rfl | (split; (case isTrue hlt => (exfalso; (try simp only [ByteArray.size_append] at hlt); omega)); (case isFalse hlt => with_reducible rfl)))
      try simp only [Act.put, List.setIfInBounds_toArray, List.set_cons_zero, List.set_cons_succ]
      refine fb_take (i := 14) (oi := _) (d := 20) (v := ?vv108) rfl rfl (by kernel_rfl) (by kernel_rfl) (by kernel_rfl) (fun _ _ _ h => h) (Or.inl ⟨by rfl, ?hy108⟩) heldB ?_
      case hy108 => (intro w0 hSw; (try dsimp only at hSw); go_simp; first | done | with_reducible rfl | (split; (case isTrue hlt => (exfalso; (try simp only [ByteArray.size_append] at hlt); omega)); (case isFalse hlt => with_reducible rfl)))
      try simp only [Act.put, List.setIfInBounds_toArray, List.set_cons_zero, List.set_cons_succ]
      refine wpAnyH_ready (rs := [17]) (by kernel_rfl) (by simp) ?_
      refine AllReadyH.cons rfl (fun K hK => ?_) ?_
      · go_simp
        (with_reducible refine (specFmtN_any n (by omega) (by omega) u2).mono ?_)
        rintro e u3 ⟨rfl, hq3⟩
        go_wp2_with fail
        have z3 := hq3.size
        have hc3 : Below v1.heap.size v1 u3 := hc2.trans (hq3.mono (by omega))
        refine hK.out _ _ ⟨⟨(hq3.cell (p := ⟨w.heap.size, 0, none⟩) (by show w.heap.size < _; omega)).trans heldB.1.1, (hq3.cell (p := ⟨w.heap.size, 1, none⟩) (by show w.heap.size < _; omega)).trans heldB.1.2.1, (hq3.cell (p := ⟨w.heap.size, 2, none⟩) (by show w.heap.size < _; omega)).trans heldB.1.2.2.1, (hq3.cell (p := ⟨w.heap.size, 3, none⟩) (by show w.heap.size < _; omega)).trans heldB.1.2.2.2⟩, (hq3.cell (p := ⟨u1.heap.size, 3, none⟩) (by show u1.heap.size < _; omega)).trans heldB.2⟩ (fun held3 => ?_)
        clear hK K
        try simp only [Act.put, List.setIfInBounds_toArray, List.set_cons_zero, List.set_cons_succ]
        refine fb_take (i := 18) (oi := _) (d := 24) (v := ?vv109) rfl rfl (by kernel_rfl) (by kernel_rfl) (by kernel_rfl) (fun _ _ _ h => h) (Or.inl ⟨by rfl, ?hy109⟩) held3 ?_
        case hy109 => (intro w0 hSw; (try dsimp only at hSw); go_simp; first | done | with_reducible rfl | (split; (case isTrue hlt => (exfalso; (try simp only [ByteArray.size_append] at hlt); omega)); (case isFalse hlt => with_reducible rfl)))
        try simp only [Act.put, List.setIfInBounds_toArray, List.set_cons_zero, List.set_cons_succ]
        refine fb_take (i := 19) (oi := _) (d := 2) (v := ?vv110) rfl rfl (by kernel_rfl) (by kernel_rfl) (by kernel_rfl) (fun _ _ _ h => h) (Or.inl ⟨by rfl, ?hy110⟩) held3 ?_
        case hy110 => (intro w0 hSw; (try dsimp only at hSw); go_simp; first | done | with_reducible rfl | (split; (case isTrue hlt => (exfalso; (try simp only [ByteArray.size_append] at hlt); omega)); (case isFalse hlt => with_reducible rfl)))
        try simp only [Act.put, List.setIfInBounds_toArray, List.set_cons_zero, List.set_cons_succ]
        refine wpAnyH_done (by kernel_rfl) ?_ _
        go_wp2_with fail
        go_ret
        exact ⟨by rw [← HE.out]; rfl, b1.trans (hc3.mono (by omega))⟩
      exact AllReadyH.nil
    refine AllReadyH.cons rfl (fun K hK => ?_) ?_
    · go_simp
      (with_reducible refine (specFmtN_any n (by omega) (by omega) u1).mono ?_)
      rintro e u2 ⟨rfl, hq2⟩
      go_wp2_with fail
      have z2 := hq2.size
      have hc2 : Below v1.heap.size v1 u2 := hc1.trans (hq2.mono (by omega))
      refine hK.out _ _ ⟨(hq2.cell (p := ⟨w.heap.size, 0, none⟩) (by show w.heap.size < _; omega)).trans held1.1, (hq2.cell (p := ⟨w.heap.size, 1, none⟩) (by show w.heap.size < _; omega)).trans held1.2.1, (hq2.cell (p := ⟨w.heap.size, 2, none⟩) (by show w.heap.size < _; omega)).trans held1.2.2.1, (hq2.cell (p := ⟨w.heap.size, 3, none⟩) (by show w.heap.size < _; omega)).trans held1.2.2.2⟩ (fun held2 => ?_)
      clear hK K
      try simp only [Act.put, List.setIfInBounds_toArray, List.set_cons_zero, List.set_cons_succ]
      refine wpAnyH_ready (rs := [7]) (by kernel_rfl) (by simp) ?_
      refine AllReadyH.cons rfl (fun K hK => ?_) ?_
      · go_simp
        refine fb_named ?_
        intro u3 hu3
        have hq3 : Below u2.heap.size u2 u3 := by rw [hu3]; exact (Below.refl _ _).alloc (Nat.le_refl _) _
        have hsl3 : u3.cell? ⟨u2.heap.size, 3, none⟩ = some (.string ⟨#[109, 97, 99, 114, 111]⟩) := by rw [hu3]; simp [World.cell?_alloc_new]
        have lz3 : u2.heap.size < u3.heap.size := by rw [hu3]; simp
        clear hu3
        have z3 := hq3.size
        have hc3 : Below v1.heap.size v1 u3 := hc2.trans (hq3.mono (by omega))
        refine hK.out _ _ ⟨(hq3.cell (p := ⟨w.heap.size, 0, none⟩) (by show w.heap.size < _; omega)).trans held2.1, (hq3.cell (p := ⟨w.heap.size, 1, none⟩) (by show w.heap.size < _; omega)).trans held2.2.1, (hq3.cell (p := ⟨w.heap.size, 2, none⟩) (by show w.heap.size < _; omega)).trans held2.2.2.1, (hq3.cell (p := ⟨w.heap.size, 3, none⟩) (by show w.heap.size < _; omega)).trans held2.2.2.2⟩ (fun held3 => ?_)
        clear hK K
        try simp only [Act.put, List.setIfInBounds_toArray, List.set_cons_zero, List.set_cons_succ]
        refine fb_gives (S' := (fun w' => (w'.cell? ⟨w.heap.size, 0, none⟩ = some (.string t) ∧ w'.cell? ⟨w.heap.size, 1, none⟩ = some (.slice sa s.length sc) ∧ w'.cell? ⟨w.heap.size, 2, none⟩ = some (.int .i64 4) ∧ w'.cell? ⟨w.heap.size, 3, none⟩ = some (.int .i64 n)) ∧ w'.cell? ⟨u2.heap.size, 3, none⟩ = some (.string ⟨#[109, 97, 99, 114, 111]⟩))) (fun _ h => h.1) ?_
        have heldB : (fun w' => (w'.cell? ⟨w.heap.size, 0, none⟩ = some (.string t) ∧ w'.cell? ⟨w.heap.size, 1, none⟩ = some (.slice sa s.length sc) ∧ w'.cell? ⟨w.heap.size, 2, none⟩ = some (.int .i64 4) ∧ w'.cell? ⟨w.heap.size, 3, none⟩ = some (.int .i64 n)) ∧ w'.cell? ⟨u2.heap.size, 3, none⟩ = some (.string ⟨#[109, 97, 99, 114, 111]⟩)) u3 := ⟨held3, hsl3⟩
        refine fb_take (i := 11) (oi := _) (d := 17) (v := ?vv111) rfl rfl (by kernel_rfl) (by kernel_rfl) (by kernel_rfl) (fun _ _ _ h => h) (Or.inl ⟨by rfl, ?hy111⟩) heldB ?_
        case hy111 => (intro w0 hSw; (try dsimp only at hSw); go_simp; first | done | with_reducible rfl | (split; (case isTrue hlt => (exfalso; (try simp only [ByteArray.size_append] at hlt); omega)); (case isFalse hlt => with_reducible rfl)))
        try simp only [Act.put, List.setIfInBounds_toArray, List.set_cons_zero, List.set_cons_succ]
        refine fb_take (i := 12) (oi := _) (d := 18) (v := ?vv112) rfl rfl (by kernel_rfl) (by kernel_rfl) (by kernel_rfl) (fun _ _ _ h => h) (Or.inl ⟨by rfl, ?hy112⟩) heldB ?_
        case hy112 => (intro w0 hSw; (try dsimp only at hSw); go_simp; first | done | with_reducible rfl | (split; (case isTrue hlt => (exfalso; (try simp only [ByteArray.size_append] at hlt); omega)); (case isFalse hlt => with_reducible rfl)))
        try simp only [Act.put, List.setIfInBounds_toArray, List.set_cons_zero, List.set_cons_succ]
        refine fb_take (i := 13) (oi := _) (d := 19) (v := ?vv113) rfl rfl (by kernel_rfl) (by kernel_rfl) (by kernel_rfl) (fun _ _ _ h => h) (Or.inl ⟨by rfl, ?hy113⟩) heldB ?_
        case hy113 => (intro w0 hSw; (try dsimp only at hSw); go_simp; first | done | with_reducible rfl | (split; (case isTrue hlt => (exfalso; (try simp only [ByteArray.size_append] at hlt); omega)); (case isFalse hlt => with_reducible rfl)))
        try simp only [Act.put, List.setIfInBounds_toArray, List.set_cons_zero, List.set_cons_succ]
        refine fb_take (i := 14) (oi := _) (d := 20) (v := ?vv114) rfl rfl (by kernel_rfl) (by kernel_rfl) (by kernel_rfl) (fun _ _ _ h => h) (Or.inl ⟨by rfl, ?hy114⟩) heldB ?_
        case hy114 => (intro w0 hSw; (try dsimp only at hSw); go_simp; first | done | with_reducible rfl | (split; (case isTrue hlt => (exfalso; (try simp only [ByteArray.size_append] at hlt); omega)); (case isFalse hlt => with_reducible rfl)))
        try simp only [Act.put, List.setIfInBounds_toArray, List.set_cons_zero, List.set_cons_succ]
        refine fb_take (i := 18) (oi := _) (d := 24) (v := ?vv115) rfl rfl (by kernel_rfl) (by kernel_rfl) (by kernel_rfl) (fun _ _ _ h => h) (Or.inl ⟨by rfl, ?hy115⟩) heldB ?_
        case hy115 => (intro w0 hSw; (try dsimp only at hSw); go_simp; first | done | with_reducible rfl | (split; (case isTrue hlt => (exfalso; (try simp only [ByteArray.size_append] at hlt); omega)); (case isFalse hlt => with_reducible rfl)))
        try simp only [Act.put, List.setIfInBounds_toArray, List.set_cons_zero, List.set_cons_succ]
        refine fb_take (i := 19) (oi := _) (d := 2) (v := ?vv116) rfl rfl (by kernel_rfl) (by kernel_rfl) (by kernel_rfl) (fun _ _ _ h => h) (Or.inl ⟨by rfl, ?hy116⟩) heldB ?_
        case hy116 => (intro w0 hSw; (try dsimp only at hSw); go_simp; first | done | with_reducible rfl | (split; (case isTrue hlt => (exfalso; (try simp only [ByteArray.size_append] at hlt); omega)); (case isFalse hlt => with_reducible rfl)))
        try simp only [Act.put, List.setIfInBounds_toArray, List.set_cons_zero, List.set_cons_succ]
        refine wpAnyH_done (by kernel_rfl) ?_ _
        go_wp2_with fail
        go_ret
        exact ⟨by rw [← HE.out]; rfl, b1.trans (hc3.mono (by omega))⟩
      exact AllReadyH.nil
    exact AllReadyH.nil
  refine AllReadyH.cons rfl (fun K hK => ?_) ?_
  · go_simp
    refine fb_named ?_
    intro u1 hu1
    have hq1 : Below u0.heap.size u0 u1 := by rw [hu1]; exact (Below.refl _ _).alloc (Nat.le_refl _) _
    have hsl1 : u1.cell? ⟨u0.heap.size, 3, none⟩ = some (.string ⟨#[109, 97, 99, 114, 111]⟩) := by rw [hu1]; simp [World.cell?_alloc_new]
    have lz1 : u0.heap.size < u1.heap.size := by rw [hu1]; simp
    clear hu1
    have z1 := hq1.size
    have hc1 : Below v1.heap.size v1 u1 := hc0.trans (hq1.mono (by omega))
    refine hK.out _ _ ⟨(hq1.cell (p := ⟨w.heap.size, 0, none⟩) (by show w.heap.size < _; omega)).trans held0.1, (hq1.cell (p := ⟨w.heap.size, 1, none⟩) (by show w.heap.size < _; omega)).trans held0.2.1, (hq1.cell (p := ⟨w.heap.size, 2, none⟩) (by show w.heap.size < _; omega)).trans held0.2.2.1, (hq1.cell (p := ⟨w.heap.size, 3, none⟩) (by show w.heap.size < _; omega)).trans held0.2.2.2⟩ (fun held1 => ?_)
    clear hK K
    try simp only [Act.put, List.setIfInBounds_toArray, List.set_cons_zero, List.set_cons_succ]
    refine fb_gives (S' := (fun w' => (w'.cell? ⟨w.heap.size, 0, none⟩ = some (.string t) ∧ w'.cell? ⟨w.heap.size, 1, none⟩ = some (.slice sa s.length sc) ∧ w'.cell? ⟨w.heap.size, 2, none⟩ = some (.int .i64 4) ∧ w'.cell? ⟨w.heap.size, 3, none⟩ = some (.int .i64 n)) ∧ w'.cell? ⟨u0.heap.size, 3, none⟩ = some (.string ⟨#[109, 97, 99, 114, 111]⟩))) (fun _ h => h.1) ?_
    have heldB : (fun w' => (w'.cell? ⟨w.heap.size, 0, none⟩ = some (.string t) ∧ w'.cell? ⟨w.heap.size, 1, none⟩ = some (.slice sa s.length sc) ∧ w'.cell? ⟨w.heap.size, 2, none⟩ = some (.int .i64 4) ∧ w'.cell? ⟨w.heap.size, 3, none⟩ = some (.int .i64 n)) ∧ w'.cell? ⟨u0.heap.size, 3, none⟩ = some (.string ⟨#[109, 97, 99, 114, 111]⟩)) u1 := ⟨held1, hsl1⟩
    refine fb_take (i := 11) (oi := _) (d := 17) (v := ?vv117) rfl rfl (by kernel_rfl) (by kernel_rfl) (by kernel_rfl) (fun _ _ _ h => h) (Or.inl ⟨by rfl, ?hy117⟩) heldB ?_
    case hy117 => (intro w0 hSw; (try dsimp only at hSw); go_simp; first | done | with_reducible rfl | (split; (case isTrue hlt => (exfalso; (try simp only [ByteArray.size_append] at hlt); omega)); (case isFalse hlt => with_reducible rfl)))
    try simp only [Act.put, List.setIfInBounds_toArray, List.set_cons_zero, List.set_cons_succ]
    refine fb_take (i := 12) (oi := _) (d := 18) (v := ?vv118) rfl rfl (by kernel_rfl) (by kernel_rfl) (by kernel_rfl) (fun _ _ _ h => h) (Or.inl ⟨by rfl, ?hy118⟩) heldB ?_
    case hy118 => (intro w0 hSw; (try dsimp only at hSw); go_simp; first | done | with_reducible rfl | (split; (case isTrue hlt => (exfalso; (try simp only [ByteArray.size_append] at hlt); omega)); (case isFalse hlt => with_reducible rfl)))
    try simp only [Act.put, List.setIfInBounds_toArray, List.set_cons_zero, List.set_cons_succ]
    refine wpAnyH_ready (rs := [4]) (by kernel_rfl) (by simp) ?_
    refine AllReadyH.cons rfl (fun K hK => ?_) ?_
    · go_simp
      (with_reducible refine (specSc_any sa sc s B u1 (hiv.below (hc1.mono (by omega))) (by omega) hr hs).mono ?_)
      rintro e u2 ⟨rfl, hq2⟩
      go_wp2_with fail
      have z2 := hq2.size
      have hc2 : Below v1.heap.size v1 u2 := hc1.trans (hq2.mono (by omega))
      refine hK.out _ _ ⟨⟨(hq2.cell (p := ⟨w.heap.size, 0, none⟩) (by show w.heap.size < _; omega)).trans heldB.1.1, (hq2.cell (p := ⟨w.heap.size, 1, none⟩) (by show w.heap.size < _; omega)).trans heldB.1.2.1, (hq2.cell (p := ⟨w.heap.size, 2, none⟩) (by show w.heap.size < _; omega)).trans heldB.1.2.2.1, (hq2.cell (p := ⟨w.heap.size, 3, none⟩) (by show w.heap.size < _; omega)).trans heldB.1.2.2.2⟩, (hq2.cell (p := ⟨u0.heap.size, 3, none⟩) (by show u0.heap.size < _; omega)).trans heldB.2⟩ (fun held2 => ?_)
      clear hK K
      try simp only [Act.put, List.setIfInBounds_toArray, List.set_cons_zero, List.set_cons_succ]
      refine fb_take (i := 5) (oi := _) (d := 11) (v := ?vv119) rfl rfl (by kernel_rfl) (by kernel_rfl) (by kernel_rfl) (fun _ _ _ h => h) (Or.inl ⟨by rfl, ?hy119⟩) held2 ?_
      case hy119 => (intro w0 hSw; (try dsimp only at hSw); go_simp; first | done | with_reducible rfl | (split; (case isTrue hlt => (exfalso; (try simp only [ByteArray.size_append] at hlt); omega)); (case isFalse hlt => with_reducible rfl)))
      try simp only [Act.put, List.setIfInBounds_toArray, List.set_cons_zero, List.set_cons_succ]
      refine fb_take (i := 6) (oi := _) (d := 12) (v := ?vv120) rfl rfl (by kernel_rfl) (by kernel_rfl) (by kernel_rfl) (fun _ _ _ h => h) (Or.inl ⟨by rfl, ?hy120⟩) held2 ?_
      case hy120 => (intro w0 hSw; (try dsimp only at hSw); go_simp; first | done | with_reducible rfl | (split; (case isTrue hlt => (exfalso; (try simp only [ByteArray.size_append] at hlt); omega)); (case isFalse hlt => with_reducible rfl)))
      try simp only [Act.put, List.setIfInBounds_toArray, List.set_cons_zero, List.set_cons_succ]
      refine fb_take (i := 13) (oi := _) (d := 19) (v := ?vv121) rfl rfl (by kernel_rfl) (by kernel_rfl) (by kernel_rfl) (fun _ _ _ h => h) (Or.inl ⟨by rfl, ?hy121⟩) held2 ?_
      case hy121 => (intro w0 hSw; (try dsimp only at hSw); go_simp; first | done | with_reducible rfl | (split; (case isTrue hlt => (exfalso; (try simp only [ByteArray.size_append] at hlt); omega)); (case isFalse hlt => with_reducible rfl)))
      try simp only [Act.put, List.setIfInBounds_toArray, List.set_cons_zero, List.set_cons_succ]
      refine fb_take (i := 14) (oi := _) (d := 20) (v := ?vv122) rfl rfl (by kernel_rfl) (by kernel_rfl) (by kernel_rfl) (fun _ _ _ h => h) (Or.inl ⟨by rfl, ?hy122⟩) held2 ?_
      case hy122 => (intro w0 hSw; (try dsimp only at hSw); go_simp; first | done | with_reducible rfl | (split; (case isTrue hlt => (exfalso; (try simp only [ByteArray.size_append] at hlt); omega)); (case isFalse hlt => with_reducible rfl)))
      try simp only [Act.put, List.setIfInBounds_toArray, List.set_cons_zero, List.set_cons_succ]
      refine wpAnyH_ready (rs := [17]) (by kernel_rfl) (by simp) ?_
      refine AllReadyH.cons rfl (fun K hK => ?_) ?_
      · go_simp
        (with_reducible refine (specFmtN_any n (by omega) (by omega) u2).mono ?_)
        rintro e u3 ⟨rfl, hq3⟩
        go_wp2_with fail
        have z3 := hq3.size
        have hc3 : Below v1.heap.size v1 u3 := hc2.trans (hq3.mono (by omega))
        refine hK.out _ _ ⟨⟨(hq3.cell (p := ⟨w.heap.size, 0, none⟩) (by show w.heap.size < _; omega)).trans held2.1.1, (hq3.cell (p := ⟨w.heap.size, 1, none⟩) (by show w.heap.size < _; omega)).trans held2.1.2.1, (hq3.cell (p := ⟨w.heap.size, 2, none⟩) (by show w.heap.size < _; omega)).trans held2.1.2.2.1, (hq3.cell (p := ⟨w.heap.size, 3, none⟩) (by show w.heap.size < _; omega)).trans held2.1.2.2.2⟩, (hq3.cell (p := ⟨u0.heap.size, 3, none⟩) (by show u0.heap.size < _; omega)).trans held2.2⟩ (fun held3 => ?_)
        clear hK K
        try simp only [Act.put, List.setIfInBounds_toArray, List.set_cons_zero, List.set_cons_succ]
        refine fb_take (i := 18) (oi := _) (d := 24) (v := ?vv123) rfl rfl (by kernel_rfl) (by kernel_rfl) (by kernel_rfl) (fun _ _ _ h => h) (Or.inl ⟨by rfl, ?hy123⟩) held3 ?_
        case hy123 => (intro w0 hSw; (try dsimp only at hSw); go_simp; first | done | with_reducible rfl | (split; (case isTrue hlt => (exfalso; (try simp only [ByteArray.size_append] at hlt); omega)); (case isFalse hlt => with_reducible rfl)))
        try simp only [Act.put, List.setIfInBounds_toArray, List.set_cons_zero, List.set_cons_succ]
        refine fb_take (i := 19) (oi := _) (d := 2) (v := ?vv124) rfl rfl (by kernel_rfl) (by kernel_rfl) (by kernel_rfl) (fun _ _ _ h => h) (Or.inl ⟨by rfl, ?hy124⟩) held3 ?_
        case hy124 => (intro w0 hSw; (try dsimp only at hSw); go_simp; first | done | with_reducible rfl | (split; (case isTrue hlt => (exfalso; (try simp only [ByteArray.size_append] at hlt); omega)); (case isFalse hlt => with_reducible rfl)))
        try simp only [Act.put, List.setIfInBounds_toArray, List.set_cons_zero, List.set_cons_succ]
        refine wpAnyH_done (by kernel_rfl) ?_ _
        go_wp2_with fail
        go_ret
        exact ⟨by rw [← HE.out]; rfl, b1.trans (hc3.mono (by omega))⟩
      exact AllReadyH.nil
    exact AllReadyH.nil
  exact AllReadyH.nil

theorem specFB_any (b : Bd) (B : Nat) (w : World) (hs : b.s.length ≤ 2000000) (hin : b.In w B) (hB : B ≤ w.heap.size) :
    Calls Tryd.prog 23 #[b.val] w fun e w' => e = .returned (.string b.fmt) ∧ Below w.heap.size w w' := by
  by_cases hk : b.k = 1 ∨ b.k = 2 ∨ b.k = 3 ∨ b.k = 4
  · obtain ⟨t, sa, sc, s, k, n⟩ := b
    simp only at hk
    rcases hk with rfl | rfl | rfl | rfl
    · exact specFB1_any t sa sc s n B w hs hin hB
    · exact specFB2_any t sa sc s n B w hs hin hB
    · exact specFB3_any t sa sc s n B w hs hin hB
    · exact specFB4_any t sa sc s n B w hs hin hB
  · have hv : b.isB = false := by
      cases h : b.isB
      · rfl
      · exact absurd (Bd.isB_out h).2.2.1 hk
    have HE : Hid (b.fmt = ⟨#[]⟩) := by show _ = _; unfold Bd.fmt; rw [hv]; rfl
    obtain ⟨W, hW⟩ : ∃ W, W = w.alloc (.cells #[.string b.t, .slice b.sa b.s.length b.sc, .int .i64 b.k, .int .i64 b.n] 54) := ⟨_, rfl⟩
    have zW : W.heap.size = w.heap.size + 1 := by rw [hW]; simp
    have bW : Below w.heap.size w W := by rw [hW]; exact (Below.refl _ _).alloc (Nat.le_refl _) _
    have X0 : Bd.Box W w.heap.size b := by rw [hW]; exact Bd.Box.new w b _
    have hq := specIsB_any b B W (hin.below (bW.mono hB)) (by omega)
    rw [hv] at hq
    unfold Bd.val at hq ⊢
    obtain ⟨a0, a1, a2, a3⟩ := X0
    clear hv hk
    go_enter Tryd.func23, Tryd.ntmps23
    go_wp2_with fail
    rw [← hW]
    (with_reducible refine hq.mono ?_)
    rintro e w1 ⟨rfl, hb1⟩
    go_wp2_with fail
    go_ret
    exact ⟨by rw [HE.out]; rfl, bW.trans (hb1.mono (by omega))⟩

theorem specFB_c (b : Bd) {b0 : Bd} (B : Nat) (w : World) (he : b.er = b0.er) {T : ByteArray} (hT : T = b0.fmt) (hs : b.s.length ≤ 2000000) (hin : b.In w B) (hB : B ≤ w.heap.size) :
    Calls Tryd.prog 23 #[b.val] w fun e w' => e = .returned (.string T) ∧ Below w.heap.size w w' := by
  rw [hT, ← Bd.fmt_er he]
  exact specFB_any b B w hs hin hB

theorem implFB_c (b : Bd) {b0 : Bd} (B : Nat) (w : World) (he : b.er = b0.er) {T : ByteArray} (hT : T = b0.fmt) (hs : b.s.length ≤ 2000000) (hin : b.In w B) (hB : B ≤ w.heap.size) (ht : Tab w) :
    Calls Tryd.prog 25 #[b.val] w fun e w' => e = .returned (.string T) ∧ Below w.heap.size w w' := by
  rw [hT, ← Bd.fmt_er he]
  exact implFB_any b B w hs hin hB ht
end Go.Proofs.YtjgpekfnfmabbaaDoor
