/-
  BoxedVariables: the mathematics, and the model's walk (written by gen/kobox.py).
-/
import Derived.Test.YtbeikpbnidbjfaaKoW
import Derived.Test.YtbeikpbnidbjfaaNumL
import Derived.Test.YtbeikpbnidbjfaaScSets
import Derived.Deep.AppendLies
namespace Go.Proofs.Ytbeikpbnidbjfaa
open Go.RowKit

/-- What a node adds to the boxed variables. -/
def Ko.boxed (a : Ko) (s : List Int) : List Int := addsN (if a.k = 4 then addN s a.n else s) (if a.k = 9 then a.s else [])
theorem Ko.boxed_er (a b : Ko) (h : Ko.er a = Ko.er b) : Ko.boxed a = Ko.boxed b := by
  simp only [Ko.er, Ko.mk.injEq] at h
  obtain ⟨h1, h2, _, _, h3, _⟩ := h
  funext s
  unfold Ko.boxed
  rw [h1, h2, h3]
theorem Ko.boxed4 {a : Ko} (h : a.k = 4) (s : List Int) : Ko.boxed a s = addN s a.n := by
  unfold Ko.boxed; rw [if_pos h, if_neg (by omega)]; rfl
theorem Ko.boxed9 {a : Ko} (h : a.k = 9) (s : List Int) : Ko.boxed a s = addsN s a.s := by
  unfold Ko.boxed; rw [if_neg (by omega), if_pos h]
theorem Ko.boxed0 {a : Ko} (h : a.k ≠ 4) (h2 : a.k ≠ 9) (s : List Int) : Ko.boxed a s = s := by
  unfold Ko.boxed; rw [if_neg h, if_neg h2]; rfl
def Ko.bulk1 (a : Ko) : Nat := 1 + Ko.bulk a
theorem Ko.boxed_len (a : Ko) (s : List Int) : (Ko.boxed a s).length ≤ s.length + Ko.bulk1 a := by
  unfold Ko.boxed
  have h1 := addsN_len (if a.k = 4 then addN s a.n else s) (if a.k = 9 then a.s else [])
  have h2 : (if a.k = 4 then addN s a.n else s).length ≤ s.length + 1 := by
    split
    · exact addN_len _ _
    · omega
  have h3 : (if a.k = 9 then a.s else []).length ≤ a.s.length := by split <;> simp
  simp only [Ko.bulk1, Ko.bulk]
  omega
mutual
theorem Tr.bulk1_eq : ∀ d : Tr Ko, d.bulk Ko.bulk1 = d.size + d.bulk Ko.bulk
  | .mk a _ _ l => by have := Tr.bulk1L_eq l; simp only [Tr.bulk, Tr.size, Ko.bulk1]; omega
theorem Tr.bulk1L_eq : ∀ l : List (Tr Ko), Tr.bulkL Ko.bulk1 l = Tr.sizeL l + Tr.bulkL Ko.bulk l
  | [] => rfl
  | d :: r => by have := Tr.bulk1_eq d; have := Tr.bulk1L_eq r; simp only [Tr.bulkL, Tr.sizeL]; omega
end
def KoBxdOk (m : Nat) : Prop := ∀ (d : Tr Ko) (B base : Nat) (acc : List Int) (v : Value) (w : World), d.size ≤ m → Ko.E.In w B d → B ≤ base → base ≤ w.heap.size → w.ownsRow base 3 1 v acc.length (acc.map (Value.int .i64)) → acc.length + d.bulk Ko.bulk1 ≤ 4000000 →
    Calls Try.prog 79 #[Ko.val d, v] w (RetN [] base (d.walk Ko.boxed acc) v w)

set_option maxRecDepth 100000 in
set_option maxHeartbeats 4000000 in
theorem specBxd_step (m : Nat) (ih : KoBxdOk m) : KoBxdOk (m + 1) := by
  intro d B base acc v w hm hin hB hbw hrow hacc
  have hBw : B ≤ w.heap.size := by omega
  have hcap := (Ko.E_in hin).2.cap
  have hs := (Ko.E_in hin).1.s
  have hscap := hs.cap
  have hsq := Tr.size_eq d
  have hbq := Tr.bulk_eq Ko.bulk1 d
  have hkb : Ko.bulk1 d.a = 1 + (d.a.s.length + d.a.d.bulk) := rfl
  obtain ⟨i0, hi, hz0, hz1, hz2⟩ := info_parts infoI
  obtain ⟨acc0, hacc0⟩ : ∃ a, a = Ko.boxed d.a acc := ⟨_, rfl⟩
  have K : Hid (d.walk Ko.boxed acc = Tr.walkL Ko.boxed d.l acc0) := by rw [hacc0]; exact Tr.walk_eq _ _ _
  have hal : acc0.length ≤ acc.length + Ko.bulk1 d.a := by rw [hacc0]; exact Ko.boxed_len _ _
  have Hacc := Lib.hid hacc0
  clear hacc0
  have hv : ∀ g, v.ownBlock = some g → B ≤ g := fun g hg => by have := (hrow.lt g hg).1; omega
  have hv2 : v.ownBlock ≠ some w.heap.size := fun e => by have := (hrow.lt _ e).2; omega
  obtain ⟨W, hW⟩ : ∃ W, W = w.alloc (.cells #[.int .i64 d.a.k, .int .i64 d.a.n, .slice d.a.sA d.a.s.length d.a.sC, .int .i64 d.a.d.k, .int .i64 d.a.d.n, .string d.a.d.t, .slice d.a.d.A d.a.d.l.length d.a.d.c, .slice d.A d.l.length d.c] 36) := ⟨_, rfl⟩
  have hgW : GrewN [] base acc v w v W := by rw [hW]; exact GrewN.alloc0 hrow _
  have zW : W.heap.size = w.heap.size + 1 := by rw [hW]; simp
  have X0 : Ko.Box W w.heap.size d := by rw [hW]; exact Ko.Box.new _ _ _
  have hrowW := hgW.1
  obtain ⟨Av, cv, ev⟩ := irow_len hrow
  unfold Ko.val
  have hovW : IIn W W.heap.size Av cv acc := by
    obtain ⟨A', c', e, ho⟩ := own_of_row hrowW
    rw [ev] at e
    injection e with e1 _ e2
    subst e1 e2
    exact ho.inn
  by_cases hk4 : d.a.k = 4
  · have hb4 : (d.a.k == 4) = true := by simp [hk4]
    have hb9 : (d.a.k == 9) = false := by simp [hk4]
    have h0 : acc0 = addN acc d.a.n := by rw [Hacc.out]; exact Ko.boxed4 hk4 _
    clear hk4
    cases hq : acc.contains d.a.n
    · rw [addN_no hq] at h0
      have H0 := Lib.hid h0
      have HQ := Lib.hid hq
      clear h0 hq
      subst ev
      obtain ⟨a0, a1, a2, a3, a4, a5, a6, a7⟩ := X0
      go_enter Try.func79, Try.ntmps79
      go_wp2_with (first
  | (go_at_call 85; rw [← hW]; clear hW; refine (specHas_any Av cv acc d.a.n W.heap.size W hovW).mono ?_; rintro e' w' ⟨rfl, hw⟩; obtain rfl := hw.symm; rw [HQ.out])
  | (at_builtin; refine wpList_append_lies _ rfl (.tmp 18) (.tmp 21) 22 rfl base 3 i0 (.int .i64 0) 1 8 Try.underlying22 hi hz0 hz1 hz2 rfl (by decide) _ acc.length (acc.map (Value.int .i64)) rfl (hrowW.alloc _) ⟨w.heap.size + 1, 0, none⟩ 1 1 [.int .i64 d.a.n] rfl rfl (by have h := inews W d.a.n; rw [zW] at h; exact h) (ione d.a.n) (by omega) (by unfold maxLen; omega) (by omega) (by simp <;> omega) (w.heap.size + 1 + 1) ?c2 ?_))
      case c2 => simp [zW]
      intro g cap w1 hown' hgr hat hlt1
      have hS := (GrewN.snoc (F := []) hown' hgr (by
        rcases hat with e | rfl
        · exact .inl e.symm
        · exact .inr fun g' hg' => by have e' : w.heap.size + 1 + 1 = g' := Option.some.inj hg'; omega))
      have hG1 := hgW.trans hS
      have HG0 : Hid (GrewN [] base (Tr.walkL Ko.boxed (d.l.take 0) acc0) (.slice Av acc.length cv) w (.slice (some ⟨g, 0, none⟩) (acc.length + 1) cap) w1) := by rw [H0.out]; exact hG1
      have X1 := (show Ko.Box W w.heap.size d from ⟨a0, a1, a2, a3, a4, a5, a6, a7⟩).keep (hS.block (b := w.heap.size) (by omega) (by simp) hv2)
      clear a0 a1 a2 a3 a4 a5 a6 a7 hown' hgr hat hS hG1
      obtain ⟨a0, a1, a2, a3, a4, a5, a6, a7⟩ := X1
      have z1 := HG0.out.2.1.size
      go_wp2_with fail
      go_loopw [1, 5] (fun q i wr => q = (.slice (some ⟨g, 0, none⟩) (acc.length + 1) cap) ∧ i = .int .i64 0 ∧ wr = w1) (fun _ _ _ => 0)
      case atStart => exact ⟨rfl, rfl, rfl⟩
      case round =>
        obtain ⟨rfl, rfl, rfl⟩ := hrel
        by_cases hp0 : (0 : Int) < (d.a.s.length : Int)
        · go_wp2_with fail
          go_loopw [1, 54] (fun q i wr => ∃ j : Nat, j ≤ d.l.length ∧ i = .int .i64 j ∧ GrewN [] base (Tr.walkL Ko.boxed (d.l.take j) acc0) (.slice Av acc.length cv) w q wr) (fun _ i _ => d.l.length - (intOf i).toNat)
          case atStart => exact ⟨0, Nat.zero_le _, rfl, HG0.out⟩
          case round =>
            obtain ⟨j, hj, rfl, hG⟩ := hrel
            have hs2 := hG.2.1.size
            by_cases hlt : j < d.l.length
            · obtain ⟨b, o, hA, hblk, c0, c1, c2, c3, c4, c5, c6, c7, hix⟩ := Ko.at_ ((Ko.E_in hin).2.below (hG.below (by simp) hv hBw)) (i := j) (x := d.l[j]) (List.getElem?_eq_getElem hlt)
              have hsz := Tr.sizeL_mem (l := d.l) (List.getElem_mem hlt)
              have hwl := Tr.walkL_len Ko.boxed_len (d.l.take j) acc0
              have hbd := Tr.bulkL_drop Ko.bulk1 d.l j hlt
              have hG1 := hG.alloc (.cells #[.int .i64 d.l[j].a.k, .int .i64 d.l[j].a.n, .slice d.l[j].a.sA d.l[j].a.s.length d.l[j].a.sC, .int .i64 d.l[j].a.d.k, .int .i64 d.l[j].a.d.n, .string d.l[j].a.d.t, .slice d.l[j].a.d.A d.l[j].a.d.l.length d.l[j].a.d.c, .slice d.l[j].A d.l[j].l.length d.l[j].c] 36)
              have HG1 := Lib.hid hG1
              clear hG hG1
              rw [hA]
              go_wp2_with fail
              refine (ih d.l[j] B base (Tr.walkL Ko.boxed (d.l.take j) acc0) _ _ (by omega) (Elem.In.alloc hix (by omega) _) hB (by simp; omega) HG1.out.1 (by omega)).mono ?_
              rintro e w1 ⟨v', rfl, hG2⟩
              have hG3 := HG1.out.trans hG2
              have HG3 := Lib.hid hG3
              clear hG3 hG2
              go_wp2_with fail
              refine ⟨⟨j + 1, by omega, by go_num, ?_⟩, by simp [intOf]; omega⟩
              rw [Tr.walkL_take_succ Ko.boxed d.l j hlt]
              exact HG3.out
            · have hj' : j = d.l.length := by omega
              subst hj'
              rw [List.take_length] at hG
              have HG := Lib.hid hG
              clear hG
              go_wp2_with fail
              go_ret
              exact ⟨_, rfl, by rw [K.out]; exact HG.out⟩
        · go_wp2_with fail
          go_loopw [1, 54] (fun q i wr => ∃ j : Nat, j ≤ d.l.length ∧ i = .int .i64 j ∧ GrewN [] base (Tr.walkL Ko.boxed (d.l.take j) acc0) (.slice Av acc.length cv) w q wr) (fun _ i _ => d.l.length - (intOf i).toNat)
          case atStart => exact ⟨0, Nat.zero_le _, rfl, HG0.out⟩
          case round =>
            obtain ⟨j, hj, rfl, hG⟩ := hrel
            have hs2 := hG.2.1.size
            by_cases hlt : j < d.l.length
            · obtain ⟨b, o, hA, hblk, c0, c1, c2, c3, c4, c5, c6, c7, hix⟩ := Ko.at_ ((Ko.E_in hin).2.below (hG.below (by simp) hv hBw)) (i := j) (x := d.l[j]) (List.getElem?_eq_getElem hlt)
              have hsz := Tr.sizeL_mem (l := d.l) (List.getElem_mem hlt)
              have hwl := Tr.walkL_len Ko.boxed_len (d.l.take j) acc0
              have hbd := Tr.bulkL_drop Ko.bulk1 d.l j hlt
              have hG1 := hG.alloc (.cells #[.int .i64 d.l[j].a.k, .int .i64 d.l[j].a.n, .slice d.l[j].a.sA d.l[j].a.s.length d.l[j].a.sC, .int .i64 d.l[j].a.d.k, .int .i64 d.l[j].a.d.n, .string d.l[j].a.d.t, .slice d.l[j].a.d.A d.l[j].a.d.l.length d.l[j].a.d.c, .slice d.l[j].A d.l[j].l.length d.l[j].c] 36)
              have HG1 := Lib.hid hG1
              clear hG hG1
              rw [hA]
              go_wp2_with fail
              refine (ih d.l[j] B base (Tr.walkL Ko.boxed (d.l.take j) acc0) _ _ (by omega) (Elem.In.alloc hix (by omega) _) hB (by simp; omega) HG1.out.1 (by omega)).mono ?_
              rintro e w1 ⟨v', rfl, hG2⟩
              have hG3 := HG1.out.trans hG2
              have HG3 := Lib.hid hG3
              clear hG3 hG2
              go_wp2_with fail
              refine ⟨⟨j + 1, by omega, by go_num, ?_⟩, by simp [intOf]; omega⟩
              rw [Tr.walkL_take_succ Ko.boxed d.l j hlt]
              exact HG3.out
            · have hj' : j = d.l.length := by omega
              subst hj'
              rw [List.take_length] at hG
              have HG := Lib.hid hG
              clear hG
              go_wp2_with fail
              go_ret
              exact ⟨_, rfl, by rw [K.out]; exact HG.out⟩
    · rw [addN_yes hq] at h0
      have H0 := Lib.hid h0
      have HQ := Lib.hid hq
      clear h0 hq
      have HG0 : Hid (GrewN [] base (Tr.walkL Ko.boxed (d.l.take 0) acc0) (.slice Av acc.length cv) w (.slice Av acc.length cv) W) := by rw [H0.out, ← ev]; exact hgW
      subst ev
      obtain ⟨a0, a1, a2, a3, a4, a5, a6, a7⟩ := X0
      go_enter Try.func79, Try.ntmps79
      go_wp2_with (first
  | (go_at_call 85; rw [← hW]; clear hW; refine (specHas_any Av cv acc d.a.n W.heap.size W hovW).mono ?_; rintro e' w' ⟨rfl, hw⟩; obtain rfl := hw.symm; rw [HQ.out]))
      go_loopw [1, 5] (fun q i wr => q = (.slice Av acc.length cv) ∧ i = .int .i64 0 ∧ wr = W) (fun _ _ _ => 0)
      case atStart => exact ⟨rfl, rfl, rfl⟩
      case round =>
        obtain ⟨rfl, rfl, rfl⟩ := hrel
        by_cases hp0 : (0 : Int) < (d.a.s.length : Int)
        · go_wp2_with fail
          go_loopw [1, 54] (fun q i wr => ∃ j : Nat, j ≤ d.l.length ∧ i = .int .i64 j ∧ GrewN [] base (Tr.walkL Ko.boxed (d.l.take j) acc0) (.slice Av acc.length cv) w q wr) (fun _ i _ => d.l.length - (intOf i).toNat)
          case atStart => exact ⟨0, Nat.zero_le _, rfl, HG0.out⟩
          case round =>
            obtain ⟨j, hj, rfl, hG⟩ := hrel
            have hs2 := hG.2.1.size
            by_cases hlt : j < d.l.length
            · obtain ⟨b, o, hA, hblk, c0, c1, c2, c3, c4, c5, c6, c7, hix⟩ := Ko.at_ ((Ko.E_in hin).2.below (hG.below (by simp) hv hBw)) (i := j) (x := d.l[j]) (List.getElem?_eq_getElem hlt)
              have hsz := Tr.sizeL_mem (l := d.l) (List.getElem_mem hlt)
              have hwl := Tr.walkL_len Ko.boxed_len (d.l.take j) acc0
              have hbd := Tr.bulkL_drop Ko.bulk1 d.l j hlt
              have hG1 := hG.alloc (.cells #[.int .i64 d.l[j].a.k, .int .i64 d.l[j].a.n, .slice d.l[j].a.sA d.l[j].a.s.length d.l[j].a.sC, .int .i64 d.l[j].a.d.k, .int .i64 d.l[j].a.d.n, .string d.l[j].a.d.t, .slice d.l[j].a.d.A d.l[j].a.d.l.length d.l[j].a.d.c, .slice d.l[j].A d.l[j].l.length d.l[j].c] 36)
              have HG1 := Lib.hid hG1
              clear hG hG1
              rw [hA]
              go_wp2_with fail
              refine (ih d.l[j] B base (Tr.walkL Ko.boxed (d.l.take j) acc0) _ _ (by omega) (Elem.In.alloc hix (by omega) _) hB (by simp; omega) HG1.out.1 (by omega)).mono ?_
              rintro e w1 ⟨v', rfl, hG2⟩
              have hG3 := HG1.out.trans hG2
              have HG3 := Lib.hid hG3
              clear hG3 hG2
              go_wp2_with fail
              refine ⟨⟨j + 1, by omega, by go_num, ?_⟩, by simp [intOf]; omega⟩
              rw [Tr.walkL_take_succ Ko.boxed d.l j hlt]
              exact HG3.out
            · have hj' : j = d.l.length := by omega
              subst hj'
              rw [List.take_length] at hG
              have HG := Lib.hid hG
              clear hG
              go_wp2_with fail
              go_ret
              exact ⟨_, rfl, by rw [K.out]; exact HG.out⟩
        · go_wp2_with fail
          go_loopw [1, 54] (fun q i wr => ∃ j : Nat, j ≤ d.l.length ∧ i = .int .i64 j ∧ GrewN [] base (Tr.walkL Ko.boxed (d.l.take j) acc0) (.slice Av acc.length cv) w q wr) (fun _ i _ => d.l.length - (intOf i).toNat)
          case atStart => exact ⟨0, Nat.zero_le _, rfl, HG0.out⟩
          case round =>
            obtain ⟨j, hj, rfl, hG⟩ := hrel
            have hs2 := hG.2.1.size
            by_cases hlt : j < d.l.length
            · obtain ⟨b, o, hA, hblk, c0, c1, c2, c3, c4, c5, c6, c7, hix⟩ := Ko.at_ ((Ko.E_in hin).2.below (hG.below (by simp) hv hBw)) (i := j) (x := d.l[j]) (List.getElem?_eq_getElem hlt)
              have hsz := Tr.sizeL_mem (l := d.l) (List.getElem_mem hlt)
              have hwl := Tr.walkL_len Ko.boxed_len (d.l.take j) acc0
              have hbd := Tr.bulkL_drop Ko.bulk1 d.l j hlt
              have hG1 := hG.alloc (.cells #[.int .i64 d.l[j].a.k, .int .i64 d.l[j].a.n, .slice d.l[j].a.sA d.l[j].a.s.length d.l[j].a.sC, .int .i64 d.l[j].a.d.k, .int .i64 d.l[j].a.d.n, .string d.l[j].a.d.t, .slice d.l[j].a.d.A d.l[j].a.d.l.length d.l[j].a.d.c, .slice d.l[j].A d.l[j].l.length d.l[j].c] 36)
              have HG1 := Lib.hid hG1
              clear hG hG1
              rw [hA]
              go_wp2_with fail
              refine (ih d.l[j] B base (Tr.walkL Ko.boxed (d.l.take j) acc0) _ _ (by omega) (Elem.In.alloc hix (by omega) _) hB (by simp; omega) HG1.out.1 (by omega)).mono ?_
              rintro e w1 ⟨v', rfl, hG2⟩
              have hG3 := HG1.out.trans hG2
              have HG3 := Lib.hid hG3
              clear hG3 hG2
              go_wp2_with fail
              refine ⟨⟨j + 1, by omega, by go_num, ?_⟩, by simp [intOf]; omega⟩
              rw [Tr.walkL_take_succ Ko.boxed d.l j hlt]
              exact HG3.out
            · have hj' : j = d.l.length := by omega
              subst hj'
              rw [List.take_length] at hG
              have HG := Lib.hid hG
              clear hG
              go_wp2_with fail
              go_ret
              exact ⟨_, rfl, by rw [K.out]; exact HG.out⟩
  · have hb4 : (d.a.k == 4) = false := by simp [hk4]
    by_cases hk9 : d.a.k = 9
    · have hb9 : (d.a.k == 9) = true := by simp [hk9]
      have h0 : acc0 = addsN acc d.a.s := by rw [Hacc.out]; exact Ko.boxed9 hk9 _
      clear hk4 hk9
      have H0 := Lib.hid h0
      clear h0
      have HX := Lib.hid X0
      subst ev
      obtain ⟨a0, a1, a2, a3, a4, a5, a6, a7⟩ := X0
      go_enter Try.func79, Try.ntmps79
      go_wp2_with fail
      rw [← hW]
      clear hW a0 a1 a2 a3 a4 a5 a6 a7
      go_loopw [1, 5] (fun q i wr => ∃ j : Nat, j ≤ d.a.s.length ∧ i = .int .i64 j ∧ GrewN [] base (addsN acc (d.a.s.take j)) (.slice Av acc.length cv) W q wr) (fun _ i _ => d.a.s.length - (intOf i).toNat)
      case atStart => exact ⟨0, Nat.zero_le _, rfl, GrewN.refl hrowW⟩
      case round =>
        obtain ⟨j, hj, rfl, hG⟩ := hrel
        have hs2 := hG.2.1.size
        have hww := (hgW.trans hG)
        have X1 := HX.out.keep (hG.block (b := w.heap.size) (by omega) (by simp) hv2)
        obtain ⟨a0, a1, a2, a3, a4, a5, a6, a7⟩ := X1
        by_cases hlt : j < d.a.s.length
        · obtain ⟨b, o, hA, hblk, hcell⟩ := (hs.below (hww.below (by simp) hv hBw)).at_ hlt
          obtain ⟨A', c', rfl, ho⟩ := own_of_row hG.1
          have hov := ho.inn
          have hlen := addsN_len acc (d.a.s.take j)
          have htk : (d.a.s.take j).length ≤ d.a.s.length := by rw [List.length_take]; omega
          have gg : (j : Int) < (d.a.s.length : Int) := by omega
          have HST := Lib.hid (addsN_take_succ acc d.a.s j hlt)
          rw [hA] at a2
          rw [hA]
          clear hww hA
          cases hq : (addsN acc (d.a.s.take j)).contains d.a.s[j]
          · have HQ := Lib.hid hq
            clear hq
            go_wp2_with (first
  | (go_at_call 85; refine (specHas_any A' c' (addsN acc (d.a.s.take j)) d.a.s[j] wr.heap.size wr hov).mono ?_; rintro e' w' ⟨rfl, hw⟩; obtain rfl := hw.symm; rw [HQ.out])
  | (at_builtin; refine wpList_append_lies _ rfl (.tmp 43) (.tmp 49) 22 rfl base 3 i0 (.int .i64 0) 1 8 Try.underlying22 hi hz0 hz1 hz2 rfl (by decide) _ (addsN acc (d.a.s.take j)).length ((addsN acc (d.a.s.take j)).map (Value.int .i64)) rfl (hG.1.alloc _) ⟨wr.heap.size, 0, none⟩ 1 1 [.int .i64 d.a.s[j]] rfl rfl (inews wr d.a.s[j]) (ione d.a.s[j]) (by omega) (by unfold maxLen; omega) (by omega) (by simp <;> omega) (wr.heap.size + 1) ?c2 ?_))
            case c2 => simp
            intro g cap w1 hown' hgr hat hlt1
            have hS := (GrewN.snoc (F := []) hown' hgr (by
              rcases hat with e | rfl
              · exact .inl e.symm
              · exact .inr fun g' hg' => by have e' : wr.heap.size + 1 = g' := Option.some.inj hg'; omega))
            have HS := Lib.hid (hG.trans hS)
            clear hS hown' hgr hat hov ho a0 a1 a2 a3 a4 a5 a6 a7
            go_wp2_with fail
            go_roundw
            case rel => exact ⟨j + 1, by omega, by go_num, by rw [HST.out, addN_no HQ.out]; exact HS.out⟩
            case measure => simp [intOf]; omega
          · have HQ := Lib.hid hq
            clear hq
            have HS := Lib.hid hG
            go_wp2_with (first
  | (go_at_call 85; refine (specHas_any A' c' (addsN acc (d.a.s.take j)) d.a.s[j] wr.heap.size wr hov).mono ?_; rintro e' w' ⟨rfl, hw⟩; obtain rfl := hw.symm; rw [HQ.out]))
            go_roundw
            case rel => exact ⟨j + 1, by omega, by go_num, by rw [HST.out, addN_yes HQ.out]; exact HS.out⟩
            case measure => simp [intOf]; omega
        · have hj' : j = d.a.s.length := by omega
          subst hj'
          rw [List.take_length, ← H0.out] at hww
          have HG0 := Lib.hid hww
          clear hG hww
          go_wp2_with fail
          go_loopw [1, 54] (fun q i wr => ∃ j : Nat, j ≤ d.l.length ∧ i = .int .i64 j ∧ GrewN [] base (Tr.walkL Ko.boxed (d.l.take j) acc0) (.slice Av acc.length cv) w q wr) (fun _ i _ => d.l.length - (intOf i).toNat)
          case atStart => exact ⟨0, Nat.zero_le _, rfl, HG0.out⟩
          case round =>
            obtain ⟨j, hj, rfl, hG⟩ := hrel
            have hs2 := hG.2.1.size
            by_cases hlt : j < d.l.length
            · obtain ⟨b, o, hA, hblk, c0, c1, c2, c3, c4, c5, c6, c7, hix⟩ := Ko.at_ ((Ko.E_in hin).2.below (hG.below (by simp) hv hBw)) (i := j) (x := d.l[j]) (List.getElem?_eq_getElem hlt)
              have hsz := Tr.sizeL_mem (l := d.l) (List.getElem_mem hlt)
              have hwl := Tr.walkL_len Ko.boxed_len (d.l.take j) acc0
              have hbd := Tr.bulkL_drop Ko.bulk1 d.l j hlt
              have hG1 := hG.alloc (.cells #[.int .i64 d.l[j].a.k, .int .i64 d.l[j].a.n, .slice d.l[j].a.sA d.l[j].a.s.length d.l[j].a.sC, .int .i64 d.l[j].a.d.k, .int .i64 d.l[j].a.d.n, .string d.l[j].a.d.t, .slice d.l[j].a.d.A d.l[j].a.d.l.length d.l[j].a.d.c, .slice d.l[j].A d.l[j].l.length d.l[j].c] 36)
              have HG1 := Lib.hid hG1
              clear hG hG1
              rw [hA]
              go_wp2_with fail
              refine (ih d.l[j] B base (Tr.walkL Ko.boxed (d.l.take j) acc0) _ _ (by omega) (Elem.In.alloc hix (by omega) _) hB (by simp; omega) HG1.out.1 (by omega)).mono ?_
              rintro e w1 ⟨v', rfl, hG2⟩
              have hG3 := HG1.out.trans hG2
              have HG3 := Lib.hid hG3
              clear hG3 hG2
              go_wp2_with fail
              refine ⟨⟨j + 1, by omega, by go_num, ?_⟩, by simp [intOf]; omega⟩
              rw [Tr.walkL_take_succ Ko.boxed d.l j hlt]
              exact HG3.out
            · have hj' : j = d.l.length := by omega
              subst hj'
              rw [List.take_length] at hG
              have HG := Lib.hid hG
              clear hG
              go_wp2_with fail
              go_ret
              exact ⟨_, rfl, by rw [K.out]; exact HG.out⟩
    · have hb9 : (d.a.k == 9) = false := by simp [hk9]
      have h0 : acc0 = acc := by rw [Hacc.out]; exact Ko.boxed0 hk4 hk9 _
      clear hk4 hk9
      have HG0 : Hid (GrewN [] base (Tr.walkL Ko.boxed (d.l.take 0) acc0) (.slice Av acc.length cv) w (.slice Av acc.length cv) W) := by rw [h0, ← ev]; exact hgW
      clear h0
      subst ev
      obtain ⟨a0, a1, a2, a3, a4, a5, a6, a7⟩ := X0
      go_enter Try.func79, Try.ntmps79
      go_wp2_with fail
      rw [← hW]
      clear hW
      go_loopw [1, 5] (fun q i wr => q = (.slice Av acc.length cv) ∧ i = .int .i64 0 ∧ wr = W) (fun _ _ _ => 0)
      case atStart => exact ⟨rfl, rfl, rfl⟩
      case round =>
        obtain ⟨rfl, rfl, rfl⟩ := hrel
        by_cases hp0 : (0 : Int) < (d.a.s.length : Int)
        · go_wp2_with fail
          go_loopw [1, 54] (fun q i wr => ∃ j : Nat, j ≤ d.l.length ∧ i = .int .i64 j ∧ GrewN [] base (Tr.walkL Ko.boxed (d.l.take j) acc0) (.slice Av acc.length cv) w q wr) (fun _ i _ => d.l.length - (intOf i).toNat)
          case atStart => exact ⟨0, Nat.zero_le _, rfl, HG0.out⟩
          case round =>
            obtain ⟨j, hj, rfl, hG⟩ := hrel
            have hs2 := hG.2.1.size
            by_cases hlt : j < d.l.length
            · obtain ⟨b, o, hA, hblk, c0, c1, c2, c3, c4, c5, c6, c7, hix⟩ := Ko.at_ ((Ko.E_in hin).2.below (hG.below (by simp) hv hBw)) (i := j) (x := d.l[j]) (List.getElem?_eq_getElem hlt)
              have hsz := Tr.sizeL_mem (l := d.l) (List.getElem_mem hlt)
              have hwl := Tr.walkL_len Ko.boxed_len (d.l.take j) acc0
              have hbd := Tr.bulkL_drop Ko.bulk1 d.l j hlt
              have hG1 := hG.alloc (.cells #[.int .i64 d.l[j].a.k, .int .i64 d.l[j].a.n, .slice d.l[j].a.sA d.l[j].a.s.length d.l[j].a.sC, .int .i64 d.l[j].a.d.k, .int .i64 d.l[j].a.d.n, .string d.l[j].a.d.t, .slice d.l[j].a.d.A d.l[j].a.d.l.length d.l[j].a.d.c, .slice d.l[j].A d.l[j].l.length d.l[j].c] 36)
              have HG1 := Lib.hid hG1
              clear hG hG1
              rw [hA]
              go_wp2_with fail
              refine (ih d.l[j] B base (Tr.walkL Ko.boxed (d.l.take j) acc0) _ _ (by omega) (Elem.In.alloc hix (by omega) _) hB (by simp; omega) HG1.out.1 (by omega)).mono ?_
              rintro e w1 ⟨v', rfl, hG2⟩
              have hG3 := HG1.out.trans hG2
              have HG3 := Lib.hid hG3
              clear hG3 hG2
              go_wp2_with fail
              refine ⟨⟨j + 1, by omega, by go_num, ?_⟩, by simp [intOf]; omega⟩
              rw [Tr.walkL_take_succ Ko.boxed d.l j hlt]
              exact HG3.out
            · have hj' : j = d.l.length := by omega
              subst hj'
              rw [List.take_length] at hG
              have HG := Lib.hid hG
              clear hG
              go_wp2_with fail
              go_ret
              exact ⟨_, rfl, by rw [K.out]; exact HG.out⟩
        · go_wp2_with fail
          go_loopw [1, 54] (fun q i wr => ∃ j : Nat, j ≤ d.l.length ∧ i = .int .i64 j ∧ GrewN [] base (Tr.walkL Ko.boxed (d.l.take j) acc0) (.slice Av acc.length cv) w q wr) (fun _ i _ => d.l.length - (intOf i).toNat)
          case atStart => exact ⟨0, Nat.zero_le _, rfl, HG0.out⟩
          case round =>
            obtain ⟨j, hj, rfl, hG⟩ := hrel
            have hs2 := hG.2.1.size
            by_cases hlt : j < d.l.length
            · obtain ⟨b, o, hA, hblk, c0, c1, c2, c3, c4, c5, c6, c7, hix⟩ := Ko.at_ ((Ko.E_in hin).2.below (hG.below (by simp) hv hBw)) (i := j) (x := d.l[j]) (List.getElem?_eq_getElem hlt)
              have hsz := Tr.sizeL_mem (l := d.l) (List.getElem_mem hlt)
              have hwl := Tr.walkL_len Ko.boxed_len (d.l.take j) acc0
              have hbd := Tr.bulkL_drop Ko.bulk1 d.l j hlt
              have hG1 := hG.alloc (.cells #[.int .i64 d.l[j].a.k, .int .i64 d.l[j].a.n, .slice d.l[j].a.sA d.l[j].a.s.length d.l[j].a.sC, .int .i64 d.l[j].a.d.k, .int .i64 d.l[j].a.d.n, .string d.l[j].a.d.t, .slice d.l[j].a.d.A d.l[j].a.d.l.length d.l[j].a.d.c, .slice d.l[j].A d.l[j].l.length d.l[j].c] 36)
              have HG1 := Lib.hid hG1
              clear hG hG1
              rw [hA]
              go_wp2_with fail
              refine (ih d.l[j] B base (Tr.walkL Ko.boxed (d.l.take j) acc0) _ _ (by omega) (Elem.In.alloc hix (by omega) _) hB (by simp; omega) HG1.out.1 (by omega)).mono ?_
              rintro e w1 ⟨v', rfl, hG2⟩
              have hG3 := HG1.out.trans hG2
              have HG3 := Lib.hid hG3
              clear hG3 hG2
              go_wp2_with fail
              refine ⟨⟨j + 1, by omega, by go_num, ?_⟩, by simp [intOf]; omega⟩
              rw [Tr.walkL_take_succ Ko.boxed d.l j hlt]
              exact HG3.out
            · have hj' : j = d.l.length := by omega
              subst hj'
              rw [List.take_length] at hG
              have HG := Lib.hid hG
              clear hG
              go_wp2_with fail
              go_ret
              exact ⟨_, rfl, by rw [K.out]; exact HG.out⟩
theorem specBxd_any : ∀ m, KoBxdOk m := by
  intro m
  induction m with
  | zero => intro d B base acc v w h; have := d.size_pos; omega
  | succ m ih => exact specBxd_step m ih
end Go.Proofs.Ytbeikpbnidbjfaa
