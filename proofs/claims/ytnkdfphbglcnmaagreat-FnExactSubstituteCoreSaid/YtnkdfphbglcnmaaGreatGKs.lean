/-
  SubstituteCore: how large what is put in can be; the calls that the tests make.
-/
import Derived.Test.YtnkdfphbglcnmaaGreatKrp
import Derived.Test.YtnkdfphbglcnmaaGreatGSi
import Derived.Test.YtnkdfphbglcnmaaGreatKoBnds
import Derived.Test.YtnkdfphbglcnmaaGreatKvBC
import Derived.Test.YtnkdfphbglcnmaaGreatGKv
import Derived.Test.YtnkdfphbglcnmaaGreatScSets
import Derived.Test.YtnkdfphbglcnmaaGreatNear
import Derived.Deep.RegionHeld3
namespace Go.Proofs.YtnkdfphbglcnmaaGreat
open Go.RowKit
theorem igetD2 {w : World} {B : Nat} {b o c : Nat} {l : List Int} (h : IIn w B (some ⟨b, o, none⟩) c l) : ∀ j, j < l.length → w.cell? ⟨b, o + j, none⟩ = some (.int .i64 (l.getD j 0)) := by
  intro j hj
  obtain ⟨b', o', e, _, hc⟩ := h.at_ hj
  obtain ⟨rfl, rfl, _⟩ := Addr.mk.inj (Option.some.inj e)
  rw [hc]
  simp [hj]
theorem symB_size {t : ByteArray} (h : symB t = true) : t.size ≤ 20 := by
  unfold symB symL at h
  simp only [Bool.and_eq_true, decide_eq_true_eq] at h
  have e : t.data.toList.length = t.size := rfl
  omega
theorem txtB_size {t : ByteArray} (h : txtB t = true) : t.size ≤ 20 := by
  unfold txtB txtL at h
  simp only [Bool.and_eq_true, decide_eq_true_eq] at h
  have e : t.data.toList.length = t.size := rfl
  omega
theorem empty_size {t : ByteArray} (h : t.toList.isEmpty = true) : t.size ≤ 20 := by
  have e : t.size = t.toList.length := (by rw [ByteArray.toList_eq]; rfl)
  rw [List.isEmpty_iff] at h
  rw [h] at e; simp only [List.length_nil] at e; omega
theorem nodeOk_size {k n : Int} {t : ByteArray} {m : Nat} (h : nodeOk k n t m = true) : t.size ≤ 20 := by
  unfold nodeOk at h
  repeat' split at h
  all_goals (try simp only [Bool.and_eq_true] at h)
  · exact empty_size h.2
  · exact symB_size h.2.1
  · exact empty_size h.2.1
  · exact empty_size h.2.1
  · exact txtB_size h.2.1
  · cases h
theorem D.bulk_atom {d : D} (hl : d.l.length = 0) (h : D.valid d = true) : d.bulk ≤ 20 := by
  obtain ⟨k, n, t, A, c, l⟩ := d
  simp only [D.l] at hl
  obtain rfl := List.length_eq_zero_iff.1 hl
  simp only [D.valid, Bool.and_eq_true] at h
  have := nodeOk_size h.1
  simp only [D.bulk, D.bulkL]; omega
theorem D.bulk_zero {d : D} (h : D.eqB d zeroD = true) : d.bulk ≤ 20 := by
  obtain ⟨k, n, t, A, c, l⟩ := d
  simp only [zeroD, D.eqB, Bool.and_eq_true] at h
  have e : t.size = t.toList.length := (by rw [ByteArray.toList_eq]; rfl)
  have h3 : t.toList = [] := by have := h.2.2.1; simpa using this
  have h4 : l = [] := by
    cases l with
    | nil => rfl
    | cons _ _ => simp [D.eqL] at h
  subst h4
  simp only [D.bulk, D.bulkL]
  rw [h3] at e; simp only [List.length_nil] at e; omega
theorem Tr.simple_bulk {y : Tr Ko} {g : List Int} (h : y.simple g = true) : y.bulk Ko.bulk ≤ 40 := by
  unfold Tr.simple Tr.validB at h
  simp only [Bool.and_eq_true] at h
  obtain ⟨⟨h1, _⟩, h2⟩ := h
  obtain ⟨_, _, h3⟩ := Tr.fitB_of h1
  rw [Tr.okP_eq] at h3
  simp only [Bool.and_eq_true] at h3
  obtain ⟨⟨hown, hnode⟩, _⟩ := h3
  have hk : y.a.k = 1 ∧ y.a.d.l.length = 0 ∨ y.a.k = 3 ∨ y.a.k = 2 := by
    unfold Ko.simpB Ko.atomB at h2
    simp only [Bool.or_eq_true, Bool.and_eq_true, beq_iff_eq] at h2
    rcases h2 with ⟨h2, h4⟩ | h2 | ⟨h2, _⟩
    · exact .inl ⟨h2, by omega⟩
    · exact .inr (.inl h2)
    · exact .inr (.inr h2)
  have hs : y.a.s.length = 0 := by
    unfold Ko.own at hown
    simp only [Bool.and_eq_true, Bool.or_eq_true, beq_iff_eq] at hown
    rcases hown.2.1 with h | h | h | h <;> omega
  have hl : y.l.length = 0 := by
    unfold Ko.node nKind at hnode
    rcases hk with ⟨hk, _⟩ | hk | hk <;> simp [hk] at hnode
    · simp [hnode.1]
    · simp [hnode.1]
    · simp [hnode]
  have hd : y.a.d.bulk ≤ 20 := by
    rcases hk with ⟨hk, hz⟩ | hk | hk
    · unfold Ko.node nKind at hnode
      simp [hk] at hnode
      have hv := hnode.2
      unfold Ko.dv D.isD at hv
      simp only [Bool.and_eq_true] at hv
      exact D.bulk_atom hz hv.2.2
    all_goals
      unfold Ko.own at hown
      simp only [Bool.and_eq_true, Bool.or_eq_true, beq_iff_eq] at hown
      rcases hown.2.2 with h | h
      · omega
      · exact D.bulk_zero h
  rw [Tr.bulk_eq, List.length_eq_zero_iff.1 hl]
  unfold Ko.bulk
  simp only [Tr.bulkL]; omega
mutual
theorem Tr.sub_bulk (n : Int) (y : Tr Ko) : ∀ d : Tr Ko, (Tr.sub n y d).bulk Ko.bulk ≤ d.bulk Ko.bulk + d.size * y.bulk Ko.bulk
  | .mk a A c l => by
    have h := Tr.subL_bulk n y l
    unfold Tr.sub
    split
    · simp only [Tr.bulk, Tr.size, Nat.add_mul]; omega
    · simp only [Tr.bulk, Tr.size, Nat.add_mul] at h ⊢; omega
theorem Tr.subL_bulk (n : Int) (y : Tr Ko) : ∀ l : List (Tr Ko), Tr.bulkL Ko.bulk (Tr.subL n y l) ≤ Tr.bulkL Ko.bulk l + Tr.sizeL l * y.bulk Ko.bulk
  | [] => by simp [Tr.subL, Tr.bulkL]
  | d :: r => by
    have h1 := Tr.sub_bulk n y d
    have h2 := Tr.subL_bulk n y r
    simp only [Tr.subL, Tr.bulkL, Tr.sizeL, Nat.add_mul]; omega
end
def Tr.canSub (d y : Tr Ko) : Bool := d.validB && (y.simple [] && (y.a.k != 2 || !(Tr.binders d).contains y.a.n))
def Tr.subC (n : Int) (y d : Tr Ko) : Tr Ko := if d.canSub y = true then Tr.sub n y d else d
theorem Tr.subC_bulk {n : Int} {y d : Tr Ko} (hd : d.bulk Ko.bulk ≤ 1048576) : (Tr.subC n y d).bulk Ko.bulk ≤ 1300000 := by
  unfold Tr.subC
  split
  · rename_i h
    unfold Tr.canSub at h
    simp only [Bool.and_eq_true] at h
    have h1 := Tr.sub_bulk n y d
    have h2 := Tr.simple_bulk h.2.1
    have hv := h.1
    unfold Tr.validB at hv
    simp only [Bool.and_eq_true] at hv
    have h3 := (Tr.fitB_of hv.1).1
    have h4 : d.size * y.bulk Ko.bulk ≤ 3000 * 40 := Nat.mul_le_mul (by omega) h2
    omega
  · omega
mutual
theorem Tr.binders_of_er : ∀ d e : Tr Ko, d.er Ko.er = e.er Ko.er → Tr.binders d = Tr.binders e
  | .mk a A c l, .mk b A' c' m => fun h => by
    simp only [Tr.er, Tr.mk.injEq] at h
    have h2 := Tr.bindersL_of_er l m h.2.2.2
    have h3 : a.s = b.s := by have := h.1; simp only [Ko.er, Ko.mk.injEq] at this; exact this.2.2.2.2.1
    simp only [Tr.binders, h2, h3]
theorem Tr.bindersL_of_er : ∀ l m : List (Tr Ko), Tr.erL Ko.er l = Tr.erL Ko.er m → Tr.bindersL l = Tr.bindersL m
  | [], [] => fun _ => rfl
  | [], _ :: _ => fun h => by simp [Tr.erL] at h
  | _ :: _, [] => fun h => by simp [Tr.erL] at h
  | d :: r, e :: s => fun h => by
    simp only [Tr.erL, List.cons.injEq] at h
    simp only [Tr.bindersL, Tr.binders_of_er d e h.1, Tr.bindersL_of_er r s h.2]
end
theorem Tr.canSub_er {d d0 y y0 : Tr Ko} (h : d.er Ko.er = d0.er Ko.er) (k : y.er Ko.er = y0.er Ko.er) : d.canSub y = d0.canSub y0 := by
  have hk : y.a.k = y0.a.k ∧ y.a.n = y0.a.n := by
    cases y; cases y0
    simp only [Tr.er, Tr.mk.injEq, Ko.er, Ko.mk.injEq] at k
    exact ⟨k.1.1, k.1.2.1⟩
  unfold Tr.canSub
  rw [Tr.simple_er k, Tr.binders_of_er d d0 h, hk.1, hk.2, Tr.valid_isCore, Tr.valid_isCore, Tr.isCore_er h, Tr.free_of_er d d0 h]
mutual
theorem Tr.sub_er (n : Int) {y y0 : Tr Ko} (k : y.er Ko.er = y0.er Ko.er) : ∀ d e : Tr Ko, d.er Ko.er = e.er Ko.er → (Tr.sub n y d).er Ko.er = (Tr.sub n y0 e).er Ko.er
  | .mk a A c l, .mk b A' c' m => fun h => by
    simp only [Tr.er, Tr.mk.injEq] at h
    have h2 := Tr.subL_er n k l m h.2.2.2
    have h3 : a.k = b.k ∧ a.n = b.n := by have := h.1; simp only [Ko.er, Ko.mk.injEq] at this; exact ⟨this.1, this.2.1⟩
    unfold Tr.sub
    rw [h3.1, h3.2]
    split
    · exact k
    · simp only [Tr.er, h.1, h2]
theorem Tr.subL_er (n : Int) {y y0 : Tr Ko} (k : y.er Ko.er = y0.er Ko.er) : ∀ l m : List (Tr Ko), Tr.erL Ko.er l = Tr.erL Ko.er m → Tr.erL Ko.er (Tr.subL n y l) = Tr.erL Ko.er (Tr.subL n y0 m)
  | [], [] => fun _ => rfl
  | [], _ :: _ => fun h => by simp [Tr.erL] at h
  | _ :: _, [] => fun h => by simp [Tr.erL] at h
  | d :: r, e :: s => fun h => by
    simp only [Tr.erL, List.cons.injEq] at h
    simp only [Tr.subL, Tr.erL, Tr.sub_er n k d e h.1, Tr.subL_er n k r s h.2]
end
theorem Tr.subC_er (n : Int) {d d0 y y0 : Tr Ko} (h : d.er Ko.er = d0.er Ko.er) (k : y.er Ko.er = y0.er Ko.er) : (Tr.subC n y d).er Ko.er = (Tr.subC n y0 d0).er Ko.er := by
  unfold Tr.subC
  rw [Tr.canSub_er h k]
  split
  · exact Tr.sub_er n k d d0 h
  · exact h
set_option maxHeartbeats 800000 in
theorem contI_any (A : Option Addr) (c : Nat) (l : List Int) (n : Int) (B : Nat) (w : World) (hin : IIn w B A c l) :
    Calls Tryz.prog 157 #[.slice A l.length c, .int .i64 n] w fun e w' => e = .returned (.bool (l.contains n)) ∧ Below w.heap.size w w' := by
  have hcap := hin.cap
  by_cases hl : l = []
  · subst hl
    exact (Tryz.slices_Contains_int_empty A c n w).mono fun e w' ⟨h1, h2⟩ => ⟨by rw [h1]; rfl, by rw [h2]; exact Below.refl _ _⟩
  · obtain ⟨b, o, rfl, hb, _⟩ := hin.mem hl
    exact (Tryz.slices_Contains_int b o l.length c l n w (Nat.le_refl _) (by omega) (igetD2 hin)).mono fun e w' ⟨h1, h2⟩ => ⟨by rw [h1, List.take_length], by rw [h2]; exact Below.refl _ _⟩
theorem specBnd0_any (d : Tr Ko) (B : Nat) (w : World) (hin : Ko.E.In w B d) (hB : B ≤ w.heap.size) (hb : d.bulk Ko.bulk ≤ 1500000) : Calls Tryz.prog 67 #[Ko.val d, .slice none 0 0] w (RetI (Tr.binders d) w) := by
  have h := specBnd_any d.size d B w.heap.size [] (.slice none 0 0) w (Nat.le_refl _) hin hB (Nat.le_refl _) (World.ownsRow_nil _ _ _ _) (by simp; omega)
  rw [Tr.walk_binders, List.nil_append] at h
  refine h.mono fun e w' hh => ?_
  obtain ⟨v', rfl, hg⟩ := hh
  obtain ⟨A, c, rfl, ho⟩ := own_of_row hg.1
  exact ⟨A, c, rfl, ho, hg.below (by simp) (by simp [Value.ownBlock]) (Nat.le_refl _)⟩
end Go.Proofs.YtnkdfphbglcnmaaGreat
namespace Go.Proofs.YtnkdfphbglcnmaaGreat
open Go.RowKit
set_option maxRecDepth 100000 in
set_option maxHeartbeats 8000000 in
theorem implCan_any (d y : Tr Ko) (B : Nat) (w : World) (hd : Ko.E.In w B d) (hy : Ko.E.In w B y) (hB : B ≤ w.heap.size) (hbk : d.bulk Ko.bulk ≤ 1500000) (hbky : y.bulk Ko.bulk ≤ 1500000) :
    Calls Tryz.prog 72 #[Ko.val d, Ko.val y] w fun e w' => e = .returned (.bool (d.canSub y)) ∧ Below w.heap.size w w' := by
  obtain ⟨W1, hW1⟩ : ∃ W1, W1 = w.alloc (.cells #[.int .i64 d.a.k, .int .i64 d.a.n, .slice d.a.sA d.a.s.length d.a.sC, .int .i64 d.a.d.k, .int .i64 d.a.d.n, .string d.a.d.t, .slice d.a.d.A d.a.d.l.length d.a.d.c, .slice d.A d.l.length d.c] 35) := ⟨_, rfl⟩
  obtain ⟨W2, hW2⟩ : ∃ W2, W2 = W1.alloc (.cells #[.int .i64 y.a.k, .int .i64 y.a.n, .slice y.a.sA y.a.s.length y.a.sC, .int .i64 y.a.d.k, .int .i64 y.a.d.n, .string y.a.d.t, .slice y.a.d.A y.a.d.l.length y.a.d.c, .slice y.A y.l.length y.c] 35) := ⟨_, rfl⟩
  have z1 : W1.heap.size = w.heap.size + 1 := by rw [hW1]; simp
  have z2 : W2.heap.size = w.heap.size + 1 + 1 := by rw [hW2]; simp [z1]
  have B1 : Below w.heap.size w W1 := by rw [hW1]; exact (Below.refl _ _).alloc (Nat.le_refl _) _
  have B2 : Below W1.heap.size W1 W2 := by rw [hW2]; exact (Below.refl _ _).alloc (Nat.le_refl _) _
  have X0 : Ko.Box W1 w.heap.size d := by rw [hW1]; exact Ko.Box.new _ _ _
  have X0 := X0.below B2 (by omega)
  have Y0 : Ko.Box W2 (w.heap.size + 1) y := by rw [hW2, ← z1]; exact Ko.Box.new _ _ _
  have b0 : Below w.heap.size w W2 := B1.trans (B2.mono (by omega))
  have zb : w.heap.size + 2 ≤ W2.heap.size := by omega
  have lx : w.heap.size < W2.heap.size := by omega
  have ly : w.heap.size + 1 < W2.heap.size := by omega
  have lB : B ≤ W2.heap.size := by omega
  have hxW : ∀ z : World, Below W2.heap.size W2 z → Ko.E.In z B d := fun z hz => Elem.In.below hd ((b0.trans (hz.mono (by omega))).mono hB)
  have hyW : ∀ z : World, Below W2.heap.size W2 z → Ko.E.In z B y := fun z hz => Elem.In.below hy ((b0.trans (hz.mono (by omega))).mono hB)
  have nil : ∀ z : World, IIn z B none 0 ([] : List Int) := fun z => (IOwn.nil_ (lo := B) (hi := B) (w := z) (by omega) (fun _ => rfl)).inn
  cases q1 : d.validB
  · have HF : Hid (d.canSub y = false) := by show _ = _; unfold Tr.canSub; rw [q1]; rfl
    have HC1 : Hid (∀ z : Near W2, Calls Tryz.prog 83 #[.agg #[.int .i64 d.a.k, .int .i64 d.a.n, .slice d.a.sA d.a.s.length d.a.sC, .int .i64 d.a.d.k, .int .i64 d.a.d.n, .string d.a.d.t, .slice d.a.d.A d.a.d.l.length d.a.d.c, .slice d.A d.l.length d.c]] z.at_ fun e w' => e = .returned (.bool false) ∧ Below z.at_.heap.size z.at_ w') := fun z => by
      have h := valid_any d B z.at_ (hxW _ z.below) (Nat.le_trans lB z.size) hbk
      rw [q1] at h; exact h
    unfold Ko.val
    have d0 : ∀ z : Near W2, z.at_.cell? ⟨w.heap.size, 0, none⟩ = some (.int .i64 d.a.k) := fun z => z.cell 0 X0.c0 lx
    have d1 : ∀ z : Near W2, z.at_.cell? ⟨w.heap.size, 1, none⟩ = some (.int .i64 d.a.n) := fun z => z.cell 1 X0.c1 lx
    have d2 : ∀ z : Near W2, z.at_.cell? ⟨w.heap.size, 2, none⟩ = some (.slice d.a.sA d.a.s.length d.a.sC) := fun z => z.cell 2 X0.c2 lx
    have d3 : ∀ z : Near W2, z.at_.cell? ⟨w.heap.size, 3, none⟩ = some (.int .i64 d.a.d.k) := fun z => z.cell 3 X0.c3 lx
    have d4 : ∀ z : Near W2, z.at_.cell? ⟨w.heap.size, 4, none⟩ = some (.int .i64 d.a.d.n) := fun z => z.cell 4 X0.c4 lx
    have d5 : ∀ z : Near W2, z.at_.cell? ⟨w.heap.size, 5, none⟩ = some (.string d.a.d.t) := fun z => z.cell 5 X0.c5 lx
    have d6 : ∀ z : Near W2, z.at_.cell? ⟨w.heap.size, 6, none⟩ = some (.slice d.a.d.A d.a.d.l.length d.a.d.c) := fun z => z.cell 6 X0.c6 lx
    have d7 : ∀ z : Near W2, z.at_.cell? ⟨w.heap.size, 7, none⟩ = some (.slice d.A d.l.length d.c) := fun z => z.cell 7 X0.c7 lx
    have e0 : ∀ z : Near W2, z.at_.cell? ⟨w.heap.size + 1, 0, none⟩ = some (.int .i64 y.a.k) := fun z => z.cell 0 Y0.c0 ly
    have e1 : ∀ z : Near W2, z.at_.cell? ⟨w.heap.size + 1, 1, none⟩ = some (.int .i64 y.a.n) := fun z => z.cell 1 Y0.c1 ly
    have e2 : ∀ z : Near W2, z.at_.cell? ⟨w.heap.size + 1, 2, none⟩ = some (.slice y.a.sA y.a.s.length y.a.sC) := fun z => z.cell 2 Y0.c2 ly
    have e3 : ∀ z : Near W2, z.at_.cell? ⟨w.heap.size + 1, 3, none⟩ = some (.int .i64 y.a.d.k) := fun z => z.cell 3 Y0.c3 ly
    have e4 : ∀ z : Near W2, z.at_.cell? ⟨w.heap.size + 1, 4, none⟩ = some (.int .i64 y.a.d.n) := fun z => z.cell 4 Y0.c4 ly
    have e5 : ∀ z : Near W2, z.at_.cell? ⟨w.heap.size + 1, 5, none⟩ = some (.string y.a.d.t) := fun z => z.cell 5 Y0.c5 ly
    have e6 : ∀ z : Near W2, z.at_.cell? ⟨w.heap.size + 1, 6, none⟩ = some (.slice y.a.d.A y.a.d.l.length y.a.d.c) := fun z => z.cell 6 Y0.c6 ly
    have e7 : ∀ z : Near W2, z.at_.cell? ⟨w.heap.size + 1, 7, none⟩ = some (.slice y.A y.l.length y.c) := fun z => z.cell 7 Y0.c7 ly
    clear q1
    go_enter Tryz.func72, Tryz.ntmps72
    go_upto_region 1 with fail
    rw [← hW1, ← hW2]
    clear hW1 B1 hW2 B2 z1 z2
    refine wp_region_near (by kernel_rfl) (by kernel_rfl) ?_
    repeat (go_big_quiet_step (first | (go_at_call 83; with_reducible exact Calls.near (HC1.out _))))
    refine wpQuiet_nil ?_
    intro _ hw1
    obtain ⟨nx, hw2⟩ := hw1
    subst hw2
    go_wp2_with fail
    go_ret
    exact ⟨ret_bool HF.out.symm, b0.trans (nx.below.mono (by omega))⟩
  cases q2 : y.simple []
  · have HF : Hid (d.canSub y = false) := by show _ = _; unfold Tr.canSub; rw [q1, q2]; rfl
    have HC1 : Hid (∀ z : Near W2, Calls Tryz.prog 83 #[.agg #[.int .i64 d.a.k, .int .i64 d.a.n, .slice d.a.sA d.a.s.length d.a.sC, .int .i64 d.a.d.k, .int .i64 d.a.d.n, .string d.a.d.t, .slice d.a.d.A d.a.d.l.length d.a.d.c, .slice d.A d.l.length d.c]] z.at_ fun e w' => e = .returned (.bool true) ∧ Below z.at_.heap.size z.at_ w') := fun z => by
      have h := valid_any d B z.at_ (hxW _ z.below) (Nat.le_trans lB z.size) hbk
      rw [q1] at h; exact h
    have HC2 : Hid (∀ z : Near W2, Calls Tryz.prog 156 #[.agg #[.int .i64 y.a.k, .int .i64 y.a.n, .slice y.a.sA y.a.s.length y.a.sC, .int .i64 y.a.d.k, .int .i64 y.a.d.n, .string y.a.d.t, .slice y.a.d.A y.a.d.l.length y.a.d.c, .slice y.A y.l.length y.c], .slice none 0 0] z.at_ fun e w' => e = .returned (.bool false) ∧ Below z.at_.heap.size z.at_ w') := fun z => by
      have h := implIsS_any y none 0 [] B z.at_ (hyW _ z.below) (nil _) (Nat.le_trans lB z.size) hbky (by simp) (by simp)
      rw [q2] at h; exact h
    unfold Ko.val
    have d0 : ∀ z : Near W2, z.at_.cell? ⟨w.heap.size, 0, none⟩ = some (.int .i64 d.a.k) := fun z => z.cell 0 X0.c0 lx
    have d1 : ∀ z : Near W2, z.at_.cell? ⟨w.heap.size, 1, none⟩ = some (.int .i64 d.a.n) := fun z => z.cell 1 X0.c1 lx
    have d2 : ∀ z : Near W2, z.at_.cell? ⟨w.heap.size, 2, none⟩ = some (.slice d.a.sA d.a.s.length d.a.sC) := fun z => z.cell 2 X0.c2 lx
    have d3 : ∀ z : Near W2, z.at_.cell? ⟨w.heap.size, 3, none⟩ = some (.int .i64 d.a.d.k) := fun z => z.cell 3 X0.c3 lx
    have d4 : ∀ z : Near W2, z.at_.cell? ⟨w.heap.size, 4, none⟩ = some (.int .i64 d.a.d.n) := fun z => z.cell 4 X0.c4 lx
    have d5 : ∀ z : Near W2, z.at_.cell? ⟨w.heap.size, 5, none⟩ = some (.string d.a.d.t) := fun z => z.cell 5 X0.c5 lx
    have d6 : ∀ z : Near W2, z.at_.cell? ⟨w.heap.size, 6, none⟩ = some (.slice d.a.d.A d.a.d.l.length d.a.d.c) := fun z => z.cell 6 X0.c6 lx
    have d7 : ∀ z : Near W2, z.at_.cell? ⟨w.heap.size, 7, none⟩ = some (.slice d.A d.l.length d.c) := fun z => z.cell 7 X0.c7 lx
    have e0 : ∀ z : Near W2, z.at_.cell? ⟨w.heap.size + 1, 0, none⟩ = some (.int .i64 y.a.k) := fun z => z.cell 0 Y0.c0 ly
    have e1 : ∀ z : Near W2, z.at_.cell? ⟨w.heap.size + 1, 1, none⟩ = some (.int .i64 y.a.n) := fun z => z.cell 1 Y0.c1 ly
    have e2 : ∀ z : Near W2, z.at_.cell? ⟨w.heap.size + 1, 2, none⟩ = some (.slice y.a.sA y.a.s.length y.a.sC) := fun z => z.cell 2 Y0.c2 ly
    have e3 : ∀ z : Near W2, z.at_.cell? ⟨w.heap.size + 1, 3, none⟩ = some (.int .i64 y.a.d.k) := fun z => z.cell 3 Y0.c3 ly
    have e4 : ∀ z : Near W2, z.at_.cell? ⟨w.heap.size + 1, 4, none⟩ = some (.int .i64 y.a.d.n) := fun z => z.cell 4 Y0.c4 ly
    have e5 : ∀ z : Near W2, z.at_.cell? ⟨w.heap.size + 1, 5, none⟩ = some (.string y.a.d.t) := fun z => z.cell 5 Y0.c5 ly
    have e6 : ∀ z : Near W2, z.at_.cell? ⟨w.heap.size + 1, 6, none⟩ = some (.slice y.a.d.A y.a.d.l.length y.a.d.c) := fun z => z.cell 6 Y0.c6 ly
    have e7 : ∀ z : Near W2, z.at_.cell? ⟨w.heap.size + 1, 7, none⟩ = some (.slice y.A y.l.length y.c) := fun z => z.cell 7 Y0.c7 ly
    clear q1 q2
    go_enter Tryz.func72, Tryz.ntmps72
    go_upto_region 1 with fail
    rw [← hW1, ← hW2]
    clear hW1 B1 hW2 B2 z1 z2
    refine wp_region_near (by kernel_rfl) (by kernel_rfl) ?_
    repeat (go_big_quiet_step (first | (go_at_call 83; with_reducible exact Calls.near (HC1.out _)) | (go_at_call 156; with_reducible exact Calls.near (HC2.out _))))
    refine wpQuiet_nil ?_
    intro _ hw1
    obtain ⟨nx, hw2⟩ := hw1
    subst hw2
    go_wp2_with fail
    go_ret
    exact ⟨ret_bool HF.out.symm, b0.trans (nx.below.mono (by omega))⟩
  cases q3 : (y.a.k == 2)
  · have q4 : (y.a.k != 2) = true := by unfold bne; rw [q3]; rfl
    have HF : Hid (d.canSub y = true) := by show _ = _; unfold Tr.canSub; rw [q1, q2, q4]; rfl
    have HC1 : Hid (∀ z : Near W2, Calls Tryz.prog 83 #[.agg #[.int .i64 d.a.k, .int .i64 d.a.n, .slice d.a.sA d.a.s.length d.a.sC, .int .i64 d.a.d.k, .int .i64 d.a.d.n, .string d.a.d.t, .slice d.a.d.A d.a.d.l.length d.a.d.c, .slice d.A d.l.length d.c]] z.at_ fun e w' => e = .returned (.bool true) ∧ Below z.at_.heap.size z.at_ w') := fun z => by
      have h := valid_any d B z.at_ (hxW _ z.below) (Nat.le_trans lB z.size) hbk
      rw [q1] at h; exact h
    have HC2 : Hid (∀ z : Near W2, Calls Tryz.prog 156 #[.agg #[.int .i64 y.a.k, .int .i64 y.a.n, .slice y.a.sA y.a.s.length y.a.sC, .int .i64 y.a.d.k, .int .i64 y.a.d.n, .string y.a.d.t, .slice y.a.d.A y.a.d.l.length y.a.d.c, .slice y.A y.l.length y.c], .slice none 0 0] z.at_ fun e w' => e = .returned (.bool true) ∧ Below z.at_.heap.size z.at_ w') := fun z => by
      have h := implIsS_any y none 0 [] B z.at_ (hyW _ z.below) (nil _) (Nat.le_trans lB z.size) hbky (by simp) (by simp)
      rw [q2] at h; exact h
    unfold Ko.val
    have d0 : ∀ z : Near W2, z.at_.cell? ⟨w.heap.size, 0, none⟩ = some (.int .i64 d.a.k) := fun z => z.cell 0 X0.c0 lx
    have d1 : ∀ z : Near W2, z.at_.cell? ⟨w.heap.size, 1, none⟩ = some (.int .i64 d.a.n) := fun z => z.cell 1 X0.c1 lx
    have d2 : ∀ z : Near W2, z.at_.cell? ⟨w.heap.size, 2, none⟩ = some (.slice d.a.sA d.a.s.length d.a.sC) := fun z => z.cell 2 X0.c2 lx
    have d3 : ∀ z : Near W2, z.at_.cell? ⟨w.heap.size, 3, none⟩ = some (.int .i64 d.a.d.k) := fun z => z.cell 3 X0.c3 lx
    have d4 : ∀ z : Near W2, z.at_.cell? ⟨w.heap.size, 4, none⟩ = some (.int .i64 d.a.d.n) := fun z => z.cell 4 X0.c4 lx
    have d5 : ∀ z : Near W2, z.at_.cell? ⟨w.heap.size, 5, none⟩ = some (.string d.a.d.t) := fun z => z.cell 5 X0.c5 lx
    have d6 : ∀ z : Near W2, z.at_.cell? ⟨w.heap.size, 6, none⟩ = some (.slice d.a.d.A d.a.d.l.length d.a.d.c) := fun z => z.cell 6 X0.c6 lx
    have d7 : ∀ z : Near W2, z.at_.cell? ⟨w.heap.size, 7, none⟩ = some (.slice d.A d.l.length d.c) := fun z => z.cell 7 X0.c7 lx
    have e0 : ∀ z : Near W2, z.at_.cell? ⟨w.heap.size + 1, 0, none⟩ = some (.int .i64 y.a.k) := fun z => z.cell 0 Y0.c0 ly
    have e1 : ∀ z : Near W2, z.at_.cell? ⟨w.heap.size + 1, 1, none⟩ = some (.int .i64 y.a.n) := fun z => z.cell 1 Y0.c1 ly
    have e2 : ∀ z : Near W2, z.at_.cell? ⟨w.heap.size + 1, 2, none⟩ = some (.slice y.a.sA y.a.s.length y.a.sC) := fun z => z.cell 2 Y0.c2 ly
    have e3 : ∀ z : Near W2, z.at_.cell? ⟨w.heap.size + 1, 3, none⟩ = some (.int .i64 y.a.d.k) := fun z => z.cell 3 Y0.c3 ly
    have e4 : ∀ z : Near W2, z.at_.cell? ⟨w.heap.size + 1, 4, none⟩ = some (.int .i64 y.a.d.n) := fun z => z.cell 4 Y0.c4 ly
    have e5 : ∀ z : Near W2, z.at_.cell? ⟨w.heap.size + 1, 5, none⟩ = some (.string y.a.d.t) := fun z => z.cell 5 Y0.c5 ly
    have e6 : ∀ z : Near W2, z.at_.cell? ⟨w.heap.size + 1, 6, none⟩ = some (.slice y.a.d.A y.a.d.l.length y.a.d.c) := fun z => z.cell 6 Y0.c6 ly
    have e7 : ∀ z : Near W2, z.at_.cell? ⟨w.heap.size + 1, 7, none⟩ = some (.slice y.A y.l.length y.c) := fun z => z.cell 7 Y0.c7 ly
    clear q1 q2
    go_enter Tryz.func72, Tryz.ntmps72
    go_upto_region 1 with fail
    rw [← hW1, ← hW2]
    clear hW1 B1 hW2 B2 z1 z2
    refine wp_region_near (by kernel_rfl) (by kernel_rfl) ?_
    repeat (go_big_quiet_step (first | (go_at_call 83; with_reducible exact Calls.near (HC1.out _)) | (go_at_call 156; with_reducible exact Calls.near (HC2.out _))))
    refine wpQuiet_nil ?_
    intro _ hw1
    obtain ⟨nx, hw2⟩ := hw1
    subst hw2
    go_wp2_with fail
    go_ret
    exact ⟨ret_bool HF.out.symm, b0.trans (nx.below.mono (by omega))⟩
  · have q4 : (y.a.k != 2) = false := by unfold bne; rw [q3]; rfl
    have q6 := q3
    cases q5 : (Tr.binders d).contains y.a.n
    · have HF : Hid (d.canSub y = true) := by show _ = _; unfold Tr.canSub; rw [q1, q2, q4, q5]; rfl
      have Q1 := Lib.hid q1
      have Q2 := Lib.hid q2
      have Q5 := Lib.hid q5
      clear q1 q2 q5
      obtain ⟨p0, p1, p2, p3, p4, p5, p6, p7⟩ := id X0
      obtain ⟨u0, u1, u2, u3, u4, u5, u6, u7⟩ := id Y0
      have a0 := p0
      have c0 := u0
      have a1 := p1
      have c1 := u1
      have a2 := p2
      have c2 := u2
      have a3 := p3
      have c3 := u3
      have a4 := p4
      have c4 := u4
      have a5 := p5
      have c5 := u5
      have a6 := p6
      have c6 := u6
      have a7 := p7
      have c7 := u7
      unfold Ko.val
      have tok0 : True := trivial
      have tok1 : True := trivial
      have tok2 : True := trivial
      have tok3 : True := trivial
      go_enter Tryz.func72, Tryz.ntmps72
      go_upto_region 1 with fail
      rw [← hW1, ← hW2]
      clear hW1 B1 hW2 B2 z1 z2
      go_region_held3 (fun w' => w'.cell? ⟨w.heap.size, 0, none⟩ = some (.int .i64 d.a.k) ∧ w'.cell? ⟨w.heap.size, 1, none⟩ = some (.int .i64 d.a.n) ∧ w'.cell? ⟨w.heap.size, 2, none⟩ = some (.slice d.a.sA d.a.s.length d.a.sC) ∧ w'.cell? ⟨w.heap.size, 3, none⟩ = some (.int .i64 d.a.d.k) ∧ w'.cell? ⟨w.heap.size, 4, none⟩ = some (.int .i64 d.a.d.n) ∧ w'.cell? ⟨w.heap.size, 5, none⟩ = some (.string d.a.d.t) ∧ w'.cell? ⟨w.heap.size, 6, none⟩ = some (.slice d.a.d.A d.a.d.l.length d.a.d.c) ∧ w'.cell? ⟨w.heap.size, 7, none⟩ = some (.slice d.A d.l.length d.c) ∧ w'.cell? ⟨w.heap.size + 1, 0, none⟩ = some (.int .i64 y.a.k) ∧ w'.cell? ⟨w.heap.size + 1, 1, none⟩ = some (.int .i64 y.a.n) ∧ w'.cell? ⟨w.heap.size + 1, 2, none⟩ = some (.slice y.a.sA y.a.s.length y.a.sC) ∧ w'.cell? ⟨w.heap.size + 1, 3, none⟩ = some (.int .i64 y.a.d.k) ∧ w'.cell? ⟨w.heap.size + 1, 4, none⟩ = some (.int .i64 y.a.d.n) ∧ w'.cell? ⟨w.heap.size + 1, 5, none⟩ = some (.string y.a.d.t) ∧ w'.cell? ⟨w.heap.size + 1, 6, none⟩ = some (.slice y.a.d.A y.a.d.l.length y.a.d.c) ∧ w'.cell? ⟨w.heap.size + 1, 7, none⟩ = some (.slice y.A y.l.length y.c)) (go_keep) (first
        | (go_simp; go_at_call 83; have _t := tok0; have hcon := valid_any d B W2.drew (Elem.In.drew (hxW W2 (Below.refl _ _))) (show B ≤ W2.heap.size by omega) hbk; rw [Q1.out] at hcon; unfold Ko.val at hcon; (with_reducible refine hcon.mono ?_); clear hcon tok0; rintro e w1 ⟨rfl, hb1⟩; have hb1 : Below W2.heap.size W2 w1 := below_undrew hb1; have y1 := hb1.size; have a0 := (hb1.cell (p := ⟨w.heap.size, 0, none⟩) lx).trans p0; have a1 := (hb1.cell (p := ⟨w.heap.size, 1, none⟩) lx).trans p1; have a2 := (hb1.cell (p := ⟨w.heap.size, 2, none⟩) lx).trans p2; have a3 := (hb1.cell (p := ⟨w.heap.size, 3, none⟩) lx).trans p3; have a4 := (hb1.cell (p := ⟨w.heap.size, 4, none⟩) lx).trans p4; have a5 := (hb1.cell (p := ⟨w.heap.size, 5, none⟩) lx).trans p5; have a6 := (hb1.cell (p := ⟨w.heap.size, 6, none⟩) lx).trans p6; have a7 := (hb1.cell (p := ⟨w.heap.size, 7, none⟩) lx).trans p7; have c0 := (hb1.cell (p := ⟨w.heap.size + 1, 0, none⟩) ly).trans u0; have c1 := (hb1.cell (p := ⟨w.heap.size + 1, 1, none⟩) ly).trans u1; have c2 := (hb1.cell (p := ⟨w.heap.size + 1, 2, none⟩) ly).trans u2; have c3 := (hb1.cell (p := ⟨w.heap.size + 1, 3, none⟩) ly).trans u3; have c4 := (hb1.cell (p := ⟨w.heap.size + 1, 4, none⟩) ly).trans u4; have c5 := (hb1.cell (p := ⟨w.heap.size + 1, 5, none⟩) ly).trans u5; have c6 := (hb1.cell (p := ⟨w.heap.size + 1, 6, none⟩) ly).trans u6; have c7 := (hb1.cell (p := ⟨w.heap.size + 1, 7, none⟩) ly).trans u7)
        | (go_simp; go_at_call 156; have _t := tok1; have hcon := implIsS_any y none 0 [] B w1 (hyW w1 hb1) (nil _) (by omega) hbky (by simp) (by simp); rw [Q2.out] at hcon; unfold Ko.val at hcon; simp only [List.length_nil] at hcon; (with_reducible refine hcon.mono ?_); clear hcon tok1; rintro e w2 ⟨rfl, hk2⟩; have hb2 := hb1.trans (hk2.mono y1); have y2 := hb2.size; have a0 := (hb2.cell (p := ⟨w.heap.size, 0, none⟩) lx).trans p0; have a1 := (hb2.cell (p := ⟨w.heap.size, 1, none⟩) lx).trans p1; have a2 := (hb2.cell (p := ⟨w.heap.size, 2, none⟩) lx).trans p2; have a3 := (hb2.cell (p := ⟨w.heap.size, 3, none⟩) lx).trans p3; have a4 := (hb2.cell (p := ⟨w.heap.size, 4, none⟩) lx).trans p4; have a5 := (hb2.cell (p := ⟨w.heap.size, 5, none⟩) lx).trans p5; have a6 := (hb2.cell (p := ⟨w.heap.size, 6, none⟩) lx).trans p6; have a7 := (hb2.cell (p := ⟨w.heap.size, 7, none⟩) lx).trans p7; have c0 := (hb2.cell (p := ⟨w.heap.size + 1, 0, none⟩) ly).trans u0; have c1 := (hb2.cell (p := ⟨w.heap.size + 1, 1, none⟩) ly).trans u1; have c2 := (hb2.cell (p := ⟨w.heap.size + 1, 2, none⟩) ly).trans u2; have c3 := (hb2.cell (p := ⟨w.heap.size + 1, 3, none⟩) ly).trans u3; have c4 := (hb2.cell (p := ⟨w.heap.size + 1, 4, none⟩) ly).trans u4; have c5 := (hb2.cell (p := ⟨w.heap.size + 1, 5, none⟩) ly).trans u5; have c6 := (hb2.cell (p := ⟨w.heap.size + 1, 6, none⟩) ly).trans u6; have c7 := (hb2.cell (p := ⟨w.heap.size + 1, 7, none⟩) ly).trans u7)
        | (go_simp; go_at_call 149; have _t := tok2; have hcon := implBnd_any d B w2 (hxW w2 hb2) (by omega) hbk; rw [Tr.walk_binders, List.nil_append] at hcon; unfold Ko.val at hcon; (with_reducible refine hcon.mono ?_); clear hcon tok2; rintro e w3 ⟨A1, cc1, rfl, o1, hk3⟩; have hb3 := hb2.trans (hk3.mono y2); have y3 := hb3.size; have a0 := (hb3.cell (p := ⟨w.heap.size, 0, none⟩) lx).trans p0; have a1 := (hb3.cell (p := ⟨w.heap.size, 1, none⟩) lx).trans p1; have a2 := (hb3.cell (p := ⟨w.heap.size, 2, none⟩) lx).trans p2; have a3 := (hb3.cell (p := ⟨w.heap.size, 3, none⟩) lx).trans p3; have a4 := (hb3.cell (p := ⟨w.heap.size, 4, none⟩) lx).trans p4; have a5 := (hb3.cell (p := ⟨w.heap.size, 5, none⟩) lx).trans p5; have a6 := (hb3.cell (p := ⟨w.heap.size, 6, none⟩) lx).trans p6; have a7 := (hb3.cell (p := ⟨w.heap.size, 7, none⟩) lx).trans p7; have c0 := (hb3.cell (p := ⟨w.heap.size + 1, 0, none⟩) ly).trans u0; have c1 := (hb3.cell (p := ⟨w.heap.size + 1, 1, none⟩) ly).trans u1; have c2 := (hb3.cell (p := ⟨w.heap.size + 1, 2, none⟩) ly).trans u2; have c3 := (hb3.cell (p := ⟨w.heap.size + 1, 3, none⟩) ly).trans u3; have c4 := (hb3.cell (p := ⟨w.heap.size + 1, 4, none⟩) ly).trans u4; have c5 := (hb3.cell (p := ⟨w.heap.size + 1, 5, none⟩) ly).trans u5; have c6 := (hb3.cell (p := ⟨w.heap.size + 1, 6, none⟩) ly).trans u6; have c7 := (hb3.cell (p := ⟨w.heap.size + 1, 7, none⟩) ly).trans u7)
        | (go_simp; go_at_call 157; have _t := tok3; have hcon := contI_any A1 cc1 (Tr.binders d) y.a.n w3.heap.size w3 o1.inn; rw [Q5.out] at hcon; (with_reducible refine hcon.mono ?_); clear hcon tok3; rintro e w4 ⟨rfl, hk4⟩; have hb4 := hb3.trans (hk4.mono y3); have y4 := hb4.size; have a0 := (hb4.cell (p := ⟨w.heap.size, 0, none⟩) lx).trans p0; have a1 := (hb4.cell (p := ⟨w.heap.size, 1, none⟩) lx).trans p1; have a2 := (hb4.cell (p := ⟨w.heap.size, 2, none⟩) lx).trans p2; have a3 := (hb4.cell (p := ⟨w.heap.size, 3, none⟩) lx).trans p3; have a4 := (hb4.cell (p := ⟨w.heap.size, 4, none⟩) lx).trans p4; have a5 := (hb4.cell (p := ⟨w.heap.size, 5, none⟩) lx).trans p5; have a6 := (hb4.cell (p := ⟨w.heap.size, 6, none⟩) lx).trans p6; have a7 := (hb4.cell (p := ⟨w.heap.size, 7, none⟩) lx).trans p7; have c0 := (hb4.cell (p := ⟨w.heap.size + 1, 0, none⟩) ly).trans u0; have c1 := (hb4.cell (p := ⟨w.heap.size + 1, 1, none⟩) ly).trans u1; have c2 := (hb4.cell (p := ⟨w.heap.size + 1, 2, none⟩) ly).trans u2; have c3 := (hb4.cell (p := ⟨w.heap.size + 1, 3, none⟩) ly).trans u3; have c4 := (hb4.cell (p := ⟨w.heap.size + 1, 4, none⟩) ly).trans u4; have c5 := (hb4.cell (p := ⟨w.heap.size + 1, 5, none⟩) ly).trans u5; have c6 := (hb4.cell (p := ⟨w.heap.size + 1, 6, none⟩) ly).trans u6; have c7 := (hb4.cell (p := ⟨w.heap.size + 1, 7, none⟩) ly).trans u7)
        | fail)
      all_goals
        go_wp2_with fail
        go_ret
        exact ⟨ret_bool (by rw [HF.out]), b0.trans (hb4.mono (by omega))⟩
    · have HF : Hid (d.canSub y = false) := by show _ = _; unfold Tr.canSub; rw [q1, q2, q4, q5]; rfl
      have Q1 := Lib.hid q1
      have Q2 := Lib.hid q2
      have Q5 := Lib.hid q5
      clear q1 q2 q5
      obtain ⟨p0, p1, p2, p3, p4, p5, p6, p7⟩ := id X0
      obtain ⟨u0, u1, u2, u3, u4, u5, u6, u7⟩ := id Y0
      have a0 := p0
      have c0 := u0
      have a1 := p1
      have c1 := u1
      have a2 := p2
      have c2 := u2
      have a3 := p3
      have c3 := u3
      have a4 := p4
      have c4 := u4
      have a5 := p5
      have c5 := u5
      have a6 := p6
      have c6 := u6
      have a7 := p7
      have c7 := u7
      unfold Ko.val
      have tok0 : True := trivial
      have tok1 : True := trivial
      have tok2 : True := trivial
      have tok3 : True := trivial
      go_enter Tryz.func72, Tryz.ntmps72
      go_upto_region 1 with fail
      rw [← hW1, ← hW2]
      clear hW1 B1 hW2 B2 z1 z2
      go_region_held3 (fun w' => w'.cell? ⟨w.heap.size, 0, none⟩ = some (.int .i64 d.a.k) ∧ w'.cell? ⟨w.heap.size, 1, none⟩ = some (.int .i64 d.a.n) ∧ w'.cell? ⟨w.heap.size, 2, none⟩ = some (.slice d.a.sA d.a.s.length d.a.sC) ∧ w'.cell? ⟨w.heap.size, 3, none⟩ = some (.int .i64 d.a.d.k) ∧ w'.cell? ⟨w.heap.size, 4, none⟩ = some (.int .i64 d.a.d.n) ∧ w'.cell? ⟨w.heap.size, 5, none⟩ = some (.string d.a.d.t) ∧ w'.cell? ⟨w.heap.size, 6, none⟩ = some (.slice d.a.d.A d.a.d.l.length d.a.d.c) ∧ w'.cell? ⟨w.heap.size, 7, none⟩ = some (.slice d.A d.l.length d.c) ∧ w'.cell? ⟨w.heap.size + 1, 0, none⟩ = some (.int .i64 y.a.k) ∧ w'.cell? ⟨w.heap.size + 1, 1, none⟩ = some (.int .i64 y.a.n) ∧ w'.cell? ⟨w.heap.size + 1, 2, none⟩ = some (.slice y.a.sA y.a.s.length y.a.sC) ∧ w'.cell? ⟨w.heap.size + 1, 3, none⟩ = some (.int .i64 y.a.d.k) ∧ w'.cell? ⟨w.heap.size + 1, 4, none⟩ = some (.int .i64 y.a.d.n) ∧ w'.cell? ⟨w.heap.size + 1, 5, none⟩ = some (.string y.a.d.t) ∧ w'.cell? ⟨w.heap.size + 1, 6, none⟩ = some (.slice y.a.d.A y.a.d.l.length y.a.d.c) ∧ w'.cell? ⟨w.heap.size + 1, 7, none⟩ = some (.slice y.A y.l.length y.c)) (go_keep) (first
        | (go_simp; go_at_call 83; have _t := tok0; have hcon := valid_any d B W2.drew (Elem.In.drew (hxW W2 (Below.refl _ _))) (show B ≤ W2.heap.size by omega) hbk; rw [Q1.out] at hcon; unfold Ko.val at hcon; (with_reducible refine hcon.mono ?_); clear hcon tok0; rintro e w1 ⟨rfl, hb1⟩; have hb1 : Below W2.heap.size W2 w1 := below_undrew hb1; have y1 := hb1.size; have a0 := (hb1.cell (p := ⟨w.heap.size, 0, none⟩) lx).trans p0; have a1 := (hb1.cell (p := ⟨w.heap.size, 1, none⟩) lx).trans p1; have a2 := (hb1.cell (p := ⟨w.heap.size, 2, none⟩) lx).trans p2; have a3 := (hb1.cell (p := ⟨w.heap.size, 3, none⟩) lx).trans p3; have a4 := (hb1.cell (p := ⟨w.heap.size, 4, none⟩) lx).trans p4; have a5 := (hb1.cell (p := ⟨w.heap.size, 5, none⟩) lx).trans p5; have a6 := (hb1.cell (p := ⟨w.heap.size, 6, none⟩) lx).trans p6; have a7 := (hb1.cell (p := ⟨w.heap.size, 7, none⟩) lx).trans p7; have c0 := (hb1.cell (p := ⟨w.heap.size + 1, 0, none⟩) ly).trans u0; have c1 := (hb1.cell (p := ⟨w.heap.size + 1, 1, none⟩) ly).trans u1; have c2 := (hb1.cell (p := ⟨w.heap.size + 1, 2, none⟩) ly).trans u2; have c3 := (hb1.cell (p := ⟨w.heap.size + 1, 3, none⟩) ly).trans u3; have c4 := (hb1.cell (p := ⟨w.heap.size + 1, 4, none⟩) ly).trans u4; have c5 := (hb1.cell (p := ⟨w.heap.size + 1, 5, none⟩) ly).trans u5; have c6 := (hb1.cell (p := ⟨w.heap.size + 1, 6, none⟩) ly).trans u6; have c7 := (hb1.cell (p := ⟨w.heap.size + 1, 7, none⟩) ly).trans u7)
        | (go_simp; go_at_call 156; have _t := tok1; have hcon := implIsS_any y none 0 [] B w1 (hyW w1 hb1) (nil _) (by omega) hbky (by simp) (by simp); rw [Q2.out] at hcon; unfold Ko.val at hcon; simp only [List.length_nil] at hcon; (with_reducible refine hcon.mono ?_); clear hcon tok1; rintro e w2 ⟨rfl, hk2⟩; have hb2 := hb1.trans (hk2.mono y1); have y2 := hb2.size; have a0 := (hb2.cell (p := ⟨w.heap.size, 0, none⟩) lx).trans p0; have a1 := (hb2.cell (p := ⟨w.heap.size, 1, none⟩) lx).trans p1; have a2 := (hb2.cell (p := ⟨w.heap.size, 2, none⟩) lx).trans p2; have a3 := (hb2.cell (p := ⟨w.heap.size, 3, none⟩) lx).trans p3; have a4 := (hb2.cell (p := ⟨w.heap.size, 4, none⟩) lx).trans p4; have a5 := (hb2.cell (p := ⟨w.heap.size, 5, none⟩) lx).trans p5; have a6 := (hb2.cell (p := ⟨w.heap.size, 6, none⟩) lx).trans p6; have a7 := (hb2.cell (p := ⟨w.heap.size, 7, none⟩) lx).trans p7; have c0 := (hb2.cell (p := ⟨w.heap.size + 1, 0, none⟩) ly).trans u0; have c1 := (hb2.cell (p := ⟨w.heap.size + 1, 1, none⟩) ly).trans u1; have c2 := (hb2.cell (p := ⟨w.heap.size + 1, 2, none⟩) ly).trans u2; have c3 := (hb2.cell (p := ⟨w.heap.size + 1, 3, none⟩) ly).trans u3; have c4 := (hb2.cell (p := ⟨w.heap.size + 1, 4, none⟩) ly).trans u4; have c5 := (hb2.cell (p := ⟨w.heap.size + 1, 5, none⟩) ly).trans u5; have c6 := (hb2.cell (p := ⟨w.heap.size + 1, 6, none⟩) ly).trans u6; have c7 := (hb2.cell (p := ⟨w.heap.size + 1, 7, none⟩) ly).trans u7)
        | (go_simp; go_at_call 149; have _t := tok2; have hcon := implBnd_any d B w2 (hxW w2 hb2) (by omega) hbk; rw [Tr.walk_binders, List.nil_append] at hcon; unfold Ko.val at hcon; (with_reducible refine hcon.mono ?_); clear hcon tok2; rintro e w3 ⟨A1, cc1, rfl, o1, hk3⟩; have hb3 := hb2.trans (hk3.mono y2); have y3 := hb3.size; have a0 := (hb3.cell (p := ⟨w.heap.size, 0, none⟩) lx).trans p0; have a1 := (hb3.cell (p := ⟨w.heap.size, 1, none⟩) lx).trans p1; have a2 := (hb3.cell (p := ⟨w.heap.size, 2, none⟩) lx).trans p2; have a3 := (hb3.cell (p := ⟨w.heap.size, 3, none⟩) lx).trans p3; have a4 := (hb3.cell (p := ⟨w.heap.size, 4, none⟩) lx).trans p4; have a5 := (hb3.cell (p := ⟨w.heap.size, 5, none⟩) lx).trans p5; have a6 := (hb3.cell (p := ⟨w.heap.size, 6, none⟩) lx).trans p6; have a7 := (hb3.cell (p := ⟨w.heap.size, 7, none⟩) lx).trans p7; have c0 := (hb3.cell (p := ⟨w.heap.size + 1, 0, none⟩) ly).trans u0; have c1 := (hb3.cell (p := ⟨w.heap.size + 1, 1, none⟩) ly).trans u1; have c2 := (hb3.cell (p := ⟨w.heap.size + 1, 2, none⟩) ly).trans u2; have c3 := (hb3.cell (p := ⟨w.heap.size + 1, 3, none⟩) ly).trans u3; have c4 := (hb3.cell (p := ⟨w.heap.size + 1, 4, none⟩) ly).trans u4; have c5 := (hb3.cell (p := ⟨w.heap.size + 1, 5, none⟩) ly).trans u5; have c6 := (hb3.cell (p := ⟨w.heap.size + 1, 6, none⟩) ly).trans u6; have c7 := (hb3.cell (p := ⟨w.heap.size + 1, 7, none⟩) ly).trans u7)
        | (go_simp; go_at_call 157; have _t := tok3; have hcon := contI_any A1 cc1 (Tr.binders d) y.a.n w3.heap.size w3 o1.inn; rw [Q5.out] at hcon; (with_reducible refine hcon.mono ?_); clear hcon tok3; rintro e w4 ⟨rfl, hk4⟩; have hb4 := hb3.trans (hk4.mono y3); have y4 := hb4.size; have a0 := (hb4.cell (p := ⟨w.heap.size, 0, none⟩) lx).trans p0; have a1 := (hb4.cell (p := ⟨w.heap.size, 1, none⟩) lx).trans p1; have a2 := (hb4.cell (p := ⟨w.heap.size, 2, none⟩) lx).trans p2; have a3 := (hb4.cell (p := ⟨w.heap.size, 3, none⟩) lx).trans p3; have a4 := (hb4.cell (p := ⟨w.heap.size, 4, none⟩) lx).trans p4; have a5 := (hb4.cell (p := ⟨w.heap.size, 5, none⟩) lx).trans p5; have a6 := (hb4.cell (p := ⟨w.heap.size, 6, none⟩) lx).trans p6; have a7 := (hb4.cell (p := ⟨w.heap.size, 7, none⟩) lx).trans p7; have c0 := (hb4.cell (p := ⟨w.heap.size + 1, 0, none⟩) ly).trans u0; have c1 := (hb4.cell (p := ⟨w.heap.size + 1, 1, none⟩) ly).trans u1; have c2 := (hb4.cell (p := ⟨w.heap.size + 1, 2, none⟩) ly).trans u2; have c3 := (hb4.cell (p := ⟨w.heap.size + 1, 3, none⟩) ly).trans u3; have c4 := (hb4.cell (p := ⟨w.heap.size + 1, 4, none⟩) ly).trans u4; have c5 := (hb4.cell (p := ⟨w.heap.size + 1, 5, none⟩) ly).trans u5; have c6 := (hb4.cell (p := ⟨w.heap.size + 1, 6, none⟩) ly).trans u6; have c7 := (hb4.cell (p := ⟨w.heap.size + 1, 7, none⟩) ly).trans u7)
        | fail)
      all_goals
        go_wp2_with fail
        go_ret
        exact ⟨ret_bool (by rw [HF.out]), b0.trans (hb4.mono (by omega))⟩
set_option maxRecDepth 100000 in
set_option maxHeartbeats 16000000 in
theorem specSubC_any (n : Int) (d y : Tr Ko) (B : Nat) (w : World) (hd : Ko.E.In w B d) (hy : Ko.E.In w B y) (hB : B ≤ w.heap.size) (hbk : d.bulk Ko.bulk ≤ 1500000) (hbky : y.bulk Ko.bulk ≤ 1500000) :
    Calls Tryz.prog 13 #[Ko.val d, .int .i64 n, Ko.val y] w (RetKo ((Tr.subC n y d).er Ko.er) w) := by
  obtain ⟨W1, hW1⟩ : ∃ W1, W1 = w.alloc (.cells #[.int .i64 d.a.k, .int .i64 d.a.n, .slice d.a.sA d.a.s.length d.a.sC, .int .i64 d.a.d.k, .int .i64 d.a.d.n, .string d.a.d.t, .slice d.a.d.A d.a.d.l.length d.a.d.c, .slice d.A d.l.length d.c] 35) := ⟨_, rfl⟩
  obtain ⟨W2, hW2⟩ : ∃ W2, W2 = W1.alloc (.cells #[.int .i64 y.a.k, .int .i64 y.a.n, .slice y.a.sA y.a.s.length y.a.sC, .int .i64 y.a.d.k, .int .i64 y.a.d.n, .string y.a.d.t, .slice y.a.d.A y.a.d.l.length y.a.d.c, .slice y.A y.l.length y.c] 35) := ⟨_, rfl⟩
  have z1 : W1.heap.size = w.heap.size + 1 := by rw [hW1]; simp
  have z2 : W2.heap.size = w.heap.size + 1 + 1 := by rw [hW2]; simp [z1]
  have B1 : Below w.heap.size w W1 := by rw [hW1]; exact (Below.refl _ _).alloc (Nat.le_refl _) _
  have B2 : Below W1.heap.size W1 W2 := by rw [hW2]; exact (Below.refl _ _).alloc (Nat.le_refl _) _
  have X0 : Ko.Box W1 w.heap.size d := by rw [hW1]; exact Ko.Box.new _ _ _
  have X0 := X0.below B2 (by omega)
  have Y0 : Ko.Box W2 (w.heap.size + 1) y := by rw [hW2, ← z1]; exact Ko.Box.new _ _ _
  have b0 : Below w.heap.size w W2 := B1.trans (B2.mono (by omega))
  obtain ⟨W3, hW3⟩ : ∃ W3, W3 = W2.alloc (.cells #[.int .i64 0, .int .i64 0, .slice none 0 0, .int .i64 0, .int .i64 0, .string ⟨#[]⟩, .slice none 0 0, .slice none 0 0] 35) := ⟨_, rfl⟩
  have z3 : W3.heap.size = w.heap.size + 1 + 1 + 1 := by rw [hW3]; simp [z2]
  have B3 : Below W2.heap.size W2 W3 := by rw [hW3]; exact (Below.refl _ _).alloc (Nat.le_refl _) _
  have X0 := X0.below B3 (by omega)
  have Y0 := Y0.below B3 (by omega)
  have R0 : D.Blk W3 (w.heap.size + 1 + 1) 35 #[.int .i64 0, .int .i64 0, .slice none 0 0, .int .i64 0, .int .i64 0, .string ⟨#[]⟩, .slice none 0 0, .slice none 0 0] := by rw [hW3, ← z2]; exact D.Blk.new _ _ _
  have b0 : Below w.heap.size w W3 := b0.trans (B3.mono (by omega))
  have zb : w.heap.size + 3 ≤ W3.heap.size := by omega
  have lx : w.heap.size < W3.heap.size := by omega
  have ly : w.heap.size + 1 < W3.heap.size := by omega
  have lB : B ≤ W3.heap.size := by omega
  have hxW : ∀ z : World, Below W3.heap.size W3 z → Ko.E.In z B d := fun z hz => Elem.In.below hd ((b0.trans (hz.mono (by omega))).mono hB)
  have hyW : ∀ z : World, Below W3.heap.size W3 z → Ko.E.In z B y := fun z hz => Elem.In.below hy ((b0.trans (hz.mono (by omega))).mono hB)
  have nil : ∀ z : World, IIn z B none 0 ([] : List Int) := fun z => (IOwn.nil_ (lo := B) (hi := B) (w := z) (by omega) (fun _ => rfl)).inn
  cases q1 : d.validB
  · have HF : Hid (d.canSub y = false) := by show _ = _; unfold Tr.canSub; rw [q1]; rfl
    have HC1 : Hid (∀ z : Near W3, Calls Tryz.prog 64 #[.agg #[.int .i64 d.a.k, .int .i64 d.a.n, .slice d.a.sA d.a.s.length d.a.sC, .int .i64 d.a.d.k, .int .i64 d.a.d.n, .string d.a.d.t, .slice d.a.d.A d.a.d.l.length d.a.d.c, .slice d.A d.l.length d.c]] z.at_ fun e w' => e = .returned (.bool false) ∧ Below z.at_.heap.size z.at_ w') := fun z => by
      have h := specValid_any d B z.at_ (hxW _ z.below) (Nat.le_trans lB z.size) hbk
      rw [q1] at h; exact h
    unfold Ko.val
    have d0 : ∀ z : Near W3, z.at_.cell? ⟨w.heap.size, 0, none⟩ = some (.int .i64 d.a.k) := fun z => z.cell 0 X0.c0 lx
    have d1 : ∀ z : Near W3, z.at_.cell? ⟨w.heap.size, 1, none⟩ = some (.int .i64 d.a.n) := fun z => z.cell 1 X0.c1 lx
    have d2 : ∀ z : Near W3, z.at_.cell? ⟨w.heap.size, 2, none⟩ = some (.slice d.a.sA d.a.s.length d.a.sC) := fun z => z.cell 2 X0.c2 lx
    have d3 : ∀ z : Near W3, z.at_.cell? ⟨w.heap.size, 3, none⟩ = some (.int .i64 d.a.d.k) := fun z => z.cell 3 X0.c3 lx
    have d4 : ∀ z : Near W3, z.at_.cell? ⟨w.heap.size, 4, none⟩ = some (.int .i64 d.a.d.n) := fun z => z.cell 4 X0.c4 lx
    have d5 : ∀ z : Near W3, z.at_.cell? ⟨w.heap.size, 5, none⟩ = some (.string d.a.d.t) := fun z => z.cell 5 X0.c5 lx
    have d6 : ∀ z : Near W3, z.at_.cell? ⟨w.heap.size, 6, none⟩ = some (.slice d.a.d.A d.a.d.l.length d.a.d.c) := fun z => z.cell 6 X0.c6 lx
    have d7 : ∀ z : Near W3, z.at_.cell? ⟨w.heap.size, 7, none⟩ = some (.slice d.A d.l.length d.c) := fun z => z.cell 7 X0.c7 lx
    have e0 : ∀ z : Near W3, z.at_.cell? ⟨w.heap.size + 1, 0, none⟩ = some (.int .i64 y.a.k) := fun z => z.cell 0 Y0.c0 ly
    have e1 : ∀ z : Near W3, z.at_.cell? ⟨w.heap.size + 1, 1, none⟩ = some (.int .i64 y.a.n) := fun z => z.cell 1 Y0.c1 ly
    have e2 : ∀ z : Near W3, z.at_.cell? ⟨w.heap.size + 1, 2, none⟩ = some (.slice y.a.sA y.a.s.length y.a.sC) := fun z => z.cell 2 Y0.c2 ly
    have e3 : ∀ z : Near W3, z.at_.cell? ⟨w.heap.size + 1, 3, none⟩ = some (.int .i64 y.a.d.k) := fun z => z.cell 3 Y0.c3 ly
    have e4 : ∀ z : Near W3, z.at_.cell? ⟨w.heap.size + 1, 4, none⟩ = some (.int .i64 y.a.d.n) := fun z => z.cell 4 Y0.c4 ly
    have e5 : ∀ z : Near W3, z.at_.cell? ⟨w.heap.size + 1, 5, none⟩ = some (.string y.a.d.t) := fun z => z.cell 5 Y0.c5 ly
    have e6 : ∀ z : Near W3, z.at_.cell? ⟨w.heap.size + 1, 6, none⟩ = some (.slice y.a.d.A y.a.d.l.length y.a.d.c) := fun z => z.cell 6 Y0.c6 ly
    have e7 : ∀ z : Near W3, z.at_.cell? ⟨w.heap.size + 1, 7, none⟩ = some (.slice y.A y.l.length y.c) := fun z => z.cell 7 Y0.c7 ly
    clear q1
    go_enter Tryz.func13, Tryz.ntmps13
    go_upto_region 1 with fail
    rw [← hW1, ← hW2, ← hW3]
    clear hW1 B1 hW2 B2 hW3 B3 z1 z2 z3
    refine wp_region_near (by kernel_rfl) (by kernel_rfl) ?_
    repeat (go_big_quiet_step (first | (go_at_call 64; with_reducible exact Calls.near (HC1.out _))))
    refine wpQuiet_nil ?_
    intro _ hw1
    obtain ⟨nx, hw2⟩ := hw1
    subst hw2
    obtain ⟨V, hV⟩ : ∃ V, V = nx.at_ := ⟨_, rfl⟩
    have bV : Below W3.heap.size W3 V := by rw [hV]; exact nx.below
    rw [← hV]
    have zV := bV.size
    have XV := X0.below bV lx
    have YV := Y0.below bV ly
    have RV := R0.below bV (by omega)
    have b1 := b0.trans (bV.mono (by omega))
    have hdV := hxW V bV
    have hyV := hyW V bV
    obtain ⟨a0, a1, a2, a3, a4, a5, a6, a7⟩ := id XV
    obtain ⟨c0, c1, c2, c3, c4, c5, c6, c7⟩ := id YV
    have hcon := l5Copy_any d B V hbk hdV (by omega)
    unfold Ko.val at hcon
    clear hV
    go_wp2_with fail
    (with_reducible refine hcon.mono ?_)
    clear hcon
    rintro e v ⟨d', rfl, he, ho, hb⟩
    have zv := hb.size
    have Rv := RV.below hb (by omega)
    have bv := b1.trans (hb.mono (by omega))
    have HE := Lib.hid he
    have P0 := ho.wide (lo' := w.heap.size + 3) (by omega) (Nat.le_refl v.heap.size)
    clear he ho hb
    have r0 : World.cell? v ⟨w.heap.size + 1 + 1, 0, none⟩ = some (.int .i64 0) := Rv.cell 0
    have g0 := Rv.frozen 0
    have r1 : World.cell? v ⟨w.heap.size + 1 + 1, 1, none⟩ = some (.int .i64 0) := Rv.cell 1
    have g1 := Rv.frozen 1
    have r2 : World.cell? v ⟨w.heap.size + 1 + 1, 2, none⟩ = some (.slice none 0 0) := Rv.cell 2
    have g2 := Rv.frozen 2
    have r3 : World.cell? v ⟨w.heap.size + 1 + 1, 3, none⟩ = some (.int .i64 0) := Rv.cell 3
    have g3 := Rv.frozen 3
    have r4 : World.cell? v ⟨w.heap.size + 1 + 1, 4, none⟩ = some (.int .i64 0) := Rv.cell 4
    have g4 := Rv.frozen 4
    have r5 : World.cell? v ⟨w.heap.size + 1 + 1, 5, none⟩ = some (.string ⟨#[]⟩) := Rv.cell 5
    have g5 := Rv.frozen 5
    have r6 : World.cell? v ⟨w.heap.size + 1 + 1, 6, none⟩ = some (.slice none 0 0) := Rv.cell 6
    have g6 := Rv.frozen 6
    have r7 : World.cell? v ⟨w.heap.size + 1 + 1, 7, none⟩ = some (.slice none 0 0) := Rv.cell 7
    have g7 := Rv.frozen 7
    have PP := Lib.hid P0
    clear P0 Rv
    simp only [Ko.val]
    go_wp2_with fail
    refine bodyPost_ret (v := .agg #[.int .i64 d'.a.k, .int .i64 d'.a.n, .slice d'.a.sA d'.a.s.length d'.a.sC, .int .i64 d'.a.d.k, .int .i64 d'.a.d.n, .string d'.a.d.t, .slice d'.a.d.A d'.a.d.l.length d'.a.d.c, .slice d'.A d'.l.length d'.c]) (by simp [results, Tryz.results13, go_sem, r0, r1, r2, r3, r4, r5, r6, r7]) rfl ⟨d', rfl, by unfold Tr.subC; rw [HF.out]; rw [if_neg (by simp)]; exact HE.out, ?_, ?_⟩
    · simp only [World.size_setCell]
      exact (((((((((PP.out.far (by simp <;> omega) _).far (by simp <;> omega) _).far (by simp <;> omega) _).far (by simp <;> omega) _).far (by simp <;> omega) _).far (by simp <;> omega) _).far (by simp <;> omega) _).far (by simp <;> omega) _).wide (by omega) (Nat.le_refl _))
    · exact ((((((((bv.setCell (by simp <;> omega) _).setCell (by simp <;> omega) _).setCell (by simp <;> omega) _).setCell (by simp <;> omega) _).setCell (by simp <;> omega) _).setCell (by simp <;> omega) _).setCell (by simp <;> omega) _).setCell (by simp <;> omega) _)
  cases q2 : y.simple []
  · have HF : Hid (d.canSub y = false) := by show _ = _; unfold Tr.canSub; rw [q1, q2]; rfl
    have HC1 : Hid (∀ z : Near W3, Calls Tryz.prog 64 #[.agg #[.int .i64 d.a.k, .int .i64 d.a.n, .slice d.a.sA d.a.s.length d.a.sC, .int .i64 d.a.d.k, .int .i64 d.a.d.n, .string d.a.d.t, .slice d.a.d.A d.a.d.l.length d.a.d.c, .slice d.A d.l.length d.c]] z.at_ fun e w' => e = .returned (.bool true) ∧ Below z.at_.heap.size z.at_ w') := fun z => by
      have h := specValid_any d B z.at_ (hxW _ z.below) (Nat.le_trans lB z.size) hbk
      rw [q1] at h; exact h
    have HC2 : Hid (∀ z : Near W3, Calls Tryz.prog 65 #[.agg #[.int .i64 y.a.k, .int .i64 y.a.n, .slice y.a.sA y.a.s.length y.a.sC, .int .i64 y.a.d.k, .int .i64 y.a.d.n, .string y.a.d.t, .slice y.a.d.A y.a.d.l.length y.a.d.c, .slice y.A y.l.length y.c], .slice none 0 0] z.at_ fun e w' => e = .returned (.bool false) ∧ Below z.at_.heap.size z.at_ w') := fun z => by
      have h := specIsS_any y none 0 [] B z.at_ (hyW _ z.below) (nil _) (Nat.le_trans lB z.size) hbky
      rw [q2] at h; exact h
    unfold Ko.val
    have d0 : ∀ z : Near W3, z.at_.cell? ⟨w.heap.size, 0, none⟩ = some (.int .i64 d.a.k) := fun z => z.cell 0 X0.c0 lx
    have d1 : ∀ z : Near W3, z.at_.cell? ⟨w.heap.size, 1, none⟩ = some (.int .i64 d.a.n) := fun z => z.cell 1 X0.c1 lx
    have d2 : ∀ z : Near W3, z.at_.cell? ⟨w.heap.size, 2, none⟩ = some (.slice d.a.sA d.a.s.length d.a.sC) := fun z => z.cell 2 X0.c2 lx
    have d3 : ∀ z : Near W3, z.at_.cell? ⟨w.heap.size, 3, none⟩ = some (.int .i64 d.a.d.k) := fun z => z.cell 3 X0.c3 lx
    have d4 : ∀ z : Near W3, z.at_.cell? ⟨w.heap.size, 4, none⟩ = some (.int .i64 d.a.d.n) := fun z => z.cell 4 X0.c4 lx
    have d5 : ∀ z : Near W3, z.at_.cell? ⟨w.heap.size, 5, none⟩ = some (.string d.a.d.t) := fun z => z.cell 5 X0.c5 lx
    have d6 : ∀ z : Near W3, z.at_.cell? ⟨w.heap.size, 6, none⟩ = some (.slice d.a.d.A d.a.d.l.length d.a.d.c) := fun z => z.cell 6 X0.c6 lx
    have d7 : ∀ z : Near W3, z.at_.cell? ⟨w.heap.size, 7, none⟩ = some (.slice d.A d.l.length d.c) := fun z => z.cell 7 X0.c7 lx
    have e0 : ∀ z : Near W3, z.at_.cell? ⟨w.heap.size + 1, 0, none⟩ = some (.int .i64 y.a.k) := fun z => z.cell 0 Y0.c0 ly
    have e1 : ∀ z : Near W3, z.at_.cell? ⟨w.heap.size + 1, 1, none⟩ = some (.int .i64 y.a.n) := fun z => z.cell 1 Y0.c1 ly
    have e2 : ∀ z : Near W3, z.at_.cell? ⟨w.heap.size + 1, 2, none⟩ = some (.slice y.a.sA y.a.s.length y.a.sC) := fun z => z.cell 2 Y0.c2 ly
    have e3 : ∀ z : Near W3, z.at_.cell? ⟨w.heap.size + 1, 3, none⟩ = some (.int .i64 y.a.d.k) := fun z => z.cell 3 Y0.c3 ly
    have e4 : ∀ z : Near W3, z.at_.cell? ⟨w.heap.size + 1, 4, none⟩ = some (.int .i64 y.a.d.n) := fun z => z.cell 4 Y0.c4 ly
    have e5 : ∀ z : Near W3, z.at_.cell? ⟨w.heap.size + 1, 5, none⟩ = some (.string y.a.d.t) := fun z => z.cell 5 Y0.c5 ly
    have e6 : ∀ z : Near W3, z.at_.cell? ⟨w.heap.size + 1, 6, none⟩ = some (.slice y.a.d.A y.a.d.l.length y.a.d.c) := fun z => z.cell 6 Y0.c6 ly
    have e7 : ∀ z : Near W3, z.at_.cell? ⟨w.heap.size + 1, 7, none⟩ = some (.slice y.A y.l.length y.c) := fun z => z.cell 7 Y0.c7 ly
    clear q1 q2
    go_enter Tryz.func13, Tryz.ntmps13
    go_upto_region 1 with fail
    rw [← hW1, ← hW2, ← hW3]
    clear hW1 B1 hW2 B2 hW3 B3 z1 z2 z3
    refine wp_region_near (by kernel_rfl) (by kernel_rfl) ?_
    repeat (go_big_quiet_step (first | (go_at_call 64; with_reducible exact Calls.near (HC1.out _)) | (go_at_call 65; with_reducible exact Calls.near (HC2.out _))))
    refine wpQuiet_nil ?_
    intro _ hw1
    obtain ⟨nx, hw2⟩ := hw1
    subst hw2
    obtain ⟨V, hV⟩ : ∃ V, V = nx.at_ := ⟨_, rfl⟩
    have bV : Below W3.heap.size W3 V := by rw [hV]; exact nx.below
    rw [← hV]
    have zV := bV.size
    have XV := X0.below bV lx
    have YV := Y0.below bV ly
    have RV := R0.below bV (by omega)
    have b1 := b0.trans (bV.mono (by omega))
    have hdV := hxW V bV
    have hyV := hyW V bV
    obtain ⟨a0, a1, a2, a3, a4, a5, a6, a7⟩ := id XV
    obtain ⟨c0, c1, c2, c3, c4, c5, c6, c7⟩ := id YV
    have hcon := l5Copy_any d B V hbk hdV (by omega)
    unfold Ko.val at hcon
    clear hV
    go_wp2_with fail
    (with_reducible refine hcon.mono ?_)
    clear hcon
    rintro e v ⟨d', rfl, he, ho, hb⟩
    have zv := hb.size
    have Rv := RV.below hb (by omega)
    have bv := b1.trans (hb.mono (by omega))
    have HE := Lib.hid he
    have P0 := ho.wide (lo' := w.heap.size + 3) (by omega) (Nat.le_refl v.heap.size)
    clear he ho hb
    have r0 : World.cell? v ⟨w.heap.size + 1 + 1, 0, none⟩ = some (.int .i64 0) := Rv.cell 0
    have g0 := Rv.frozen 0
    have r1 : World.cell? v ⟨w.heap.size + 1 + 1, 1, none⟩ = some (.int .i64 0) := Rv.cell 1
    have g1 := Rv.frozen 1
    have r2 : World.cell? v ⟨w.heap.size + 1 + 1, 2, none⟩ = some (.slice none 0 0) := Rv.cell 2
    have g2 := Rv.frozen 2
    have r3 : World.cell? v ⟨w.heap.size + 1 + 1, 3, none⟩ = some (.int .i64 0) := Rv.cell 3
    have g3 := Rv.frozen 3
    have r4 : World.cell? v ⟨w.heap.size + 1 + 1, 4, none⟩ = some (.int .i64 0) := Rv.cell 4
    have g4 := Rv.frozen 4
    have r5 : World.cell? v ⟨w.heap.size + 1 + 1, 5, none⟩ = some (.string ⟨#[]⟩) := Rv.cell 5
    have g5 := Rv.frozen 5
    have r6 : World.cell? v ⟨w.heap.size + 1 + 1, 6, none⟩ = some (.slice none 0 0) := Rv.cell 6
    have g6 := Rv.frozen 6
    have r7 : World.cell? v ⟨w.heap.size + 1 + 1, 7, none⟩ = some (.slice none 0 0) := Rv.cell 7
    have g7 := Rv.frozen 7
    have PP := Lib.hid P0
    clear P0 Rv
    simp only [Ko.val]
    go_wp2_with fail
    refine bodyPost_ret (v := .agg #[.int .i64 d'.a.k, .int .i64 d'.a.n, .slice d'.a.sA d'.a.s.length d'.a.sC, .int .i64 d'.a.d.k, .int .i64 d'.a.d.n, .string d'.a.d.t, .slice d'.a.d.A d'.a.d.l.length d'.a.d.c, .slice d'.A d'.l.length d'.c]) (by simp [results, Tryz.results13, go_sem, r0, r1, r2, r3, r4, r5, r6, r7]) rfl ⟨d', rfl, by unfold Tr.subC; rw [HF.out]; rw [if_neg (by simp)]; exact HE.out, ?_, ?_⟩
    · simp only [World.size_setCell]
      exact (((((((((PP.out.far (by simp <;> omega) _).far (by simp <;> omega) _).far (by simp <;> omega) _).far (by simp <;> omega) _).far (by simp <;> omega) _).far (by simp <;> omega) _).far (by simp <;> omega) _).far (by simp <;> omega) _).wide (by omega) (Nat.le_refl _))
    · exact ((((((((bv.setCell (by simp <;> omega) _).setCell (by simp <;> omega) _).setCell (by simp <;> omega) _).setCell (by simp <;> omega) _).setCell (by simp <;> omega) _).setCell (by simp <;> omega) _).setCell (by simp <;> omega) _).setCell (by simp <;> omega) _)
  cases q3 : (y.a.k == 2)
  · have q4 : (y.a.k != 2) = true := by unfold bne; rw [q3]; rfl
    have HF : Hid (d.canSub y = true) := by show _ = _; unfold Tr.canSub; rw [q1, q2, q4]; rfl
    have HC1 : Hid (∀ z : Near W3, Calls Tryz.prog 64 #[.agg #[.int .i64 d.a.k, .int .i64 d.a.n, .slice d.a.sA d.a.s.length d.a.sC, .int .i64 d.a.d.k, .int .i64 d.a.d.n, .string d.a.d.t, .slice d.a.d.A d.a.d.l.length d.a.d.c, .slice d.A d.l.length d.c]] z.at_ fun e w' => e = .returned (.bool true) ∧ Below z.at_.heap.size z.at_ w') := fun z => by
      have h := specValid_any d B z.at_ (hxW _ z.below) (Nat.le_trans lB z.size) hbk
      rw [q1] at h; exact h
    have HC2 : Hid (∀ z : Near W3, Calls Tryz.prog 65 #[.agg #[.int .i64 y.a.k, .int .i64 y.a.n, .slice y.a.sA y.a.s.length y.a.sC, .int .i64 y.a.d.k, .int .i64 y.a.d.n, .string y.a.d.t, .slice y.a.d.A y.a.d.l.length y.a.d.c, .slice y.A y.l.length y.c], .slice none 0 0] z.at_ fun e w' => e = .returned (.bool true) ∧ Below z.at_.heap.size z.at_ w') := fun z => by
      have h := specIsS_any y none 0 [] B z.at_ (hyW _ z.below) (nil _) (Nat.le_trans lB z.size) hbky
      rw [q2] at h; exact h
    unfold Ko.val
    have d0 : ∀ z : Near W3, z.at_.cell? ⟨w.heap.size, 0, none⟩ = some (.int .i64 d.a.k) := fun z => z.cell 0 X0.c0 lx
    have d1 : ∀ z : Near W3, z.at_.cell? ⟨w.heap.size, 1, none⟩ = some (.int .i64 d.a.n) := fun z => z.cell 1 X0.c1 lx
    have d2 : ∀ z : Near W3, z.at_.cell? ⟨w.heap.size, 2, none⟩ = some (.slice d.a.sA d.a.s.length d.a.sC) := fun z => z.cell 2 X0.c2 lx
    have d3 : ∀ z : Near W3, z.at_.cell? ⟨w.heap.size, 3, none⟩ = some (.int .i64 d.a.d.k) := fun z => z.cell 3 X0.c3 lx
    have d4 : ∀ z : Near W3, z.at_.cell? ⟨w.heap.size, 4, none⟩ = some (.int .i64 d.a.d.n) := fun z => z.cell 4 X0.c4 lx
    have d5 : ∀ z : Near W3, z.at_.cell? ⟨w.heap.size, 5, none⟩ = some (.string d.a.d.t) := fun z => z.cell 5 X0.c5 lx
    have d6 : ∀ z : Near W3, z.at_.cell? ⟨w.heap.size, 6, none⟩ = some (.slice d.a.d.A d.a.d.l.length d.a.d.c) := fun z => z.cell 6 X0.c6 lx
    have d7 : ∀ z : Near W3, z.at_.cell? ⟨w.heap.size, 7, none⟩ = some (.slice d.A d.l.length d.c) := fun z => z.cell 7 X0.c7 lx
    have e0 : ∀ z : Near W3, z.at_.cell? ⟨w.heap.size + 1, 0, none⟩ = some (.int .i64 y.a.k) := fun z => z.cell 0 Y0.c0 ly
    have e1 : ∀ z : Near W3, z.at_.cell? ⟨w.heap.size + 1, 1, none⟩ = some (.int .i64 y.a.n) := fun z => z.cell 1 Y0.c1 ly
    have e2 : ∀ z : Near W3, z.at_.cell? ⟨w.heap.size + 1, 2, none⟩ = some (.slice y.a.sA y.a.s.length y.a.sC) := fun z => z.cell 2 Y0.c2 ly
    have e3 : ∀ z : Near W3, z.at_.cell? ⟨w.heap.size + 1, 3, none⟩ = some (.int .i64 y.a.d.k) := fun z => z.cell 3 Y0.c3 ly
    have e4 : ∀ z : Near W3, z.at_.cell? ⟨w.heap.size + 1, 4, none⟩ = some (.int .i64 y.a.d.n) := fun z => z.cell 4 Y0.c4 ly
    have e5 : ∀ z : Near W3, z.at_.cell? ⟨w.heap.size + 1, 5, none⟩ = some (.string y.a.d.t) := fun z => z.cell 5 Y0.c5 ly
    have e6 : ∀ z : Near W3, z.at_.cell? ⟨w.heap.size + 1, 6, none⟩ = some (.slice y.a.d.A y.a.d.l.length y.a.d.c) := fun z => z.cell 6 Y0.c6 ly
    have e7 : ∀ z : Near W3, z.at_.cell? ⟨w.heap.size + 1, 7, none⟩ = some (.slice y.A y.l.length y.c) := fun z => z.cell 7 Y0.c7 ly
    clear q1 q2
    go_enter Tryz.func13, Tryz.ntmps13
    go_upto_region 1 with fail
    rw [← hW1, ← hW2, ← hW3]
    clear hW1 B1 hW2 B2 hW3 B3 z1 z2 z3
    refine wp_region_near (by kernel_rfl) (by kernel_rfl) ?_
    repeat (go_big_quiet_step (first | (go_at_call 64; with_reducible exact Calls.near (HC1.out _)) | (go_at_call 65; with_reducible exact Calls.near (HC2.out _))))
    refine wpQuiet_nil ?_
    intro _ hw1
    obtain ⟨nx, hw2⟩ := hw1
    subst hw2
    obtain ⟨V, hV⟩ : ∃ V, V = nx.at_ := ⟨_, rfl⟩
    have bV : Below W3.heap.size W3 V := by rw [hV]; exact nx.below
    rw [← hV]
    have zV := bV.size
    have XV := X0.below bV lx
    have YV := Y0.below bV ly
    have RV := R0.below bV (by omega)
    have b1 := b0.trans (bV.mono (by omega))
    have hdV := hxW V bV
    have hyV := hyW V bV
    obtain ⟨a0, a1, a2, a3, a4, a5, a6, a7⟩ := id XV
    obtain ⟨c0, c1, c2, c3, c4, c5, c6, c7⟩ := id YV
    have hcon := l9Sub_any n d y B V hbk hbky hdV hyV (by omega)
    unfold Ko.val at hcon
    clear hV
    go_wp2_with fail
    (with_reducible refine hcon.mono ?_)
    clear hcon
    rintro e v ⟨d', rfl, he, ho, hb⟩
    have zv := hb.size
    have Rv := RV.below hb (by omega)
    have bv := b1.trans (hb.mono (by omega))
    have HE := Lib.hid he
    have P0 := ho.wide (lo' := w.heap.size + 3) (by omega) (Nat.le_refl v.heap.size)
    clear he ho hb
    have r0 : World.cell? v ⟨w.heap.size + 1 + 1, 0, none⟩ = some (.int .i64 0) := Rv.cell 0
    have g0 := Rv.frozen 0
    have r1 : World.cell? v ⟨w.heap.size + 1 + 1, 1, none⟩ = some (.int .i64 0) := Rv.cell 1
    have g1 := Rv.frozen 1
    have r2 : World.cell? v ⟨w.heap.size + 1 + 1, 2, none⟩ = some (.slice none 0 0) := Rv.cell 2
    have g2 := Rv.frozen 2
    have r3 : World.cell? v ⟨w.heap.size + 1 + 1, 3, none⟩ = some (.int .i64 0) := Rv.cell 3
    have g3 := Rv.frozen 3
    have r4 : World.cell? v ⟨w.heap.size + 1 + 1, 4, none⟩ = some (.int .i64 0) := Rv.cell 4
    have g4 := Rv.frozen 4
    have r5 : World.cell? v ⟨w.heap.size + 1 + 1, 5, none⟩ = some (.string ⟨#[]⟩) := Rv.cell 5
    have g5 := Rv.frozen 5
    have r6 : World.cell? v ⟨w.heap.size + 1 + 1, 6, none⟩ = some (.slice none 0 0) := Rv.cell 6
    have g6 := Rv.frozen 6
    have r7 : World.cell? v ⟨w.heap.size + 1 + 1, 7, none⟩ = some (.slice none 0 0) := Rv.cell 7
    have g7 := Rv.frozen 7
    have PP := Lib.hid P0
    clear P0 Rv
    simp only [Ko.val]
    go_wp2_with fail
    refine bodyPost_ret (v := .agg #[.int .i64 d'.a.k, .int .i64 d'.a.n, .slice d'.a.sA d'.a.s.length d'.a.sC, .int .i64 d'.a.d.k, .int .i64 d'.a.d.n, .string d'.a.d.t, .slice d'.a.d.A d'.a.d.l.length d'.a.d.c, .slice d'.A d'.l.length d'.c]) (by simp [results, Tryz.results13, go_sem, r0, r1, r2, r3, r4, r5, r6, r7]) rfl ⟨d', rfl, by unfold Tr.subC; rw [HF.out]; rw [if_pos rfl]; exact HE.out, ?_, ?_⟩
    · simp only [World.size_setCell]
      exact (((((((((PP.out.far (by simp <;> omega) _).far (by simp <;> omega) _).far (by simp <;> omega) _).far (by simp <;> omega) _).far (by simp <;> omega) _).far (by simp <;> omega) _).far (by simp <;> omega) _).far (by simp <;> omega) _).wide (by omega) (Nat.le_refl _))
    · exact ((((((((bv.setCell (by simp <;> omega) _).setCell (by simp <;> omega) _).setCell (by simp <;> omega) _).setCell (by simp <;> omega) _).setCell (by simp <;> omega) _).setCell (by simp <;> omega) _).setCell (by simp <;> omega) _).setCell (by simp <;> omega) _)
  · have q4 : (y.a.k != 2) = false := by unfold bne; rw [q3]; rfl
    have q6 := q3
    cases q5 : (Tr.binders d).contains y.a.n
    · have HF : Hid (d.canSub y = true) := by show _ = _; unfold Tr.canSub; rw [q1, q2, q4, q5]; rfl
      have Q1 := Lib.hid q1
      have Q2 := Lib.hid q2
      have Q5 := Lib.hid q5
      clear q1 q2 q5
      obtain ⟨p0, p1, p2, p3, p4, p5, p6, p7⟩ := id X0
      obtain ⟨u0, u1, u2, u3, u4, u5, u6, u7⟩ := id Y0
      have a0 := p0
      have c0 := u0
      have a1 := p1
      have c1 := u1
      have a2 := p2
      have c2 := u2
      have a3 := p3
      have c3 := u3
      have a4 := p4
      have c4 := u4
      have a5 := p5
      have c5 := u5
      have a6 := p6
      have c6 := u6
      have a7 := p7
      have c7 := u7
      unfold Ko.val
      have tok0 : True := trivial
      have tok1 : True := trivial
      have tok2 : True := trivial
      have tok3 : True := trivial
      go_enter Tryz.func13, Tryz.ntmps13
      go_upto_region 1 with fail
      rw [← hW1, ← hW2, ← hW3]
      clear hW1 B1 hW2 B2 hW3 B3 z1 z2 z3
      go_region_held3 (fun w' => w'.cell? ⟨w.heap.size, 0, none⟩ = some (.int .i64 d.a.k) ∧ w'.cell? ⟨w.heap.size, 1, none⟩ = some (.int .i64 d.a.n) ∧ w'.cell? ⟨w.heap.size, 2, none⟩ = some (.slice d.a.sA d.a.s.length d.a.sC) ∧ w'.cell? ⟨w.heap.size, 3, none⟩ = some (.int .i64 d.a.d.k) ∧ w'.cell? ⟨w.heap.size, 4, none⟩ = some (.int .i64 d.a.d.n) ∧ w'.cell? ⟨w.heap.size, 5, none⟩ = some (.string d.a.d.t) ∧ w'.cell? ⟨w.heap.size, 6, none⟩ = some (.slice d.a.d.A d.a.d.l.length d.a.d.c) ∧ w'.cell? ⟨w.heap.size, 7, none⟩ = some (.slice d.A d.l.length d.c) ∧ w'.cell? ⟨w.heap.size + 1, 0, none⟩ = some (.int .i64 y.a.k) ∧ w'.cell? ⟨w.heap.size + 1, 1, none⟩ = some (.int .i64 y.a.n) ∧ w'.cell? ⟨w.heap.size + 1, 2, none⟩ = some (.slice y.a.sA y.a.s.length y.a.sC) ∧ w'.cell? ⟨w.heap.size + 1, 3, none⟩ = some (.int .i64 y.a.d.k) ∧ w'.cell? ⟨w.heap.size + 1, 4, none⟩ = some (.int .i64 y.a.d.n) ∧ w'.cell? ⟨w.heap.size + 1, 5, none⟩ = some (.string y.a.d.t) ∧ w'.cell? ⟨w.heap.size + 1, 6, none⟩ = some (.slice y.a.d.A y.a.d.l.length y.a.d.c) ∧ w'.cell? ⟨w.heap.size + 1, 7, none⟩ = some (.slice y.A y.l.length y.c)) (go_keep) (first
        | (go_simp; go_at_call 64; have _t := tok0; have hcon := specValid_any d B W3.drew (Elem.In.drew (hxW W3 (Below.refl _ _))) (show B ≤ W3.heap.size by omega) hbk; rw [Q1.out] at hcon; unfold Ko.val at hcon; (with_reducible refine hcon.mono ?_); clear hcon tok0; rintro e w1 ⟨rfl, hb1⟩; have hb1 : Below W3.heap.size W3 w1 := below_undrew hb1; have y1 := hb1.size; have a0 := (hb1.cell (p := ⟨w.heap.size, 0, none⟩) lx).trans p0; have a1 := (hb1.cell (p := ⟨w.heap.size, 1, none⟩) lx).trans p1; have a2 := (hb1.cell (p := ⟨w.heap.size, 2, none⟩) lx).trans p2; have a3 := (hb1.cell (p := ⟨w.heap.size, 3, none⟩) lx).trans p3; have a4 := (hb1.cell (p := ⟨w.heap.size, 4, none⟩) lx).trans p4; have a5 := (hb1.cell (p := ⟨w.heap.size, 5, none⟩) lx).trans p5; have a6 := (hb1.cell (p := ⟨w.heap.size, 6, none⟩) lx).trans p6; have a7 := (hb1.cell (p := ⟨w.heap.size, 7, none⟩) lx).trans p7; have c0 := (hb1.cell (p := ⟨w.heap.size + 1, 0, none⟩) ly).trans u0; have c1 := (hb1.cell (p := ⟨w.heap.size + 1, 1, none⟩) ly).trans u1; have c2 := (hb1.cell (p := ⟨w.heap.size + 1, 2, none⟩) ly).trans u2; have c3 := (hb1.cell (p := ⟨w.heap.size + 1, 3, none⟩) ly).trans u3; have c4 := (hb1.cell (p := ⟨w.heap.size + 1, 4, none⟩) ly).trans u4; have c5 := (hb1.cell (p := ⟨w.heap.size + 1, 5, none⟩) ly).trans u5; have c6 := (hb1.cell (p := ⟨w.heap.size + 1, 6, none⟩) ly).trans u6; have c7 := (hb1.cell (p := ⟨w.heap.size + 1, 7, none⟩) ly).trans u7)
        | (go_simp; go_at_call 65; have _t := tok1; have hcon := specIsS_any y none 0 [] B w1 (hyW w1 hb1) (nil _) (by omega) hbky; rw [Q2.out] at hcon; unfold Ko.val at hcon; simp only [List.length_nil] at hcon; (with_reducible refine hcon.mono ?_); clear hcon tok1; rintro e w2 ⟨rfl, hk2⟩; have hb2 := hb1.trans (hk2.mono y1); have y2 := hb2.size; have a0 := (hb2.cell (p := ⟨w.heap.size, 0, none⟩) lx).trans p0; have a1 := (hb2.cell (p := ⟨w.heap.size, 1, none⟩) lx).trans p1; have a2 := (hb2.cell (p := ⟨w.heap.size, 2, none⟩) lx).trans p2; have a3 := (hb2.cell (p := ⟨w.heap.size, 3, none⟩) lx).trans p3; have a4 := (hb2.cell (p := ⟨w.heap.size, 4, none⟩) lx).trans p4; have a5 := (hb2.cell (p := ⟨w.heap.size, 5, none⟩) lx).trans p5; have a6 := (hb2.cell (p := ⟨w.heap.size, 6, none⟩) lx).trans p6; have a7 := (hb2.cell (p := ⟨w.heap.size, 7, none⟩) lx).trans p7; have c0 := (hb2.cell (p := ⟨w.heap.size + 1, 0, none⟩) ly).trans u0; have c1 := (hb2.cell (p := ⟨w.heap.size + 1, 1, none⟩) ly).trans u1; have c2 := (hb2.cell (p := ⟨w.heap.size + 1, 2, none⟩) ly).trans u2; have c3 := (hb2.cell (p := ⟨w.heap.size + 1, 3, none⟩) ly).trans u3; have c4 := (hb2.cell (p := ⟨w.heap.size + 1, 4, none⟩) ly).trans u4; have c5 := (hb2.cell (p := ⟨w.heap.size + 1, 5, none⟩) ly).trans u5; have c6 := (hb2.cell (p := ⟨w.heap.size + 1, 6, none⟩) ly).trans u6; have c7 := (hb2.cell (p := ⟨w.heap.size + 1, 7, none⟩) ly).trans u7)
        | (go_simp; go_at_call 67; have _t := tok2; have hcon := specBnd0_any d B w2 (hxW w2 hb2) (by omega) hbk; unfold Ko.val at hcon; (with_reducible refine hcon.mono ?_); clear hcon tok2; rintro e w3 ⟨A1, cc1, rfl, o1, hk3⟩; have hb3 := hb2.trans (hk3.mono y2); have y3 := hb3.size; have a0 := (hb3.cell (p := ⟨w.heap.size, 0, none⟩) lx).trans p0; have a1 := (hb3.cell (p := ⟨w.heap.size, 1, none⟩) lx).trans p1; have a2 := (hb3.cell (p := ⟨w.heap.size, 2, none⟩) lx).trans p2; have a3 := (hb3.cell (p := ⟨w.heap.size, 3, none⟩) lx).trans p3; have a4 := (hb3.cell (p := ⟨w.heap.size, 4, none⟩) lx).trans p4; have a5 := (hb3.cell (p := ⟨w.heap.size, 5, none⟩) lx).trans p5; have a6 := (hb3.cell (p := ⟨w.heap.size, 6, none⟩) lx).trans p6; have a7 := (hb3.cell (p := ⟨w.heap.size, 7, none⟩) lx).trans p7; have c0 := (hb3.cell (p := ⟨w.heap.size + 1, 0, none⟩) ly).trans u0; have c1 := (hb3.cell (p := ⟨w.heap.size + 1, 1, none⟩) ly).trans u1; have c2 := (hb3.cell (p := ⟨w.heap.size + 1, 2, none⟩) ly).trans u2; have c3 := (hb3.cell (p := ⟨w.heap.size + 1, 3, none⟩) ly).trans u3; have c4 := (hb3.cell (p := ⟨w.heap.size + 1, 4, none⟩) ly).trans u4; have c5 := (hb3.cell (p := ⟨w.heap.size + 1, 5, none⟩) ly).trans u5; have c6 := (hb3.cell (p := ⟨w.heap.size + 1, 6, none⟩) ly).trans u6; have c7 := (hb3.cell (p := ⟨w.heap.size + 1, 7, none⟩) ly).trans u7)
        | (go_simp; go_at_call 66; have _t := tok3; have hcon := ((specHas_any A1 cc1 (Tr.binders d) y.a.n w3.heap.size w3 o1.inn).mono fun e w' hh => (⟨hh.1, by rw [hh.2]; exact Below.refl _ _⟩ : e = .returned (.bool ((Tr.binders d).contains y.a.n)) ∧ Below w3.heap.size w3 w')); rw [Q5.out] at hcon; (with_reducible refine hcon.mono ?_); clear hcon tok3; rintro e w4 ⟨rfl, hk4⟩; have hb4 := hb3.trans (hk4.mono y3); have y4 := hb4.size; have a0 := (hb4.cell (p := ⟨w.heap.size, 0, none⟩) lx).trans p0; have a1 := (hb4.cell (p := ⟨w.heap.size, 1, none⟩) lx).trans p1; have a2 := (hb4.cell (p := ⟨w.heap.size, 2, none⟩) lx).trans p2; have a3 := (hb4.cell (p := ⟨w.heap.size, 3, none⟩) lx).trans p3; have a4 := (hb4.cell (p := ⟨w.heap.size, 4, none⟩) lx).trans p4; have a5 := (hb4.cell (p := ⟨w.heap.size, 5, none⟩) lx).trans p5; have a6 := (hb4.cell (p := ⟨w.heap.size, 6, none⟩) lx).trans p6; have a7 := (hb4.cell (p := ⟨w.heap.size, 7, none⟩) lx).trans p7; have c0 := (hb4.cell (p := ⟨w.heap.size + 1, 0, none⟩) ly).trans u0; have c1 := (hb4.cell (p := ⟨w.heap.size + 1, 1, none⟩) ly).trans u1; have c2 := (hb4.cell (p := ⟨w.heap.size + 1, 2, none⟩) ly).trans u2; have c3 := (hb4.cell (p := ⟨w.heap.size + 1, 3, none⟩) ly).trans u3; have c4 := (hb4.cell (p := ⟨w.heap.size + 1, 4, none⟩) ly).trans u4; have c5 := (hb4.cell (p := ⟨w.heap.size + 1, 5, none⟩) ly).trans u5; have c6 := (hb4.cell (p := ⟨w.heap.size + 1, 6, none⟩) ly).trans u6; have c7 := (hb4.cell (p := ⟨w.heap.size + 1, 7, none⟩) ly).trans u7)
        | fail)
      all_goals
        obtain ⟨V, hV⟩ : ∃ V, V = w4 := ⟨_, rfl⟩
        have bV : Below W3.heap.size W3 V := by rw [hV]; exact hb4
        rw [← hV]
        have zV := bV.size
        have XV := X0.below bV lx
        have YV := Y0.below bV ly
        have RV := R0.below bV (by omega)
        have b1 := b0.trans (bV.mono (by omega))
        have hdV := hxW V bV
        have hyV := hyW V bV
        obtain ⟨a0, a1, a2, a3, a4, a5, a6, a7⟩ := id XV
        obtain ⟨c0, c1, c2, c3, c4, c5, c6, c7⟩ := id YV
        have hcon := l9Sub_any n d y B V hbk hbky hdV hyV (by omega)
        unfold Ko.val at hcon
        clear hV
        go_wp2_with fail
        (with_reducible refine hcon.mono ?_)
        clear hcon
        rintro e v ⟨d', rfl, he, ho, hb⟩
        have zv := hb.size
        have Rv := RV.below hb (by omega)
        have bv := b1.trans (hb.mono (by omega))
        have HE := Lib.hid he
        have P0 := ho.wide (lo' := w.heap.size + 3) (by omega) (Nat.le_refl v.heap.size)
        clear he ho hb
        have r0 : World.cell? v ⟨w.heap.size + 1 + 1, 0, none⟩ = some (.int .i64 0) := Rv.cell 0
        have g0 := Rv.frozen 0
        have r1 : World.cell? v ⟨w.heap.size + 1 + 1, 1, none⟩ = some (.int .i64 0) := Rv.cell 1
        have g1 := Rv.frozen 1
        have r2 : World.cell? v ⟨w.heap.size + 1 + 1, 2, none⟩ = some (.slice none 0 0) := Rv.cell 2
        have g2 := Rv.frozen 2
        have r3 : World.cell? v ⟨w.heap.size + 1 + 1, 3, none⟩ = some (.int .i64 0) := Rv.cell 3
        have g3 := Rv.frozen 3
        have r4 : World.cell? v ⟨w.heap.size + 1 + 1, 4, none⟩ = some (.int .i64 0) := Rv.cell 4
        have g4 := Rv.frozen 4
        have r5 : World.cell? v ⟨w.heap.size + 1 + 1, 5, none⟩ = some (.string ⟨#[]⟩) := Rv.cell 5
        have g5 := Rv.frozen 5
        have r6 : World.cell? v ⟨w.heap.size + 1 + 1, 6, none⟩ = some (.slice none 0 0) := Rv.cell 6
        have g6 := Rv.frozen 6
        have r7 : World.cell? v ⟨w.heap.size + 1 + 1, 7, none⟩ = some (.slice none 0 0) := Rv.cell 7
        have g7 := Rv.frozen 7
        have PP := Lib.hid P0
        clear P0 Rv
        simp only [Ko.val]
        go_wp2_with fail
        refine bodyPost_ret (v := .agg #[.int .i64 d'.a.k, .int .i64 d'.a.n, .slice d'.a.sA d'.a.s.length d'.a.sC, .int .i64 d'.a.d.k, .int .i64 d'.a.d.n, .string d'.a.d.t, .slice d'.a.d.A d'.a.d.l.length d'.a.d.c, .slice d'.A d'.l.length d'.c]) (by simp [results, Tryz.results13, go_sem, r0, r1, r2, r3, r4, r5, r6, r7]) rfl ⟨d', rfl, by unfold Tr.subC; rw [HF.out]; rw [if_pos rfl]; exact HE.out, ?_, ?_⟩
        · simp only [World.size_setCell]
          exact (((((((((PP.out.far (by simp <;> omega) _).far (by simp <;> omega) _).far (by simp <;> omega) _).far (by simp <;> omega) _).far (by simp <;> omega) _).far (by simp <;> omega) _).far (by simp <;> omega) _).far (by simp <;> omega) _).wide (by omega) (Nat.le_refl _))
        · exact ((((((((bv.setCell (by simp <;> omega) _).setCell (by simp <;> omega) _).setCell (by simp <;> omega) _).setCell (by simp <;> omega) _).setCell (by simp <;> omega) _).setCell (by simp <;> omega) _).setCell (by simp <;> omega) _).setCell (by simp <;> omega) _)
    · have HF : Hid (d.canSub y = false) := by show _ = _; unfold Tr.canSub; rw [q1, q2, q4, q5]; rfl
      have Q1 := Lib.hid q1
      have Q2 := Lib.hid q2
      have Q5 := Lib.hid q5
      clear q1 q2 q5
      obtain ⟨p0, p1, p2, p3, p4, p5, p6, p7⟩ := id X0
      obtain ⟨u0, u1, u2, u3, u4, u5, u6, u7⟩ := id Y0
      have a0 := p0
      have c0 := u0
      have a1 := p1
      have c1 := u1
      have a2 := p2
      have c2 := u2
      have a3 := p3
      have c3 := u3
      have a4 := p4
      have c4 := u4
      have a5 := p5
      have c5 := u5
      have a6 := p6
      have c6 := u6
      have a7 := p7
      have c7 := u7
      unfold Ko.val
      have tok0 : True := trivial
      have tok1 : True := trivial
      have tok2 : True := trivial
      have tok3 : True := trivial
      go_enter Tryz.func13, Tryz.ntmps13
      go_upto_region 1 with fail
      rw [← hW1, ← hW2, ← hW3]
      clear hW1 B1 hW2 B2 hW3 B3 z1 z2 z3
      go_region_held3 (fun w' => w'.cell? ⟨w.heap.size, 0, none⟩ = some (.int .i64 d.a.k) ∧ w'.cell? ⟨w.heap.size, 1, none⟩ = some (.int .i64 d.a.n) ∧ w'.cell? ⟨w.heap.size, 2, none⟩ = some (.slice d.a.sA d.a.s.length d.a.sC) ∧ w'.cell? ⟨w.heap.size, 3, none⟩ = some (.int .i64 d.a.d.k) ∧ w'.cell? ⟨w.heap.size, 4, none⟩ = some (.int .i64 d.a.d.n) ∧ w'.cell? ⟨w.heap.size, 5, none⟩ = some (.string d.a.d.t) ∧ w'.cell? ⟨w.heap.size, 6, none⟩ = some (.slice d.a.d.A d.a.d.l.length d.a.d.c) ∧ w'.cell? ⟨w.heap.size, 7, none⟩ = some (.slice d.A d.l.length d.c) ∧ w'.cell? ⟨w.heap.size + 1, 0, none⟩ = some (.int .i64 y.a.k) ∧ w'.cell? ⟨w.heap.size + 1, 1, none⟩ = some (.int .i64 y.a.n) ∧ w'.cell? ⟨w.heap.size + 1, 2, none⟩ = some (.slice y.a.sA y.a.s.length y.a.sC) ∧ w'.cell? ⟨w.heap.size + 1, 3, none⟩ = some (.int .i64 y.a.d.k) ∧ w'.cell? ⟨w.heap.size + 1, 4, none⟩ = some (.int .i64 y.a.d.n) ∧ w'.cell? ⟨w.heap.size + 1, 5, none⟩ = some (.string y.a.d.t) ∧ w'.cell? ⟨w.heap.size + 1, 6, none⟩ = some (.slice y.a.d.A y.a.d.l.length y.a.d.c) ∧ w'.cell? ⟨w.heap.size + 1, 7, none⟩ = some (.slice y.A y.l.length y.c)) (go_keep) (first
        | (go_simp; go_at_call 64; have _t := tok0; have hcon := specValid_any d B W3.drew (Elem.In.drew (hxW W3 (Below.refl _ _))) (show B ≤ W3.heap.size by omega) hbk; rw [Q1.out] at hcon; unfold Ko.val at hcon; (with_reducible refine hcon.mono ?_); clear hcon tok0; rintro e w1 ⟨rfl, hb1⟩; have hb1 : Below W3.heap.size W3 w1 := below_undrew hb1; have y1 := hb1.size; have a0 := (hb1.cell (p := ⟨w.heap.size, 0, none⟩) lx).trans p0; have a1 := (hb1.cell (p := ⟨w.heap.size, 1, none⟩) lx).trans p1; have a2 := (hb1.cell (p := ⟨w.heap.size, 2, none⟩) lx).trans p2; have a3 := (hb1.cell (p := ⟨w.heap.size, 3, none⟩) lx).trans p3; have a4 := (hb1.cell (p := ⟨w.heap.size, 4, none⟩) lx).trans p4; have a5 := (hb1.cell (p := ⟨w.heap.size, 5, none⟩) lx).trans p5; have a6 := (hb1.cell (p := ⟨w.heap.size, 6, none⟩) lx).trans p6; have a7 := (hb1.cell (p := ⟨w.heap.size, 7, none⟩) lx).trans p7; have c0 := (hb1.cell (p := ⟨w.heap.size + 1, 0, none⟩) ly).trans u0; have c1 := (hb1.cell (p := ⟨w.heap.size + 1, 1, none⟩) ly).trans u1; have c2 := (hb1.cell (p := ⟨w.heap.size + 1, 2, none⟩) ly).trans u2; have c3 := (hb1.cell (p := ⟨w.heap.size + 1, 3, none⟩) ly).trans u3; have c4 := (hb1.cell (p := ⟨w.heap.size + 1, 4, none⟩) ly).trans u4; have c5 := (hb1.cell (p := ⟨w.heap.size + 1, 5, none⟩) ly).trans u5; have c6 := (hb1.cell (p := ⟨w.heap.size + 1, 6, none⟩) ly).trans u6; have c7 := (hb1.cell (p := ⟨w.heap.size + 1, 7, none⟩) ly).trans u7)
        | (go_simp; go_at_call 65; have _t := tok1; have hcon := specIsS_any y none 0 [] B w1 (hyW w1 hb1) (nil _) (by omega) hbky; rw [Q2.out] at hcon; unfold Ko.val at hcon; simp only [List.length_nil] at hcon; (with_reducible refine hcon.mono ?_); clear hcon tok1; rintro e w2 ⟨rfl, hk2⟩; have hb2 := hb1.trans (hk2.mono y1); have y2 := hb2.size; have a0 := (hb2.cell (p := ⟨w.heap.size, 0, none⟩) lx).trans p0; have a1 := (hb2.cell (p := ⟨w.heap.size, 1, none⟩) lx).trans p1; have a2 := (hb2.cell (p := ⟨w.heap.size, 2, none⟩) lx).trans p2; have a3 := (hb2.cell (p := ⟨w.heap.size, 3, none⟩) lx).trans p3; have a4 := (hb2.cell (p := ⟨w.heap.size, 4, none⟩) lx).trans p4; have a5 := (hb2.cell (p := ⟨w.heap.size, 5, none⟩) lx).trans p5; have a6 := (hb2.cell (p := ⟨w.heap.size, 6, none⟩) lx).trans p6; have a7 := (hb2.cell (p := ⟨w.heap.size, 7, none⟩) lx).trans p7; have c0 := (hb2.cell (p := ⟨w.heap.size + 1, 0, none⟩) ly).trans u0; have c1 := (hb2.cell (p := ⟨w.heap.size + 1, 1, none⟩) ly).trans u1; have c2 := (hb2.cell (p := ⟨w.heap.size + 1, 2, none⟩) ly).trans u2; have c3 := (hb2.cell (p := ⟨w.heap.size + 1, 3, none⟩) ly).trans u3; have c4 := (hb2.cell (p := ⟨w.heap.size + 1, 4, none⟩) ly).trans u4; have c5 := (hb2.cell (p := ⟨w.heap.size + 1, 5, none⟩) ly).trans u5; have c6 := (hb2.cell (p := ⟨w.heap.size + 1, 6, none⟩) ly).trans u6; have c7 := (hb2.cell (p := ⟨w.heap.size + 1, 7, none⟩) ly).trans u7)
        | (go_simp; go_at_call 67; have _t := tok2; have hcon := specBnd0_any d B w2 (hxW w2 hb2) (by omega) hbk; unfold Ko.val at hcon; (with_reducible refine hcon.mono ?_); clear hcon tok2; rintro e w3 ⟨A1, cc1, rfl, o1, hk3⟩; have hb3 := hb2.trans (hk3.mono y2); have y3 := hb3.size; have a0 := (hb3.cell (p := ⟨w.heap.size, 0, none⟩) lx).trans p0; have a1 := (hb3.cell (p := ⟨w.heap.size, 1, none⟩) lx).trans p1; have a2 := (hb3.cell (p := ⟨w.heap.size, 2, none⟩) lx).trans p2; have a3 := (hb3.cell (p := ⟨w.heap.size, 3, none⟩) lx).trans p3; have a4 := (hb3.cell (p := ⟨w.heap.size, 4, none⟩) lx).trans p4; have a5 := (hb3.cell (p := ⟨w.heap.size, 5, none⟩) lx).trans p5; have a6 := (hb3.cell (p := ⟨w.heap.size, 6, none⟩) lx).trans p6; have a7 := (hb3.cell (p := ⟨w.heap.size, 7, none⟩) lx).trans p7; have c0 := (hb3.cell (p := ⟨w.heap.size + 1, 0, none⟩) ly).trans u0; have c1 := (hb3.cell (p := ⟨w.heap.size + 1, 1, none⟩) ly).trans u1; have c2 := (hb3.cell (p := ⟨w.heap.size + 1, 2, none⟩) ly).trans u2; have c3 := (hb3.cell (p := ⟨w.heap.size + 1, 3, none⟩) ly).trans u3; have c4 := (hb3.cell (p := ⟨w.heap.size + 1, 4, none⟩) ly).trans u4; have c5 := (hb3.cell (p := ⟨w.heap.size + 1, 5, none⟩) ly).trans u5; have c6 := (hb3.cell (p := ⟨w.heap.size + 1, 6, none⟩) ly).trans u6; have c7 := (hb3.cell (p := ⟨w.heap.size + 1, 7, none⟩) ly).trans u7)
        | (go_simp; go_at_call 66; have _t := tok3; have hcon := ((specHas_any A1 cc1 (Tr.binders d) y.a.n w3.heap.size w3 o1.inn).mono fun e w' hh => (⟨hh.1, by rw [hh.2]; exact Below.refl _ _⟩ : e = .returned (.bool ((Tr.binders d).contains y.a.n)) ∧ Below w3.heap.size w3 w')); rw [Q5.out] at hcon; (with_reducible refine hcon.mono ?_); clear hcon tok3; rintro e w4 ⟨rfl, hk4⟩; have hb4 := hb3.trans (hk4.mono y3); have y4 := hb4.size; have a0 := (hb4.cell (p := ⟨w.heap.size, 0, none⟩) lx).trans p0; have a1 := (hb4.cell (p := ⟨w.heap.size, 1, none⟩) lx).trans p1; have a2 := (hb4.cell (p := ⟨w.heap.size, 2, none⟩) lx).trans p2; have a3 := (hb4.cell (p := ⟨w.heap.size, 3, none⟩) lx).trans p3; have a4 := (hb4.cell (p := ⟨w.heap.size, 4, none⟩) lx).trans p4; have a5 := (hb4.cell (p := ⟨w.heap.size, 5, none⟩) lx).trans p5; have a6 := (hb4.cell (p := ⟨w.heap.size, 6, none⟩) lx).trans p6; have a7 := (hb4.cell (p := ⟨w.heap.size, 7, none⟩) lx).trans p7; have c0 := (hb4.cell (p := ⟨w.heap.size + 1, 0, none⟩) ly).trans u0; have c1 := (hb4.cell (p := ⟨w.heap.size + 1, 1, none⟩) ly).trans u1; have c2 := (hb4.cell (p := ⟨w.heap.size + 1, 2, none⟩) ly).trans u2; have c3 := (hb4.cell (p := ⟨w.heap.size + 1, 3, none⟩) ly).trans u3; have c4 := (hb4.cell (p := ⟨w.heap.size + 1, 4, none⟩) ly).trans u4; have c5 := (hb4.cell (p := ⟨w.heap.size + 1, 5, none⟩) ly).trans u5; have c6 := (hb4.cell (p := ⟨w.heap.size + 1, 6, none⟩) ly).trans u6; have c7 := (hb4.cell (p := ⟨w.heap.size + 1, 7, none⟩) ly).trans u7)
        | fail)
      all_goals
        obtain ⟨V, hV⟩ : ∃ V, V = w4 := ⟨_, rfl⟩
        have bV : Below W3.heap.size W3 V := by rw [hV]; exact hb4
        rw [← hV]
        have zV := bV.size
        have XV := X0.below bV lx
        have YV := Y0.below bV ly
        have RV := R0.below bV (by omega)
        have b1 := b0.trans (bV.mono (by omega))
        have hdV := hxW V bV
        have hyV := hyW V bV
        obtain ⟨a0, a1, a2, a3, a4, a5, a6, a7⟩ := id XV
        obtain ⟨c0, c1, c2, c3, c4, c5, c6, c7⟩ := id YV
        have hcon := l5Copy_any d B V hbk hdV (by omega)
        unfold Ko.val at hcon
        clear hV
        go_wp2_with fail
        (with_reducible refine hcon.mono ?_)
        clear hcon
        rintro e v ⟨d', rfl, he, ho, hb⟩
        have zv := hb.size
        have Rv := RV.below hb (by omega)
        have bv := b1.trans (hb.mono (by omega))
        have HE := Lib.hid he
        have P0 := ho.wide (lo' := w.heap.size + 3) (by omega) (Nat.le_refl v.heap.size)
        clear he ho hb
        have r0 : World.cell? v ⟨w.heap.size + 1 + 1, 0, none⟩ = some (.int .i64 0) := Rv.cell 0
        have g0 := Rv.frozen 0
        have r1 : World.cell? v ⟨w.heap.size + 1 + 1, 1, none⟩ = some (.int .i64 0) := Rv.cell 1
        have g1 := Rv.frozen 1
        have r2 : World.cell? v ⟨w.heap.size + 1 + 1, 2, none⟩ = some (.slice none 0 0) := Rv.cell 2
        have g2 := Rv.frozen 2
        have r3 : World.cell? v ⟨w.heap.size + 1 + 1, 3, none⟩ = some (.int .i64 0) := Rv.cell 3
        have g3 := Rv.frozen 3
        have r4 : World.cell? v ⟨w.heap.size + 1 + 1, 4, none⟩ = some (.int .i64 0) := Rv.cell 4
        have g4 := Rv.frozen 4
        have r5 : World.cell? v ⟨w.heap.size + 1 + 1, 5, none⟩ = some (.string ⟨#[]⟩) := Rv.cell 5
        have g5 := Rv.frozen 5
        have r6 : World.cell? v ⟨w.heap.size + 1 + 1, 6, none⟩ = some (.slice none 0 0) := Rv.cell 6
        have g6 := Rv.frozen 6
        have r7 : World.cell? v ⟨w.heap.size + 1 + 1, 7, none⟩ = some (.slice none 0 0) := Rv.cell 7
        have g7 := Rv.frozen 7
        have PP := Lib.hid P0
        clear P0 Rv
        simp only [Ko.val]
        go_wp2_with fail
        refine bodyPost_ret (v := .agg #[.int .i64 d'.a.k, .int .i64 d'.a.n, .slice d'.a.sA d'.a.s.length d'.a.sC, .int .i64 d'.a.d.k, .int .i64 d'.a.d.n, .string d'.a.d.t, .slice d'.a.d.A d'.a.d.l.length d'.a.d.c, .slice d'.A d'.l.length d'.c]) (by simp [results, Tryz.results13, go_sem, r0, r1, r2, r3, r4, r5, r6, r7]) rfl ⟨d', rfl, by unfold Tr.subC; rw [HF.out]; rw [if_neg (by simp)]; exact HE.out, ?_, ?_⟩
        · simp only [World.size_setCell]
          exact (((((((((PP.out.far (by simp <;> omega) _).far (by simp <;> omega) _).far (by simp <;> omega) _).far (by simp <;> omega) _).far (by simp <;> omega) _).far (by simp <;> omega) _).far (by simp <;> omega) _).far (by simp <;> omega) _).wide (by omega) (Nat.le_refl _))
        · exact ((((((((bv.setCell (by simp <;> omega) _).setCell (by simp <;> omega) _).setCell (by simp <;> omega) _).setCell (by simp <;> omega) _).setCell (by simp <;> omega) _).setCell (by simp <;> omega) _).setCell (by simp <;> omega) _).setCell (by simp <;> omega) _)
end Go.Proofs.YtnkdfphbglcnmaaGreat
namespace Go.Proofs.YtnkdfphbglcnmaaGreat
open Go.RowKit Go.Maps Go.WideMaps Go.ChangeMaps
set_option maxRecDepth 100000 in
set_option maxHeartbeats 8000000 in
theorem implSubC_any (n : Int) (d y : Tr Ko) (B : Nat) (w : World) (hd : Ko.E.In w B d) (hy : Ko.E.In w B y) (hB : B ≤ w.heap.size) (hbk : d.bulk Ko.bulk ≤ 1048576) (hbky : y.bulk Ko.bulk ≤ 1048576) (hwf : (Lit.int .i64 n).wf = true) :
    Calls Tryz.prog 15 #[Ko.val d, .int .i64 n, Ko.val y] w (RetKo ((Tr.subC n y d).er Ko.er) w) := by
  have hbs := Tr.subC_bulk (n := n) (y := y) hbk
  obtain ⟨W1, hW1⟩ : ∃ W1, W1 = w.alloc (.cells #[.int .i64 d.a.k, .int .i64 d.a.n, .slice d.a.sA d.a.s.length d.a.sC, .int .i64 d.a.d.k, .int .i64 d.a.d.n, .string d.a.d.t, .slice d.a.d.A d.a.d.l.length d.a.d.c, .slice d.A d.l.length d.c] 35) := ⟨_, rfl⟩
  obtain ⟨W2, hW2⟩ : ∃ W2, W2 = W1.alloc (.cells #[.int .i64 y.a.k, .int .i64 y.a.n, .slice y.a.sA y.a.s.length y.a.sC, .int .i64 y.a.d.k, .int .i64 y.a.d.n, .string y.a.d.t, .slice y.a.d.A y.a.d.l.length y.a.d.c, .slice y.A y.l.length y.c] 35) := ⟨_, rfl⟩
  obtain ⟨W3, hW3⟩ : ∃ W3, W3 = W2.alloc (.cells #[.int .i64 0, .int .i64 0, .slice none 0 0, .int .i64 0, .int .i64 0, .string ⟨#[]⟩, .slice none 0 0, .slice none 0 0] 35) := ⟨_, rfl⟩
  have z1 : W1.heap.size = w.heap.size + 1 := by rw [hW1]; simp
  have z2 : W2.heap.size = w.heap.size + 1 + 1 := by rw [hW2]; simp [z1]
  have z3 : W3.heap.size = w.heap.size + 1 + 1 + 1 := by rw [hW3]; simp [z2]
  have B1 : Below w.heap.size w W1 := by rw [hW1]; exact (Below.refl _ _).alloc (Nat.le_refl _) _
  have B2 : Below W1.heap.size W1 W2 := by rw [hW2]; exact (Below.refl _ _).alloc (Nat.le_refl _) _
  have B3 : Below W2.heap.size W2 W3 := by rw [hW3]; exact (Below.refl _ _).alloc (Nat.le_refl _) _
  have XV : D.Blk W1 w.heap.size 35 #[.int .i64 d.a.k, .int .i64 d.a.n, .slice d.a.sA d.a.s.length d.a.sC, .int .i64 d.a.d.k, .int .i64 d.a.d.n, .string d.a.d.t, .slice d.a.d.A d.a.d.l.length d.a.d.c, .slice d.A d.l.length d.c] := by rw [hW1]; exact D.Blk.new _ _ _
  have XV := (XV.below B2 (by omega)).below B3 (by omega)
  have YV : D.Blk W2 (w.heap.size + 1) 35 #[.int .i64 y.a.k, .int .i64 y.a.n, .slice y.a.sA y.a.s.length y.a.sC, .int .i64 y.a.d.k, .int .i64 y.a.d.n, .string y.a.d.t, .slice y.a.d.A y.a.d.l.length y.a.d.c, .slice y.A y.l.length y.c] := by rw [hW2, ← z1]; exact D.Blk.new _ _ _
  have YV := YV.below B3 (by omega)
  have RV : D.Blk W3 (w.heap.size + 1 + 1) 35 #[.int .i64 0, .int .i64 0, .slice none 0 0, .int .i64 0, .int .i64 0, .string ⟨#[]⟩, .slice none 0 0, .slice none 0 0] := by rw [hW3, ← z2]; exact D.Blk.new _ _ _
  have bV : Below w.heap.size w W3 := (B1.trans (B2.mono (by omega))).trans (B3.mono (by omega))
  have zb : w.heap.size + 3 ≤ W3.heap.size := by omega
  have hcan := implCan_any d y B W3 (Elem.In.below hd (bV.mono hB)) (Elem.In.below hy (bV.mono hB)) (by omega) (by omega) (by omega)
  have a0 : World.cell? W3 ⟨w.heap.size, 0, none⟩ = some (.int .i64 d.a.k) := XV.cell 0
  have af0 := XV.frozen 0
  have a1 : World.cell? W3 ⟨w.heap.size, 1, none⟩ = some (.int .i64 d.a.n) := XV.cell 1
  have af1 := XV.frozen 1
  have a2 : World.cell? W3 ⟨w.heap.size, 2, none⟩ = some (.slice d.a.sA d.a.s.length d.a.sC) := XV.cell 2
  have af2 := XV.frozen 2
  have a3 : World.cell? W3 ⟨w.heap.size, 3, none⟩ = some (.int .i64 d.a.d.k) := XV.cell 3
  have af3 := XV.frozen 3
  have a4 : World.cell? W3 ⟨w.heap.size, 4, none⟩ = some (.int .i64 d.a.d.n) := XV.cell 4
  have af4 := XV.frozen 4
  have a5 : World.cell? W3 ⟨w.heap.size, 5, none⟩ = some (.string d.a.d.t) := XV.cell 5
  have af5 := XV.frozen 5
  have a6 : World.cell? W3 ⟨w.heap.size, 6, none⟩ = some (.slice d.a.d.A d.a.d.l.length d.a.d.c) := XV.cell 6
  have af6 := XV.frozen 6
  have a7 : World.cell? W3 ⟨w.heap.size, 7, none⟩ = some (.slice d.A d.l.length d.c) := XV.cell 7
  have af7 := XV.frozen 7
  have c0 : World.cell? W3 ⟨w.heap.size + 1, 0, none⟩ = some (.int .i64 y.a.k) := YV.cell 0
  have c1 : World.cell? W3 ⟨w.heap.size + 1, 1, none⟩ = some (.int .i64 y.a.n) := YV.cell 1
  have c2 : World.cell? W3 ⟨w.heap.size + 1, 2, none⟩ = some (.slice y.a.sA y.a.s.length y.a.sC) := YV.cell 2
  have c3 : World.cell? W3 ⟨w.heap.size + 1, 3, none⟩ = some (.int .i64 y.a.d.k) := YV.cell 3
  have c4 : World.cell? W3 ⟨w.heap.size + 1, 4, none⟩ = some (.int .i64 y.a.d.n) := YV.cell 4
  have c5 : World.cell? W3 ⟨w.heap.size + 1, 5, none⟩ = some (.string y.a.d.t) := YV.cell 5
  have c6 : World.cell? W3 ⟨w.heap.size + 1, 6, none⟩ = some (.slice y.a.d.A y.a.d.l.length y.a.d.c) := YV.cell 6
  have c7 : World.cell? W3 ⟨w.heap.size + 1, 7, none⟩ = some (.slice y.A y.l.length y.c) := YV.cell 7
  unfold Ko.val at hcan ⊢
  go_enter Tryz.func15, Tryz.ntmps15
  go_upto_region 1 with fail
  rw [← hW1, ← hW2, ← hW3]
  clear hW1 hW2 hW3 B1 B2 B3 z1 z2 z3
  cases hq : d.canSub y
  · have HF := Lib.hid hq
    rw [hq] at hcan
    clear hq
    go_wp2_with (first | (go_at_call 72; (with_reducible refine hcan.mono ?_); clear hcan; rintro e V ⟨rfl, hb⟩; have zV := hb.size; have XV := XV.below hb (by omega); have YV := YV.below hb (by omega); have RV := RV.below hb (by omega); have bV := bV.trans (hb.mono (by omega)); have a0 : World.cell? V ⟨w.heap.size, 0, none⟩ = some (.int .i64 d.a.k) := XV.cell 0; have af0 := XV.frozen 0; have a1 : World.cell? V ⟨w.heap.size, 1, none⟩ = some (.int .i64 d.a.n) := XV.cell 1; have af1 := XV.frozen 1; have a2 : World.cell? V ⟨w.heap.size, 2, none⟩ = some (.slice d.a.sA d.a.s.length d.a.sC) := XV.cell 2; have af2 := XV.frozen 2; have a3 : World.cell? V ⟨w.heap.size, 3, none⟩ = some (.int .i64 d.a.d.k) := XV.cell 3; have af3 := XV.frozen 3; have a4 : World.cell? V ⟨w.heap.size, 4, none⟩ = some (.int .i64 d.a.d.n) := XV.cell 4; have af4 := XV.frozen 4; have a5 : World.cell? V ⟨w.heap.size, 5, none⟩ = some (.string d.a.d.t) := XV.cell 5; have af5 := XV.frozen 5; have a6 : World.cell? V ⟨w.heap.size, 6, none⟩ = some (.slice d.a.d.A d.a.d.l.length d.a.d.c) := XV.cell 6; have af6 := XV.frozen 6; have a7 : World.cell? V ⟨w.heap.size, 7, none⟩ = some (.slice d.A d.l.length d.c) := XV.cell 7; have af7 := XV.frozen 7))
    have hcon := copyCore_any d B V (by omega) (Elem.In.below hd (bV.mono hB)) (by omega)
    unfold Ko.val at hcon
    go_wp2_with fail
    (with_reducible refine hcon.mono ?_)
    clear hcon
    rintro e v ⟨d', rfl, he, ho, hb⟩
    have zv := hb.size
    have Rv := RV.below hb (by omega)
    have bv := bV.trans (hb.mono (by omega))
    have HE := Lib.hid he
    have P0 := ho.wide (lo' := w.heap.size + 3) (by omega) (Nat.le_refl v.heap.size)
    clear he ho hb
    have r0 : World.cell? v ⟨w.heap.size + 1 + 1, 0, none⟩ = some (.int .i64 0) := Rv.cell 0
    have g0 := Rv.frozen 0
    have r1 : World.cell? v ⟨w.heap.size + 1 + 1, 1, none⟩ = some (.int .i64 0) := Rv.cell 1
    have g1 := Rv.frozen 1
    have r2 : World.cell? v ⟨w.heap.size + 1 + 1, 2, none⟩ = some (.slice none 0 0) := Rv.cell 2
    have g2 := Rv.frozen 2
    have r3 : World.cell? v ⟨w.heap.size + 1 + 1, 3, none⟩ = some (.int .i64 0) := Rv.cell 3
    have g3 := Rv.frozen 3
    have r4 : World.cell? v ⟨w.heap.size + 1 + 1, 4, none⟩ = some (.int .i64 0) := Rv.cell 4
    have g4 := Rv.frozen 4
    have r5 : World.cell? v ⟨w.heap.size + 1 + 1, 5, none⟩ = some (.string ⟨#[]⟩) := Rv.cell 5
    have g5 := Rv.frozen 5
    have r6 : World.cell? v ⟨w.heap.size + 1 + 1, 6, none⟩ = some (.slice none 0 0) := Rv.cell 6
    have g6 := Rv.frozen 6
    have r7 : World.cell? v ⟨w.heap.size + 1 + 1, 7, none⟩ = some (.slice none 0 0) := Rv.cell 7
    have g7 := Rv.frozen 7
    have PP := Lib.hid P0
    clear P0 Rv
    simp only [Ko.val]
    go_wp2_with fail
    refine bodyPost_ret (v := .agg #[.int .i64 d'.a.k, .int .i64 d'.a.n, .slice d'.a.sA d'.a.s.length d'.a.sC, .int .i64 d'.a.d.k, .int .i64 d'.a.d.n, .string d'.a.d.t, .slice d'.a.d.A d'.a.d.l.length d'.a.d.c, .slice d'.A d'.l.length d'.c]) (by simp [results, Tryz.results15, go_sem, r0, r1, r2, r3, r4, r5, r6, r7]) rfl ⟨d', rfl, by unfold Tr.subC; rw [HF.out, if_neg (by simp)]; exact HE.out, ?_, ?_⟩
    · simp only [World.size_setCell]
      exact (((((((((PP.out.far (by simp <;> omega) _).far (by simp <;> omega) _).far (by simp <;> omega) _).far (by simp <;> omega) _).far (by simp <;> omega) _).far (by simp <;> omega) _).far (by simp <;> omega) _).far (by simp <;> omega) _).wide (by omega) (Nat.le_refl _))
    · exact ((((((((bv.setCell (by simp <;> omega) _).setCell (by simp <;> omega) _).setCell (by simp <;> omega) _).setCell (by simp <;> omega) _).setCell (by simp <;> omega) _).setCell (by simp <;> omega) _).setCell (by simp <;> omega) _).setCell (by simp <;> omega) _)
  · have HF := Lib.hid hq
    rw [hq] at hcan
    clear hq
    have hmm := @run_makeMap Tryz.prog
    go_upto_region 2 with (first | (go_at_call 72; (with_reducible refine hcan.mono ?_); clear hcan; rintro e V ⟨rfl, hb⟩))
    have zV := hb.size
    have XV := XV.below hb (by omega)
    have YV := YV.below hb (by omega)
    have RV := RV.below hb (by omega)
    have bV := bV.trans (hb.mono (by omega))
    obtain ⟨W5, hW5⟩ : ∃ W, W = V.alloc (.map #[] 0) := ⟨_, rfl⟩
    have B5 : Below V.heap.size V W5 := by rw [hW5]; exact (Below.refl _ _).alloc (Nat.le_refl _) _
    have z5 : W5.heap.size = V.heap.size + 1 := by rw [hW5]; simp
    have M5 : IMapO W5 V.heap.size 0 (fun _ => none) := by rw [hW5]; exact IMapO.new _
    obtain ⟨w6, hrun, hm6, hg6⟩ := M5.put (t := 123) Tryz.underlying123 (by unfold maxLen; omega) hwf (.agg #[.int .i64 y.a.k, .int .i64 y.a.n, .slice y.a.sA y.a.s.length y.a.sC, .int .i64 y.a.d.k, .int .i64 y.a.d.n, .string y.a.d.t, .slice y.a.d.A y.a.d.l.length y.a.d.c, .slice y.A y.l.length y.c])
    have B6 : Below V.heap.size V w6 := (B5.trans ((chg_of_grown hg6 (F := [V.heap.size]) (by simp)).below (B := V.heap.size) (fun k hk => by simp at hk; omega) (by omega)))
    have z6 := B6.size
    rw [hW5] at hrun
    have XV := XV.below B6 (by omega)
    have YV := YV.below B6 (by omega)
    have RV := RV.below B6 (by omega)
    have bV6 := bV.trans (B6.mono (by omega))
    have hrp : Rp V.heap.size n y B w6 := ⟨hm6, Elem.In.below hy (bV6.mono hB), by omega⟩
    have hcon := replaced_any V.heap.size n d y B w6 (by omega) (Elem.In.below hd (bV6.mono hB)) (by omega) hrp
    unfold Ko.val at hcon
    have X0 := (XV)
    have a0 : World.cell? V ⟨w.heap.size, 0, none⟩ = some (.int .i64 d.a.k) := by have h := (hb.cell (p := ⟨w.heap.size, 0, none⟩) (by show w.heap.size < _; omega)).trans a0; exact h
    have a1 : World.cell? V ⟨w.heap.size, 1, none⟩ = some (.int .i64 d.a.n) := by have h := (hb.cell (p := ⟨w.heap.size, 1, none⟩) (by show w.heap.size < _; omega)).trans a1; exact h
    have a2 : World.cell? V ⟨w.heap.size, 2, none⟩ = some (.slice d.a.sA d.a.s.length d.a.sC) := by have h := (hb.cell (p := ⟨w.heap.size, 2, none⟩) (by show w.heap.size < _; omega)).trans a2; exact h
    have a3 : World.cell? V ⟨w.heap.size, 3, none⟩ = some (.int .i64 d.a.d.k) := by have h := (hb.cell (p := ⟨w.heap.size, 3, none⟩) (by show w.heap.size < _; omega)).trans a3; exact h
    have a4 : World.cell? V ⟨w.heap.size, 4, none⟩ = some (.int .i64 d.a.d.n) := by have h := (hb.cell (p := ⟨w.heap.size, 4, none⟩) (by show w.heap.size < _; omega)).trans a4; exact h
    have a5 : World.cell? V ⟨w.heap.size, 5, none⟩ = some (.string d.a.d.t) := by have h := (hb.cell (p := ⟨w.heap.size, 5, none⟩) (by show w.heap.size < _; omega)).trans a5; exact h
    have a6 : World.cell? V ⟨w.heap.size, 6, none⟩ = some (.slice d.a.d.A d.a.d.l.length d.a.d.c) := by have h := (hb.cell (p := ⟨w.heap.size, 6, none⟩) (by show w.heap.size < _; omega)).trans a6; exact h
    have a7 : World.cell? V ⟨w.heap.size, 7, none⟩ = some (.slice d.A d.l.length d.c) := by have h := (hb.cell (p := ⟨w.heap.size, 7, none⟩) (by show w.heap.size < _; omega)).trans a7; exact h
    have c0 : World.cell? V ⟨w.heap.size + 1, 0, none⟩ = some (.int .i64 y.a.k) := by have h := (hb.cell (p := ⟨w.heap.size + 1, 0, none⟩) (by show w.heap.size + 1 < _; omega)).trans c0; exact h
    have c1 : World.cell? V ⟨w.heap.size + 1, 1, none⟩ = some (.int .i64 y.a.n) := by have h := (hb.cell (p := ⟨w.heap.size + 1, 1, none⟩) (by show w.heap.size + 1 < _; omega)).trans c1; exact h
    have c2 : World.cell? V ⟨w.heap.size + 1, 2, none⟩ = some (.slice y.a.sA y.a.s.length y.a.sC) := by have h := (hb.cell (p := ⟨w.heap.size + 1, 2, none⟩) (by show w.heap.size + 1 < _; omega)).trans c2; exact h
    have c3 : World.cell? V ⟨w.heap.size + 1, 3, none⟩ = some (.int .i64 y.a.d.k) := by have h := (hb.cell (p := ⟨w.heap.size + 1, 3, none⟩) (by show w.heap.size + 1 < _; omega)).trans c3; exact h
    have c4 : World.cell? V ⟨w.heap.size + 1, 4, none⟩ = some (.int .i64 y.a.d.n) := by have h := (hb.cell (p := ⟨w.heap.size + 1, 4, none⟩) (by show w.heap.size + 1 < _; omega)).trans c4; exact h
    have c5 : World.cell? V ⟨w.heap.size + 1, 5, none⟩ = some (.string y.a.d.t) := by have h := (hb.cell (p := ⟨w.heap.size + 1, 5, none⟩) (by show w.heap.size + 1 < _; omega)).trans c5; exact h
    have c6 : World.cell? V ⟨w.heap.size + 1, 6, none⟩ = some (.slice y.a.d.A y.a.d.l.length y.a.d.c) := by have h := (hb.cell (p := ⟨w.heap.size + 1, 6, none⟩) (by show w.heap.size + 1 < _; omega)).trans c6; exact h
    have c7 : World.cell? V ⟨w.heap.size + 1, 7, none⟩ = some (.slice y.A y.l.length y.c) := by have h := (hb.cell (p := ⟨w.heap.size + 1, 7, none⟩) (by show w.heap.size + 1 < _; omega)).trans c7; exact h
    have lxV : w.heap.size < V.heap.size := by omega
    have lyV : w.heap.size + 1 < V.heap.size := by omega
    clear B5 hW5 M5 hm6 hg6 hrp hb bV
    go_wp2_with fail
    (with_reducible refine hcon.mono ?_)
    clear hcon
    rintro e w7 ⟨x1, rfl, hex, hix, hpx, hb7⟩
    have z7 := hb7.size
    have zb7 : w.heap.size + 3 ≤ w7.heap.size := by omega
    have XV := XV.below hb7 (by omega)
    have RV := RV.below hb7 (by omega)
    have bV := bV6.trans (hb7.mono (by omega))
    have HEX := Lib.hid hex
    have a0 : World.cell? w7 ⟨w.heap.size, 0, none⟩ = some (.int .i64 d.a.k) := XV.cell 0
    have af0 := XV.frozen 0
    have a1 : World.cell? w7 ⟨w.heap.size, 1, none⟩ = some (.int .i64 d.a.n) := XV.cell 1
    have af1 := XV.frozen 1
    have a2 : World.cell? w7 ⟨w.heap.size, 2, none⟩ = some (.slice d.a.sA d.a.s.length d.a.sC) := XV.cell 2
    have af2 := XV.frozen 2
    have a3 : World.cell? w7 ⟨w.heap.size, 3, none⟩ = some (.int .i64 d.a.d.k) := XV.cell 3
    have af3 := XV.frozen 3
    have a4 : World.cell? w7 ⟨w.heap.size, 4, none⟩ = some (.int .i64 d.a.d.n) := XV.cell 4
    have af4 := XV.frozen 4
    have a5 : World.cell? w7 ⟨w.heap.size, 5, none⟩ = some (.string d.a.d.t) := XV.cell 5
    have af5 := XV.frozen 5
    have a6 : World.cell? w7 ⟨w.heap.size, 6, none⟩ = some (.slice d.a.d.A d.a.d.l.length d.a.d.c) := XV.cell 6
    have af6 := XV.frozen 6
    have a7 : World.cell? w7 ⟨w.heap.size, 7, none⟩ = some (.slice d.A d.l.length d.c) := XV.cell 7
    have af7 := XV.frozen 7
    obtain ⟨U, hU⟩ : ∃ U, U = ((((((((w7.setCell ⟨w.heap.size, 0, none⟩ (.int .i64 x1.a.k)).setCell ⟨w.heap.size, 1, none⟩ (.int .i64 x1.a.n)).setCell ⟨w.heap.size, 2, none⟩ (.slice x1.a.sA x1.a.s.length x1.a.sC)).setCell ⟨w.heap.size, 3, none⟩ (.int .i64 x1.a.d.k)).setCell ⟨w.heap.size, 4, none⟩ (.int .i64 x1.a.d.n)).setCell ⟨w.heap.size, 5, none⟩ (.string x1.a.d.t)).setCell ⟨w.heap.size, 6, none⟩ (.slice x1.a.d.A x1.a.d.l.length x1.a.d.c)).setCell ⟨w.heap.size, 7, none⟩ (.slice x1.A x1.l.length x1.c)) := ⟨_, rfl⟩
    have zU : U.heap.size = w7.heap.size := by rw [hU]; simp
    have hne : ∀ k, k ≠ w.heap.size → U.heap[k]? = w7.heap[k]? := fun k hk => by
      rw [hU]
      have e : ∀ (u : World) (j : Nat) (x : Value), (u.setCell ⟨w.heap.size, j, none⟩ x).heap[k]? = u.heap[k]? := fun u j x => Below.heap_setCell _ _ _ _ (by simpa using hk)
      simp only [e]
    have XU : D.Blk U w.heap.size 35 #[.int .i64 x1.a.k, .int .i64 x1.a.n, .slice x1.a.sA x1.a.s.length x1.a.sC, .int .i64 x1.a.d.k, .int .i64 x1.a.d.n, .string x1.a.d.t, .slice x1.a.d.A x1.a.d.l.length x1.a.d.c, .slice x1.A x1.l.length x1.c] := by rw [hU]; have := ((((((((XV.set_ 0 (.int .i64 x1.a.k)).set_ 1 (.int .i64 x1.a.n)).set_ 2 (.slice x1.a.sA x1.a.s.length x1.a.sC)).set_ 3 (.int .i64 x1.a.d.k)).set_ 4 (.int .i64 x1.a.d.n)).set_ 5 (.string x1.a.d.t)).set_ 6 (.slice x1.a.d.A x1.a.d.l.length x1.a.d.c)).set_ 7 (.slice x1.A x1.l.length x1.c)); simpa using this
    have hixU : Ko.E.In U U.heap.size x1 := Ko.in_keep (g := w.heap.size) hix (by omega) hne (fun k hk => by rcases hpx k hk with h | h <;> omega)
    have RV : D.Blk U (w.heap.size + 1 + 1) 35 #[.int .i64 0, .int .i64 0, .slice none 0 0, .int .i64 0, .int .i64 0, .string ⟨#[]⟩, .slice none 0 0, .slice none 0 0] := (hne _ (by omega)).trans RV
    have bV : Below w.heap.size w U := by rw [hU]; exact ((((((((bV.setCell (by simp) _).setCell (by simp) _).setCell (by simp) _).setCell (by simp) _).setCell (by simp) _).setCell (by simp) _).setCell (by simp) _).setCell (by simp) _)
    have hbx : x1.bulk Ko.bulk ≤ 1500000 := by
      have h1 : x1.bulk Ko.bulk = (Tr.sub n y d).bulk Ko.bulk := Tr.bulk_of_er (fun _ _ => Ko.bulk_of_er) _ _ hex
      unfold Tr.subC at hbs
      rw [HF.out, if_pos rfl] at hbs
      omega
    simp only [Ko.val]
    clear hex hix hpx hb7 z7 YV X0 bV6 hne XV B6 z6
    go_upto_region 3 with fail
    rw [← hU]
    clear hU a0 af0 c0 a1 af1 c1 a2 af2 c2 a3 af3 c3 a4 af4 c4 a5 af5 c5 a6 af6 c6 a7 af7 c7
    have a0 : World.cell? U ⟨w.heap.size, 0, none⟩ = some (.int .i64 x1.a.k) := XU.cell 0
    have a1 : World.cell? U ⟨w.heap.size, 1, none⟩ = some (.int .i64 x1.a.n) := XU.cell 1
    have a2 : World.cell? U ⟨w.heap.size, 2, none⟩ = some (.slice x1.a.sA x1.a.s.length x1.a.sC) := XU.cell 2
    have a3 : World.cell? U ⟨w.heap.size, 3, none⟩ = some (.int .i64 x1.a.d.k) := XU.cell 3
    have a4 : World.cell? U ⟨w.heap.size, 4, none⟩ = some (.int .i64 x1.a.d.n) := XU.cell 4
    have a5 : World.cell? U ⟨w.heap.size, 5, none⟩ = some (.string x1.a.d.t) := XU.cell 5
    have a6 : World.cell? U ⟨w.heap.size, 6, none⟩ = some (.slice x1.a.d.A x1.a.d.l.length x1.a.d.c) := XU.cell 6
    have a7 : World.cell? U ⟨w.heap.size, 7, none⟩ = some (.slice x1.A x1.l.length x1.c) := XU.cell 7
    have hcon := copyCore_any x1 U.heap.size U hbx hixU (Nat.le_refl _)
    unfold Ko.val at hcon
    go_wp2_with fail
    (with_reducible refine hcon.mono ?_)
    clear hcon
    rintro e v ⟨d', rfl, he, ho, hb⟩
    have zv := hb.size
    have Rv := RV.below hb (by omega)
    have bv := bV.trans (hb.mono (by omega))
    have HE := Lib.hid he
    have P0 := ho.wide (lo' := w.heap.size + 3) (by omega) (Nat.le_refl v.heap.size)
    clear he ho hb
    have r0 : World.cell? v ⟨w.heap.size + 1 + 1, 0, none⟩ = some (.int .i64 0) := Rv.cell 0
    have g0 := Rv.frozen 0
    have r1 : World.cell? v ⟨w.heap.size + 1 + 1, 1, none⟩ = some (.int .i64 0) := Rv.cell 1
    have g1 := Rv.frozen 1
    have r2 : World.cell? v ⟨w.heap.size + 1 + 1, 2, none⟩ = some (.slice none 0 0) := Rv.cell 2
    have g2 := Rv.frozen 2
    have r3 : World.cell? v ⟨w.heap.size + 1 + 1, 3, none⟩ = some (.int .i64 0) := Rv.cell 3
    have g3 := Rv.frozen 3
    have r4 : World.cell? v ⟨w.heap.size + 1 + 1, 4, none⟩ = some (.int .i64 0) := Rv.cell 4
    have g4 := Rv.frozen 4
    have r5 : World.cell? v ⟨w.heap.size + 1 + 1, 5, none⟩ = some (.string ⟨#[]⟩) := Rv.cell 5
    have g5 := Rv.frozen 5
    have r6 : World.cell? v ⟨w.heap.size + 1 + 1, 6, none⟩ = some (.slice none 0 0) := Rv.cell 6
    have g6 := Rv.frozen 6
    have r7 : World.cell? v ⟨w.heap.size + 1 + 1, 7, none⟩ = some (.slice none 0 0) := Rv.cell 7
    have g7 := Rv.frozen 7
    have PP := Lib.hid P0
    clear P0 Rv
    simp only [Ko.val]
    go_wp2_with fail
    refine bodyPost_ret (v := .agg #[.int .i64 d'.a.k, .int .i64 d'.a.n, .slice d'.a.sA d'.a.s.length d'.a.sC, .int .i64 d'.a.d.k, .int .i64 d'.a.d.n, .string d'.a.d.t, .slice d'.a.d.A d'.a.d.l.length d'.a.d.c, .slice d'.A d'.l.length d'.c]) (by simp [results, Tryz.results15, go_sem, r0, r1, r2, r3, r4, r5, r6, r7]) rfl ⟨d', rfl, by unfold Tr.subC; rw [HF.out, if_pos rfl, ← HEX.out]; exact HE.out, ?_, ?_⟩
    · simp only [World.size_setCell]
      exact (((((((((PP.out.far (by simp <;> omega) _).far (by simp <;> omega) _).far (by simp <;> omega) _).far (by simp <;> omega) _).far (by simp <;> omega) _).far (by simp <;> omega) _).far (by simp <;> omega) _).far (by simp <;> omega) _).wide (by omega) (Nat.le_refl _))
    · exact ((((((((bv.setCell (by simp <;> omega) _).setCell (by simp <;> omega) _).setCell (by simp <;> omega) _).setCell (by simp <;> omega) _).setCell (by simp <;> omega) _).setCell (by simp <;> omega) _).setCell (by simp <;> omega) _).setCell (by simp <;> omega) _)
theorem specSubC_c (n : Int) (d y : Tr Ko) {d0 y0 : Tr Ko} {Y : Tr Ko} (B : Nat) (w : World) (hde : d.er Ko.er = d0.er Ko.er) (hye : y.er Ko.er = y0.er Ko.er) (hY : (Tr.subC n y0 d0).er Ko.er = Y) (hd : Ko.E.In w B d) (hy : Ko.E.In w B y) (hB : B ≤ w.heap.size) (hbk : d0.bulk Ko.bulk ≤ 1048576) (hbky : y0.bulk Ko.bulk ≤ 1048576) :
    Calls Tryz.prog 13 #[Ko.val d, .int .i64 n, Ko.val y] w (RetKo Y w) := by
  rw [← hY, ← Tr.subC_er n hde hye]
  exact specSubC_any n d y B w hd hy hB (Nat.le_trans (Nat.le_of_eq (Tr.bulk_of_er (f := Ko.bulk) (fun _ _ => Ko.bulk_of_er) _ _ hde)) (by omega)) (Nat.le_trans (Nat.le_of_eq (Tr.bulk_of_er (f := Ko.bulk) (fun _ _ => Ko.bulk_of_er) _ _ hye)) (by omega))
theorem implSubC_c (n : Int) (d y : Tr Ko) {d0 y0 : Tr Ko} {Y : Tr Ko} (B : Nat) (w : World) (hde : d.er Ko.er = d0.er Ko.er) (hye : y.er Ko.er = y0.er Ko.er) (hY : (Tr.subC n y0 d0).er Ko.er = Y) (hd : Ko.E.In w B d) (hy : Ko.E.In w B y) (hB : B ≤ w.heap.size) (hbk : d0.bulk Ko.bulk ≤ 1048576) (hbky : y0.bulk Ko.bulk ≤ 1048576) (hwf : (Lit.int .i64 n).wf = true) :
    Calls Tryz.prog 15 #[Ko.val d, .int .i64 n, Ko.val y] w (RetKo Y w) := by
  rw [← hY, ← Tr.subC_er n hde hye]
  exact implSubC_any n d y B w hd hy hB (Nat.le_trans (Nat.le_of_eq (Tr.bulk_of_er (f := Ko.bulk) (fun _ _ => Ko.bulk_of_er) _ _ hde)) (by omega)) (Nat.le_trans (Nat.le_of_eq (Tr.bulk_of_er (f := Ko.bulk) (fun _ _ => Ko.bulk_of_er) _ _ hye)) (by omega)) hwf
end Go.Proofs.YtnkdfphbglcnmaaGreat
