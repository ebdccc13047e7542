/-
  The model's l5Rename (written by gen/kol5r.py).
-/
import Derived.Test.YtpigpncbjckbcaaGreatKsu
import Derived.Test.YtpigpncbjckbcaaGreatKvBC
import Derived.Test.YtpigpncbjckbcaaGreatKcB
import Derived.Deep.RegionHeld3
namespace Go.Proofs.YtpigpncbjckbcaaGreat
open Go.RowKit
def renM (L M : List Int) (u : Int) : Int := if 0 ≤ lookL L u then M.getD (lookL L u).toNat 0 else u
theorem lookL_lt (l : List Int) (n : Int) : lookL l n < l.length := by
  induction l with
  | nil => simp [lookL]
  | cons x r ih => unfold lookL; simp only [List.length_cons]; split <;> (try split) <;> omega
theorem renM_wf {L M : List Int} (hM : ∀ i ∈ M, (Lit.int .i64 i).wf = true) {u : Int} (hu : (Lit.int .i64 u).wf = true) : (Lit.int .i64 (renM L M u)).wf = true := by
  unfold renM
  split
  · by_cases h : (lookL L u).toNat < M.length
    · rw [show M.getD (lookL L u).toNat 0 = M[(lookL L u).toNat] by simp [List.getD, List.getElem?_eq_getElem h]]; exact hM _ (List.getElem_mem h)
    · rw [show M.getD (lookL L u).toNat 0 = 0 by simp [List.getD, List.getElem?_eq_none (show M.length ≤ (lookL L u).toNat by omega)]]; rfl
  · exact hu
theorem IOwn.set {lo hi : Nat} {w : World} {b o c : Nat} {l : List Int} (h : IOwn lo hi w (some ⟨b, o, none⟩) c l) {j : Nat} (hj : j < l.length) (x : Int) : IOwn lo hi (w.setCell ⟨b, o + j, none⟩ (.int .i64 x)) (some ⟨b, o, none⟩) c (l.set j x) := by
  have hl : l ≠ [] := by rintro rfl; simp at hj
  obtain ⟨b', o', e, hb, hc⟩ := h.inn.mem hl
  obtain ⟨rfl, rfl, _⟩ := Addr.mk.inj (Option.some.inj e)
  obtain ⟨hlo, hfz⟩ := h.own hl b o rfl
  refine ⟨⟨by rw [List.length_set]; exact h.inn.cap, by simp, fun _ => ⟨b, o, rfl, hb, fun p u hu => ?_⟩⟩, fun _ b' o' e => ?_⟩
  · by_cases hp : p = j
    · subst hp
      rw [List.getElem?_set_self hj] at hu
      obtain rfl := Option.some.inj hu
      exact icell_eq (hc p l[p] (List.getElem?_eq_getElem hj))
    · rw [List.getElem?_set_ne (fun e => hp e.symm)] at hu
      rw [icell_ne _ _ _ _ _ (by omega)]
      exact hc p u hu
  · obtain ⟨rfl, rfl, _⟩ := Addr.mk.inj (Option.some.inj e)
    exact ⟨hlo, fun q => by rw [World.frozen?_setCell]; exact hfz q⟩
theorem mapJ_succ (f : Int → Int) (s : List Int) (j : Nat) (h : j < s.length) : ((s.take j).map f ++ s.drop j).set j (f s[j]) = (s.take (j + 1)).map f ++ s.drop (j + 1) := by
  have h1 : ((s.take j).map f).length = j := by rw [List.length_map, List.length_take]; omega
  rw [List.drop_eq_getElem_cons h, List.set_append_right _ _ (by omega), h1, Nat.sub_self, List.set_cons_zero, List.take_succ_eq_append_getElem h]
  simp only [List.map_append, List.map_cons, List.map_nil, List.append_assoc, List.singleton_append]
theorem mapJ_same (f : Int → Int) (s : List Int) (j : Nat) (h : j < s.length) (he : f s[j] = s[j]) : (s.take j).map f ++ s.drop j = (s.take (j + 1)).map f ++ s.drop (j + 1) := by
  rw [List.drop_eq_getElem_cons h, List.take_succ_eq_append_getElem h]
  simp only [List.map_append, List.map_cons, List.map_nil, List.append_assoc, List.singleton_append, he]
theorem mapJ_get (f : Int → Int) (s : List Int) (j : Nat) (h : j < s.length) : ((s.take j).map f ++ s.drop j)[j]? = some s[j] := by
  have h1 : ((s.take j).map f).length = j := by rw [List.length_map, List.length_take]; omega
  rw [List.getElem?_append_right (by omega), h1, Nat.sub_self, List.drop_eq_getElem_cons h]; rfl
theorem mapJ_len (f : Int → Int) (s : List Int) (j : Nat) (h : j ≤ s.length) : ((s.take j).map f ++ s.drop j).length = s.length := by
  simp; omega
theorem Tr.renL_app5 (f : Int → Int) : ∀ (a b : List (Tr Ko)), Tr.renL f (a ++ b) = Tr.renL f a ++ Tr.renL f b
  | [], b => rfl
  | d :: r, b => by simp only [List.cons_append, Tr.renL, Tr.renL_app5 f r b]
structure RenRun (f : Int → Int) (lo : Nat) (A : Option Addr) (c : Nat) (l dl : List (Tr Ko)) (U : World) (j : Nat) (wr : World) (pre : List (Tr Ko)) : Prop where
  own : Ko.E.LOwn lo wr.heap.size wr A c (pre ++ dl.drop j)
  er : Tr.erL Ko.er pre = Tr.erL Ko.er (Tr.renL f (l.take j))
  len : pre.length = j
  hi : ∀ k ∈ Ko.E.blksL pre, U.heap.size ≤ k
  chg : Chg (Elem.lblk A dl) U wr
theorem iblk_nodup5 (A : Option Addr) (s : List Int) : (iblk A s).Nodup := by
  unfold iblk
  split
  · simp
  · cases A <;> simp
theorem iblk_map (A : Option Addr) (l : List Int) (f : Int → Int) : iblk A (l.map f) = iblk A l := by cases l <;> rfl
theorem Ko.head_join {lo hi : Nat} {w : World} {x : Ko} (hs : IOwn lo hi w x.sA x.sC x.s) (hd : x.d.Own lo hi w) (hx : ∀ b ∈ iblk x.sA x.s, b ∉ D.blks x.d) (hw : Ko.wfp x) : Ko.H.Own lo hi w x := by
  have eb : Ko.H.blks x = iblk x.sA x.s ++ D.blks x.d := rfl
  refine ⟨⟨hs.inn, hd.inn, hw⟩, fun b hb => ?_, ?_, fun b hb o => ?_⟩
  · rw [eb, List.mem_append] at hb
    exact hb.elim (hs.lo_ b) (hd.lo_ b)
  · rw [eb]
    exact List.nodup_append.2 ⟨iblk_nodup5 _ _, hd.nd, fun p hp q hq e => hx p hp (e ▸ hq)⟩
  · rw [eb, List.mem_append] at hb
    exact hb.elim (fun h => hs.fr b h o) (fun h => hd.fr b h o)
def R5Ok (L M : List Int) (Af At : Option Addr) (cf ct : Nat) (B : Nat) (m : Nat) : Prop := ∀ (d : Tr Ko) (w : World), d.bulk Ko.bulk ≤ 1500000 → d.size ≤ m → Ko.E.In w B d → IIn w B Af cf L → IIn w B At ct M → B ≤ w.heap.size →
    Calls Tryz.prog 47 #[Ko.val d, .slice Af L.length cf, .slice At M.length ct] w (RetKo ((d.ren (renM L M)).er Ko.er) w)
set_option maxRecDepth 100000 in
set_option maxHeartbeats 16000000 in
theorem r5_step (L M : List Int) (Af At : Option Addr) (cf ct : Nat) (B : Nat) (hLM : L.length = M.length) (_hll : L.length ≤ 2000000) (hwM : ∀ i ∈ M, (Lit.int .i64 i).wf = true) (m : Nat) (ih : R5Ok L M Af At cf ct B m) : R5Ok L M Af At cf ct B (m + 1) := by
  intro d w hbk hm hd hL hM hB
  have hl1 : L.length ≤ M.length := by omega
  have hl2 : M.length ≤ L.length := by omega
  clear hLM
  have hmm : Tr.sizeL d.l ≤ m := by rw [Tr.size_eq] at hm; omega
  have hbk2 : Tr.bulkL Ko.bulk d.l ≤ 1500000 := by rw [Tr.bulk_eq] at hbk; omega
  have hsl : d.a.s.length ≤ 1500000 := by rw [Tr.bulk_eq] at hbk; unfold Ko.bulk at hbk; omega
  have hll2 : d.l.length ≤ 1500000 := by have := Tr.length_le_sizeL d.l; have := Tr.sizeL_le_bulkL Ko.bulk d.l; omega
  have hcap := (Ko.E_in hd).2.cap
  have hwf := (Ko.E_in hd).1.wf
  obtain ⟨f, hf⟩ : ∃ f, f = renM L M := ⟨_, rfl⟩
  have HFF := Lib.hid hf
  rw [← hf]
  clear hm hf
  obtain ⟨W1, hW1⟩ : ∃ W1, W1 = w.alloc (.cells #[.int .i64 d.a.k, .int .i64 d.a.n, .slice d.a.sA d.a.s.length d.a.sC, .int .i64 d.a.d.k, .int .i64 d.a.d.n, .string d.a.d.t, .slice d.a.d.A d.a.d.l.length d.a.d.c, .slice d.A d.l.length d.c] 35) := ⟨_, rfl⟩
  obtain ⟨W2, hW2⟩ : ∃ W2, W2 = W1.alloc (.cells #[.int .i64 0, .int .i64 0, .slice none 0 0, .int .i64 0, .int .i64 0, .string ⟨#[]⟩, .slice none 0 0, .slice none 0 0] 35) := ⟨_, rfl⟩
  have z1 : W1.heap.size = w.heap.size + 1 := by rw [hW1]; simp
  have z2 : W2.heap.size = w.heap.size + 1 + 1 := by rw [hW2]; simp [z1]
  have B1 : Below w.heap.size w W1 := by rw [hW1]; exact (Below.refl _ _).alloc (Nat.le_refl _) _
  have B2 : Below W1.heap.size W1 W2 := by rw [hW2]; exact (Below.refl _ _).alloc (Nat.le_refl _) _
  have X0 : Ko.Box W1 w.heap.size d := by rw [hW1]; exact Ko.Box.new _ _ _
  have X0 := X0.below B2 (by omega)
  have R0 : D.Blk W2 (w.heap.size + 1) 35 #[.int .i64 0, .int .i64 0, .slice none 0 0, .int .i64 0, .int .i64 0, .string ⟨#[]⟩, .slice none 0 0, .slice none 0 0] := by rw [hW2, ← z1]; exact D.Blk.new _ _ _
  have b0 : Below w.heap.size w W2 := B1.trans (B2.mono (by omega))
  have zb : w.heap.size + 2 ≤ W2.heap.size := by omega
  have hconD := l5Copy_any d B W2 hbk (Elem.In.below hd (b0.mono hB)) (by omega)
  obtain ⟨a0, a1, a2, a3, a4, a5, a6, a7⟩ := id X0
  unfold Ko.val at hconD ⊢
  go_enter Tryz.func47, Tryz.ntmps47
  go_upto_region 1 with fail
  rw [← hW1, ← hW2]
  clear hW1 hW2 B1 B2 z1 z2
  go_wp2_with fail
  (with_reducible refine hconD.mono ?_)
  clear hconD
  rintro e v ⟨dO, rfl, he, ho, hb⟩
  have zv := hb.size
  have HE := Lib.hid he
  obtain ⟨H, hH⟩ : ∃ H, H = v.heap.size := ⟨_, rfl⟩
  obtain ⟨U, hU⟩ : ∃ U, U = v.alloc (.cells #[.int .i64 dO.a.k, .int .i64 dO.a.n, .slice dO.a.sA dO.a.s.length dO.a.sC, .int .i64 dO.a.d.k, .int .i64 dO.a.d.n, .string dO.a.d.t, .slice dO.a.d.A dO.a.d.l.length dO.a.d.c, .slice dO.A dO.l.length dO.c] 35) := ⟨_, rfl⟩
  have zU : U.heap.size = v.heap.size + 1 := by rw [hU]; simp
  have BU : Below v.heap.size v U := by rw [hU]; exact (Below.refl _ _).alloc (Nat.le_refl _) _
  have O0 : D.Blk U H 35 #[.int .i64 dO.a.k, .int .i64 dO.a.n, .slice dO.a.sA dO.a.s.length dO.a.sC, .int .i64 dO.a.d.k, .int .i64 dO.a.d.n, .string dO.a.d.t, .slice dO.a.d.A dO.a.d.l.length dO.a.d.c, .slice dO.A dO.l.length dO.c] := by rw [hU, hH]; exact D.Blk.new _ _ _
  have hbU := hb.trans (BU.mono zv)
  have bU := b0.trans (hbU.mono (by omega))
  have X1 := X0.below hbU (by omega)
  have R1 := R0.below hbU (by omega)
  have P0 := (ho.below BU).wide (lo' := w.heap.size + 2) (by omega) (show v.heap.size ≤ H by omega)
  have hH1 : w.heap.size + 2 ≤ H := by omega
  have hH2 : H < U.heap.size := by omega
  have hea : dO.a.er = d.a.er ∧ Tr.erL Ko.er dO.l = Tr.erL Ko.er d.l := by
    cases dO; cases d
    simp only [Tr.er, Tr.mk.injEq] at he
    exact ⟨he.1, he.2.2.2⟩
  have hse : dO.a.k = d.a.k ∧ dO.a.n = d.a.n ∧ dO.a.s = d.a.s ∧ dO.a.d.er = d.a.d.er := by
    have := hea.1
    simp only [Ko.er, Ko.mk.injEq] at this
    exact ⟨this.1, this.2.1, this.2.2.2.2.1, this.2.2.2.2.2⟩
  have hlenO : dO.l.length = d.l.length := by
    have h2 := congrArg List.length hea.2
    rwa [Tr.erL_length, Tr.erL_length] at h2
  have hexp : U = v.alloc (.cells #[.int .i64 dO.a.k, .int .i64 dO.a.n, .slice dO.a.sA dO.a.s.length dO.a.sC, .int .i64 dO.a.d.k, .int .i64 dO.a.d.n, .string dO.a.d.t, .slice dO.a.d.A dO.a.d.l.length dO.a.d.c, .slice dO.A dO.l.length dO.c] 35) := hU
  obtain ⟨hoh, hol, hdj⟩ := Ko.own_parts P0
  obtain ⟨hos, hod, hsd⟩ := Ko.head_parts hoh
  have HEA := Lib.hid hea
  have HSE := Lib.hid hse
  have HLO := Lib.hid hlenO
  simp only [Ko.val]
  clear he ho hb R0 b0 X0 a0 a1 a2 a3 a4 a5 a6 a7 BU hbU hU hea hse hlenO
  go_upto_region 2 with fail
  rw [← hexp, ← hH]
  clear hexp hH zv zU
  have HW : Hid (∀ z : World, Below U.heap.size U z → Calls Tryz.prog 101 #[.agg #[.int .i64 d.a.k, .int .i64 d.a.n, .slice d.a.sA d.a.s.length d.a.sC, .int .i64 d.a.d.k, .int .i64 d.a.d.n, .string d.a.d.t, .slice d.a.d.A d.a.d.l.length d.a.d.c, .slice d.A d.l.length d.c]] z fun e w' => e = .returned (.bool d.a.isVar) ∧ Below z.heap.size z w') := fun z _ => specNames_u d z
  have hLU := hL.below (bU.mono hB)
  have hMU := hM.below (bU.mono hB)
  have zBU := bU.size
  have hlk := lookL_ge L d.a.n
  have hlt := lookL_lt L d.a.n
  obtain ⟨q, hq⟩ : ∃ q, q = lookL L d.a.n := ⟨_, rfl⟩
  have hlook := look_any Af cf L d.a.n B U hLU (by omega)
  rw [← hq] at hlook hlk hlt
  -- the number
  obtain ⟨N, hN⟩ : ∃ N, N = (if d.a.isVar = true then f d.a.n else d.a.n) := ⟨_, rfl⟩
  have HN := Lib.hid hN
  have hwN : (Lit.int .i64 N).wf = true := by
    rw [hN, HFF.out]
    split
    · exact renM_wf hwM hwf.1
    · exact hwf.1
  have HQ := Lib.hid hq
  clear hN hq
  obtain ⟨a0, a1, a2, a3, a4, a5, a6, a7⟩ := id X1
  have o0c := O0.cell 1
  by_cases hc : d.a.isVar = true ∧ 0 ≤ q
  · obtain ⟨k, hk⟩ := Int.eq_ofNat_of_zero_le hc.2
    subst hk
    have hkM : k < M.length := by omega
    have hNk : N = M[k] := by
      rw [HN.out, if_pos hc.1, HFF.out]
      unfold renM
      rw [← HQ.out, if_pos hc.2]
      simp [List.getD, List.getElem?_eq_getElem hkM]
    have HIV := Lib.hid hc.1
    have hk0 : (0 : Int) ≤ (k : Int) := by omega
    have hkm : (k : Int) < (M.length : Int) := by omega
    have HNK := Lib.hid hNk
    clear hc hNk
    go_upto_region 3 with (first | (go_at_call 100; with_reducible refine hlook.mono ?_; clear hlook; rintro e V1 ⟨rfl, hb1⟩; have y1 := hb1.size; have XA := X1.below hb1 (by omega); have bA := bU.trans (hb1.mono (by omega)); obtain ⟨a0, a1, a2, a3, a4, a5, a6, a7⟩ := id XA))
    go_upto_region 5 with (first | (go_at_call 101; with_reducible refine (HW.out V1 hb1).mono ?_; rintro e V2 ⟨rfl, hb2⟩; have hb2 := hb1.trans (hb2.mono y1); have y2 := hb2.size; rw [HIV.out]; obtain ⟨bt, ot, rfl, hbt, ct0⟩ := (hM.below ((bU.trans (hb2.mono (by omega))).mono hB)).at_ hkM; have OX := O0.below hb2 (by omega); have o1c := OX.cell 1; have o1f := OX.frozen 1))
    obtain ⟨V, hV⟩ : ∃ V, V = V2.setCell ⟨H, 1, none⟩ (.int .i64 M[k]) := ⟨_, rfl⟩
    rw [← hV]
    have hkV : ∀ k, k < U.heap.size → k ≠ H → V.heap[k]? = U.heap[k]? := fun k h1 h2 => by
      rw [hV, Below.heap_setCell _ _ _ _ (by simpa using h2)]; exact hb2.block k h1
    have OV : D.Blk V H 35 #[.int .i64 dO.a.k, .int .i64 N, .slice dO.a.sA dO.a.s.length dO.a.sC, .int .i64 dO.a.d.k, .int .i64 dO.a.d.n, .string dO.a.d.t, .slice dO.a.d.A dO.a.d.l.length dO.a.d.c, .slice dO.A dO.l.length dO.c] := by rw [hV, HNK.out]; have := OX.set_ 1 (.int .i64 M[k]); simpa using this
    have bV : Below w.heap.size w V := by rw [hV]; exact (bU.trans (hb2.mono (by omega))).setCell (by simp; omega) _
    have zV : U.heap.size ≤ V.heap.size := by rw [hV]; simpa using y2
    clear hV hb1 hb2 y1 y2 XA bA ct0 OX o1c o1f a0 a1 a2 a3 a4 a5 a6 a7 o0c
    have XV : Ko.Box V w.heap.size d := X1.keep (hkV _ (by omega) (by omega))
    have RV : D.Blk V (w.heap.size + 1) 35 #[.int .i64 0, .int .i64 0, .slice none 0 0, .int .i64 0, .int .i64 0, .string ⟨#[]⟩, .slice none 0 0, .slice none 0 0] := (hkV _ (by omega) (by omega)).trans R1
    have hosV : IOwn (w.heap.size + 2) H V dO.a.sA dO.a.sC dO.a.s := hos.keep fun k hk => by have := hos.inn.blk_lt k hk; exact hkV k (by omega) (by omega)
    have hodV : dO.a.d.Own (w.heap.size + 2) H V := hod.keepB fun k hk => by have := hod.inn.blk_lt k hk; exact hkV k (by omega) (by omega)
    have holV : Ko.E.LOwn (w.heap.size + 2) H V dO.A dO.c dO.l := hol.keepB fun k hk => by have := hol.inn.blk_lt k hk; exact hkV k (by omega) (by omega)
    have o2 : World.cell? V ⟨H, 2, none⟩ = some (.slice dO.a.sA dO.a.s.length dO.a.sC) := OV.cell 2
    have hsl2 : dO.a.s.length ≤ 1500000 := by rw [HSE.out.2.2.1]; exact hsl
    obtain ⟨SS, hSS⟩ : ∃ SS, SS = dO.a.s := ⟨_, rfl⟩
    have HSS := Lib.hid hSS
    rw [← hSS] at hosV hsl2 o2 ⊢
    have hbs : ∀ k ∈ iblk dO.a.sA SS, w.heap.size + 2 ≤ k ∧ k < H := fun k hk => ⟨hosV.lo_ k hk, hosV.inn.blk_lt k hk⟩
    clear hSS hkV
    go_wp2_with fail
    go_loopw [32] (fun i wr => ∃ j : Nat, j ≤ SS.length ∧ i = .int .i64 j ∧ IOwn (w.heap.size + 2) H wr dO.a.sA dO.a.sC ((SS.take j).map f ++ SS.drop j) ∧ Chg (iblk dO.a.sA SS) V wr) (fun i _ => SS.length - (intOf i).toNat)
    case atStart => exact ⟨0, Nat.zero_le _, rfl, by simpa using hosV, Chg.refl _ _⟩
    case round =>
      obtain ⟨j, hj, rfl, hio, hch⟩ := hrel
      have hs3 := hch.size
      have hbw : Below w.heap.size w wr := bV.trans (hch.below (fun k hk => by have := hbs k hk; omega) (by omega))
      have O2c : wr.heap[H]? = V.heap[H]? := hch.block H (by omega) (fun hm => by have := hbs H hm; omega)
      have OW : D.Blk wr H 35 #[.int .i64 dO.a.k, .int .i64 N, .slice dO.a.sA dO.a.s.length dO.a.sC, .int .i64 dO.a.d.k, .int .i64 dO.a.d.n, .string dO.a.d.t, .slice dO.a.d.A dO.a.d.l.length dO.a.d.c, .slice dO.A dO.l.length dO.c] := O2c.trans OV
      have o2w : World.cell? wr ⟨H, 2, none⟩ = some (.slice dO.a.sA dO.a.s.length dO.a.sC) := OW.cell 2
      rw [← HSS.out] at o2w
      have HCH := Lib.hid hch
      clear hch O2c
      by_cases hjl : j < SS.length
      · have hlen := mapJ_len f SS j (by omega)
        have hne : (SS.take j).map f ++ SS.drop j ≠ [] := by intro h; rw [h] at hlen; simp at hlen; omega
        obtain ⟨bs, os, hAs, hbs2, hcs⟩ := hio.inn.mem hne
        have c0 := hcs j SS[j] (mapJ_get f SS j hjl)
        obtain ⟨_, hfz⟩ := hio.own hne bs os hAs
        have f0 := hfz (os + j)
        have hwj : SS[j] ∈ d.a.s := by have := HSE.out.2.2.1; rw [← this, ← HSS.out]; exact List.getElem_mem hjl
        obtain ⟨q2, hq2⟩ : ∃ q2, q2 = lookL L SS[j] := ⟨_, rfl⟩
        have hlook2 := look_any Af cf L SS[j] B wr (hL.below (hbw.mono hB)) (by omega)
        have hlk2 := lookL_lt L SS[j]
        rw [← hq2] at hlook2 hlk2
        have HQ2 := Lib.hid hq2
        have hsn : SS ≠ [] := by intro h; rw [h] at hjl; simp at hjl
        have hib : iblk dO.a.sA SS = [bs] := by rw [hAs]; exact iblk_some hsn
        have HAS := Lib.hid hAs
        have hch2 := HCH.out
        rw [hAs] at o2w hio hib hch2 ⊢
        have HIB := Lib.hid hib
        have HCH2 := Lib.hid hch2
        clear hch2
        have gj0 : (0 : Int) ≤ (j : Int) := by omega
        have gj1 : (j : Int) < (SS.length : Int) := by omega
        have lbs : bs < wr.heap.size := by have := hbs bs (by rw [hAs, hib]; simp); omega
        have nbs : bs ≠ H := by have := hbs bs (by rw [hAs, hib]; simp); omega
        have lHr : H < wr.heap.size := by omega
        clear hq2 hcs hfz hib hAs hne hlen
        by_cases h2 : 0 ≤ q2
        · obtain ⟨k2, hk2⟩ := Int.eq_ofNat_of_zero_le h2
          subst hk2
          have hk2M : k2 < M.length := by omega
          have hfj : f SS[j] = M[k2] := by
            rw [HFF.out]
            unfold renM
            rw [← HQ2.out, if_pos h2]
            simp [List.getD, List.getElem?_eq_getElem hk2M]
          have HFJ := Lib.hid hfj
          have hk20 : (0 : Int) ≤ (k2 : Int) := by omega
          have hk2m : (k2 : Int) < (M.length : Int) := by omega
          clear hfj h2
          go_upto_region 10 with (first | (go_at_call 100; with_reducible refine hlook2.mono ?_; clear hlook2; rintro e V5 ⟨rfl, hb5⟩))
          have y5 := hb5.size
          obtain ⟨bt2, ot2, hAt2, hbt2, ct2⟩ := (hM.below ((hbw.trans (hb5.mono (by omega))).mono hB)).at_ hk2M
          have o2v := (hb5.cell (p := ⟨H, 2, none⟩) lHr).trans o2w
          have c0v := (hb5.cell (p := ⟨bs, os + j, none⟩) lbs).trans c0
          have f0v := (hb5.frozen (p := ⟨bs, os + j, none⟩) lbs).trans f0
          obtain ⟨rfl, rfl, _⟩ := Addr.mk.inj (Option.some.inj hAt2)
          go_region
          have hset := (hio.below (hb5.mono (by omega))).set (j := j) (by rw [mapJ_len f SS j (by omega)]; exact hjl) M[k2]
          rw [← HFJ.out, mapJ_succ f SS j hjl, HFJ.out] at hset
          have HSET := Lib.hid hset
          clear hset
          go_wp2_with fail
          go_roundw
          case rel => exact ⟨j + 1, by omega, by go_num, HSET.out.keep fun _ _ => rfl, HCH2.out.trans (((Chg.of_below hb5).setCell (p := ⟨bs, os + j, none⟩) (.inl (by rw [HIB.out]; simp)) _).trans (Chg.of_below (Below.refl _ _).drew))⟩
          case measure => simp [intOf]; omega
        · have hfj : f SS[j] = SS[j] := by
            rw [HFF.out]
            unfold renM
            rw [← HQ2.out, if_neg h2]
          have hsame := mapJ_same f SS j hjl hfj
          have HIO := Lib.hid hio
          have HSM := Lib.hid hsame
          clear hfj hsame hio
          go_wp2_with (first | (go_at_call 100; with_reducible refine hlook2.mono ?_; clear hlook2; rintro e V5 ⟨rfl, hb5⟩))
          have y5 := hb5.size
          go_roundw
          case rel => exact ⟨j + 1, by omega, by go_num, by rw [← HSM.out]; exact HIO.out.below (hb5.mono (by omega)), HCH2.out.trans (Chg.of_below hb5)⟩
          case measure => simp [intOf]; omega
      · have hj' : j = SS.length := by omega
        subst hj'
        rw [List.take_length, List.drop_length, List.append_nil] at hio
        -- the kids
        have X2 : Ko.Box wr w.heap.size d := XV.keep (HCH.out.block _ (by omega) (fun hm => by have := hbs _ hm; omega))
        have R2 : D.Blk wr (w.heap.size + 1) 35 #[.int .i64 0, .int .i64 0, .slice none 0 0, .int .i64 0, .int .i64 0, .string ⟨#[]⟩, .slice none 0 0, .slice none 0 0] := (HCH.out.block _ (by omega) (fun hm => by have := hbs _ hm; omega)).trans RV
        have hodW : dO.a.d.Own (w.heap.size + 2) H wr := hodV.keepB fun k hk => HCH.out.block k (by have := hodV.inn.blk_lt k hk; omega) (fun hm => hsd k (by rw [← HSS.out]; exact hm) hk)
        have holW : Ko.E.LOwn (w.heap.size + 2) H wr dO.A dO.c dO.l := holV.keepB fun k hk => HCH.out.block k (by have := holV.inn.blk_lt k hk; omega) (fun hm => hdj k (List.mem_append.2 (.inl (by rw [← HSS.out]; exact hm))) hk)
        have hlbk : ∀ k ∈ Elem.lblk dO.A dO.l, w.heap.size + 2 ≤ k ∧ k < H := fun k hk => ⟨holW.lo_ k (List.mem_append.2 (.inl hk)), holW.inn.blk_lt k (List.mem_append.2 (.inl hk))⟩
        have o7 : World.cell? wr ⟨H, 7, none⟩ = some (.slice dO.A dO.l.length dO.c) := OW.cell 7
        rw [HLO.out] at o7
        obtain ⟨Q, hQ⟩ : ∃ Q : World, Q = wr := ⟨_, rfl⟩
        rw [← hQ] at hio hbw OW X2 R2 hodW holW o7 hs3 ⊢
        have hHQ : H < Q.heap.size := by omega
        have hzQ : w.heap.size + 2 ≤ Q.heap.size := by omega
        obtain ⟨a0, a1, a2, a3, a4, a5, a6, a7⟩ := id X2
        clear HCH o2w hQ XV RV hosV hodV holV OV o2
        go_wp2_with fail
        go_loopw [56] (fun i wr => ∃ (j : Nat) (pre : List (Tr Ko)), j ≤ d.l.length ∧ i = .int .i64 j ∧ RenRun f (w.heap.size + 2) dO.A dO.c d.l dO.l Q j wr pre) (fun i _ => d.l.length - (intOf i).toNat)
        case atStart => exact ⟨0, [], Nat.zero_le _, rfl, ⟨by simpa using holW.wide (Nat.le_refl _) (by omega), by simp [Tr.erL, Tr.renL], rfl, by simp [Elem.blksL], Chg.refl _ _⟩⟩
        case round =>
          obtain ⟨j, pre, hj, rfl, hr⟩ := hrel
          have hch := hr.chg
          have hs2 := hch.size
          have hcur : Below w.heap.size w wr := hbw.trans (hch.below (fun k hk => by have := hlbk k hk; omega) (by omega))
          have hkb : ∀ k, k < w.heap.size + 2 ∨ k = H → wr.heap[k]? = Q.heap[k]? := fun k hk => hch.block k (by omega) (fun hm => by have := hlbk k hm; omega)
          have X3 : Ko.Box wr w.heap.size d := X2.keep (hkb _ (.inl (by omega)))
          have R3 : D.Blk wr (w.heap.size + 1) 35 #[.int .i64 0, .int .i64 0, .slice none 0 0, .int .i64 0, .int .i64 0, .string ⟨#[]⟩, .slice none 0 0, .slice none 0 0] := (hkb _ (.inl (by omega))).trans R2
          have O3 : D.Blk wr H 35 #[.int .i64 dO.a.k, .int .i64 N, .slice dO.a.sA dO.a.s.length dO.a.sC, .int .i64 dO.a.d.k, .int .i64 dO.a.d.n, .string dO.a.d.t, .slice dO.a.d.A dO.a.d.l.length dO.a.d.c, .slice dO.A dO.l.length dO.c] := (hkb _ (.inr rfl)).trans OW
          have g7 : World.cell? wr ⟨H, 7, none⟩ = some (.slice dO.A dO.l.length dO.c) := O3.cell 7
          rw [HLO.out] at g7
          have HCH := Lib.hid hch
          clear hch hkb
          by_cases hlt : j < d.l.length
          · obtain ⟨bi, oi, hAe, hblk, c0, c1, c2, c3, c4, c5, c6, c7, hix⟩ := Ko.at_ ((Ko.E_in (Elem.In.below hd (hcur.mono hB))).2) (i := j) (x := d.l[j]) (List.getElem?_eq_getElem hlt)
            have hjO : j < dO.l.length := by rw [HLO.out]; exact hlt
            have hnO : dO.l ≠ [] := by intro h; rw [h] at hjO; simp at hjO
            obtain ⟨bo, oo, hAo, hbo, _⟩ := holW.inn.mem hnO
            have hwo := hr.own
            rw [List.drop_eq_getElem_cons hjO, hAo] at hwo
            obtain ⟨_, _, e', _, d0, d1, d2, d3, d4, d5, d6, d7, _⟩ := Ko.at_ hwo.inn (i := j) (x := dO.l[j]) (by rw [List.getElem?_append_right (by have := hr.len; omega), hr.len]; simp)
            obtain ⟨rfl, rfl, _⟩ := Addr.mk.inj (Option.some.inj e')
            have hbo2 := hlbk bo (by rw [hAo, Elem.lblk_some hnO]; simp)
            have lbo : bo < wr.heap.size := by omega
            have hbib : bi < w.heap.size := by omega
            have hfz : ∀ q, wr.frozen? ⟨bo, q, none⟩ = false := fun q => hwo.fr bo (by unfold Elem.lblks; rw [Elem.lblk_some (List.append_ne_nil_of_right_ne_nil _ (List.cons_ne_nil _ _))]; simp) q
            have HOLD : Hid (∀ w1 : World, Below wr.heap.size wr w1 → ((∃ v, w1.cell? ⟨bo, oo + j * 8, none⟩ = some v) ∧ (∃ v, w1.cell? ⟨bo, oo + j * 8 + 1, none⟩ = some v) ∧ (∃ v, w1.cell? ⟨bo, oo + j * 8 + 2, none⟩ = some v) ∧ (∃ v, w1.cell? ⟨bo, oo + j * 8 + 3, none⟩ = some v) ∧ (∃ v, w1.cell? ⟨bo, oo + j * 8 + 4, none⟩ = some v) ∧ (∃ v, w1.cell? ⟨bo, oo + j * 8 + 5, none⟩ = some v) ∧ (∃ v, w1.cell? ⟨bo, oo + j * 8 + 6, none⟩ = some v) ∧ (∃ v, w1.cell? ⟨bo, oo + j * 8 + 7, none⟩ = some v))) := fun w1 h1 => ⟨⟨_, (h1.cell (p := ⟨bo, oo + j * 8, none⟩) lbo).trans d0⟩, ⟨_, (h1.cell (p := ⟨bo, oo + j * 8 + 1, none⟩) lbo).trans d1⟩, ⟨_, (h1.cell (p := ⟨bo, oo + j * 8 + 2, none⟩) lbo).trans d2⟩, ⟨_, (h1.cell (p := ⟨bo, oo + j * 8 + 3, none⟩) lbo).trans d3⟩, ⟨_, (h1.cell (p := ⟨bo, oo + j * 8 + 4, none⟩) lbo).trans d4⟩, ⟨_, (h1.cell (p := ⟨bo, oo + j * 8 + 5, none⟩) lbo).trans d5⟩, ⟨_, (h1.cell (p := ⟨bo, oo + j * 8 + 6, none⟩) lbo).trans d6⟩, ⟨_, (h1.cell (p := ⟨bo, oo + j * 8 + 7, none⟩) lbo).trans d7⟩⟩
            have HFR : Hid (∀ w1 : World, Below wr.heap.size wr w1 → ∀ q, w1.frozen? ⟨bo, q, none⟩ = false) := fun w1 h1 q => (h1.frozen (p := ⟨bo, q, none⟩) lbo).trans (hfz q)
            obtain ⟨p0, p1, p2, p3, p4, p5, p6, p7⟩ := id X3
            rw [hAo] at g7
            rw [hAe] at p7 ⊢
            rw [hAo]
            have hsz := Tr.sizeL_mem (l := d.l) (List.getElem_mem hlt)
            have hbk1 := Tr.bulkL_mem (f := Ko.bulk) (l := d.l) (List.getElem_mem hlt)
            have hLi := hL.below (hcur.mono hB)
            have hMi := hM.below (hcur.mono hB)
            have n1 : bo ≠ w.heap.size := by omega
            have n3 : bo ≠ H := by omega
            have n4 : bo ≠ bi := by omega
            have n1' : w.heap.size ≠ bo := by omega
            have n3' : H ≠ bo := by omega
            have n4' : bi ≠ bo := by omega
            have lx : w.heap.size < wr.heap.size := by omega
            have lH : H < wr.heap.size := by omega
            have lbi : bi < wr.heap.size := by omega
            have gj0 : (0 : Int) ≤ (j : Int) := by omega
            have gj1 : (j : Int) < (d.l.length : Int) := by omega
            have HR := Lib.hid hr
            have HWO := Lib.hid hwo
            have hcon := ih d.l[j] wr.drew (by omega) (by omega) (Elem.In.drew hix) (hLi.keep fun _ _ => rfl) (hMi.keep fun _ _ => rfl) (show B ≤ wr.heap.size by omega)
            unfold Ko.val at hcon
            clear X3 hr hwo R3 O3 hfz d0 d1 d2 d3 d4 d5 d6 d7 e' a0 a1 a2 a3 a4 a5 a6 a7 o7 X2 R2 OW
            go_wp2_with fail
            go_region_held3 (fun w' => w'.cell? ⟨bi, oi + j * 8, none⟩ = some (.int .i64 d.l[j].a.k) ∧ w'.cell? ⟨bi, oi + j * 8 + 1, none⟩ = some (.int .i64 d.l[j].a.n) ∧ w'.cell? ⟨bi, oi + j * 8 + 2, none⟩ = some (.slice d.l[j].a.sA d.l[j].a.s.length d.l[j].a.sC) ∧ w'.cell? ⟨bi, oi + j * 8 + 3, none⟩ = some (.int .i64 d.l[j].a.d.k) ∧ w'.cell? ⟨bi, oi + j * 8 + 4, none⟩ = some (.int .i64 d.l[j].a.d.n) ∧ w'.cell? ⟨bi, oi + j * 8 + 5, none⟩ = some (.string d.l[j].a.d.t) ∧ w'.cell? ⟨bi, oi + j * 8 + 6, none⟩ = some (.slice d.l[j].a.d.A d.l[j].a.d.l.length d.l[j].a.d.c) ∧ w'.cell? ⟨bi, oi + j * 8 + 7, none⟩ = some (.slice d.l[j].A d.l[j].l.length d.l[j].c) ∧ w'.cell? ⟨w.heap.size, 7, none⟩ = some (.slice (some ⟨bi, oi, none⟩) d.l.length d.c) ∧ w'.cell? ⟨H, 7, none⟩ = some (.slice (some ⟨bo, oo, none⟩) d.l.length dO.c)) (go_keep) (first
              | (go_simp; go_at_call 47; (with_reducible refine hcon.mono ?_); clear hcon; rintro e w1 ⟨x1, rfl, hde, hod1, hb1⟩; unfold Ko.val; have hb1 : Below wr.heap.size wr w1 := below_undrew hb1; have hs4 := hb1.size; have HDE := Lib.hid hde; clear hde; have c0 := (hb1.cell (p := ⟨bi, oi + j * 8, none⟩) lbi).trans c0; have c1 := (hb1.cell (p := ⟨bi, oi + j * 8 + 1, none⟩) lbi).trans c1; have c2 := (hb1.cell (p := ⟨bi, oi + j * 8 + 2, none⟩) lbi).trans c2; have c3 := (hb1.cell (p := ⟨bi, oi + j * 8 + 3, none⟩) lbi).trans c3; have c4 := (hb1.cell (p := ⟨bi, oi + j * 8 + 4, none⟩) lbi).trans c4; have c5 := (hb1.cell (p := ⟨bi, oi + j * 8 + 5, none⟩) lbi).trans c5; have c6 := (hb1.cell (p := ⟨bi, oi + j * 8 + 6, none⟩) lbi).trans c6; have c7 := (hb1.cell (p := ⟨bi, oi + j * 8 + 7, none⟩) lbi).trans c7; have p7 := (hb1.cell (p := ⟨w.heap.size, 7, none⟩) lx).trans p7; have g7 := (hb1.cell (p := ⟨H, 7, none⟩) lH).trans g7; obtain ⟨⟨v0, hv0⟩, ⟨v1, hv1⟩, ⟨v2, hv2⟩, ⟨v3, hv3⟩, ⟨v4, hv4⟩, ⟨v5, hv5⟩, ⟨v6, hv6⟩, ⟨v7, hv7⟩⟩ := HOLD.out w1 hb1; have f0 := HFR.out w1 hb1 (oo + j * 8); have f1 := HFR.out w1 hb1 (oo + j * 8 + 1); have f2 := HFR.out w1 hb1 (oo + j * 8 + 2); have f3 := HFR.out w1 hb1 (oo + j * 8 + 3); have f4 := HFR.out w1 hb1 (oo + j * 8 + 4); have f5 := HFR.out w1 hb1 (oo + j * 8 + 5); have f6 := HFR.out w1 hb1 (oo + j * 8 + 6); have f7 := HFR.out w1 hb1 (oo + j * 8 + 7))
              | fail)
            all_goals
              have hrp := Ko.repl8 HWO.out HR.out.len (Nat.le_refl _) hb1 (by simpa using hod1)
              unfold Ko.put8 at hrp
              have HRP := Lib.hid hrp
              clear hrp
              go_wp2_with fail
              refine ⟨⟨j + 1, pre ++ [x1], by omega, by go_num, ⟨?_, ?_, ?_, ?_, ?_⟩⟩, by simp [intOf]; omega⟩
              · have h1 := HRP.out.1
                simp only [World.size_setCell]
                rw [List.append_assoc]
                exact h1
              · rw [List.take_succ_eq_append_getElem hlt, Tr.renL_app5, Tr.erL_append, Tr.erL_append, HR.out.er, HFF.out]
                simp only [Tr.renL, Tr.erL, HDE.out]
              · rw [List.length_append, HR.out.len]; rfl
              · intro k hk
                rw [Elem.blksL_append, List.mem_append, Elem.blksL_one] at hk
                rcases hk with hk | hk
                · exact HR.out.hi k hk
                · have h2 := hod1.lo_ k hk
                  have h3 : wr.drew.heap.size = wr.heap.size := rfl
                  omega
              · have h2 := HCH.out.trans (HRP.out.2.1.mono (S' := Elem.lblk dO.A dO.l) (by rw [hAo, Elem.lblk_some hnO]; exact fun k hk => hk))
                rw [hAo] at h2
                exact h2
          · have hj' : j = d.l.length := by omega
            subst hj'
            have hdr : dO.l.drop d.l.length = [] := by rw [← HLO.out]; exact List.drop_length
            have PK := hr.own
            rw [hdr, List.append_nil] at PK
            have hdj2 : ∀ k, k ∈ iblk dO.a.sA SS ∨ k ∈ D.blks dO.a.d → k ∉ Ko.E.lblks dO.A dO.l := fun k hk => hdj k (by rw [HSS.out] at hk; exact List.mem_append.2 hk)
            have hioW : IOwn (w.heap.size + 2) H wr dO.a.sA dO.a.sC (SS.map f) := hio.keep fun k hk => by
              rw [iblk_map] at hk
              have := hbs k hk
              exact HCH.out.block k (by omega) (fun hm => hdj2 k (.inl hk) (List.mem_append.2 (.inl hm)))
            have hodX : dO.a.d.Own (w.heap.size + 2) H wr := hodW.keepB fun k hk => by
              have := hodW.inn.blk_lt k hk
              exact HCH.out.block k (by omega) (fun hm => hdj2 k (.inr hk) (List.mem_append.2 (.inl hm)))
            have PH : Ko.H.Own (w.heap.size + 2) wr.heap.size wr ⟨dO.a.k, N, dO.a.sA, dO.a.sC, SS.map f, dO.a.d⟩ := (Ko.head_join (x := ⟨dO.a.k, N, dO.a.sA, dO.a.sC, SS.map f, dO.a.d⟩) hioW hodX (fun k hk hk2 => hsd k (by rw [iblk_map] at hk; rw [← HSS.out]; exact hk) hk2) ⟨hwN, fun i hi => by
              obtain ⟨u, hu, rfl⟩ := List.mem_map.1 hi
              rw [HFF.out]
              exact renM_wf hwM (hwf.2 u (by rw [← HSE.out.2.2.1, ← HSS.out]; exact hu))⟩).wide (Nat.le_refl _) (by omega)
            have PP : Hid (Ko.E.Own (w.heap.size + 2) wr.heap.size wr (Tr.mk ⟨dO.a.k, N, dO.a.sA, dO.a.sC, SS.map f, dO.a.d⟩ dO.A dO.c pre)) := Ko.own_join PH PK (fun k hk hm => by
              have hk' : k ∈ iblk dO.a.sA SS ∨ k ∈ D.blks dO.a.d := by
                have h1 : k ∈ iblk dO.a.sA (SS.map f) ++ D.blks dO.a.d := hk
                rw [iblk_map, List.mem_append] at h1; exact h1
              have hkH : k < H := by
                rcases hk' with h1 | h1
                · exact (hbs k h1).2
                · exact hodW.inn.blk_lt k h1
              rcases List.mem_append.1 hm with hm | hm
              · have hm2 : k ∈ Elem.lblk dO.A dO.l := by
                  have e : Elem.lblk dO.A pre = Elem.lblk dO.A dO.l := by
                    unfold Elem.lblk
                    have h2 : pre.isEmpty = dO.l.isEmpty := by rw [Bool.eq_iff_iff, List.isEmpty_iff_length_eq_zero, List.isEmpty_iff_length_eq_zero, hr.len, HLO.out]
                    rw [h2]
                  rwa [e] at hm
                exact hdj2 k hk' (List.mem_append.2 (.inl hm2))
              · have := hr.hi k hm; omega)
            have HER : Hid (Tr.er Ko.er (Tr.mk ⟨dO.a.k, N, dO.a.sA, dO.a.sC, SS.map f, dO.a.d⟩ dO.A dO.c pre) = Tr.er Ko.er (d.ren f)) := by
              show _ = _
              have h1 := hr.er
              rw [List.take_length] at h1
              obtain ⟨e1, e2, e3, e4⟩ := HSE.out
              have hSd : SS = d.a.s := HSS.out.trans e3
              have hre : Tr.er Ko.er (d.ren f) = Tr.mk (Ko.er (Ko.ren f d.a)) none 0 (Tr.erL Ko.er (Tr.renL f d.l)) := by cases d; rfl
              rw [hre]
              simp only [Tr.er, h1, Ko.ren, Ko.er, e1, e4, hSd, HN.out]
            have q2 : World.cell? wr ⟨H, 2, none⟩ = some (.slice dO.a.sA (SS.map f).length dO.a.sC) := by rw [List.length_map, HSS.out]; exact O3.cell 2
            have q7 : World.cell? wr ⟨H, 7, none⟩ = some (.slice dO.A pre.length dO.c) := by rw [hr.len, ← HLO.out]; exact O3.cell 7
            have q0 : World.cell? wr ⟨H, 0, none⟩ = some (.int .i64 dO.a.k) := O3.cell 0
            have q1 : World.cell? wr ⟨H, 1, none⟩ = some (.int .i64 N) := O3.cell 1
            have q3 : World.cell? wr ⟨H, 3, none⟩ = some (.int .i64 dO.a.d.k) := O3.cell 3
            have q4 : World.cell? wr ⟨H, 4, none⟩ = some (.int .i64 dO.a.d.n) := O3.cell 4
            have q5 : World.cell? wr ⟨H, 5, none⟩ = some (.string dO.a.d.t) := O3.cell 5
            have q6 : World.cell? wr ⟨H, 6, none⟩ = some (.slice dO.a.d.A dO.a.d.l.length dO.a.d.c) := O3.cell 6
            have r0 : World.cell? wr ⟨w.heap.size + 1, 0, none⟩ = some (.int .i64 0) := R3.cell 0
            have gf0 := R3.frozen 0
            have r1 : World.cell? wr ⟨w.heap.size + 1, 1, none⟩ = some (.int .i64 0) := R3.cell 1
            have gf1 := R3.frozen 1
            have r2 : World.cell? wr ⟨w.heap.size + 1, 2, none⟩ = some (.slice none 0 0) := R3.cell 2
            have gf2 := R3.frozen 2
            have r3 : World.cell? wr ⟨w.heap.size + 1, 3, none⟩ = some (.int .i64 0) := R3.cell 3
            have gf3 := R3.frozen 3
            have r4 : World.cell? wr ⟨w.heap.size + 1, 4, none⟩ = some (.int .i64 0) := R3.cell 4
            have gf4 := R3.frozen 4
            have r5 : World.cell? wr ⟨w.heap.size + 1, 5, none⟩ = some (.string ⟨#[]⟩) := R3.cell 5
            have gf5 := R3.frozen 5
            have r6 : World.cell? wr ⟨w.heap.size + 1, 6, none⟩ = some (.slice none 0 0) := R3.cell 6
            have gf6 := R3.frozen 6
            have r7 : World.cell? wr ⟨w.heap.size + 1, 7, none⟩ = some (.slice none 0 0) := R3.cell 7
            have gf7 := R3.frozen 7
            obtain ⟨LS, hLS⟩ : ∃ LS, LS = (SS.map f).length := ⟨_, rfl⟩
            obtain ⟨LP, hLP⟩ : ∃ LP, LP = pre.length := ⟨_, rfl⟩
            rw [← hLS] at q2
            rw [← hLP] at q7
            have HLS := Lib.hid hLS
            have HLP := Lib.hid hLP
            clear PK PH hioW hodX X3 R3 O3 hr g7 hdr hLS hLP a0 a1 a2 a3 a4 a5 a6 a7 o7 X2 R2 OW
            go_wp2_with fail
            refine bodyPost_ret (v := .agg #[.int .i64 dO.a.k, .int .i64 N, .slice dO.a.sA LS dO.a.sC, .int .i64 dO.a.d.k, .int .i64 dO.a.d.n, .string dO.a.d.t, .slice dO.a.d.A dO.a.d.l.length dO.a.d.c, .slice dO.A LP dO.c]) (by simp [results, Tryz.results47, go_sem, r0, r1, r2, r3, r4, r5, r6, r7]) rfl ⟨(Tr.mk ⟨dO.a.k, N, dO.a.sA, dO.a.sC, SS.map f, dO.a.d⟩ dO.A dO.c pre), by rw [HLS.out, HLP.out]; rfl, HER.out, ?_, ?_⟩
            · simp only [World.size_setCell]
              exact (((((((((PP.out.far (by simp <;> omega) _).far (by simp <;> omega) _).far (by simp <;> omega) _).far (by simp <;> omega) _).far (by simp <;> omega) _).far (by simp <;> omega) _).far (by simp <;> omega) _).far (by simp <;> omega) _).wide (by omega) (Nat.le_refl _))
            · exact ((((((((hcur.setCell (by simp <;> omega) _).setCell (by simp <;> omega) _).setCell (by simp <;> omega) _).setCell (by simp <;> omega) _).setCell (by simp <;> omega) _).setCell (by simp <;> omega) _).setCell (by simp <;> omega) _).setCell (by simp <;> omega) _)
  · have hNk : N = d.a.n := by
      rw [HN.out]
      split
      · rename_i h
        rw [HFF.out]
        unfold renM
        rw [← HQ.out, if_neg (fun h2 => hc ⟨h, h2⟩)]
      · rfl
    have HNK := Lib.hid hNk
    clear hNk
    by_cases hq0 : 0 ≤ q
    · have HIV : Hid (d.a.isVar = false) := by
        show _ = _
        cases h : d.a.isVar
        · rfl
        · exact absurd ⟨h, hq0⟩ hc
      clear hc
      go_upto_region 5 with (first | (go_at_call 100; with_reducible refine hlook.mono ?_; clear hlook; rintro e V1 ⟨rfl, hb1⟩; have y1 := hb1.size; have XA := X1.below hb1 (by omega); have bA := bU.trans (hb1.mono (by omega)); obtain ⟨a0, a1, a2, a3, a4, a5, a6, a7⟩ := id XA) | (go_at_call 101; with_reducible refine (HW.out V1 hb1).mono ?_; rintro e V2 ⟨rfl, hb2⟩; have hb2 := hb1.trans (hb2.mono y1); have y2 := hb2.size; rw [HIV.out]))
      obtain ⟨V, hV⟩ : ∃ V, V = V2 := ⟨_, rfl⟩
      rw [← hV]
      have hkV : ∀ k, k < U.heap.size → k ≠ H → V.heap[k]? = U.heap[k]? := fun k h1 _ => by rw [hV]; exact hb2.block k h1
      have OV : D.Blk V H 35 #[.int .i64 dO.a.k, .int .i64 N, .slice dO.a.sA dO.a.s.length dO.a.sC, .int .i64 dO.a.d.k, .int .i64 dO.a.d.n, .string dO.a.d.t, .slice dO.a.d.A dO.a.d.l.length dO.a.d.c, .slice dO.A dO.l.length dO.c] := by rw [hV, show N = dO.a.n from HNK.out.trans HSE.out.2.1.symm]; exact O0.below hb2 (by omega)
      have bV : Below w.heap.size w V := by rw [hV]; exact bU.trans (hb2.mono (by omega))
      have zV : U.heap.size ≤ V.heap.size := by rw [hV]; exact hb2.size
      clear hV hb1 hb2 y1 y2 XA bA a0 a1 a2 a3 a4 a5 a6 a7 o0c
      have XV : Ko.Box V w.heap.size d := X1.keep (hkV _ (by omega) (by omega))
      have RV : D.Blk V (w.heap.size + 1) 35 #[.int .i64 0, .int .i64 0, .slice none 0 0, .int .i64 0, .int .i64 0, .string ⟨#[]⟩, .slice none 0 0, .slice none 0 0] := (hkV _ (by omega) (by omega)).trans R1
      have hosV : IOwn (w.heap.size + 2) H V dO.a.sA dO.a.sC dO.a.s := hos.keep fun k hk => by have := hos.inn.blk_lt k hk; exact hkV k (by omega) (by omega)
      have hodV : dO.a.d.Own (w.heap.size + 2) H V := hod.keepB fun k hk => by have := hod.inn.blk_lt k hk; exact hkV k (by omega) (by omega)
      have holV : Ko.E.LOwn (w.heap.size + 2) H V dO.A dO.c dO.l := hol.keepB fun k hk => by have := hol.inn.blk_lt k hk; exact hkV k (by omega) (by omega)
      have o2 : World.cell? V ⟨H, 2, none⟩ = some (.slice dO.a.sA dO.a.s.length dO.a.sC) := OV.cell 2
      have hsl2 : dO.a.s.length ≤ 1500000 := by rw [HSE.out.2.2.1]; exact hsl
      obtain ⟨SS, hSS⟩ : ∃ SS, SS = dO.a.s := ⟨_, rfl⟩
      have HSS := Lib.hid hSS
      rw [← hSS] at hosV hsl2 o2 ⊢
      have hbs : ∀ k ∈ iblk dO.a.sA SS, w.heap.size + 2 ≤ k ∧ k < H := fun k hk => ⟨hosV.lo_ k hk, hosV.inn.blk_lt k hk⟩
      clear hSS hkV
      go_wp2_with fail
      go_loopw [32] (fun i wr => ∃ j : Nat, j ≤ SS.length ∧ i = .int .i64 j ∧ IOwn (w.heap.size + 2) H wr dO.a.sA dO.a.sC ((SS.take j).map f ++ SS.drop j) ∧ Chg (iblk dO.a.sA SS) V wr) (fun i _ => SS.length - (intOf i).toNat)
      case atStart => exact ⟨0, Nat.zero_le _, rfl, by simpa using hosV, Chg.refl _ _⟩
      case round =>
        obtain ⟨j, hj, rfl, hio, hch⟩ := hrel
        have hs3 := hch.size
        have hbw : Below w.heap.size w wr := bV.trans (hch.below (fun k hk => by have := hbs k hk; omega) (by omega))
        have O2c : wr.heap[H]? = V.heap[H]? := hch.block H (by omega) (fun hm => by have := hbs H hm; omega)
        have OW : D.Blk wr H 35 #[.int .i64 dO.a.k, .int .i64 N, .slice dO.a.sA dO.a.s.length dO.a.sC, .int .i64 dO.a.d.k, .int .i64 dO.a.d.n, .string dO.a.d.t, .slice dO.a.d.A dO.a.d.l.length dO.a.d.c, .slice dO.A dO.l.length dO.c] := O2c.trans OV
        have o2w : World.cell? wr ⟨H, 2, none⟩ = some (.slice dO.a.sA dO.a.s.length dO.a.sC) := OW.cell 2
        rw [← HSS.out] at o2w
        have HCH := Lib.hid hch
        clear hch O2c
        by_cases hjl : j < SS.length
        · have hlen := mapJ_len f SS j (by omega)
          have hne : (SS.take j).map f ++ SS.drop j ≠ [] := by intro h; rw [h] at hlen; simp at hlen; omega
          obtain ⟨bs, os, hAs, hbs2, hcs⟩ := hio.inn.mem hne
          have c0 := hcs j SS[j] (mapJ_get f SS j hjl)
          obtain ⟨_, hfz⟩ := hio.own hne bs os hAs
          have f0 := hfz (os + j)
          have hwj : SS[j] ∈ d.a.s := by have := HSE.out.2.2.1; rw [← this, ← HSS.out]; exact List.getElem_mem hjl
          obtain ⟨q2, hq2⟩ : ∃ q2, q2 = lookL L SS[j] := ⟨_, rfl⟩
          have hlook2 := look_any Af cf L SS[j] B wr (hL.below (hbw.mono hB)) (by omega)
          have hlk2 := lookL_lt L SS[j]
          rw [← hq2] at hlook2 hlk2
          have HQ2 := Lib.hid hq2
          have hsn : SS ≠ [] := by intro h; rw [h] at hjl; simp at hjl
          have hib : iblk dO.a.sA SS = [bs] := by rw [hAs]; exact iblk_some hsn
          have HAS := Lib.hid hAs
          have hch2 := HCH.out
          rw [hAs] at o2w hio hib hch2 ⊢
          have HIB := Lib.hid hib
          have HCH2 := Lib.hid hch2
          clear hch2
          have gj0 : (0 : Int) ≤ (j : Int) := by omega
          have gj1 : (j : Int) < (SS.length : Int) := by omega
          have lbs : bs < wr.heap.size := by have := hbs bs (by rw [hAs, hib]; simp); omega
          have nbs : bs ≠ H := by have := hbs bs (by rw [hAs, hib]; simp); omega
          have lHr : H < wr.heap.size := by omega
          clear hq2 hcs hfz hib hAs hne hlen
          by_cases h2 : 0 ≤ q2
          · obtain ⟨k2, hk2⟩ := Int.eq_ofNat_of_zero_le h2
            subst hk2
            have hk2M : k2 < M.length := by omega
            have hfj : f SS[j] = M[k2] := by
              rw [HFF.out]
              unfold renM
              rw [← HQ2.out, if_pos h2]
              simp [List.getD, List.getElem?_eq_getElem hk2M]
            have HFJ := Lib.hid hfj
            have hk20 : (0 : Int) ≤ (k2 : Int) := by omega
            have hk2m : (k2 : Int) < (M.length : Int) := by omega
            clear hfj h2
            go_upto_region 10 with (first | (go_at_call 100; with_reducible refine hlook2.mono ?_; clear hlook2; rintro e V5 ⟨rfl, hb5⟩))
            have y5 := hb5.size
            obtain ⟨bt2, ot2, rfl, hbt2, ct2⟩ := (hM.below ((hbw.trans (hb5.mono (by omega))).mono hB)).at_ hk2M
            have o2v := (hb5.cell (p := ⟨H, 2, none⟩) lHr).trans o2w
            have c0v := (hb5.cell (p := ⟨bs, os + j, none⟩) lbs).trans c0
            have f0v := (hb5.frozen (p := ⟨bs, os + j, none⟩) lbs).trans f0
            go_region
            have hset := (hio.below (hb5.mono (by omega))).set (j := j) (by rw [mapJ_len f SS j (by omega)]; exact hjl) M[k2]
            rw [← HFJ.out, mapJ_succ f SS j hjl, HFJ.out] at hset
            have HSET := Lib.hid hset
            clear hset
            go_wp2_with fail
            go_roundw
            case rel => exact ⟨j + 1, by omega, by go_num, HSET.out.keep fun _ _ => rfl, HCH2.out.trans (((Chg.of_below hb5).setCell (p := ⟨bs, os + j, none⟩) (.inl (by rw [HIB.out]; simp)) _).trans (Chg.of_below (Below.refl _ _).drew))⟩
            case measure => simp [intOf]; omega
          · have hfj : f SS[j] = SS[j] := by
              rw [HFF.out]
              unfold renM
              rw [← HQ2.out, if_neg h2]
            have hsame := mapJ_same f SS j hjl hfj
            have HIO := Lib.hid hio
            have HSM := Lib.hid hsame
            clear hfj hsame hio
            go_wp2_with (first | (go_at_call 100; with_reducible refine hlook2.mono ?_; clear hlook2; rintro e V5 ⟨rfl, hb5⟩))
            have y5 := hb5.size
            go_roundw
            case rel => exact ⟨j + 1, by omega, by go_num, by rw [← HSM.out]; exact HIO.out.below (hb5.mono (by omega)), HCH2.out.trans (Chg.of_below hb5)⟩
            case measure => simp [intOf]; omega
        · have hj' : j = SS.length := by omega
          subst hj'
          rw [List.take_length, List.drop_length, List.append_nil] at hio
          -- the kids
          have X2 : Ko.Box wr w.heap.size d := XV.keep (HCH.out.block _ (by omega) (fun hm => by have := hbs _ hm; omega))
          have R2 : D.Blk wr (w.heap.size + 1) 35 #[.int .i64 0, .int .i64 0, .slice none 0 0, .int .i64 0, .int .i64 0, .string ⟨#[]⟩, .slice none 0 0, .slice none 0 0] := (HCH.out.block _ (by omega) (fun hm => by have := hbs _ hm; omega)).trans RV
          have hodW : dO.a.d.Own (w.heap.size + 2) H wr := hodV.keepB fun k hk => HCH.out.block k (by have := hodV.inn.blk_lt k hk; omega) (fun hm => hsd k (by rw [← HSS.out]; exact hm) hk)
          have holW : Ko.E.LOwn (w.heap.size + 2) H wr dO.A dO.c dO.l := holV.keepB fun k hk => HCH.out.block k (by have := holV.inn.blk_lt k hk; omega) (fun hm => hdj k (List.mem_append.2 (.inl (by rw [← HSS.out]; exact hm))) hk)
          have hlbk : ∀ k ∈ Elem.lblk dO.A dO.l, w.heap.size + 2 ≤ k ∧ k < H := fun k hk => ⟨holW.lo_ k (List.mem_append.2 (.inl hk)), holW.inn.blk_lt k (List.mem_append.2 (.inl hk))⟩
          have o7 : World.cell? wr ⟨H, 7, none⟩ = some (.slice dO.A dO.l.length dO.c) := OW.cell 7
          rw [HLO.out] at o7
          obtain ⟨Q, hQ⟩ : ∃ Q : World, Q = wr := ⟨_, rfl⟩
          rw [← hQ] at hio hbw OW X2 R2 hodW holW o7 hs3 ⊢
          have hHQ : H < Q.heap.size := by omega
          have hzQ : w.heap.size + 2 ≤ Q.heap.size := by omega
          obtain ⟨a0, a1, a2, a3, a4, a5, a6, a7⟩ := id X2
          clear HCH o2w hQ XV RV hosV hodV holV OV o2
          go_wp2_with fail
          go_loopw [56] (fun i wr => ∃ (j : Nat) (pre : List (Tr Ko)), j ≤ d.l.length ∧ i = .int .i64 j ∧ RenRun f (w.heap.size + 2) dO.A dO.c d.l dO.l Q j wr pre) (fun i _ => d.l.length - (intOf i).toNat)
          case atStart => exact ⟨0, [], Nat.zero_le _, rfl, ⟨by simpa using holW.wide (Nat.le_refl _) (by omega), by simp [Tr.erL, Tr.renL], rfl, by simp [Elem.blksL], Chg.refl _ _⟩⟩
          case round =>
            obtain ⟨j, pre, hj, rfl, hr⟩ := hrel
            have hch := hr.chg
            have hs2 := hch.size
            have hcur : Below w.heap.size w wr := hbw.trans (hch.below (fun k hk => by have := hlbk k hk; omega) (by omega))
            have hkb : ∀ k, k < w.heap.size + 2 ∨ k = H → wr.heap[k]? = Q.heap[k]? := fun k hk => hch.block k (by omega) (fun hm => by have := hlbk k hm; omega)
            have X3 : Ko.Box wr w.heap.size d := X2.keep (hkb _ (.inl (by omega)))
            have R3 : D.Blk wr (w.heap.size + 1) 35 #[.int .i64 0, .int .i64 0, .slice none 0 0, .int .i64 0, .int .i64 0, .string ⟨#[]⟩, .slice none 0 0, .slice none 0 0] := (hkb _ (.inl (by omega))).trans R2
            have O3 : D.Blk wr H 35 #[.int .i64 dO.a.k, .int .i64 N, .slice dO.a.sA dO.a.s.length dO.a.sC, .int .i64 dO.a.d.k, .int .i64 dO.a.d.n, .string dO.a.d.t, .slice dO.a.d.A dO.a.d.l.length dO.a.d.c, .slice dO.A dO.l.length dO.c] := (hkb _ (.inr rfl)).trans OW
            have g7 : World.cell? wr ⟨H, 7, none⟩ = some (.slice dO.A dO.l.length dO.c) := O3.cell 7
            rw [HLO.out] at g7
            have HCH := Lib.hid hch
            clear hch hkb
            by_cases hlt : j < d.l.length
            · obtain ⟨bi, oi, hAe, hblk, c0, c1, c2, c3, c4, c5, c6, c7, hix⟩ := Ko.at_ ((Ko.E_in (Elem.In.below hd (hcur.mono hB))).2) (i := j) (x := d.l[j]) (List.getElem?_eq_getElem hlt)
              have hjO : j < dO.l.length := by rw [HLO.out]; exact hlt
              have hnO : dO.l ≠ [] := by intro h; rw [h] at hjO; simp at hjO
              obtain ⟨bo, oo, hAo, hbo, _⟩ := holW.inn.mem hnO
              have hwo := hr.own
              rw [List.drop_eq_getElem_cons hjO, hAo] at hwo
              obtain ⟨_, _, e', _, d0, d1, d2, d3, d4, d5, d6, d7, _⟩ := Ko.at_ hwo.inn (i := j) (x := dO.l[j]) (by rw [List.getElem?_append_right (by have := hr.len; omega), hr.len]; simp)
              obtain ⟨rfl, rfl, _⟩ := Addr.mk.inj (Option.some.inj e')
              have hbo2 := hlbk bo (by rw [hAo, Elem.lblk_some hnO]; simp)
              have lbo : bo < wr.heap.size := by omega
              have hbib : bi < w.heap.size := by omega
              have hfz : ∀ q, wr.frozen? ⟨bo, q, none⟩ = false := fun q => hwo.fr bo (by unfold Elem.lblks; rw [Elem.lblk_some (List.append_ne_nil_of_right_ne_nil _ (List.cons_ne_nil _ _))]; simp) q
              have HOLD : Hid (∀ w1 : World, Below wr.heap.size wr w1 → ((∃ v, w1.cell? ⟨bo, oo + j * 8, none⟩ = some v) ∧ (∃ v, w1.cell? ⟨bo, oo + j * 8 + 1, none⟩ = some v) ∧ (∃ v, w1.cell? ⟨bo, oo + j * 8 + 2, none⟩ = some v) ∧ (∃ v, w1.cell? ⟨bo, oo + j * 8 + 3, none⟩ = some v) ∧ (∃ v, w1.cell? ⟨bo, oo + j * 8 + 4, none⟩ = some v) ∧ (∃ v, w1.cell? ⟨bo, oo + j * 8 + 5, none⟩ = some v) ∧ (∃ v, w1.cell? ⟨bo, oo + j * 8 + 6, none⟩ = some v) ∧ (∃ v, w1.cell? ⟨bo, oo + j * 8 + 7, none⟩ = some v))) := fun w1 h1 => ⟨⟨_, (h1.cell (p := ⟨bo, oo + j * 8, none⟩) lbo).trans d0⟩, ⟨_, (h1.cell (p := ⟨bo, oo + j * 8 + 1, none⟩) lbo).trans d1⟩, ⟨_, (h1.cell (p := ⟨bo, oo + j * 8 + 2, none⟩) lbo).trans d2⟩, ⟨_, (h1.cell (p := ⟨bo, oo + j * 8 + 3, none⟩) lbo).trans d3⟩, ⟨_, (h1.cell (p := ⟨bo, oo + j * 8 + 4, none⟩) lbo).trans d4⟩, ⟨_, (h1.cell (p := ⟨bo, oo + j * 8 + 5, none⟩) lbo).trans d5⟩, ⟨_, (h1.cell (p := ⟨bo, oo + j * 8 + 6, none⟩) lbo).trans d6⟩, ⟨_, (h1.cell (p := ⟨bo, oo + j * 8 + 7, none⟩) lbo).trans d7⟩⟩
              have HFR : Hid (∀ w1 : World, Below wr.heap.size wr w1 → ∀ q, w1.frozen? ⟨bo, q, none⟩ = false) := fun w1 h1 q => (h1.frozen (p := ⟨bo, q, none⟩) lbo).trans (hfz q)
              obtain ⟨p0, p1, p2, p3, p4, p5, p6, p7⟩ := id X3
              rw [hAo] at g7
              rw [hAe] at p7 ⊢
              rw [hAo]
              have hsz := Tr.sizeL_mem (l := d.l) (List.getElem_mem hlt)
              have hbk1 := Tr.bulkL_mem (f := Ko.bulk) (l := d.l) (List.getElem_mem hlt)
              have hLi := hL.below (hcur.mono hB)
              have hMi := hM.below (hcur.mono hB)
              have n1 : bo ≠ w.heap.size := by omega
              have n3 : bo ≠ H := by omega
              have n4 : bo ≠ bi := by omega
              have n1' : w.heap.size ≠ bo := by omega
              have n3' : H ≠ bo := by omega
              have n4' : bi ≠ bo := by omega
              have lx : w.heap.size < wr.heap.size := by omega
              have lH : H < wr.heap.size := by omega
              have lbi : bi < wr.heap.size := by omega
              have gj0 : (0 : Int) ≤ (j : Int) := by omega
              have gj1 : (j : Int) < (d.l.length : Int) := by omega
              have HR := Lib.hid hr
              have HWO := Lib.hid hwo
              have hcon := ih d.l[j] wr.drew (by omega) (by omega) (Elem.In.drew hix) (hLi.keep fun _ _ => rfl) (hMi.keep fun _ _ => rfl) (show B ≤ wr.heap.size by omega)
              unfold Ko.val at hcon
              clear X3 hr hwo R3 O3 hfz d0 d1 d2 d3 d4 d5 d6 d7 e' a0 a1 a2 a3 a4 a5 a6 a7 o7 X2 R2 OW
              go_wp2_with fail
              go_region_held3 (fun w' => w'.cell? ⟨bi, oi + j * 8, none⟩ = some (.int .i64 d.l[j].a.k) ∧ w'.cell? ⟨bi, oi + j * 8 + 1, none⟩ = some (.int .i64 d.l[j].a.n) ∧ w'.cell? ⟨bi, oi + j * 8 + 2, none⟩ = some (.slice d.l[j].a.sA d.l[j].a.s.length d.l[j].a.sC) ∧ w'.cell? ⟨bi, oi + j * 8 + 3, none⟩ = some (.int .i64 d.l[j].a.d.k) ∧ w'.cell? ⟨bi, oi + j * 8 + 4, none⟩ = some (.int .i64 d.l[j].a.d.n) ∧ w'.cell? ⟨bi, oi + j * 8 + 5, none⟩ = some (.string d.l[j].a.d.t) ∧ w'.cell? ⟨bi, oi + j * 8 + 6, none⟩ = some (.slice d.l[j].a.d.A d.l[j].a.d.l.length d.l[j].a.d.c) ∧ w'.cell? ⟨bi, oi + j * 8 + 7, none⟩ = some (.slice d.l[j].A d.l[j].l.length d.l[j].c) ∧ w'.cell? ⟨w.heap.size, 7, none⟩ = some (.slice (some ⟨bi, oi, none⟩) d.l.length d.c) ∧ w'.cell? ⟨H, 7, none⟩ = some (.slice (some ⟨bo, oo, none⟩) d.l.length dO.c)) (go_keep) (first
                | (go_simp; go_at_call 47; (with_reducible refine hcon.mono ?_); clear hcon; rintro e w1 ⟨x1, rfl, hde, hod1, hb1⟩; unfold Ko.val; have hb1 : Below wr.heap.size wr w1 := below_undrew hb1; have hs4 := hb1.size; have HDE := Lib.hid hde; clear hde; have c0 := (hb1.cell (p := ⟨bi, oi + j * 8, none⟩) lbi).trans c0; have c1 := (hb1.cell (p := ⟨bi, oi + j * 8 + 1, none⟩) lbi).trans c1; have c2 := (hb1.cell (p := ⟨bi, oi + j * 8 + 2, none⟩) lbi).trans c2; have c3 := (hb1.cell (p := ⟨bi, oi + j * 8 + 3, none⟩) lbi).trans c3; have c4 := (hb1.cell (p := ⟨bi, oi + j * 8 + 4, none⟩) lbi).trans c4; have c5 := (hb1.cell (p := ⟨bi, oi + j * 8 + 5, none⟩) lbi).trans c5; have c6 := (hb1.cell (p := ⟨bi, oi + j * 8 + 6, none⟩) lbi).trans c6; have c7 := (hb1.cell (p := ⟨bi, oi + j * 8 + 7, none⟩) lbi).trans c7; have p7 := (hb1.cell (p := ⟨w.heap.size, 7, none⟩) lx).trans p7; have g7 := (hb1.cell (p := ⟨H, 7, none⟩) lH).trans g7; obtain ⟨⟨v0, hv0⟩, ⟨v1, hv1⟩, ⟨v2, hv2⟩, ⟨v3, hv3⟩, ⟨v4, hv4⟩, ⟨v5, hv5⟩, ⟨v6, hv6⟩, ⟨v7, hv7⟩⟩ := HOLD.out w1 hb1; have f0 := HFR.out w1 hb1 (oo + j * 8); have f1 := HFR.out w1 hb1 (oo + j * 8 + 1); have f2 := HFR.out w1 hb1 (oo + j * 8 + 2); have f3 := HFR.out w1 hb1 (oo + j * 8 + 3); have f4 := HFR.out w1 hb1 (oo + j * 8 + 4); have f5 := HFR.out w1 hb1 (oo + j * 8 + 5); have f6 := HFR.out w1 hb1 (oo + j * 8 + 6); have f7 := HFR.out w1 hb1 (oo + j * 8 + 7))
                | fail)
              all_goals
                have hrp := Ko.repl8 HWO.out HR.out.len (Nat.le_refl _) hb1 (by simpa using hod1)
                unfold Ko.put8 at hrp
                have HRP := Lib.hid hrp
                clear hrp
                go_wp2_with fail
                refine ⟨⟨j + 1, pre ++ [x1], by omega, by go_num, ⟨?_, ?_, ?_, ?_, ?_⟩⟩, by simp [intOf]; omega⟩
                · have h1 := HRP.out.1
                  simp only [World.size_setCell]
                  rw [List.append_assoc]
                  exact h1
                · rw [List.take_succ_eq_append_getElem hlt, Tr.renL_app5, Tr.erL_append, Tr.erL_append, HR.out.er, HFF.out]
                  simp only [Tr.renL, Tr.erL, HDE.out]
                · rw [List.length_append, HR.out.len]; rfl
                · intro k hk
                  rw [Elem.blksL_append, List.mem_append, Elem.blksL_one] at hk
                  rcases hk with hk | hk
                  · exact HR.out.hi k hk
                  · have h2 := hod1.lo_ k hk
                    have h3 : wr.drew.heap.size = wr.heap.size := rfl
                    omega
                · have h2 := HCH.out.trans (HRP.out.2.1.mono (S' := Elem.lblk dO.A dO.l) (by rw [hAo, Elem.lblk_some hnO]; exact fun k hk => hk))
                  rw [hAo] at h2
                  exact h2
            · have hj' : j = d.l.length := by omega
              subst hj'
              have hdr : dO.l.drop d.l.length = [] := by rw [← HLO.out]; exact List.drop_length
              have PK := hr.own
              rw [hdr, List.append_nil] at PK
              have hdj2 : ∀ k, k ∈ iblk dO.a.sA SS ∨ k ∈ D.blks dO.a.d → k ∉ Ko.E.lblks dO.A dO.l := fun k hk => hdj k (by rw [HSS.out] at hk; exact List.mem_append.2 hk)
              have hioW : IOwn (w.heap.size + 2) H wr dO.a.sA dO.a.sC (SS.map f) := hio.keep fun k hk => by
                rw [iblk_map] at hk
                have := hbs k hk
                exact HCH.out.block k (by omega) (fun hm => hdj2 k (.inl hk) (List.mem_append.2 (.inl hm)))
              have hodX : dO.a.d.Own (w.heap.size + 2) H wr := hodW.keepB fun k hk => by
                have := hodW.inn.blk_lt k hk
                exact HCH.out.block k (by omega) (fun hm => hdj2 k (.inr hk) (List.mem_append.2 (.inl hm)))
              have PH : Ko.H.Own (w.heap.size + 2) wr.heap.size wr ⟨dO.a.k, N, dO.a.sA, dO.a.sC, SS.map f, dO.a.d⟩ := (Ko.head_join (x := ⟨dO.a.k, N, dO.a.sA, dO.a.sC, SS.map f, dO.a.d⟩) hioW hodX (fun k hk hk2 => hsd k (by rw [iblk_map] at hk; rw [← HSS.out]; exact hk) hk2) ⟨hwN, fun i hi => by
                obtain ⟨u, hu, rfl⟩ := List.mem_map.1 hi
                rw [HFF.out]
                exact renM_wf hwM (hwf.2 u (by rw [← HSE.out.2.2.1, ← HSS.out]; exact hu))⟩).wide (Nat.le_refl _) (by omega)
              have PP : Hid (Ko.E.Own (w.heap.size + 2) wr.heap.size wr (Tr.mk ⟨dO.a.k, N, dO.a.sA, dO.a.sC, SS.map f, dO.a.d⟩ dO.A dO.c pre)) := Ko.own_join PH PK (fun k hk hm => by
                have hk' : k ∈ iblk dO.a.sA SS ∨ k ∈ D.blks dO.a.d := by
                  have h1 : k ∈ iblk dO.a.sA (SS.map f) ++ D.blks dO.a.d := hk
                  rw [iblk_map, List.mem_append] at h1; exact h1
                have hkH : k < H := by
                  rcases hk' with h1 | h1
                  · exact (hbs k h1).2
                  · exact hodW.inn.blk_lt k h1
                rcases List.mem_append.1 hm with hm | hm
                · have hm2 : k ∈ Elem.lblk dO.A dO.l := by
                    have e : Elem.lblk dO.A pre = Elem.lblk dO.A dO.l := by
                      unfold Elem.lblk
                      have h2 : pre.isEmpty = dO.l.isEmpty := by rw [Bool.eq_iff_iff, List.isEmpty_iff_length_eq_zero, List.isEmpty_iff_length_eq_zero, hr.len, HLO.out]
                      rw [h2]
                    rwa [e] at hm
                  exact hdj2 k hk' (List.mem_append.2 (.inl hm2))
                · have := hr.hi k hm; omega)
              have HER : Hid (Tr.er Ko.er (Tr.mk ⟨dO.a.k, N, dO.a.sA, dO.a.sC, SS.map f, dO.a.d⟩ dO.A dO.c pre) = Tr.er Ko.er (d.ren f)) := by
                show _ = _
                have h1 := hr.er
                rw [List.take_length] at h1
                obtain ⟨e1, e2, e3, e4⟩ := HSE.out
                have hSd : SS = d.a.s := HSS.out.trans e3
                have hre : Tr.er Ko.er (d.ren f) = Tr.mk (Ko.er (Ko.ren f d.a)) none 0 (Tr.erL Ko.er (Tr.renL f d.l)) := by cases d; rfl
                rw [hre]
                simp only [Tr.er, h1, Ko.ren, Ko.er, e1, e4, hSd, HN.out]
              have q2 : World.cell? wr ⟨H, 2, none⟩ = some (.slice dO.a.sA (SS.map f).length dO.a.sC) := by rw [List.length_map, HSS.out]; exact O3.cell 2
              have q7 : World.cell? wr ⟨H, 7, none⟩ = some (.slice dO.A pre.length dO.c) := by rw [hr.len, ← HLO.out]; exact O3.cell 7
              have q0 : World.cell? wr ⟨H, 0, none⟩ = some (.int .i64 dO.a.k) := O3.cell 0
              have q1 : World.cell? wr ⟨H, 1, none⟩ = some (.int .i64 N) := O3.cell 1
              have q3 : World.cell? wr ⟨H, 3, none⟩ = some (.int .i64 dO.a.d.k) := O3.cell 3
              have q4 : World.cell? wr ⟨H, 4, none⟩ = some (.int .i64 dO.a.d.n) := O3.cell 4
              have q5 : World.cell? wr ⟨H, 5, none⟩ = some (.string dO.a.d.t) := O3.cell 5
              have q6 : World.cell? wr ⟨H, 6, none⟩ = some (.slice dO.a.d.A dO.a.d.l.length dO.a.d.c) := O3.cell 6
              have r0 : World.cell? wr ⟨w.heap.size + 1, 0, none⟩ = some (.int .i64 0) := R3.cell 0
              have gf0 := R3.frozen 0
              have r1 : World.cell? wr ⟨w.heap.size + 1, 1, none⟩ = some (.int .i64 0) := R3.cell 1
              have gf1 := R3.frozen 1
              have r2 : World.cell? wr ⟨w.heap.size + 1, 2, none⟩ = some (.slice none 0 0) := R3.cell 2
              have gf2 := R3.frozen 2
              have r3 : World.cell? wr ⟨w.heap.size + 1, 3, none⟩ = some (.int .i64 0) := R3.cell 3
              have gf3 := R3.frozen 3
              have r4 : World.cell? wr ⟨w.heap.size + 1, 4, none⟩ = some (.int .i64 0) := R3.cell 4
              have gf4 := R3.frozen 4
              have r5 : World.cell? wr ⟨w.heap.size + 1, 5, none⟩ = some (.string ⟨#[]⟩) := R3.cell 5
              have gf5 := R3.frozen 5
              have r6 : World.cell? wr ⟨w.heap.size + 1, 6, none⟩ = some (.slice none 0 0) := R3.cell 6
              have gf6 := R3.frozen 6
              have r7 : World.cell? wr ⟨w.heap.size + 1, 7, none⟩ = some (.slice none 0 0) := R3.cell 7
              have gf7 := R3.frozen 7
              obtain ⟨LS, hLS⟩ : ∃ LS, LS = (SS.map f).length := ⟨_, rfl⟩
              obtain ⟨LP, hLP⟩ : ∃ LP, LP = pre.length := ⟨_, rfl⟩
              rw [← hLS] at q2
              rw [← hLP] at q7
              have HLS := Lib.hid hLS
              have HLP := Lib.hid hLP
              clear PK PH hioW hodX X3 R3 O3 hr g7 hdr hLS hLP a0 a1 a2 a3 a4 a5 a6 a7 o7 X2 R2 OW
              go_wp2_with fail
              refine bodyPost_ret (v := .agg #[.int .i64 dO.a.k, .int .i64 N, .slice dO.a.sA LS dO.a.sC, .int .i64 dO.a.d.k, .int .i64 dO.a.d.n, .string dO.a.d.t, .slice dO.a.d.A dO.a.d.l.length dO.a.d.c, .slice dO.A LP dO.c]) (by simp [results, Tryz.results47, go_sem, r0, r1, r2, r3, r4, r5, r6, r7]) rfl ⟨(Tr.mk ⟨dO.a.k, N, dO.a.sA, dO.a.sC, SS.map f, dO.a.d⟩ dO.A dO.c pre), by rw [HLS.out, HLP.out]; rfl, HER.out, ?_, ?_⟩
              · simp only [World.size_setCell]
                exact (((((((((PP.out.far (by simp <;> omega) _).far (by simp <;> omega) _).far (by simp <;> omega) _).far (by simp <;> omega) _).far (by simp <;> omega) _).far (by simp <;> omega) _).far (by simp <;> omega) _).far (by simp <;> omega) _).wide (by omega) (Nat.le_refl _))
              · exact ((((((((hcur.setCell (by simp <;> omega) _).setCell (by simp <;> omega) _).setCell (by simp <;> omega) _).setCell (by simp <;> omega) _).setCell (by simp <;> omega) _).setCell (by simp <;> omega) _).setCell (by simp <;> omega) _).setCell (by simp <;> omega) _)
    · clear hc
      go_upto_region 5 with (first | (go_at_call 100; with_reducible refine hlook.mono ?_; clear hlook; rintro e V1 ⟨rfl, hb1⟩; have y1 := hb1.size; have XA := X1.below hb1 (by omega); have bA := bU.trans (hb1.mono (by omega)); obtain ⟨a0, a1, a2, a3, a4, a5, a6, a7⟩ := id XA))
      obtain ⟨V, hV⟩ : ∃ V, V = V1 := ⟨_, rfl⟩
      rw [← hV]
      have hkV : ∀ k, k < U.heap.size → k ≠ H → V.heap[k]? = U.heap[k]? := fun k h1 _ => by rw [hV]; exact hb1.block k h1
      have OV : D.Blk V H 35 #[.int .i64 dO.a.k, .int .i64 N, .slice dO.a.sA dO.a.s.length dO.a.sC, .int .i64 dO.a.d.k, .int .i64 dO.a.d.n, .string dO.a.d.t, .slice dO.a.d.A dO.a.d.l.length dO.a.d.c, .slice dO.A dO.l.length dO.c] := by rw [hV, show N = dO.a.n from HNK.out.trans HSE.out.2.1.symm]; exact O0.below hb1 (by omega)
      have bV : Below w.heap.size w V := by rw [hV]; exact bU.trans (hb1.mono (by omega))
      have zV : U.heap.size ≤ V.heap.size := by rw [hV]; exact hb1.size
      clear hV hb1 y1 XA bA a0 a1 a2 a3 a4 a5 a6 a7 o0c
      have XV : Ko.Box V w.heap.size d := X1.keep (hkV _ (by omega) (by omega))
      have RV : D.Blk V (w.heap.size + 1) 35 #[.int .i64 0, .int .i64 0, .slice none 0 0, .int .i64 0, .int .i64 0, .string ⟨#[]⟩, .slice none 0 0, .slice none 0 0] := (hkV _ (by omega) (by omega)).trans R1
      have hosV : IOwn (w.heap.size + 2) H V dO.a.sA dO.a.sC dO.a.s := hos.keep fun k hk => by have := hos.inn.blk_lt k hk; exact hkV k (by omega) (by omega)
      have hodV : dO.a.d.Own (w.heap.size + 2) H V := hod.keepB fun k hk => by have := hod.inn.blk_lt k hk; exact hkV k (by omega) (by omega)
      have holV : Ko.E.LOwn (w.heap.size + 2) H V dO.A dO.c dO.l := hol.keepB fun k hk => by have := hol.inn.blk_lt k hk; exact hkV k (by omega) (by omega)
      have o2 : World.cell? V ⟨H, 2, none⟩ = some (.slice dO.a.sA dO.a.s.length dO.a.sC) := OV.cell 2
      have hsl2 : dO.a.s.length ≤ 1500000 := by rw [HSE.out.2.2.1]; exact hsl
      obtain ⟨SS, hSS⟩ : ∃ SS, SS = dO.a.s := ⟨_, rfl⟩
      have HSS := Lib.hid hSS
      rw [← hSS] at hosV hsl2 o2 ⊢
      have hbs : ∀ k ∈ iblk dO.a.sA SS, w.heap.size + 2 ≤ k ∧ k < H := fun k hk => ⟨hosV.lo_ k hk, hosV.inn.blk_lt k hk⟩
      clear hSS hkV
      go_wp2_with fail
      go_loopw [32] (fun i wr => ∃ j : Nat, j ≤ SS.length ∧ i = .int .i64 j ∧ IOwn (w.heap.size + 2) H wr dO.a.sA dO.a.sC ((SS.take j).map f ++ SS.drop j) ∧ Chg (iblk dO.a.sA SS) V wr) (fun i _ => SS.length - (intOf i).toNat)
      case atStart => exact ⟨0, Nat.zero_le _, rfl, by simpa using hosV, Chg.refl _ _⟩
      case round =>
        obtain ⟨j, hj, rfl, hio, hch⟩ := hrel
        have hs3 := hch.size
        have hbw : Below w.heap.size w wr := bV.trans (hch.below (fun k hk => by have := hbs k hk; omega) (by omega))
        have O2c : wr.heap[H]? = V.heap[H]? := hch.block H (by omega) (fun hm => by have := hbs H hm; omega)
        have OW : D.Blk wr H 35 #[.int .i64 dO.a.k, .int .i64 N, .slice dO.a.sA dO.a.s.length dO.a.sC, .int .i64 dO.a.d.k, .int .i64 dO.a.d.n, .string dO.a.d.t, .slice dO.a.d.A dO.a.d.l.length dO.a.d.c, .slice dO.A dO.l.length dO.c] := O2c.trans OV
        have o2w : World.cell? wr ⟨H, 2, none⟩ = some (.slice dO.a.sA dO.a.s.length dO.a.sC) := OW.cell 2
        rw [← HSS.out] at o2w
        have HCH := Lib.hid hch
        clear hch O2c
        by_cases hjl : j < SS.length
        · have hlen := mapJ_len f SS j (by omega)
          have hne : (SS.take j).map f ++ SS.drop j ≠ [] := by intro h; rw [h] at hlen; simp at hlen; omega
          obtain ⟨bs, os, hAs, hbs2, hcs⟩ := hio.inn.mem hne
          have c0 := hcs j SS[j] (mapJ_get f SS j hjl)
          obtain ⟨_, hfz⟩ := hio.own hne bs os hAs
          have f0 := hfz (os + j)
          have hwj : SS[j] ∈ d.a.s := by have := HSE.out.2.2.1; rw [← this, ← HSS.out]; exact List.getElem_mem hjl
          obtain ⟨q2, hq2⟩ : ∃ q2, q2 = lookL L SS[j] := ⟨_, rfl⟩
          have hlook2 := look_any Af cf L SS[j] B wr (hL.below (hbw.mono hB)) (by omega)
          have hlk2 := lookL_lt L SS[j]
          rw [← hq2] at hlook2 hlk2
          have HQ2 := Lib.hid hq2
          have hsn : SS ≠ [] := by intro h; rw [h] at hjl; simp at hjl
          have hib : iblk dO.a.sA SS = [bs] := by rw [hAs]; exact iblk_some hsn
          have HAS := Lib.hid hAs
          have hch2 := HCH.out
          rw [hAs] at o2w hio hib hch2 ⊢
          have HIB := Lib.hid hib
          have HCH2 := Lib.hid hch2
          clear hch2
          have gj0 : (0 : Int) ≤ (j : Int) := by omega
          have gj1 : (j : Int) < (SS.length : Int) := by omega
          have lbs : bs < wr.heap.size := by have := hbs bs (by rw [hAs, hib]; simp); omega
          have nbs : bs ≠ H := by have := hbs bs (by rw [hAs, hib]; simp); omega
          have lHr : H < wr.heap.size := by omega
          clear hq2 hcs hfz hib hAs hne hlen
          by_cases h2 : 0 ≤ q2
          · obtain ⟨k2, hk2⟩ := Int.eq_ofNat_of_zero_le h2
            subst hk2
            have hk2M : k2 < M.length := by omega
            have hfj : f SS[j] = M[k2] := by
              rw [HFF.out]
              unfold renM
              rw [← HQ2.out, if_pos h2]
              simp [List.getD, List.getElem?_eq_getElem hk2M]
            have HFJ := Lib.hid hfj
            have hk20 : (0 : Int) ≤ (k2 : Int) := by omega
            have hk2m : (k2 : Int) < (M.length : Int) := by omega
            clear hfj h2
            go_upto_region 10 with (first | (go_at_call 100; with_reducible refine hlook2.mono ?_; clear hlook2; rintro e V5 ⟨rfl, hb5⟩))
            have y5 := hb5.size
            obtain ⟨bt2, ot2, rfl, hbt2, ct2⟩ := (hM.below ((hbw.trans (hb5.mono (by omega))).mono hB)).at_ hk2M
            have o2v := (hb5.cell (p := ⟨H, 2, none⟩) lHr).trans o2w
            have c0v := (hb5.cell (p := ⟨bs, os + j, none⟩) lbs).trans c0
            have f0v := (hb5.frozen (p := ⟨bs, os + j, none⟩) lbs).trans f0
            go_region
            have hset := (hio.below (hb5.mono (by omega))).set (j := j) (by rw [mapJ_len f SS j (by omega)]; exact hjl) M[k2]
            rw [← HFJ.out, mapJ_succ f SS j hjl, HFJ.out] at hset
            have HSET := Lib.hid hset
            clear hset
            go_wp2_with fail
            go_roundw
            case rel => exact ⟨j + 1, by omega, by go_num, HSET.out.keep fun _ _ => rfl, HCH2.out.trans (((Chg.of_below hb5).setCell (p := ⟨bs, os + j, none⟩) (.inl (by rw [HIB.out]; simp)) _).trans (Chg.of_below (Below.refl _ _).drew))⟩
            case measure => simp [intOf]; omega
          · have hfj : f SS[j] = SS[j] := by
              rw [HFF.out]
              unfold renM
              rw [← HQ2.out, if_neg h2]
            have hsame := mapJ_same f SS j hjl hfj
            have HIO := Lib.hid hio
            have HSM := Lib.hid hsame
            clear hfj hsame hio
            go_wp2_with (first | (go_at_call 100; with_reducible refine hlook2.mono ?_; clear hlook2; rintro e V5 ⟨rfl, hb5⟩))
            have y5 := hb5.size
            go_roundw
            case rel => exact ⟨j + 1, by omega, by go_num, by rw [← HSM.out]; exact HIO.out.below (hb5.mono (by omega)), HCH2.out.trans (Chg.of_below hb5)⟩
            case measure => simp [intOf]; omega
        · have hj' : j = SS.length := by omega
          subst hj'
          rw [List.take_length, List.drop_length, List.append_nil] at hio
          -- the kids
          have X2 : Ko.Box wr w.heap.size d := XV.keep (HCH.out.block _ (by omega) (fun hm => by have := hbs _ hm; omega))
          have R2 : D.Blk wr (w.heap.size + 1) 35 #[.int .i64 0, .int .i64 0, .slice none 0 0, .int .i64 0, .int .i64 0, .string ⟨#[]⟩, .slice none 0 0, .slice none 0 0] := (HCH.out.block _ (by omega) (fun hm => by have := hbs _ hm; omega)).trans RV
          have hodW : dO.a.d.Own (w.heap.size + 2) H wr := hodV.keepB fun k hk => HCH.out.block k (by have := hodV.inn.blk_lt k hk; omega) (fun hm => hsd k (by rw [← HSS.out]; exact hm) hk)
          have holW : Ko.E.LOwn (w.heap.size + 2) H wr dO.A dO.c dO.l := holV.keepB fun k hk => HCH.out.block k (by have := holV.inn.blk_lt k hk; omega) (fun hm => hdj k (List.mem_append.2 (.inl (by rw [← HSS.out]; exact hm))) hk)
          have hlbk : ∀ k ∈ Elem.lblk dO.A dO.l, w.heap.size + 2 ≤ k ∧ k < H := fun k hk => ⟨holW.lo_ k (List.mem_append.2 (.inl hk)), holW.inn.blk_lt k (List.mem_append.2 (.inl hk))⟩
          have o7 : World.cell? wr ⟨H, 7, none⟩ = some (.slice dO.A dO.l.length dO.c) := OW.cell 7
          rw [HLO.out] at o7
          obtain ⟨Q, hQ⟩ : ∃ Q : World, Q = wr := ⟨_, rfl⟩
          rw [← hQ] at hio hbw OW X2 R2 hodW holW o7 hs3 ⊢
          have hHQ : H < Q.heap.size := by omega
          have hzQ : w.heap.size + 2 ≤ Q.heap.size := by omega
          obtain ⟨a0, a1, a2, a3, a4, a5, a6, a7⟩ := id X2
          clear HCH o2w hQ XV RV hosV hodV holV OV o2
          go_wp2_with fail
          go_loopw [56] (fun i wr => ∃ (j : Nat) (pre : List (Tr Ko)), j ≤ d.l.length ∧ i = .int .i64 j ∧ RenRun f (w.heap.size + 2) dO.A dO.c d.l dO.l Q j wr pre) (fun i _ => d.l.length - (intOf i).toNat)
          case atStart => exact ⟨0, [], Nat.zero_le _, rfl, ⟨by simpa using holW.wide (Nat.le_refl _) (by omega), by simp [Tr.erL, Tr.renL], rfl, by simp [Elem.blksL], Chg.refl _ _⟩⟩
          case round =>
            obtain ⟨j, pre, hj, rfl, hr⟩ := hrel
            have hch := hr.chg
            have hs2 := hch.size
            have hcur : Below w.heap.size w wr := hbw.trans (hch.below (fun k hk => by have := hlbk k hk; omega) (by omega))
            have hkb : ∀ k, k < w.heap.size + 2 ∨ k = H → wr.heap[k]? = Q.heap[k]? := fun k hk => hch.block k (by omega) (fun hm => by have := hlbk k hm; omega)
            have X3 : Ko.Box wr w.heap.size d := X2.keep (hkb _ (.inl (by omega)))
            have R3 : D.Blk wr (w.heap.size + 1) 35 #[.int .i64 0, .int .i64 0, .slice none 0 0, .int .i64 0, .int .i64 0, .string ⟨#[]⟩, .slice none 0 0, .slice none 0 0] := (hkb _ (.inl (by omega))).trans R2
            have O3 : D.Blk wr H 35 #[.int .i64 dO.a.k, .int .i64 N, .slice dO.a.sA dO.a.s.length dO.a.sC, .int .i64 dO.a.d.k, .int .i64 dO.a.d.n, .string dO.a.d.t, .slice dO.a.d.A dO.a.d.l.length dO.a.d.c, .slice dO.A dO.l.length dO.c] := (hkb _ (.inr rfl)).trans OW
            have g7 : World.cell? wr ⟨H, 7, none⟩ = some (.slice dO.A dO.l.length dO.c) := O3.cell 7
            rw [HLO.out] at g7
            have HCH := Lib.hid hch
            clear hch hkb
            by_cases hlt : j < d.l.length
            · obtain ⟨bi, oi, hAe, hblk, c0, c1, c2, c3, c4, c5, c6, c7, hix⟩ := Ko.at_ ((Ko.E_in (Elem.In.below hd (hcur.mono hB))).2) (i := j) (x := d.l[j]) (List.getElem?_eq_getElem hlt)
              have hjO : j < dO.l.length := by rw [HLO.out]; exact hlt
              have hnO : dO.l ≠ [] := by intro h; rw [h] at hjO; simp at hjO
              obtain ⟨bo, oo, hAo, hbo, _⟩ := holW.inn.mem hnO
              have hwo := hr.own
              rw [List.drop_eq_getElem_cons hjO, hAo] at hwo
              obtain ⟨_, _, e', _, d0, d1, d2, d3, d4, d5, d6, d7, _⟩ := Ko.at_ hwo.inn (i := j) (x := dO.l[j]) (by rw [List.getElem?_append_right (by have := hr.len; omega), hr.len]; simp)
              obtain ⟨rfl, rfl, _⟩ := Addr.mk.inj (Option.some.inj e')
              have hbo2 := hlbk bo (by rw [hAo, Elem.lblk_some hnO]; simp)
              have lbo : bo < wr.heap.size := by omega
              have hbib : bi < w.heap.size := by omega
              have hfz : ∀ q, wr.frozen? ⟨bo, q, none⟩ = false := fun q => hwo.fr bo (by unfold Elem.lblks; rw [Elem.lblk_some (List.append_ne_nil_of_right_ne_nil _ (List.cons_ne_nil _ _))]; simp) q
              have HOLD : Hid (∀ w1 : World, Below wr.heap.size wr w1 → ((∃ v, w1.cell? ⟨bo, oo + j * 8, none⟩ = some v) ∧ (∃ v, w1.cell? ⟨bo, oo + j * 8 + 1, none⟩ = some v) ∧ (∃ v, w1.cell? ⟨bo, oo + j * 8 + 2, none⟩ = some v) ∧ (∃ v, w1.cell? ⟨bo, oo + j * 8 + 3, none⟩ = some v) ∧ (∃ v, w1.cell? ⟨bo, oo + j * 8 + 4, none⟩ = some v) ∧ (∃ v, w1.cell? ⟨bo, oo + j * 8 + 5, none⟩ = some v) ∧ (∃ v, w1.cell? ⟨bo, oo + j * 8 + 6, none⟩ = some v) ∧ (∃ v, w1.cell? ⟨bo, oo + j * 8 + 7, none⟩ = some v))) := fun w1 h1 => ⟨⟨_, (h1.cell (p := ⟨bo, oo + j * 8, none⟩) lbo).trans d0⟩, ⟨_, (h1.cell (p := ⟨bo, oo + j * 8 + 1, none⟩) lbo).trans d1⟩, ⟨_, (h1.cell (p := ⟨bo, oo + j * 8 + 2, none⟩) lbo).trans d2⟩, ⟨_, (h1.cell (p := ⟨bo, oo + j * 8 + 3, none⟩) lbo).trans d3⟩, ⟨_, (h1.cell (p := ⟨bo, oo + j * 8 + 4, none⟩) lbo).trans d4⟩, ⟨_, (h1.cell (p := ⟨bo, oo + j * 8 + 5, none⟩) lbo).trans d5⟩, ⟨_, (h1.cell (p := ⟨bo, oo + j * 8 + 6, none⟩) lbo).trans d6⟩, ⟨_, (h1.cell (p := ⟨bo, oo + j * 8 + 7, none⟩) lbo).trans d7⟩⟩
              have HFR : Hid (∀ w1 : World, Below wr.heap.size wr w1 → ∀ q, w1.frozen? ⟨bo, q, none⟩ = false) := fun w1 h1 q => (h1.frozen (p := ⟨bo, q, none⟩) lbo).trans (hfz q)
              obtain ⟨p0, p1, p2, p3, p4, p5, p6, p7⟩ := id X3
              rw [hAo] at g7
              rw [hAe] at p7 ⊢
              rw [hAo]
              have hsz := Tr.sizeL_mem (l := d.l) (List.getElem_mem hlt)
              have hbk1 := Tr.bulkL_mem (f := Ko.bulk) (l := d.l) (List.getElem_mem hlt)
              have hLi := hL.below (hcur.mono hB)
              have hMi := hM.below (hcur.mono hB)
              have n1 : bo ≠ w.heap.size := by omega
              have n3 : bo ≠ H := by omega
              have n4 : bo ≠ bi := by omega
              have n1' : w.heap.size ≠ bo := by omega
              have n3' : H ≠ bo := by omega
              have n4' : bi ≠ bo := by omega
              have lx : w.heap.size < wr.heap.size := by omega
              have lH : H < wr.heap.size := by omega
              have lbi : bi < wr.heap.size := by omega
              have gj0 : (0 : Int) ≤ (j : Int) := by omega
              have gj1 : (j : Int) < (d.l.length : Int) := by omega
              have HR := Lib.hid hr
              have HWO := Lib.hid hwo
              have hcon := ih d.l[j] wr.drew (by omega) (by omega) (Elem.In.drew hix) (hLi.keep fun _ _ => rfl) (hMi.keep fun _ _ => rfl) (show B ≤ wr.heap.size by omega)
              unfold Ko.val at hcon
              clear X3 hr hwo R3 O3 hfz d0 d1 d2 d3 d4 d5 d6 d7 e' a0 a1 a2 a3 a4 a5 a6 a7 o7 X2 R2 OW
              go_wp2_with fail
              go_region_held3 (fun w' => w'.cell? ⟨bi, oi + j * 8, none⟩ = some (.int .i64 d.l[j].a.k) ∧ w'.cell? ⟨bi, oi + j * 8 + 1, none⟩ = some (.int .i64 d.l[j].a.n) ∧ w'.cell? ⟨bi, oi + j * 8 + 2, none⟩ = some (.slice d.l[j].a.sA d.l[j].a.s.length d.l[j].a.sC) ∧ w'.cell? ⟨bi, oi + j * 8 + 3, none⟩ = some (.int .i64 d.l[j].a.d.k) ∧ w'.cell? ⟨bi, oi + j * 8 + 4, none⟩ = some (.int .i64 d.l[j].a.d.n) ∧ w'.cell? ⟨bi, oi + j * 8 + 5, none⟩ = some (.string d.l[j].a.d.t) ∧ w'.cell? ⟨bi, oi + j * 8 + 6, none⟩ = some (.slice d.l[j].a.d.A d.l[j].a.d.l.length d.l[j].a.d.c) ∧ w'.cell? ⟨bi, oi + j * 8 + 7, none⟩ = some (.slice d.l[j].A d.l[j].l.length d.l[j].c) ∧ w'.cell? ⟨w.heap.size, 7, none⟩ = some (.slice (some ⟨bi, oi, none⟩) d.l.length d.c) ∧ w'.cell? ⟨H, 7, none⟩ = some (.slice (some ⟨bo, oo, none⟩) d.l.length dO.c)) (go_keep) (first
                | (go_simp; go_at_call 47; (with_reducible refine hcon.mono ?_); clear hcon; rintro e w1 ⟨x1, rfl, hde, hod1, hb1⟩; unfold Ko.val; have hb1 : Below wr.heap.size wr w1 := below_undrew hb1; have hs4 := hb1.size; have HDE := Lib.hid hde; clear hde; have c0 := (hb1.cell (p := ⟨bi, oi + j * 8, none⟩) lbi).trans c0; have c1 := (hb1.cell (p := ⟨bi, oi + j * 8 + 1, none⟩) lbi).trans c1; have c2 := (hb1.cell (p := ⟨bi, oi + j * 8 + 2, none⟩) lbi).trans c2; have c3 := (hb1.cell (p := ⟨bi, oi + j * 8 + 3, none⟩) lbi).trans c3; have c4 := (hb1.cell (p := ⟨bi, oi + j * 8 + 4, none⟩) lbi).trans c4; have c5 := (hb1.cell (p := ⟨bi, oi + j * 8 + 5, none⟩) lbi).trans c5; have c6 := (hb1.cell (p := ⟨bi, oi + j * 8 + 6, none⟩) lbi).trans c6; have c7 := (hb1.cell (p := ⟨bi, oi + j * 8 + 7, none⟩) lbi).trans c7; have p7 := (hb1.cell (p := ⟨w.heap.size, 7, none⟩) lx).trans p7; have g7 := (hb1.cell (p := ⟨H, 7, none⟩) lH).trans g7; obtain ⟨⟨v0, hv0⟩, ⟨v1, hv1⟩, ⟨v2, hv2⟩, ⟨v3, hv3⟩, ⟨v4, hv4⟩, ⟨v5, hv5⟩, ⟨v6, hv6⟩, ⟨v7, hv7⟩⟩ := HOLD.out w1 hb1; have f0 := HFR.out w1 hb1 (oo + j * 8); have f1 := HFR.out w1 hb1 (oo + j * 8 + 1); have f2 := HFR.out w1 hb1 (oo + j * 8 + 2); have f3 := HFR.out w1 hb1 (oo + j * 8 + 3); have f4 := HFR.out w1 hb1 (oo + j * 8 + 4); have f5 := HFR.out w1 hb1 (oo + j * 8 + 5); have f6 := HFR.out w1 hb1 (oo + j * 8 + 6); have f7 := HFR.out w1 hb1 (oo + j * 8 + 7))
                | fail)
              all_goals
                have hrp := Ko.repl8 HWO.out HR.out.len (Nat.le_refl _) hb1 (by simpa using hod1)
                unfold Ko.put8 at hrp
                have HRP := Lib.hid hrp
                clear hrp
                go_wp2_with fail
                refine ⟨⟨j + 1, pre ++ [x1], by omega, by go_num, ⟨?_, ?_, ?_, ?_, ?_⟩⟩, by simp [intOf]; omega⟩
                · have h1 := HRP.out.1
                  simp only [World.size_setCell]
                  rw [List.append_assoc]
                  exact h1
                · rw [List.take_succ_eq_append_getElem hlt, Tr.renL_app5, Tr.erL_append, Tr.erL_append, HR.out.er, HFF.out]
                  simp only [Tr.renL, Tr.erL, HDE.out]
                · rw [List.length_append, HR.out.len]; rfl
                · intro k hk
                  rw [Elem.blksL_append, List.mem_append, Elem.blksL_one] at hk
                  rcases hk with hk | hk
                  · exact HR.out.hi k hk
                  · have h2 := hod1.lo_ k hk
                    have h3 : wr.drew.heap.size = wr.heap.size := rfl
                    omega
                · have h2 := HCH.out.trans (HRP.out.2.1.mono (S' := Elem.lblk dO.A dO.l) (by rw [hAo, Elem.lblk_some hnO]; exact fun k hk => hk))
                  rw [hAo] at h2
                  exact h2
            · have hj' : j = d.l.length := by omega
              subst hj'
              have hdr : dO.l.drop d.l.length = [] := by rw [← HLO.out]; exact List.drop_length
              have PK := hr.own
              rw [hdr, List.append_nil] at PK
              have hdj2 : ∀ k, k ∈ iblk dO.a.sA SS ∨ k ∈ D.blks dO.a.d → k ∉ Ko.E.lblks dO.A dO.l := fun k hk => hdj k (by rw [HSS.out] at hk; exact List.mem_append.2 hk)
              have hioW : IOwn (w.heap.size + 2) H wr dO.a.sA dO.a.sC (SS.map f) := hio.keep fun k hk => by
                rw [iblk_map] at hk
                have := hbs k hk
                exact HCH.out.block k (by omega) (fun hm => hdj2 k (.inl hk) (List.mem_append.2 (.inl hm)))
              have hodX : dO.a.d.Own (w.heap.size + 2) H wr := hodW.keepB fun k hk => by
                have := hodW.inn.blk_lt k hk
                exact HCH.out.block k (by omega) (fun hm => hdj2 k (.inr hk) (List.mem_append.2 (.inl hm)))
              have PH : Ko.H.Own (w.heap.size + 2) wr.heap.size wr ⟨dO.a.k, N, dO.a.sA, dO.a.sC, SS.map f, dO.a.d⟩ := (Ko.head_join (x := ⟨dO.a.k, N, dO.a.sA, dO.a.sC, SS.map f, dO.a.d⟩) hioW hodX (fun k hk hk2 => hsd k (by rw [iblk_map] at hk; rw [← HSS.out]; exact hk) hk2) ⟨hwN, fun i hi => by
                obtain ⟨u, hu, rfl⟩ := List.mem_map.1 hi
                rw [HFF.out]
                exact renM_wf hwM (hwf.2 u (by rw [← HSE.out.2.2.1, ← HSS.out]; exact hu))⟩).wide (Nat.le_refl _) (by omega)
              have PP : Hid (Ko.E.Own (w.heap.size + 2) wr.heap.size wr (Tr.mk ⟨dO.a.k, N, dO.a.sA, dO.a.sC, SS.map f, dO.a.d⟩ dO.A dO.c pre)) := Ko.own_join PH PK (fun k hk hm => by
                have hk' : k ∈ iblk dO.a.sA SS ∨ k ∈ D.blks dO.a.d := by
                  have h1 : k ∈ iblk dO.a.sA (SS.map f) ++ D.blks dO.a.d := hk
                  rw [iblk_map, List.mem_append] at h1; exact h1
                have hkH : k < H := by
                  rcases hk' with h1 | h1
                  · exact (hbs k h1).2
                  · exact hodW.inn.blk_lt k h1
                rcases List.mem_append.1 hm with hm | hm
                · have hm2 : k ∈ Elem.lblk dO.A dO.l := by
                    have e : Elem.lblk dO.A pre = Elem.lblk dO.A dO.l := by
                      unfold Elem.lblk
                      have h2 : pre.isEmpty = dO.l.isEmpty := by rw [Bool.eq_iff_iff, List.isEmpty_iff_length_eq_zero, List.isEmpty_iff_length_eq_zero, hr.len, HLO.out]
                      rw [h2]
                    rwa [e] at hm
                  exact hdj2 k hk' (List.mem_append.2 (.inl hm2))
                · have := hr.hi k hm; omega)
              have HER : Hid (Tr.er Ko.er (Tr.mk ⟨dO.a.k, N, dO.a.sA, dO.a.sC, SS.map f, dO.a.d⟩ dO.A dO.c pre) = Tr.er Ko.er (d.ren f)) := by
                show _ = _
                have h1 := hr.er
                rw [List.take_length] at h1
                obtain ⟨e1, e2, e3, e4⟩ := HSE.out
                have hSd : SS = d.a.s := HSS.out.trans e3
                have hre : Tr.er Ko.er (d.ren f) = Tr.mk (Ko.er (Ko.ren f d.a)) none 0 (Tr.erL Ko.er (Tr.renL f d.l)) := by cases d; rfl
                rw [hre]
                simp only [Tr.er, h1, Ko.ren, Ko.er, e1, e4, hSd, HN.out]
              have q2 : World.cell? wr ⟨H, 2, none⟩ = some (.slice dO.a.sA (SS.map f).length dO.a.sC) := by rw [List.length_map, HSS.out]; exact O3.cell 2
              have q7 : World.cell? wr ⟨H, 7, none⟩ = some (.slice dO.A pre.length dO.c) := by rw [hr.len, ← HLO.out]; exact O3.cell 7
              have q0 : World.cell? wr ⟨H, 0, none⟩ = some (.int .i64 dO.a.k) := O3.cell 0
              have q1 : World.cell? wr ⟨H, 1, none⟩ = some (.int .i64 N) := O3.cell 1
              have q3 : World.cell? wr ⟨H, 3, none⟩ = some (.int .i64 dO.a.d.k) := O3.cell 3
              have q4 : World.cell? wr ⟨H, 4, none⟩ = some (.int .i64 dO.a.d.n) := O3.cell 4
              have q5 : World.cell? wr ⟨H, 5, none⟩ = some (.string dO.a.d.t) := O3.cell 5
              have q6 : World.cell? wr ⟨H, 6, none⟩ = some (.slice dO.a.d.A dO.a.d.l.length dO.a.d.c) := O3.cell 6
              have r0 : World.cell? wr ⟨w.heap.size + 1, 0, none⟩ = some (.int .i64 0) := R3.cell 0
              have gf0 := R3.frozen 0
              have r1 : World.cell? wr ⟨w.heap.size + 1, 1, none⟩ = some (.int .i64 0) := R3.cell 1
              have gf1 := R3.frozen 1
              have r2 : World.cell? wr ⟨w.heap.size + 1, 2, none⟩ = some (.slice none 0 0) := R3.cell 2
              have gf2 := R3.frozen 2
              have r3 : World.cell? wr ⟨w.heap.size + 1, 3, none⟩ = some (.int .i64 0) := R3.cell 3
              have gf3 := R3.frozen 3
              have r4 : World.cell? wr ⟨w.heap.size + 1, 4, none⟩ = some (.int .i64 0) := R3.cell 4
              have gf4 := R3.frozen 4
              have r5 : World.cell? wr ⟨w.heap.size + 1, 5, none⟩ = some (.string ⟨#[]⟩) := R3.cell 5
              have gf5 := R3.frozen 5
              have r6 : World.cell? wr ⟨w.heap.size + 1, 6, none⟩ = some (.slice none 0 0) := R3.cell 6
              have gf6 := R3.frozen 6
              have r7 : World.cell? wr ⟨w.heap.size + 1, 7, none⟩ = some (.slice none 0 0) := R3.cell 7
              have gf7 := R3.frozen 7
              obtain ⟨LS, hLS⟩ : ∃ LS, LS = (SS.map f).length := ⟨_, rfl⟩
              obtain ⟨LP, hLP⟩ : ∃ LP, LP = pre.length := ⟨_, rfl⟩
              rw [← hLS] at q2
              rw [← hLP] at q7
              have HLS := Lib.hid hLS
              have HLP := Lib.hid hLP
              clear PK PH hioW hodX X3 R3 O3 hr g7 hdr hLS hLP a0 a1 a2 a3 a4 a5 a6 a7 o7 X2 R2 OW
              go_wp2_with fail
              refine bodyPost_ret (v := .agg #[.int .i64 dO.a.k, .int .i64 N, .slice dO.a.sA LS dO.a.sC, .int .i64 dO.a.d.k, .int .i64 dO.a.d.n, .string dO.a.d.t, .slice dO.a.d.A dO.a.d.l.length dO.a.d.c, .slice dO.A LP dO.c]) (by simp [results, Tryz.results47, go_sem, r0, r1, r2, r3, r4, r5, r6, r7]) rfl ⟨(Tr.mk ⟨dO.a.k, N, dO.a.sA, dO.a.sC, SS.map f, dO.a.d⟩ dO.A dO.c pre), by rw [HLS.out, HLP.out]; rfl, HER.out, ?_, ?_⟩
              · simp only [World.size_setCell]
                exact (((((((((PP.out.far (by simp <;> omega) _).far (by simp <;> omega) _).far (by simp <;> omega) _).far (by simp <;> omega) _).far (by simp <;> omega) _).far (by simp <;> omega) _).far (by simp <;> omega) _).far (by simp <;> omega) _).wide (by omega) (Nat.le_refl _))
              · exact ((((((((hcur.setCell (by simp <;> omega) _).setCell (by simp <;> omega) _).setCell (by simp <;> omega) _).setCell (by simp <;> omega) _).setCell (by simp <;> omega) _).setCell (by simp <;> omega) _).setCell (by simp <;> omega) _).setCell (by simp <;> omega) _)
theorem l5Rename_any (L M : List Int) (Af At : Option Addr) (cf ct : Nat) (B : Nat) (hLM : L.length = M.length) (hll : L.length ≤ 2000000) (hwM : ∀ i ∈ M, (Lit.int .i64 i).wf = true) (d : Tr Ko) (w : World) (hbk : d.bulk Ko.bulk ≤ 1500000) (hd : Ko.E.In w B d) (hL : IIn w B Af cf L) (hM : IIn w B At ct M) (hB : B ≤ w.heap.size) :
    Calls Tryz.prog 47 #[Ko.val d, .slice Af L.length cf, .slice At M.length ct] w (RetKo ((d.ren (renM L M)).er Ko.er) w) := by
  have key : ∀ m, R5Ok L M Af At cf ct B m := by
    intro m
    induction m with
    | zero => intro d w _ h; have := d.size_pos; omega
    | succ m ih => exact r5_step L M Af At cf ct B hLM hll hwM m ih
  exact key d.size d w hbk (Nat.le_refl _) hd hL hM hB
end Go.Proofs.YtpigpncbjckbcaaGreat
