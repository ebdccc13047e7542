/-
  GlobalsOf, the model's and the program's (written by gen/glob.py).
-/
import Derived.Test.YtndckeodpoommaaUnM
import Derived.Test.YtndckeodpoommaaRUn
import Derived.Test.YtndckeodpoommaaScTops
import Derived.Test.YtndckeodpoommaaIntE
import Derived.Deep.DeepCutAuto
namespace Go.Proofs.Ytndckeodpoommaa
open Go.RowKit

namespace Un
/-- All globals. -/
def cat (l : List Un) : List Int := l.flatMap (·.g)
theorem cat_succ {l : List Un} {j : Nat} (h : j < l.length) : cat (l.take (j + 1)) = cat (l.take j) ++ l[j].g := by
  unfold cat
  rw [List.take_succ_eq_append_getElem h, List.flatMap_append]
  simp
theorem cat_le (l : List Un) (j : Nat) : (cat (l.take j)).length ≤ (cat l).length := by
  have : cat l = cat (l.take j) ++ cat (l.drop j) := by unfold cat; rw [← List.flatMap_append, List.take_append_drop]
  rw [this, List.length_append]; omega
theorem cat_bulk (l : List Un) : (cat l).length ≤ Row.bulk Un.bulk l := by
  induction l with
  | nil => simp [cat]
  | cons x r ih =>
    have h2 : x.bulk = x.nm.size + x.g.length + x.b.bulk Ko.bulk := rfl
    unfold cat at ih ⊢
    rw [List.flatMap_cons, List.length_append]
    simp only [Row.bulk]
    omega
theorem cat_er : ∀ {l k : List Un}, l.map Un.er = k.map Un.er → cat l = cat k
  | [], [], _ => rfl
  | [], _ :: _, h => by simp at h
  | _ :: _, [], h => by simp at h
  | a :: r, b :: s, h => by
    simp only [List.map_cons, List.cons.injEq] at h
    obtain ⟨_, e, _⟩ := Un.er_parts h.1
    have := cat_er h.2
    unfold cat at this ⊢
    rw [List.flatMap_cons, List.flatMap_cons, e, this]
end Un

set_option maxRecDepth 100000 in
set_option maxHeartbeats 4000000 in
theorem specGl_any (A : Option Addr) (c : Nat) (l : List Un) (B : Nat) (w : World) (hin : Un.E.LIn w B A c l) (hB : B ≤ w.heap.size) (hbk : Row.bulk Un.bulk l ≤ 1500000) :
    Calls Try.prog 44 #[.slice A l.length c] w (RetI (Un.cat l) w) := by
  have hcapA := hin.cap
  obtain ⟨i0, hi, hz0, hz1, hz2⟩ := info_parts infoI
  have hown0 : (w.alloc (.cells #[] 3)).ownsRow w.heap.size 3 1 (.slice (some ⟨w.heap.size, 0, none⟩) 0 0) 0 [] := World.ownsRow_made w #[] 0 (Nat.le_refl _) (by unfold maxLen; omega) (by simp)
  have hb0 : Below w.heap.size w (w.alloc (.cells #[] 3)) := (Below.refl _ _).alloc (Nat.le_refl _) _
  go_enter Try.func44, Try.ntmps44
  go_wp2_with fail
  go_loopw [3, 9] (fun v i wr => ∃ (j : Nat) (ds : List Int), j ≤ l.length ∧ i = .int .i64 j ∧ Hid (ds = Un.cat (l.take j)) ∧ ds.length ≤ 1500000 ∧ wr.ownsRow w.heap.size 3 1 v ds.length (ds.map (Value.int .i64)) ∧ Below w.heap.size w wr) (fun _ i _ => l.length - (intOf i).toNat)
  case atStart => exact ⟨0, [], Nat.zero_le _, rfl, by simp [Un.cat, Hid], by simp, hown0, hb0⟩
  case round =>
    obtain ⟨j, ds, hj, rfl, HE, hdl, hown, hb⟩ := hrel
    have hs2 := hb.size
    by_cases hlt : j < l.length
    · obtain ⟨b, o, hA, hblk, c0, c1, c2, c3, c4, c5, c6, c7, c8, c9, hix⟩ := Un.at_ (hin.below (hb.mono hB)) (i := j) (x := l[j]) (List.getElem?_eq_getElem hlt)
      have g1 : (j : Int) < (l.length : Int) := by omega
      rw [hA]
      clear hA
      obtain ⟨W2, hW2⟩ : ∃ W2, W2 = wr.alloc (.cells #[.string l[j].nm, .slice l[j].gA l[j].g.length l[j].gC, .int .i64 l[j].b.a.k, .int .i64 l[j].b.a.n, .slice l[j].b.a.sA l[j].b.a.s.length l[j].b.a.sC, .int .i64 l[j].b.a.d.k, .int .i64 l[j].b.a.d.n, .string l[j].b.a.d.t, .slice l[j].b.a.d.A l[j].b.a.d.l.length l[j].b.a.d.c, .slice l[j].b.A l[j].b.l.length l[j].b.c] 77) := ⟨_, rfl⟩
      have bA : Below wr.heap.size wr W2 := by rw [hW2]; exact (Below.refl _ _).alloc (Nat.le_refl _) _
      have z2 : W2.heap.size = wr.heap.size + 1 := by rw [hW2]; simp
      have Y2 : Un.Box W2 wr.heap.size l[j] := by rw [hW2]; exact Un.Box.new _ _ _
      have b2 := hb.trans (bA.mono hs2)
      have hown2 := hown.alloc (.cells #[.string l[j].nm, .slice l[j].gA l[j].g.length l[j].gC, .int .i64 l[j].b.a.k, .int .i64 l[j].b.a.n, .slice l[j].b.a.sA l[j].b.a.s.length l[j].b.a.sC, .int .i64 l[j].b.a.d.k, .int .i64 l[j].b.a.d.n, .string l[j].b.a.d.t, .slice l[j].b.a.d.A l[j].b.a.d.l.length l[j].b.a.d.c, .slice l[j].b.A l[j].b.l.length l[j].b.c] 77)
      rw [← hW2] at hown2
      have hir := (Un.E_in (hix.below (bA.mono (by omega)))).g
      have HT : Hid (ds ++ l[j].g = Un.cat (l.take (j + 1))) := by show _ = _; rw [Un.cat_succ hlt, HE.out]
      have hle := Un.cat_le l (j + 1)
      rw [← HT.out, List.length_append] at hle
      have htot := Un.cat_bulk l
      have g0 := hir.cap
      go_upto_region 5 with fail
      rw [← hW2]
      clear hW2 c0 c1 c2 c3 c4 c5 c6 c7 c8 c9 hown hix
      obtain ⟨d0, d1, d2, d3, d4, d5, d6, d7, d8, d9⟩ := Y2
      clear d0 d2 d3 d4 d5 d6 d7 d8 d9
      obtain ⟨gA, hgA⟩ : ∃ z, z = l[j].gA := ⟨_, rfl⟩
      obtain ⟨gC, hgC⟩ : ∃ z, z = l[j].gC := ⟨_, rfl⟩
      obtain ⟨G, hG⟩ : ∃ z, z = l[j].g := ⟨_, rfl⟩
      rw [← hgA, ← hgC, ← hG] at d1 hir
      rw [← hgC, ← hG] at g0
      rw [← hG] at HT hle
      clear hgA hgC hG
      by_cases hn : gA = none
      · obtain rfl := hn
        obtain rfl := hir.nil rfl
        have hl : G = [] := by
          cases G with
          | nil => rfl
          | cons _ _ => simp at g0
        subst hl
        rw [List.append_nil] at HT
        go_wp2_with (at_builtin; refine wpList_append_own_none rfl _ _ 28 rfl w.heap.size 3 i0 1 Try.underlying28 hi _ ds.length (ds.map (Value.int .i64)) rfl hown2 rfl ?_)
        exact ⟨⟨j + 1, ds, by omega, by go_num, HT.out, hdl, hown2, b2⟩, by simp [intOf]; omega⟩
      · obtain ⟨a, rfl⟩ := Option.ne_none_iff_exists'.1 hn
        have hnews : ∀ j u, (G.map (Value.int .i64))[j]? = some u → W2.cell? (a.add j) = some u := by
          intro j u hu
          have hne : G ≠ [] := by rintro rfl; simp at hu
          obtain ⟨b, o, e, _, _⟩ := hir.mem hne
          obtain rfl := Option.some.inj e
          exact iall hir j u hu
        go_wp2_with (at_builtin; refine wpList_append_own _ rfl _ _ 28 rfl w.heap.size 3 i0 (.int .i64 0) 1 8 Try.underlying28 hi hz0 hz1 hz2 rfl (by decide) _ ds.length (ds.map (Value.int .i64)) rfl hown2 a G.length gC (G.map (Value.int .i64)) rfl (by simp) hnews (iallone G) (by unfold maxLen; omega) (by omega) (by omega) ?_)
        intro v' w2 hown' hgr _
        have hown3 : w2.ownsRow w.heap.size 3 1 v' (ds ++ G).length ((ds ++ G).map (Value.int .i64)) := by simpa using hown'
        have hb2 : Below w.heap.size w w2 := b2.grown hgr b2.size (fun k hk => (hown2.lt k hk).1)
        clear hown' hgr hnews hown2
        go_wp2_with fail
        exact ⟨⟨j + 1, ds ++ G, by omega, by go_num, HT.out, by rw [List.length_append]; omega, hown3, hb2⟩, by simp [intOf]; omega⟩
    · have hj' : j = l.length := by omega
      subst hj'
      have HQ : Hid (Un.cat l = ds) := by
        show _ = _
        have := HE.out
        rw [List.take_length] at this
        exact this.symm
      obtain ⟨A', c', rfl, ho⟩ := own_of_row hown
      clear hown
      go_wp2_with fail
      go_ret
      exact ⟨A', c', by rw [HQ.out]; rfl, by rw [HQ.out]; exact ho, hb⟩

set_option maxRecDepth 100000 in
set_option maxHeartbeats 4000000 in
theorem implGl_any (A : Option Addr) (c : Nat) (l : List Un) (B : Nat) (w : World) (hin : Un.E.LIn w B A c l) (hB : B ≤ w.heap.size) (hbk : Row.bulk Un.bulk l ≤ 1500000) :
    Calls Try.prog 16 #[.slice A l.length c] w (RetI (Un.cat l) w) := by
  have hcapA := hin.cap
  obtain ⟨i0, hi, hz0, hz1, hz2⟩ := info_parts infoI
  have hown0 : w.ownsRow w.heap.size 3 1 (.slice none 0 0) 0 [] := World.ownsRow_nil _ _ _ _
  have hb0 : Below w.heap.size w w := Below.refl _ _
  go_enter Try.func16, Try.ntmps16
  go_wp2_with fail
  go_loopw [3, 8] (fun v i wr => ∃ (j : Nat) (ds : List Int), j ≤ l.length ∧ i = .int .i64 j ∧ Hid (ds = Un.cat (l.take j)) ∧ ds.length ≤ 1500000 ∧ wr.ownsRow w.heap.size 3 1 v ds.length (ds.map (Value.int .i64)) ∧ Below w.heap.size w wr) (fun _ i _ => l.length - (intOf i).toNat)
  case atStart => exact ⟨0, [], Nat.zero_le _, rfl, by simp [Un.cat, Hid], by simp, hown0, hb0⟩
  case round =>
    obtain ⟨j, ds, hj, rfl, HE, hdl, hown, hb⟩ := hrel
    have hs2 := hb.size
    by_cases hlt : j < l.length
    · obtain ⟨b, o, hA, hblk, c0, c1, c2, c3, c4, c5, c6, c7, c8, c9, hix⟩ := Un.at_ (hin.below (hb.mono hB)) (i := j) (x := l[j]) (List.getElem?_eq_getElem hlt)
      have g1 : (j : Int) < (l.length : Int) := by omega
      rw [hA]
      clear hA
      obtain ⟨W2, hW2⟩ : ∃ W2, W2 = wr.alloc (.cells #[.string l[j].nm, .slice l[j].gA l[j].g.length l[j].gC, .int .i64 l[j].b.a.k, .int .i64 l[j].b.a.n, .slice l[j].b.a.sA l[j].b.a.s.length l[j].b.a.sC, .int .i64 l[j].b.a.d.k, .int .i64 l[j].b.a.d.n, .string l[j].b.a.d.t, .slice l[j].b.a.d.A l[j].b.a.d.l.length l[j].b.a.d.c, .slice l[j].b.A l[j].b.l.length l[j].b.c] 77) := ⟨_, rfl⟩
      have bA : Below wr.heap.size wr W2 := by rw [hW2]; exact (Below.refl _ _).alloc (Nat.le_refl _) _
      have z2 : W2.heap.size = wr.heap.size + 1 := by rw [hW2]; simp
      have Y2 : Un.Box W2 wr.heap.size l[j] := by rw [hW2]; exact Un.Box.new _ _ _
      have b2 := hb.trans (bA.mono hs2)
      have hown2 := hown.alloc (.cells #[.string l[j].nm, .slice l[j].gA l[j].g.length l[j].gC, .int .i64 l[j].b.a.k, .int .i64 l[j].b.a.n, .slice l[j].b.a.sA l[j].b.a.s.length l[j].b.a.sC, .int .i64 l[j].b.a.d.k, .int .i64 l[j].b.a.d.n, .string l[j].b.a.d.t, .slice l[j].b.a.d.A l[j].b.a.d.l.length l[j].b.a.d.c, .slice l[j].b.A l[j].b.l.length l[j].b.c] 77)
      rw [← hW2] at hown2
      have hir := (Un.E_in (hix.below (bA.mono (by omega)))).g
      have HT : Hid (ds ++ l[j].g = Un.cat (l.take (j + 1))) := by show _ = _; rw [Un.cat_succ hlt, HE.out]
      have hle := Un.cat_le l (j + 1)
      rw [← HT.out, List.length_append] at hle
      have htot := Un.cat_bulk l
      have g0 := hir.cap
      go_upto_region 5 with fail
      rw [← hW2]
      clear hW2 c0 c1 c2 c3 c4 c5 c6 c7 c8 c9 hown hix
      obtain ⟨d0, d1, d2, d3, d4, d5, d6, d7, d8, d9⟩ := Y2
      clear d0 d2 d3 d4 d5 d6 d7 d8 d9
      obtain ⟨gA, hgA⟩ : ∃ z, z = l[j].gA := ⟨_, rfl⟩
      obtain ⟨gC, hgC⟩ : ∃ z, z = l[j].gC := ⟨_, rfl⟩
      obtain ⟨G, hG⟩ : ∃ z, z = l[j].g := ⟨_, rfl⟩
      rw [← hgA, ← hgC, ← hG] at d1 hir
      rw [← hgC, ← hG] at g0
      rw [← hG] at HT hle
      clear hgA hgC hG
      by_cases hn : gA = none
      · obtain rfl := hn
        obtain rfl := hir.nil rfl
        have hl : G = [] := by
          cases G with
          | nil => rfl
          | cons _ _ => simp at g0
        subst hl
        rw [List.append_nil] at HT
        go_wp2_with (at_builtin; refine wpList_append_own_none rfl _ _ 28 rfl w.heap.size 3 i0 1 Try.underlying28 hi _ ds.length (ds.map (Value.int .i64)) rfl hown2 rfl ?_)
        exact ⟨⟨j + 1, ds, by omega, by go_num, HT.out, hdl, hown2, b2⟩, by simp [intOf]; omega⟩
      · obtain ⟨a, rfl⟩ := Option.ne_none_iff_exists'.1 hn
        have hnews : ∀ j u, (G.map (Value.int .i64))[j]? = some u → W2.cell? (a.add j) = some u := by
          intro j u hu
          have hne : G ≠ [] := by rintro rfl; simp at hu
          obtain ⟨b, o, e, _, _⟩ := hir.mem hne
          obtain rfl := Option.some.inj e
          exact iall hir j u hu
        go_wp2_with (at_builtin; refine wpList_append_own _ rfl _ _ 28 rfl w.heap.size 3 i0 (.int .i64 0) 1 8 Try.underlying28 hi hz0 hz1 hz2 rfl (by decide) _ ds.length (ds.map (Value.int .i64)) rfl hown2 a G.length gC (G.map (Value.int .i64)) rfl (by simp) hnews (iallone G) (by unfold maxLen; omega) (by omega) (by omega) ?_)
        intro v' w2 hown' hgr _
        have hown3 : w2.ownsRow w.heap.size 3 1 v' (ds ++ G).length ((ds ++ G).map (Value.int .i64)) := by simpa using hown'
        have hb2 : Below w.heap.size w w2 := b2.grown hgr b2.size (fun k hk => (hown2.lt k hk).1)
        clear hown' hgr hnews hown2
        go_wp2_with fail
        exact ⟨⟨j + 1, ds ++ G, by omega, by go_num, HT.out, by rw [List.length_append]; omega, hown3, hb2⟩, by simp [intOf]; omega⟩
    · have hj' : j = l.length := by omega
      subst hj'
      have HQ : Hid (Un.cat l = ds) := by
        show _ = _
        have := HE.out
        rw [List.take_length] at this
        exact this.symm
      obtain ⟨A', c', rfl, ho⟩ := own_of_row hown
      clear hown
      go_wp2_with fail
      go_ret
      exact ⟨A', c', by rw [HQ.out]; rfl, by rw [HQ.out]; exact ho, hb⟩

set_option maxRecDepth 100000 in
theorem specGlo_any (A : Option Addr) (c : Nat) (l : List Un) (B : Nat) (w : World) (hin : Un.E.LIn w B A c l) (hB : B ≤ w.heap.size) (hbk : Row.bulk Un.bulk l ≤ 1500000) :
    Calls Try.prog 14 #[.slice A l.length c] w (RetI (Un.cat l) w) := by
  go_enter Try.func14, Try.ntmps14
  go_wp2_with fail
  refine (specGl_any A c l B w hin hB hbk).mono ?_
  rintro e w1 ⟨A1, c1, rfl, ho, hb⟩
  go_wp2_with fail
  go_ret
  exact ⟨A1, c1, rfl, ho, hb⟩
theorem specGl_c (A : Option Addr) (c : Nat) (l : List Un) {l0 : List Un} (B : Nat) (w : World) (hl : l.map Un.er = l0.map Un.er) (hb : Row.bulk Un.bulk l0 ≤ 1500000) (hin : Un.E.LIn w B A c l) (hB : B ≤ w.heap.size) :
    Calls Try.prog 14 #[.slice A l.length c] w (RetI (Un.cat l0) w) := by
  rw [← Un.cat_er hl]
  exact specGlo_any A c l B w hin hB (by rw [Row.bulk_of_er (fun _ _ => Un.bulk_of_er) l l0 hl]; exact hb)
theorem implGl_c (A : Option Addr) (c : Nat) (l : List Un) {l0 : List Un} (B : Nat) (w : World) (hl : l.map Un.er = l0.map Un.er) (hb : Row.bulk Un.bulk l0 ≤ 1500000) (hin : Un.E.LIn w B A c l) (hB : B ≤ w.heap.size) :
    Calls Try.prog 16 #[.slice A l.length c] w (RetI (Un.cat l0) w) := by
  rw [← Un.cat_er hl]
  exact implGl_any A c l B w hin hB (by rw [Row.bulk_of_er (fun _ _ => Un.bulk_of_er) l l0 hl]; exact hb)
end Go.Proofs.Ytndckeodpoommaa
