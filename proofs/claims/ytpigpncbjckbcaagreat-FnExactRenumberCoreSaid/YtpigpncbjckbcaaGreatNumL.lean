/-
  The program's lists of different numbers: a row and a map of what it holds.
-/
import Derived.Test.YtpigpncbjckbcaaGreatNMaps
import Derived.Test.YtpigpncbjckbcaaGreatKoBnds
import Derived.Deep.AppendLies
namespace Go.Proofs.YtpigpncbjckbcaaGreat
open Go.RowKit Go.Maps Go.WideMaps Go.ChangeMaps
def addN (acc : List Int) (n : Int) : List Int := if acc.contains n then acc else acc ++ [n]
theorem addN_len (acc : List Int) (n : Int) : (addN acc n).length ≤ acc.length + 1 := by unfold addN; split <;> simp
theorem addN_yes {acc : List Int} {n : Int} (h : acc.contains n = true) : addN acc n = acc := by unfold addN; rw [if_pos h]
theorem addN_no {acc : List Int} {n : Int} (h : acc.contains n = false) : addN acc n = acc ++ [n] := by unfold addN; rw [if_neg (by rw [h]; decide)]
theorem has_upd (acc : List Int) (n : Int) : updI (fun k => .bool (acc.contains k)) n (.bool true) = fun k => .bool ((acc ++ [n]).contains k) := by
  funext u
  unfold updI
  by_cases e : u = n
  · subst e; simp
  · simp [e]
structure NL (gs M base : Nat) (v : Value) (acc : List Int) (w : World) : Prop where
  lt : gs < w.heap.size
  c0 : w.cell? ⟨gs, 0, none⟩ = some v
  c1 : w.cell? ⟨gs, 1, none⟩ = some (.map (some M))
  fr : w.frozen? ⟨gs, 0, none⟩ = false
  map : IMap w (.bool false) M acc.length (fun k => .bool (acc.contains k))
  row : w.ownsRow base 3 1 v acc.length (acc.map (Value.int .i64))
  gb : gs < base
  mb : M < base
  ne : gs ≠ M
theorem NL.keep {gs M base : Nat} {v : Value} {acc : List Int} {w w' : World} (h : NL gs M base v acc w) (hz : w.heap.size ≤ w'.heap.size) (hk : ∀ k, k = gs ∨ k = M ∨ v.ownBlock = some k → w'.heap[k]? = w.heap[k]?) : NL gs M base v acc w' := by
  have eg := hk gs (.inl rfl)
  refine ⟨by have := h.lt; omega, (World.cell?_of_block (a := ⟨gs, 0, none⟩) eg).trans h.c0, (World.cell?_of_block (a := ⟨gs, 1, none⟩) eg).trans h.c1, (World.frozen?_of_block (a := ⟨gs, 0, none⟩) eg).trans h.fr, h.map.keep (hk M (.inr (.inl rfl))), ?_, h.gb, h.mb, h.ne⟩
  obtain ⟨h1, h2⟩ := h.row
  refine ⟨h1, ?_⟩
  rcases h2 with e | ⟨g, cap, cur, e, hg, hh, rest⟩
  · exact .inl e
  · exact .inr ⟨g, cap, cur, e, hg, (hk g (.inr (.inr (by rw [e]; rfl)))).trans hh, rest⟩
theorem NL.alloc {gs M base : Nat} {v : Value} {acc : List Int} {w : World} (h : NL gs M base v acc w) (o : Obj) : NL gs M base v acc (w.alloc o) :=
  h.keep (by simp) fun k hk => Below.heap_alloc _ _ _ (by
    rcases hk with rfl | rfl | hk
    · exact h.lt
    · exact h.map.lt
    · exact (h.row.lt k hk).2)
theorem zeroBool (w : World) : (zeroValue 4).run Tryz.prog w = .ok (.bool false) w := by kernel_rfl
set_option maxRecDepth 100000 in
set_option maxHeartbeats 2000000 in
theorem nlAdd_any (gs M base : Nat) (v : Value) (acc : List Int) (n : Int) (w : World) (h : NL gs M base v acc w) (hb : base ≤ w.heap.size) (hn : (Lit.int .i64 n).wf = true) (hacc : acc.length ≤ 4000000) :
    Calls Tryz.prog 175 #[.pointer (some ⟨gs, 0, none⟩), .int .i64 n] w fun e w' => e = .returned (.tuple #[]) ∧ ∃ v', NL gs M base v' (addN acc n) w' ∧ GrewN [gs, M] base (addN acc n) v w v' w' := by
  have hlt := h.lt
  have c0 := h.c0
  have c1 := h.c1
  have hlook := h.map.look (t := 214) Tryz.underlying214 (zeroBool w) hn
  obtain ⟨i0, hi, hz0, hz1, hz2⟩ := info_parts infoI
  cases hq : acc.contains n
  · have e0 := addN_no hq
    have HE := Lib.hid e0
    rw [hq] at hlook
    obtain ⟨w2, hrun, hm2, hg2⟩ := h.map.put (t := 214) Tryz.underlying214 (by unfold maxLen; omega) hn (.bool true)
    rw [has_upd] at hm2
    have z2 := hg2.size
    have hgs : w2.heap[gs]? = w.heap[gs]? := hg2.block gs hlt (fun e => h.ne (Option.some.inj e))
    have d0 := (World.cell?_of_block (a := ⟨gs, 0, none⟩) hgs).trans c0
    have d1 := (World.frozen?_of_block (a := ⟨gs, 0, none⟩) hgs).trans h.fr
    have d2 := (World.cell?_of_block (a := ⟨gs, 1, none⟩) hgs).trans c1
    have hrow2 : w2.ownsRow base 3 1 v acc.length (acc.map (Value.int .i64)) := h.row.kept hg2 (.inr fun e => by have := h.row.lt M e; have := h.mb; omega)
    obtain ⟨Av, cv, ev⟩ := irow_len h.row
    subst ev
    clear e0 hq
    have H := Lib.hid h
    have HM2 := Lib.hid hm2
    have HG2 := Lib.hid hg2
    have hbg := h.gb
    have hbm := h.mb
    clear h hm2 hg2 hgs
    go_enter Tryz.func175, Tryz.ntmps175
    go_wp2_with (at_builtin; refine wpList_append_lies _ rfl (.tmp 20) (.tmp 22) 22 rfl base 3 i0 (.int .i64 0) 1 8 Tryz.underlying22 hi hz0 hz1 hz2 rfl (by decide) _ acc.length (acc.map (Value.int .i64)) rfl (hrow2.alloc _) ⟨w2.heap.size, 0, none⟩ 1 1 [.int .i64 n] rfl rfl (inews w2 n) (ione n) (by omega) (by unfold maxLen; omega) (by omega) (by simp; omega) (w2.heap.size + 1) ?c2 ?_)
    case c2 => simp
    intro g cap w3 hown' hgr hat hlt3
    have hS := (GrewN.snoc (F := [gs, M]) hown' hgr (by
        rcases hat with e | rfl
        · exact .inl e.symm
        · exact .inr fun g' hg' => by have e' : w2.heap.size + 1 = g' := Option.some.inj hg'; omega))
    have hS2 := GrewN.after (chg_of_grown HG2.out (F := [gs, M]) (by simp)) hS
    have z3 := hgr.size
    simp at z3
    have hgo : ∀ k, k = gs ∨ k = M → w3.heap[k]? = w2.heap[k]? := fun k hk => by
      have hkl : k < w2.heap.size := by
        rcases hk with rfl | rfl
        · omega
        · exact HM2.out.lt
      rw [hgr.block k (by simp; omega) (fun e => by have := (hrow2.lt k e.symm).1; rcases hk with rfl | rfl <;> omega)]
      exact Below.heap_alloc _ _ _ hkl
    have p0 := (World.cell?_of_block (a := ⟨gs, 0, none⟩) (hgo gs (.inl rfl))).trans d0
    have p1 := (World.frozen?_of_block (a := ⟨gs, 0, none⟩) (hgo gs (.inl rfl))).trans d1
    have p2 := (World.cell?_of_block (a := ⟨gs, 1, none⟩) (hgo gs (.inl rfl))).trans d2
    have pm := HM2.out.keep (hgo M (.inr rfl))
    have hS3 := hS2.set_ (p := ⟨gs, 0, none⟩) (by simp) (by simpa using hbg) (.slice (some ⟨g, 0, none⟩) (acc.length + 1) cap)
    have HN : Hid (NL gs M base (.slice (some ⟨g, 0, none⟩) (acc.length + 1) cap) (acc ++ [n]) (w3.setCell ⟨gs, 0, none⟩ (.slice (some ⟨g, 0, none⟩) (acc.length + 1) cap))) :=
      ⟨by simp; omega, icell_eq p0, by rw [icell_ne _ _ _ _ _ (by omega)]; exact p2, by rw [World.frozen?_setCell]; exact p1,
        (pm.keep (Below.heap_setCell _ _ _ _ (show M ≠ gs from fun e => H.out.ne e.symm))).mono (by simp), hS3.1, hbg, hbm, H.out.ne⟩
    have HS3 := Lib.hid hS3
    clear hS hS2 hS3 hown' hgr hat hgo pm p2
    go_wp2_with fail
    go_end0
    exact ⟨rfl, _, by rw [HE.out]; exact HN.out, by rw [HE.out]; exact HS3.out⟩
  · have e0 := addN_yes hq
    have HE := Lib.hid e0
    rw [hq] at hlook
    clear e0 hq
    have H := Lib.hid h
    clear h
    go_enter Tryz.func175, Tryz.ntmps175
    go_wp2_with fail
    go_end0
    exact ⟨rfl, v, by rw [HE.out]; exact H.out, by rw [HE.out]; exact GrewN.refl H.out.row⟩
end Go.Proofs.YtpigpncbjckbcaaGreat
