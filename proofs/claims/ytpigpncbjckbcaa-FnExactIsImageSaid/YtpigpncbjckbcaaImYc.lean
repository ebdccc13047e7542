/-
  Whether an image is valid hangs on what it says alone (written by gen/imyl.py).
-/
import Derived.Test.YtpigpncbjckbcaaImY
namespace Go.Proofs.Ytpigpncbjckbcaa
open Go.RowKit
theorem all_of_map {α β : Type} (f : α → β) {p q : α → Bool} (h : ∀ x y, f x = f y → p x = q y) : ∀ l m : List α, l.map f = m.map f → l.all p = m.all q
  | [], [], _ => rfl
  | [], _ :: _, e => by simp at e
  | _ :: _, [], e => by simp at e
  | x :: r, y :: s, e => by
    simp only [List.map_cons, List.cons.injEq] at e
    rw [List.all_cons, List.all_cons, h x y e.1, all_of_map f h r s e.2]
theorem fold_of_map {α β γ : Type} (f : α → β) {p q : γ → α → γ} (h : ∀ b x y, f x = f y → p b x = q b y) : ∀ (l m : List α) (b : γ), l.map f = m.map f → l.foldl p b = m.foldl q b
  | [], [], _, _ => rfl
  | [], _ :: _, _, e => by simp at e
  | _ :: _, [], _, e => by simp at e
  | x :: r, y :: s, b, e => by
    simp only [List.map_cons, List.cons.injEq] at e
    rw [List.foldl_cons, List.foldl_cons, h b x y e.1, fold_of_map f h r s _ e.2]
theorem len_of_map {α β : Type} {f : α → β} {l m : List α} (h : l.map f = m.map f) : l.length = m.length := by
  have := congrArg List.length h
  simpa using this
theorem Cd.at'_er {cs ds : List Cd} (h : cs.map Cd.er = ds.map Cd.er) (i : Int) : (Cd.at' cs i).er = (Cd.at' ds i).er := by
  have h1 : (cs.map Cd.er)[i.toNat]? = (ds.map Cd.er)[i.toNat]? := by rw [h]
  rw [List.getElem?_map, List.getElem?_map] at h1
  unfold Cd.at'
  rw [List.getD_eq_getElem?_getD, List.getD_eq_getElem?_getD]
  cases e1 : cs[i.toNat]? <;> cases e2 : ds[i.toNat]? <;> rw [e1, e2] at h1 <;> simp at h1 ⊢
  exact h1
theorem wthn_er {sp : Bool} {cs ds : List Cd} (h : cs.map Cd.er = ds.map Cd.er) {k : Nat} {c d : Cd} (hc : c.er = d.er) (o i : Int) : wthn sp cs k c o i = wthn sp ds k d o i := by
  obtain ⟨e1, e2, e3, -⟩ := Cd.er_parts hc
  obtain ⟨f1, -, -, -⟩ := Cd.er_parts (Cd.at'_er h i)
  unfold wthn
  rw [e1, e2, e3, f1]
theorem Nt.ok_er2 {x y : Nt} (h : x.er = y.er) : x.ok = y.ok := by
  obtain ⟨e1, e2, e3⟩ := Nt.er_parts h
  unfold Nt.ok Nt.top Nt.bare
  rw [e1, e2, D.isD_of_er e3, D.eqB_er, e3, ← D.eqB_er]
theorem Nt.good_er {sp : Bool} {cs ds : List Cd} (h : cs.map Cd.er = ds.map Cd.er) {k : Nat} {c d : Cd} (hc : c.er = d.er) {x y : Nt} (hx : x.er = y.er) : Nt.good sp cs k c x = Nt.good sp ds k d y := by
  obtain ⟨e1, e2, -⟩ := Nt.er_parts hx
  unfold Nt.good Nt.within
  rw [Nt.ok_er2 hx, e1, e2, wthn_er h hc]
theorem Cd.okAt_er {sp : Bool} {cs ds : List Cd} (h : cs.map Cd.er = ds.map Cd.er) {k : Nat} {c d : Cd} (hc : c.er = d.er) : Cd.okAt sp cs k c = Cd.okAt sp ds k d := by
  obtain ⟨e1, e2, e3, e4⟩ := Cd.er_parts hc
  unfold Cd.okAt Cd.hdr
  rw [e1, e2, e3, len_of_map e4, all_of_map Nt.er (fun x y hx => Nt.good_er (sp := sp) h (k := k) hc hx) _ _ e4]
theorem Cd.okTo_er {sp : Bool} {cs ds : List Cd} (h : cs.map Cd.er = ds.map Cd.er) (n : Nat) : Cd.okTo sp cs n = Cd.okTo sp ds n := by
  unfold Cd.okTo
  have e : (fun k : Nat => Cd.okAt sp cs k (Cd.at' cs (k : Int))) = fun k : Nat => Cd.okAt sp ds k (Cd.at' ds (k : Int)) := funext fun k => Cd.okAt_er h (Cd.at'_er h _)
  rw [e]
theorem Nt.eff_er {cs ds : List Cd} (h : cs.map Cd.er = ds.map Cd.er) {x y : Nt} (hx : x.er = y.er) : x.eff cs = y.eff ds := by
  obtain ⟨e1, e2, -⟩ := Nt.er_parts hx
  unfold Nt.eff
  rw [e1, e2, (Cd.er_parts (Cd.at'_er h y.i)).2.2.1]
theorem dStep_er {cs ds : List Cd} (h : cs.map Cd.er = ds.map Cd.er) {x y : Nt} (hx : x.er = y.er) (v : List Int) (i : Nat) : dStep cs v i x = dStep ds v i y := by
  obtain ⟨e1, e2, -⟩ := Nt.er_parts hx
  unfold dStep
  rw [Nt.eff_er h hx, e1, e2]
theorem dRun_er {cs ds : List Cd} (h : cs.map Cd.er = ds.map Cd.er) : ∀ (l m : List Nt) (i : Nat) (v : List Int), l.map Nt.er = m.map Nt.er → dRun cs l i v = dRun ds m i v
  | [], [], _, _, _ => rfl
  | [], _ :: _, _, _, e => by simp at e
  | _ :: _, [], _, _, e => by simp at e
  | x :: r, y :: s, i, v, e => by
    simp only [List.map_cons, List.cons.injEq] at e
    rw [dRun, dRun, dStep_er h e.1]
    have : dRun cs r (i + 1) = dRun ds s (i + 1) := funext fun v => dRun_er h r s (i + 1) v e.2
    rw [this]
theorem Cd.depths_er {cs ds : List Cd} (h : cs.map Cd.er = ds.map Cd.er) {c d : Cd} (hc : c.er = d.er) : Cd.depths cs c = Cd.depths ds d := by
  obtain ⟨-, -, -, e4⟩ := Cd.er_parts hc
  unfold Cd.depths
  rw [len_of_map e4, dRun_er h _ _ _ _ e4]
theorem nInc_er {ns : List Int} {x y : Nt} (hx : x.er = y.er) : nInc ns x = nInc ns y := by
  obtain ⟨e1, e2, -⟩ := Nt.er_parts hx
  unfold nInc Nt.inside
  rw [e1, e2]
theorem nCode_er {ns : List Int} {c d : Cd} (hc : c.er = d.er) : nCode ns c = nCode ns d := fold_of_map (p := nInc) (q := nInc) Nt.er (fun _ _ _ h => nInc_er h) _ _ _ (Cd.er_parts hc).2.2.2
theorem cTot_er : ∀ {cs ds : List Cd}, cs.map Cd.er = ds.map Cd.er → cTot cs = cTot ds
  | [], [], _ => rfl
  | [], _ :: _, e => by simp at e
  | _ :: _, [], e => by simp at e
  | x :: r, y :: s, e => by
    simp only [List.map_cons, List.cons.injEq] at e
    have h1 := cTot_er e.2
    have h2 := len_of_map (Cd.er_parts e.1).2.2.2
    unfold cTot at h1 ⊢
    rw [List.map_cons, List.map_cons, List.sum_cons, List.sum_cons, h1, h2]
theorem Im.tree_er {a b : Im} (h : a.er = b.er) : a.tree = b.tree := by
  obtain ⟨e1, e2⟩ := Im.er_parts h
  unfold Im.tree Im.cnts
  rw [e2, len_of_map e1, fold_of_map (p := nCode) (q := nCode) Cd.er (fun _ _ _ h => nCode_er h) _ _ _ e1]
theorem Im.isIm_er {a b : Im} (cap : Int) (h : a.er = b.er) : a.isIm cap = b.isIm cap := by
  obtain ⟨e1, e2⟩ := Im.er_parts h
  unfold Im.isIm
  obtain ⟨f1, -, f3, -⟩ := Cd.er_parts (Cd.at'_er e1 b.m)
  rw [e2, len_of_map e1, f1, f3, Cd.okTo_er e1, all_of_map Cd.er (fun x y hx => congrArg Option.isSome (Cd.depths_er e1 hx)) _ _ e1, cTot_er e1, Im.tree_er h]
theorem Im.stacks_er {a b : Im} (n : Int) (h : a.er = b.er) : a.stacks n = b.stacks n := by
  obtain ⟨e1, -⟩ := Im.er_parts h
  unfold Im.stacks
  rw [len_of_map e1, Cd.okTo_er e1, Cd.depths_er e1 (Cd.at'_er e1 n)]
theorem specIsIm_c (n : Int) (a : Im) {a0 : Im} {X : Bool} (B : Nat) (w : World) (ha0 : a.er = a0.er) (hX : X = a0.isIm n) (ha : Im.E.In w B a) (hB : B ≤ w.heap.size) (hbk : a0.bulk ≤ 1500000) :
    Calls Try.prog 14 #[Im.val a, .int .i64 n] w fun e w' => e = .returned (.bool X) ∧ Below w.heap.size w w' := by
  rw [hX, ← Im.isIm_er n ha0]
  exact specIsIm_any a n B w ha hB (Nat.le_trans (Nat.le_of_eq (Im.bulk_of_er ha0)) hbk)
theorem implIsIm_c (n : Int) (a : Im) {a0 : Im} {X : Bool} (B : Nat) (w : World) (ha0 : a.er = a0.er) (hX : X = a0.isIm n) (ha : Im.E.In w B a) (hB : B ≤ w.heap.size) (hbk : a0.bulk ≤ 1500000) :
    Calls Try.prog 15 #[Im.val a, .int .i64 n] w fun e w' => e = .returned (.bool X) ∧ Below w.heap.size w w' := by
  rw [hX, ← Im.isIm_er n ha0]
  exact implIsIm_any a n B w ha hB (Nat.le_trans (Nat.le_of_eq (Im.bulk_of_er ha0)) hbk)
end Go.Proofs.Ytpigpncbjckbcaa
