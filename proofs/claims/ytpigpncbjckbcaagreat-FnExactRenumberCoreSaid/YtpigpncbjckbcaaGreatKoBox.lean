/-
  BoxedVariables: the mathematics, and the model's walk (written by gen/kobox.py).
-/
import Derived.Test.YtpigpncbjckbcaaGreatKoW
import Derived.Test.YtpigpncbjckbcaaGreatNumL
import Derived.Test.YtpigpncbjckbcaaGreatScSets
import Derived.Deep.AppendLies
import Derived.Test.YtpigpncbjckbcaaGreatNMaps
import Derived.Maps.AppendAt
import Derived.Test.YtpigpncbjckbcaaGreatKoBnds
namespace Go.Proofs.YtpigpncbjckbcaaGreat
open Go.RowKit
end Go.Proofs.YtpigpncbjckbcaaGreat
namespace Go.Proofs.YtpigpncbjckbcaaGreat
open Go.RowKit
section
variable {P : Program} (w : World)
theorem step_append_at {ops : Array Oper} {o : Oper} {a : Act} {K : Act → World → Prop} {Q : Exit → Act → World → Prop} {E : Prop} (hgd : o.guard = none) (s x : Operand) (t : TypeId)
    (ho : o.op = .call { callee := .builtin .append, args := #[s, x], argTypes := #[t, t] })
    (base : Nat) (e : TypeId) (i : TypeInfo) (z : Value) (size bytes : Nat) (ht : P.underlying t = some (.slice e)) (hi : P.info? e = some i) (hz : i.zero = some z)
    (hsize : i.size = size) (hby : i.bytes = bytes) (hzs : z.cells.size = size) (hsz : 0 < size)
    (v : Value) (n : Nat) (xs : List Value) (hs : a.eval s = v) (hown : w.ownsRow base e size v n xs)
    (ad : Addr) (m c : Nat) (news : List Value) (hx : a.eval x = .slice (some ad) m c) (hl : news.length = m * size) (hnews : ∀ j u, news[j]? = some u → w.cell? (ad.add j) = some u) (h1 : ∀ u ∈ news, u.oneCell' = true)
    (h63 : n + m ≤ maxLen) (hbytes : (n + m) * bytes ≤ 140737488355328) (hbase : base ≤ w.heap.size)
    (h : ∀ v' w', w'.ownsRow base e size v' (n + m) (xs ++ news) → w.grownBy w' v.ownBlock → (v'.ownBlock = v.ownBlock ∨ v'.ownBlock = some w.heap.size) → K (a.put o.dst v') w') :
    if Region.wanted o (yielded ops a.tmps) = true then Oper.wp P o a w K Q else E := by
  have hw : Region.wanted o (yielded ops a.tmps) = true := by simp [Region.wanted, hgd]
  rw [if_pos hw]
  obtain ⟨v', w', hr, h2, h3, _, h5⟩ := run_append_own_at (P := P) w base t o.type e i z size bytes ht hi hz hsize hby hzs hsz v n xs hown ad m c news hl hnews h1 h63 hbytes hbase
  unfold Oper.wp execOp
  simp only [ho, resolve, invoke, builtin, Sem.run_bind, Sem.run_pure, Result.andThen_ok, List.map_toArray, List.map_cons, List.map_nil, hs, hx, hr]
  exact h v' w' h2 h3 h5
theorem step_append_none {ops : Array Oper} {o : Oper} {a : Act} {K : Act → World → Prop} {Q : Exit → Act → World → Prop} {E : Prop} (hgd : o.guard = none) (s x : Operand) (t : TypeId)
    (ho : o.op = .call { callee := .builtin .append, args := #[s, x], argTypes := #[t, t] })
    (base : Nat) (e : TypeId) (i : TypeInfo) (size : Nat) (ht : P.underlying t = some (.slice e)) (hi : P.info? e = some i)
    (v : Value) (n : Nat) (xs : List Value) (hs : a.eval s = v) (hown : w.ownsRow base e size v n xs) (hx : a.eval x = .slice none 0 0)
    (h : K (a.put o.dst v) w) :
    if Region.wanted o (yielded ops a.tmps) = true then Oper.wp P o a w K Q else E := by
  have hw : Region.wanted o (yielded ops a.tmps) = true := by simp [Region.wanted, hgd]
  rw [if_pos hw]
  have hrun := run_append_owned_none (P := P) (w := w) base t o.type e i size ht hi v n xs hown
  unfold Oper.wp
  simp [execOp, ho, resolve, invoke, builtin, hs, hx, hrun, Result.andThen]
  exact h
end
set_option maxHeartbeats 800000 in
theorem l2IntsR_any (A : Option Addr) (c : Nat) (l : List Int) (B : Nat) (w : World) (hll : l.length ≤ 4000000) (hin : IIn w B A c l) (hB : B ≤ w.heap.size) : Calls Tryz.prog 97 #[.slice A l.length c] w (fun e w' => ∃ v, e = .returned v ∧ w'.ownsRow w.heap.size 3 1 v l.length (l.map (Value.int .i64)) ∧ Below w.heap.size w w') := by
  have hcap := hin.cap
  obtain ⟨i0, hi, hz0, hz1, hz2⟩ := info_parts infoI
  have hown0 : (w.alloc (.cells #[] 3)).ownsRow w.heap.size 3 1 (.slice (some ⟨w.heap.size, 0, none⟩) 0 0) 0 [] := World.ownsRow_made w #[] 0 (Nat.le_refl _) (by unfold maxLen; omega) (by simp)
  have b0 : Below w.heap.size w (w.alloc (.cells #[] 3)) := (Below.refl _ _).alloc (Nat.le_refl _) _
  by_cases hn : A = none
  · obtain rfl := hn
    obtain rfl := hin.nil rfl
    have hl : l = [] := by
      cases l with
      | nil => rfl
      | cons _ _ => simp at hcap
    subst hl
    go_enter Tryz.func97, Tryz.ntmps97
    go_wp2_with (at_builtin; refine wpList_append_own_none rfl _ _ 22 rfl w.heap.size 3 i0 1 Tryz.underlying22 hi _ 0 [] rfl hown0 rfl ?_)
    go_ret
    exact ⟨_, rfl, by simpa using hown0, b0⟩
  · obtain ⟨a, rfl⟩ := Option.ne_none_iff_exists'.1 hn
    have hnews : ∀ j u, (l.map (Value.int .i64))[j]? = some u → (w.alloc (.cells #[] 3)).cell? (a.add j) = some u := by
      intro j u hu
      have hne : l ≠ [] := by rintro rfl; simp at hu
      obtain ⟨b, o, e, _, _⟩ := hin.mem hne
      obtain rfl := Option.some.inj e
      exact iall (hin.alloc hB _) j u hu
    go_enter Tryz.func97, Tryz.ntmps97
    go_wp2_with (at_builtin; refine wpList_append_own _ rfl _ _ 22 rfl w.heap.size 3 i0 (.int .i64 0) 1 8 Tryz.underlying22 hi hz0 hz1 hz2 rfl (by decide) _ 0 [] rfl hown0 a l.length c (l.map (Value.int .i64)) rfl (by simp) hnews (iallone l) (by unfold maxLen; omega) (by omega) (by simp) ?_)
    intro v' w1 hown' hgr _
    have hown2 : w1.ownsRow w.heap.size 3 1 v' l.length (l.map (Value.int .i64)) := by simpa using hown'
    have hb1 : Below w.heap.size w w1 := b0.grown hgr (by simp) (fun k hk => (hown0.lt k hk).1)
    clear hown' hgr hnews hown0
    go_wp2_with fail
    go_ret
    exact ⟨_, rfl, hown2, hb1⟩
theorem irow_below {w w' : World} {base : Nat} {v : Value} {acc : List Int} (h : w.ownsRow base 3 1 v acc.length (acc.map (Value.int .i64))) (hb : Below w.heap.size w w') : w'.ownsRow base 3 1 v acc.length (acc.map (Value.int .i64)) :=
  h.kept (w' := w') (row := none) ⟨hb.os, hb.tape, hb.output, hb.size, fun k hk _ => hb.block k hk⟩ (by cases v.ownBlock <;> simp)
theorem GrewN.later {F : List Nat} {base : Nat} {acc : List Int} {v v1 : Value} {w w1 w2 : World} (h : GrewN F base acc v w v1 w1) (hb : Below w1.heap.size w1 w2) : GrewN F base acc v w v1 w2 :=
  h.trans ⟨irow_below h.1 hb, Chg.of_below hb, .inl rfl⟩
theorem IIn.off {w : World} {B : Nat} {A : Option Addr} {c : Nat} {l : List Int} {w' : World} (h : IIn w B A c l) (hk : ∀ b ∈ iblk A l, w'.heap[b]? = w.heap[b]?) : IIn w' B A c l := h.keep hk
end Go.Proofs.YtpigpncbjckbcaaGreat
namespace Go.Proofs.YtpigpncbjckbcaaGreat
open Go.RowKit Go.Maps Go.WideMaps Go.ChangeMaps
structure NS (gv gs M B base : Nat) (v : Value) (acc : List Int) (w : World) : Prop where
  nl : NL gs M base v acc w
  cell : CellN gv (.pointer (some ⟨gs, 0, none⟩)) w
  b1 : B ≤ gv
  b2 : B ≤ gs
  b3 : B ≤ M
  n1 : gv ≠ gs
  n2 : gv ≠ M
  lb : gv < base
  bw : base ≤ w.heap.size
theorem NS.alloc {gv gs M B base : Nat} {v : Value} {acc : List Int} {w : World} (h : NS gv gs M B base v acc w) (o : Obj) : NS gv gs M B base v acc (w.alloc o) :=
  ⟨h.nl.alloc o, h.cell.alloc o, h.b1, h.b2, h.b3, h.n1, h.n2, h.lb, by have := h.bw; simp; omega⟩
theorem NS.step {gv gs M B base : Nat} {v v' : Value} {acc acc' : List Int} {w w' : World} (h : NS gv gs M B base v acc w) (hn : NL gs M base v' acc' w') (hg : GrewN [gs, M] base acc' v w v' w') : NS gv gs M B base v' acc' w' := by
  have hz := hg.2.1.size
  refine ⟨hn, h.cell.keep hz (hg.block h.cell.lt ?_ fun e => ?_), h.b1, h.b2, h.b3, h.n1, h.n2, h.lb, by have := h.bw; omega⟩
  · simp only [List.mem_cons, List.not_mem_nil, or_false, not_or]; exact ⟨h.n1, h.n2⟩
  · have := (h.nl.row.lt gv e).1
    have := h.lb
    omega
theorem NS.below {gv gs M B base : Nat} {v v' : Value} {acc acc' : List Int} {w w' : World} (h : NS gv gs M B base v acc w) (hg : GrewN [gs, M] base acc' v w v' w') : Below B w w' :=
  hg.below (by have := h.b2; have := h.b3; simp; omega) (fun g e => by have := (h.nl.row.lt g e).1; have := h.b1; have := h.lb; omega) (by have := h.bw; have := h.b1; have := h.lb; omega)
theorem NS.box {gv gs M B base b : Nat} {v v' : Value} {acc acc' : List Int} {w w' : World} (h : NS gv gs M B base v acc w) (hg : GrewN [gs, M] base acc' v w v' w') (hb : b < w.heap.size) (h1 : base ≤ b) (h2 : v.ownBlock ≠ some b) : w'.heap[b]? = w.heap[b]? :=
  hg.block hb (by have := h.nl.gb; have := h.nl.mb; simp; omega) h2
set_option maxRecDepth 100000 in
set_option maxHeartbeats 2000000 in
theorem nlNew_any (w : World) : Calls Tryz.prog 172 #[] w fun e w' => e = .returned (.pointer (some ⟨w.heap.size + 1, 0, none⟩)) ∧ w'.heap.size = w.heap.size + 2 ∧ Below w.heap.size w w' ∧ ∀ base, w.heap.size + 2 ≤ base → NL (w.heap.size + 1) w.heap.size base (.slice none 0 0) [] w' := by
  have hmm := @run_makeMap Tryz.prog
  obtain ⟨W, hW⟩ : ∃ W, W = w.alloc (.map #[] 0) := ⟨_, rfl⟩
  obtain ⟨W2, hW2⟩ : ∃ W2, W2 = W.alloc (.cells #[.slice none 0 0, .map (some w.heap.size)] 216) := ⟨_, rfl⟩
  have zW : W.heap.size = w.heap.size + 1 := by rw [hW]; simp
  have zW2 : W2.heap.size = w.heap.size + 2 := by rw [hW2]; simp [zW]
  have b1 : Below w.heap.size w W := by rw [hW]; exact (Below.refl _ _).alloc (Nat.le_refl _) _
  have b2 : Below w.heap.size w W2 := by rw [hW2]; exact b1.alloc (by omega) _
  have bk : D.Blk W2 (w.heap.size + 1) 216 #[.slice none 0 0, .map (some w.heap.size)] := by rw [hW2, ← zW]; exact D.Blk.new _ _ _
  have hm : IMap W2 (.bool false) w.heap.size 0 (fun k => .bool (([] : List Int).contains k)) := by
    have h := IMap.new w (.bool false)
    rw [← hW] at h
    exact h.keep (by rw [hW2]; exact Below.heap_alloc _ _ _ (by omega))
  have HN : Hid (∀ base, w.heap.size + 2 ≤ base → NL (w.heap.size + 1) w.heap.size base (.slice none 0 0) [] W2) := fun base hb => ⟨by omega, bk.cell 0, bk.cell 1, bk.frozen 0, hm, World.ownsRow_nil _ _ _ _, by omega, by omega, by omega⟩
  clear bk hm
  go_enter Tryz.func172, Tryz.ntmps172
  go_wp2_with fail
  go_ret
  rw [← hW, ← hW2]
  exact ⟨rfl, zW2, b2, HN.out⟩
end Go.Proofs.YtpigpncbjckbcaaGreat
