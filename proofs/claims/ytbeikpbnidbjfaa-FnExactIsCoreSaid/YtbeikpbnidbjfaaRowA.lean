/-
  Appending whole lists where the order is drawn; a copy of ints as a row that may grow.
-/
import Derived.Test.YtbeikpbnidbjfaaGrewN
import Derived.Maps.AppendAt
import Derived.Deep.AppendLies
namespace Go.Proofs.Ytbeikpbnidbjfaa
open Go.RowKit

section
variable {P : Program} (w : World)
/-- At a step of a region that draws: an append onto a row of the call's own, of as many elements as there may be. -/
theorem step_append_at {ops : Array Oper} {o : Oper} {a : Act} {K : Act → World → Prop} {Q : Exit → Act → World → Prop} {E : Prop} (hgd : o.guard = none) (s x : Operand) (t : TypeId)
    (ho : o.op = .call { callee := .builtin .append, args := #[s, x], argTypes := #[t, t] })
    (base : Nat) (e : TypeId) (i : TypeInfo) (z : Value) (size bytes : Nat) (ht : P.underlying t = some (.slice e)) (hi : P.info? e = some i) (hz : i.zero = some z)
    (hsize : i.size = size) (hby : i.bytes = bytes) (hzs : z.cells.size = size) (hsz : 0 < size)
    (v : Value) (n : Nat) (xs : List Value) (hs : a.eval s = v) (hown : w.ownsRow base e size v n xs)
    (ad : Addr) (m c : Nat) (news : List Value) (hx : a.eval x = .slice (some ad) m c) (hl : news.length = m * size) (hnews : ∀ j u, news[j]? = some u → w.cell? (ad.add j) = some u) (h1 : ∀ u ∈ news, u.oneCell' = true)
    (h63 : n + m ≤ maxLen) (hbytes : (n + m) * bytes ≤ 140737488355328) (hbase : base ≤ w.heap.size)
    (h : ∀ v' w', w'.ownsRow base e size v' (n + m) (xs ++ news) → w.grownBy w' v.ownBlock → (v'.ownBlock = v.ownBlock ∨ v'.ownBlock = some w.heap.size) → K (a.put o.dst v') w') :
    if Region.wanted o (yielded ops a.tmps) = true then Oper.wp P o a w K Q else E := by
  have hw : Region.wanted o (yielded ops a.tmps) = true := by simp [Region.wanted, hgd]
  rw [if_pos hw]
  obtain ⟨v', w', hr, h2, h3, _, h5⟩ := run_append_own_at (P := P) w base t o.type e i z size bytes ht hi hz hsize hby hzs hsz v n xs hown ad m c news hl hnews h1 h63 hbytes hbase
  unfold Oper.wp execOp
  simp only [ho, resolve, invoke, builtin, Sem.run_bind, Sem.run_pure, Result.andThen_ok, List.map_toArray, List.map_cons, List.map_nil, hs, hx, hr]
  exact h v' w' h2 h3 h5
/-- .. of nil. -/
theorem step_append_none {ops : Array Oper} {o : Oper} {a : Act} {K : Act → World → Prop} {Q : Exit → Act → World → Prop} {E : Prop} (hgd : o.guard = none) (s x : Operand) (t : TypeId)
    (ho : o.op = .call { callee := .builtin .append, args := #[s, x], argTypes := #[t, t] })
    (base : Nat) (e : TypeId) (i : TypeInfo) (size : Nat) (ht : P.underlying t = some (.slice e)) (hi : P.info? e = some i)
    (v : Value) (n : Nat) (xs : List Value) (hs : a.eval s = v) (hown : w.ownsRow base e size v n xs) (hx : a.eval x = .slice none 0 0)
    (h : K (a.put o.dst v) w) :
    if Region.wanted o (yielded ops a.tmps) = true then Oper.wp P o a w K Q else E := by
  have hw : Region.wanted o (yielded ops a.tmps) = true := by simp [Region.wanted, hgd]
  rw [if_pos hw]
  have hrun := run_append_owned_none (P := P) (w := w) base t o.type e i size ht hi v n xs hown
  unfold Oper.wp
  simp [execOp, ho, resolve, invoke, builtin, hs, hx, hrun, Result.andThen]
  exact h
end

set_option maxHeartbeats 800000 in
theorem l2IntsR_any (A : Option Addr) (c : Nat) (l : List Int) (B : Nat) (w : World) (hll : l.length ≤ 2000000) (hin : IIn w B A c l) (hB : B ≤ w.heap.size) : Calls Try.prog 84 #[.slice A l.length c] w (fun e w' => ∃ v, e = .returned v ∧ w'.ownsRow w.heap.size 3 1 v l.length (l.map (Value.int .i64)) ∧ Below w.heap.size w w') := by
  have hcap := hin.cap
  obtain ⟨i0, hi, hz0, hz1, hz2⟩ := info_parts infoI
  have hown0 : (w.alloc (.cells #[] 3)).ownsRow w.heap.size 3 1 (.slice (some ⟨w.heap.size, 0, none⟩) 0 0) 0 [] := World.ownsRow_made w #[] 0 (Nat.le_refl _) (by unfold maxLen; omega) (by simp)
  have b0 : Below w.heap.size w (w.alloc (.cells #[] 3)) := (Below.refl _ _).alloc (Nat.le_refl _) _
  by_cases hn : A = none
  · obtain rfl := hn
    obtain rfl := hin.nil rfl
    have hl : l = [] := by
      cases l with
      | nil => rfl
      | cons _ _ => simp at hcap
    subst hl
    go_enter Try.func84, Try.ntmps84
    go_wp2_with (at_builtin; refine wpList_append_own_none rfl _ _ 22 rfl w.heap.size 3 i0 1 Try.underlying22 hi _ 0 [] rfl hown0 rfl ?_)
    go_ret
    exact ⟨_, rfl, by simpa using hown0, b0⟩
  · obtain ⟨a, rfl⟩ := Option.ne_none_iff_exists'.1 hn
    have hnews : ∀ j u, (l.map (Value.int .i64))[j]? = some u → (w.alloc (.cells #[] 3)).cell? (a.add j) = some u := by
      intro j u hu
      have hne : l ≠ [] := by rintro rfl; simp at hu
      obtain ⟨b, o, e, _, _⟩ := hin.mem hne
      obtain rfl := Option.some.inj e
      exact iall (hin.alloc hB _) j u hu
    go_enter Try.func84, Try.ntmps84
    go_wp2_with (at_builtin; refine wpList_append_own _ rfl _ _ 22 rfl w.heap.size 3 i0 (.int .i64 0) 1 8 Try.underlying22 hi hz0 hz1 hz2 rfl (by decide) _ 0 [] rfl hown0 a l.length c (l.map (Value.int .i64)) rfl (by simp) hnews (iallone l) (by unfold maxLen; omega) (by omega) (by simp) ?_)
    intro v' w1 hown' hgr _
    have hown2 : w1.ownsRow w.heap.size 3 1 v' l.length (l.map (Value.int .i64)) := by simpa using hown'
    have hb1 : Below w.heap.size w w1 := b0.grown hgr (by simp) (fun k hk => (hown0.lt k hk).1)
    clear hown' hgr hnews hown0
    go_wp2_with fail
    go_ret
    exact ⟨_, rfl, hown2, hb1⟩


theorem irow_below {w w' : World} {base : Nat} {v : Value} {acc : List Int} (h : w.ownsRow base 3 1 v acc.length (acc.map (Value.int .i64))) (hb : Below w.heap.size w w') : w'.ownsRow base 3 1 v acc.length (acc.map (Value.int .i64)) :=
  h.kept (w' := w') (row := none) ⟨hb.os, hb.tape, hb.output, hb.size, fun k hk _ => hb.block k hk⟩ (by cases v.ownBlock <;> simp)
/-- .. while all that was there stays as it was. -/
theorem GrewN.later {F : List Nat} {base : Nat} {acc : List Int} {v v1 : Value} {w w1 w2 : World} (h : GrewN F base acc v w v1 w1) (hb : Below w1.heap.size w1 w2) : GrewN F base acc v w v1 w2 :=
  h.trans ⟨irow_below h.1 hb, Chg.of_below hb, .inl rfl⟩
theorem IIn.off {w : World} {B : Nat} {A : Option Addr} {c : Nat} {l : List Int} {w' : World} (h : IIn w B A c l) (hk : ∀ b ∈ iblk A l, w'.heap[b]? = w.heap[b]?) : IIn w' B A c l := h.keep hk
end Go.Proofs.Ytbeikpbnidbjfaa
