/-
  Valid lists of bindings: whether a set of scopes is among the sets of one text (the program's closure, slices.IndexFunc and slices.ContainsFunc).
-/
import Derived.Test.YtikjipkhebedfaaAreB
import Derived.Test.YtikjipkhebedfaaSEqi
namespace Go.Proofs.Ytikjipkhebedfaa
open Go.RowKit

/-- A list of ints, where it lies. -/
structure Iv where
  a : Option Addr
  c : Nat
  s : List Int
namespace Iv
def cells (x : Iv) : List Value := [.slice x.a x.s.length x.c]
def In (w : World) (B : Nat) (x : Iv) : Prop := IIn w B x.a x.c x.s
/-- Rows of them. -/
def E : Elem Iv where
  cells := cells
  n := 1
  pos := by decide
  len := fun _ => rfl
  one := by
    intro b u hu
    simp only [cells, List.mem_cons, List.not_mem_nil, or_false] at hu
    subst hu
    rfl
  In := In
  blks := fun x => iblk x.a x.s
  lt := fun h => h.blk_lt
  keepB := fun h hk => h.keep hk
  more := fun h hB => h.more hB
/-- Whether these ints are among them. -/
def has (l : List Iv) (s : List Int) : Bool := l.any fun x => x.s == s
theorem has_step {l : List Iv} {j : Nat} (h : j < l.length) (s : List Int) : has (l.take (j + 1)) s = (has (l.take j) s || (l[j].s == s)) := by
  unfold has
  rw [List.take_succ_eq_append_getElem h, List.any_append]
  simp
theorem has_yes {l : List Iv} {j : Nat} (h : j < l.length) {s : List Int} (he : (l[j].s == s) = true) : has l s = true := by
  unfold has
  rw [List.any_eq_true]
  exact ⟨l[j], List.getElem_mem h, he⟩
/-- The cell of element i. -/
theorem at_ {w : World} {B : Nat} {A : Option Addr} {c : Nat} {l : List Iv} (h : E.LIn w B A c l) {i : Nat} {x : Iv} (hi : l[i]? = some x) :
    ∃ b o : Nat, A = some ⟨b, o, none⟩ ∧ b < B ∧ w.cell? ⟨b, o + i, none⟩ = some (.slice x.a x.s.length x.c) ∧ In w B x := by
  obtain ⟨b, o, e, hb, hc, hx⟩ := h.at_ hi
  have h0 := hc 0 _ rfl
  refine ⟨b, o, e, hb, ?_, hx⟩
  simpa [E] using h0
end Iv

set_option maxRecDepth 100000 in
set_option maxHeartbeats 1000000 in
theorem isThisB_any (x : Iv) (b0 : Bd) (g B : Nat) (w : World) (hx : x.In w B) (hd : b0.In w B) (hbx : Bd.Box w g b0) :
    Calls Try.prog 133 #[.slice x.a x.s.length x.c, .pointer (some ⟨g, 0, none⟩)] w fun e w' => e = .returned (.bool (x.s == b0.s)) ∧ Below w.heap.size w w' := by
  obtain ⟨a0, a1, a2, a3⟩ := hbx
  go_enter Try.func133, Try.ntmps133
  go_wp2_with fail
  refine (implSameInts_any _ _ _ _ _ _ B _ hx hd.2).mono ?_
  rintro e w1 ⟨rfl, hb1⟩
  clear a0 a1 a2 a3
  go_wp2_with fail
  go_ret
  exact ⟨rfl, hb1⟩

set_option maxRecDepth 100000 in
set_option maxHeartbeats 1000000 in
theorem containsS_any (A : Option Addr) (c : Nat) (l : List Iv) (b0 : Bd) (g B : Nat) (w : World) (hin : Iv.E.LIn w B A c l) (hd : b0.In w B) (hB : B ≤ w.heap.size) (hbx : Bd.Box w g b0) (hg : g < w.heap.size) :
    Calls Try.prog 136 #[.slice A l.length c, .func (.func 133) #[] #[.pointer (some ⟨g, 0, none⟩)]] w fun e w' => e = .returned (.bool (Iv.has l b0.s)) ∧ Below w.heap.size w w' := by
  have hcap := hin.cap
  have key : Calls Try.prog 177 #[.slice A l.length c, .func (.func 133) #[] #[.pointer (some ⟨g, 0, none⟩)]] w fun e w' => (∃ r : Int, e = .returned (.int .i64 r) ∧ decide (0 ≤ r) = Iv.has l b0.s) ∧ Below w.heap.size w w' := by
    go_enter Try.func177, Try.ntmps177
    go_wp2_with fail
    go_loopw [5, 8] (fun _ i wr => ∃ j : Nat, j ≤ l.length ∧ i = .int .i64 j ∧ Hid (Iv.has (l.take j) b0.s = false) ∧ Below w.heap.size w wr) (fun _ i _ => l.length - (intOf i).toNat)
    case atStart => exact ⟨0, Nat.zero_le _, rfl, by simp [Hid, Iv.has], Below.refl _ _⟩
    case round =>
      obtain ⟨j, hj, rfl, HN, hb⟩ := hrel
      by_cases hlt : j < l.length
      · have hsz := hb.size
        obtain ⟨b, o, rfl, hblk, c0, hix⟩ := Iv.at_ (hin.below (hb.mono hB)) (i := j) (x := l[j]) (List.getElem?_eq_getElem hlt)
        have g2 : (j : Int) < (l.length : Int) := by omega
        have HS := Lib.hid (Iv.has_step hlt b0.s)
        go_wp2_with fail
        refine (isThisB_any l[j] b0 g B _ hix (hd.below (hb.mono hB)) (hbx.below hb hg)).mono ?_
        rintro e w1 ⟨rfl, hb1⟩
        have hb3 := hb.trans (hb1.mono (by omega))
        clear c0 hb1
        cases hq : (l[j].s == b0.s)
        · have HN2 : Hid (Iv.has (l.take (j + 1)) b0.s = false) := by show _ = _; rw [HS.out, HN.out, hq]; rfl
          clear hq
          go_wp2_with fail
          refine ⟨⟨j + 1, by omega, by go_num, HN2, hb3⟩, by simp [intOf]; omega⟩
        · have HY := Lib.hid (Iv.has_yes hlt hq)
          clear hq
          go_wp2_with fail
          go_ret
          exact ⟨⟨j, rfl, by rw [HY.out]; simp⟩, hb3⟩
      · have hj' : j = l.length := by omega
        subst hj'
        have HF : Hid (Iv.has l b0.s = false) := by have := HN.out; rwa [List.take_length] at this
        go_wp2_with fail
        go_ret
        exact ⟨⟨-1, rfl, by rw [HF.out]; rfl⟩, hb⟩
  go_enter Try.func136, Try.ntmps136
  go_wp2_with fail
  refine key.mono ?_
  rintro e w1 ⟨⟨r, rfl, hr⟩, hb1⟩
  have HR := Lib.hid hr
  clear hr key
  go_wp2_with fail
  go_ret
  exact ⟨ret_bool HR.out, hb1⟩
end Go.Proofs.Ytikjipkhebedfaa
