/-
  strings.IndexRune and strings.ContainsRune of a rune that is no ASCII, in the eleven marks of a symbol.
-/
import Derived.Test.YtiopophoioiafaaDat
import Derived.Test.YtiopophoioiafaaShelf
import Derived.Handy
import Derived.WalkSpells
import Derived.WalkLawsBesides
import Derived.BigQuiet
import Derived.Deep.QuietTactic
import Derived.Deep.RegionWith
namespace Go.Proofs.Ytiopophoioiafaa
open Go.RowKit

/-- The marks of a symbol beside letters and digits. -/
def mk11 : ByteArray := ⟨#[33, 63, 42, 60, 62, 61, 47, 43, 45, 46, 95]⟩
theorem mk11_ascii : ∀ c ∈ mk11.data.toList, c.toNat < 128 := by decide
theorem mk11_get (i : Nat) (h : i < mk11.size) : (mk11[i]'h).toNat < 128 := mk11_ascii _ (Array.getElem_mem_toList (xs := mk11.data) h)

theorem idxByte_none (l : List UInt8) (c : UInt8) (h : ∀ b ∈ l, b ≠ c) : Lib.indexByte l c = -1 := by
  induction l with
  | nil => rfl
  | cons b r ih =>
    have h1 : (b == c) = false := by simpa using h b (by simp)
    simp [Lib.indexByte, h1, ih fun x hx => h x (by simp [hx])]

set_option maxRecDepth 100000 in
set_option maxHeartbeats 1000000 in
theorem idxRune_err (w : World) : Calls Try.prog 216 #[.string mk11, .int .i32 65533] w fun e w' => e = .returned (.int .i64 (-1)) ∧ Below w.heap.size w w' := by
  have hsz : mk11.size = 11 := rfl
  go_enter Try.func216, Try.ntmps216
  go_wp2_with fail
  go_loopw [] (fun w' => ∃ pos : Nat, w' = w.iter mk11 pos ∧ pos ≤ 11) (fun w' => 11 - w'.iterPos w.heap.size)
  case atStart => exact ⟨0, rfl, by omega⟩
  case round =>
    obtain ⟨pos, rfl, hpos⟩ := hrel
    by_cases hp : pos < mk11.size
    · have hnx : ∀ ty, (Instr.next (.pointer (some ⟨w.heap.size, 0, none⟩)) true ty).run Try.prog (w.iter mk11 pos) = _ := fun ty => run_next_any w mk11 pos ty hp
      have hda := decode_ascii mk11 pos hp (mk11_get pos hp)
      have hlt := mk11_get pos hp
      rw [hda] at hnx
      have hne : (((mk11[pos]'hp).toNat : Int) == 65533) = false := by simp; omega
      clear hda
      go_wp2_with fail
      exact ⟨⟨pos + 1, rfl, by omega⟩, by simp; omega⟩
    · have hnx : ∀ ty, (Instr.next (.pointer (some ⟨w.heap.size, 0, none⟩)) true ty).run Try.prog (w.iter mk11 pos) = _ := fun ty => run_next_end w mk11 pos ty hp
      go_wp2_with fail
      go_ret
      exact ⟨rfl, (Below.refl _ _).alloc (Nat.le_refl _) _⟩

set_option maxRecDepth 100000 in
set_option maxHeartbeats 1000000 in
theorem idxRune_bad (r : Int) (w : World) (h1 : 128 ≤ r) (h2 : r ≤ 2147483647) (hv : Lib.validRune r = false) : Calls Try.prog 216 #[.string mk11, .int .i32 r] w fun e w' => e = .returned (.int .i64 (-1)) ∧ Below w.heap.size w w' := by
  have hne : (r == 65533) = false := by
    simp
    rintro rfl
    simp [Lib.validRune] at hv
  go_enter Try.func216, Try.ntmps216
  go_wp2_with fail
  refine (Try.utf8_ValidRune r _).mono ?_
  rintro e w' ⟨rfl, rfl⟩
  go_wp2_with fail
  go_ret
  exact ⟨rfl, Below.refl _ _⟩

set_option maxRecDepth 100000 in
set_option maxHeartbeats 1000000 in
theorem idxRune_high (r : Int) (w : World) (h1 : 128 ≤ r) (h2 : r ≤ 2147483647) (hne : (r == 65533) = false) (hv : Lib.validRune r = true) : Calls Try.prog 216 #[.string mk11, .int .i32 r] w fun e w' => e = .returned (.int .i64 (-1)) ∧ Below w.heap.size w w' := by
  have hv' : Utf8.valid r = true := by rw [validRune_eq]; exact hv
  obtain ⟨hz1, hz2, hlast⟩ := encode_facts r hv' h1
  have hcv : ∀ W, (convert 21 9 (.int .i32 r)).run Try.prog W = .ok (.string (Utf8.encode r)) W := fun W => run_convert_int_string W 21 9 _ r rfl Try.underlying9
  clear hv'
  generalize Utf8.encode r = es at *
  obtain ⟨q, hq⟩ : ∃ q, es.size = q + 1 := ⟨es.size - 1, by omega⟩
  have hq3 : q ≤ 3 := by omega
  have hl2 : ∀ h : q < es.size, 128 ≤ (es[q]'h).toNat := fun h => by
    have := hlast (by omega)
    simpa [hq] using this
  have hqs : q < es.size := by omega
  have hl3 := hl2 hqs
  have hmz : mk11.size = 11 := rfl
  have hqm : q < mk11.size := by omega
  have hml := mk11_get q hqm
  have hbn : (((mk11[q]'hqm).toNat : Int) != ((es[q]'hqs).toNat : Int)) = true := by simp; omega
  have g0 : (0 : Int) ≤ (q : Int) := by omega
  have g1 : (q : Int) < (mk11.size : Int) := by omega
  have g2 : (q : Int) < (es.size : Int) := by omega
  have g3 : (q : Int) < (q : Int) + 1 := by omega
  clear hl2 hlast hz1 hz2
  go_enter Try.func216, Try.ntmps216
  go_wp2_with fail
  refine (Try.utf8_ValidRune r _).mono ?_
  rintro e w' ⟨rfl, rfl⟩
  go_wp2_with fail
  go_step3
  go_wp2_with fail
  refine wp_loop_rounds 1 ?_
  rw [rounds_succ]
  go_wp2_with fail
  go_step3
  go_wp2_with fail
  go_region
  go_wp2_with fail
  have hw : IntKind.i64.wrap ((q : Int) + 1) = (q : Int) + 1 := IntWalk.i64_in _ (by omega)
  have g4 : (0 : Int) ≤ (q : Int) + 1 := by omega
  have g5 : (q : Int) + 1 ≤ 11 := by omega
  have g6 : ((q : Int) + 1).toNat = q + 1 := by omega
  have g7 : q + 1 ≤ 11 := by omega
  go_region_with (go_at_call 220; refine (Try.strings_IndexByte _ _ _).mono ?_; rintro e w1 ⟨rfl, rfl⟩)
  have hib : Lib.indexByte (List.take (10 - q) (List.drop (q + 1) mk11.data.toList)) es[q] = -1 := idxByte_none _ _ fun b hb e => by
    have := mk11_ascii b (List.mem_of_mem_drop (List.mem_of_mem_take hb))
    rw [e] at this
    omega
  rw [hib]
  go_wp2_with fail
  rw [Exit.noGoto_ret]
  simp only [Exit.inBlock, Exit.then, Exit.noGoto]
  go_ret
  exact ⟨rfl, (Below.refl _ _).drew.drew⟩

theorem idxRune_any (r : Int) (w : World) (h1 : 128 ≤ r) (h2 : r ≤ 2147483647) : Calls Try.prog 216 #[.string mk11, .int .i32 r] w fun e w' => e = .returned (.int .i64 (-1)) ∧ Below w.heap.size w w' := by
  by_cases h : r = 65533
  · subst h; exact idxRune_err w
  · cases hv : Lib.validRune r
    · exact idxRune_bad r w h1 h2 hv
    · exact idxRune_high r w h1 h2 (by simpa using h) hv

/-- Is a rune one of the eleven marks? -/
def markR (r : Int) : Bool := decide (r = 33 ∨ r = 63 ∨ r = 42 ∨ r = 60 ∨ r = 62 ∨ r = 61 ∨ r = 47 ∨ r = 43 ∨ r = 45 ∨ r = 46 ∨ r = 95)
theorem markR_byte : ∀ n : Fin 128, (decide (0 ≤ Lib.indexByte mk11.data.toList (n.val : Int).toNat.toUInt8)) = markR n.val := by decide +kernel
set_option maxRecDepth 100000 in
theorem containsRune_any (r : Int) (w : World) (h1 : 0 ≤ r) (h2 : r ≤ 2147483647) : Calls Try.prog 196 #[.string mk11, .int .i32 r] w fun e w' => e = .returned (.bool (markR r)) ∧ Below w.heap.size w w' := by
  by_cases h : r < 128
  · have hm := markR_byte ⟨r.toNat, by omega⟩
    simp only [show ((r.toNat : Nat) : Int) = r by omega] at hm
    have Hm := Lib.hid hm
    clear hm
    go_enter Try.func196, Try.ntmps196
    go_wp2_with fail
    refine (Try.strings_IndexRune_ascii _ _ _ h1 h).mono ?_
    rintro e w' ⟨rfl, rfl⟩
    go_wp2_with fail
    go_ret
    exact ⟨ret_bool Hm.out, Below.refl _ _⟩
  · have Hm : Hid (markR r = false) := by show _ = _; simp [markR]; omega
    go_enter Try.func196, Try.ntmps196
    go_wp2_with fail
    refine (idxRune_any _ _ (by omega) h2).mono ?_
    rintro e w' ⟨rfl, hb⟩
    go_wp2_with fail
    go_ret
    exact ⟨ret_bool Hm.out.symm, hb⟩
theorem containsRune_ascii (r : Int) (w : World) (h1 : 0 ≤ r) (h : r < 128) : Calls Try.prog 196 #[.string mk11, .int .i32 r] w fun e w' => e = .returned (.bool (markR r)) ∧ w = w' := by
  have hm := markR_byte ⟨r.toNat, by omega⟩
  simp only [show ((r.toNat : Nat) : Int) = r by omega] at hm
  have Hm := Lib.hid hm
  clear hm
  go_enter Try.func196, Try.ntmps196
  go_wp2_with fail
  refine (Try.strings_IndexRune_ascii _ _ _ h1 h).mono ?_
  rintro e w' ⟨rfl, rfl⟩
  go_wp2_with fail
  go_ret
  exact ⟨ret_bool Hm.out, rfl⟩
end Go.Proofs.Ytiopophoioiafaa
