/-
  strings.IndexRune and strings.ContainsRune of a rune that is no ASCII, in the eleven marks of a symbol.
-/
import Derived.Test.YtpigpncbjckbcaaBase
import Derived.Test.YtpigpncbjckbcaaShelf
import Derived.Handy
import Derived.WalkSpells
import Derived.WalkLawsBesides
import Derived.BigQuiet
import Derived.Deep.QuietTactic
import Derived.Deep.RegionWith
import Derived.Laws.RangeAny
namespace Go.Proofs.Ytpigpncbjckbcaa
open Go.RowKit

/-- The marks of a symbol beside letters and digits. -/
def mk11 : ByteArray := ⟨#[33, 63, 42, 60, 62, 61, 47, 43, 45, 46, 95]⟩
theorem mk11_ascii : ∀ c ∈ mk11.data.toList, c.toNat < 128 := by decide
theorem mk11_get (i : Nat) (h : i < mk11.size) : (mk11[i]'h).toNat < 128 := mk11_ascii _ (Array.getElem_mem_toList (xs := mk11.data) h)

theorem idxByte_none (l : List UInt8) (c : UInt8) (h : ∀ b ∈ l, b ≠ c) : Lib.indexByte l c = -1 := by
  induction l with
  | nil => rfl
  | cons b r ih =>
    have h1 : (b == c) = false := by simpa using h b (by simp)
    simp [Lib.indexByte, h1, ih fun x hx => h x (by simp [hx])]

set_option maxRecDepth 100000 in
set_option maxHeartbeats 1000000 in
theorem idxRune_err (w : World) : Calls Try.prog 109 #[.string mk11, .int .i32 65533] w fun e w' => e = .returned (.int .i64 (-1)) ∧ Below w.heap.size w w' := by
  have hsz : mk11.size = 11 := rfl
  go_enter Try.func109, Try.ntmps109
  go_wp2_with fail
  go_loopw [] (fun w' => ∃ pos : Nat, w' = w.iter mk11 pos ∧ pos ≤ 11) (fun w' => 11 - w'.iterPos w.heap.size)
  case atStart => exact ⟨0, rfl, by omega⟩
  case round =>
    obtain ⟨pos, rfl, hpos⟩ := hrel
    by_cases hp : pos < mk11.size
    · have hnx : ∀ ty, (Instr.next (.pointer (some ⟨w.heap.size, 0, none⟩)) true ty).run Try.prog (w.iter mk11 pos) = _ := fun ty => run_next_any w mk11 pos ty hp
      have hda := decode_ascii mk11 pos hp (mk11_get pos hp)
      have hlt := mk11_get pos hp
      rw [hda] at hnx
      have hne : (((mk11[pos]'hp).toNat : Int) == 65533) = false := by simp; omega
      clear hda
      go_wp2_with fail
      exact ⟨⟨pos + 1, rfl, by omega⟩, by simp; omega⟩
    · have hnx : ∀ ty, (Instr.next (.pointer (some ⟨w.heap.size, 0, none⟩)) true ty).run Try.prog (w.iter mk11 pos) = _ := fun ty => run_next_end w mk11 pos ty hp
      go_wp2_with fail
      go_ret
      exact ⟨rfl, (Below.refl _ _).alloc (Nat.le_refl _) _⟩

set_option maxRecDepth 100000 in
set_option maxHeartbeats 1000000 in
theorem idxRune_bad (r : Int) (w : World) (h1 : 128 ≤ r) (h2 : r ≤ 2147483647) (hv : Lib.validRune r = false) : Calls Try.prog 109 #[.string mk11, .int .i32 r] w fun e w' => e = .returned (.int .i64 (-1)) ∧ Below w.heap.size w w' := by
  have hne : (r == 65533) = false := by
    simp
    rintro rfl
    simp [Lib.validRune] at hv
  go_enter Try.func109, Try.ntmps109
  go_wp2_with fail
  refine (Try.utf8_ValidRune r _).mono ?_
  rintro e w' ⟨rfl, rfl⟩
  go_wp2_with fail
  go_ret
  exact ⟨rfl, Below.refl _ _⟩

set_option maxRecDepth 100000 in
set_option maxHeartbeats 1000000 in
theorem idxRune_high (r : Int) (w : World) (h1 : 128 ≤ r) (h2 : r ≤ 2147483647) (hne : (r == 65533) = false) (hv : Lib.validRune r = true) : Calls Try.prog 109 #[.string mk11, .int .i32 r] w fun e w' => e = .returned (.int .i64 (-1)) ∧ Below w.heap.size w w' := by
  have hv' : Utf8.valid r = true := by rw [validRune_eq]; exact hv
  obtain ⟨hz1, hz2, hlast⟩ := encode_facts r hv' h1
  have hcv : ∀ W, (convert 21 9 (.int .i32 r)).run Try.prog W = .ok (.string (Utf8.encode r)) W := fun W => run_convert_int_string W 21 9 _ r rfl Try.underlying9
  clear hv'
  generalize Utf8.encode r = es at *
  obtain ⟨q, hq⟩ : ∃ q, es.size = q + 1 := ⟨es.size - 1, by omega⟩
  have hq3 : q ≤ 3 := by omega
  have hl2 : ∀ h : q < es.size, 128 ≤ (es[q]'h).toNat := fun h => by
    have := hlast (by omega)
    simpa [hq] using this
  have hqs : q < es.size := by omega
  have hl3 := hl2 hqs
  have hmz : mk11.size = 11 := rfl
  have hqm : q < mk11.size := by omega
  have hml := mk11_get q hqm
  have hbn : (((mk11[q]'hqm).toNat : Int) != ((es[q]'hqs).toNat : Int)) = true := by simp; omega
  have g0 : (0 : Int) ≤ (q : Int) := by omega
  have g1 : (q : Int) < (mk11.size : Int) := by omega
  have g2 : (q : Int) < (es.size : Int) := by omega
  have g3 : (q : Int) < (q : Int) + 1 := by omega
  clear hl2 hlast hz1 hz2
  go_enter Try.func109, Try.ntmps109
  go_wp2_with fail
  refine (Try.utf8_ValidRune r _).mono ?_
  rintro e w' ⟨rfl, rfl⟩
  go_wp2_with fail
  go_step3
  go_wp2_with fail
  refine wp_loop_rounds 1 ?_
  rw [rounds_succ]
  go_wp2_with fail
  go_step3
  go_wp2_with fail
  go_region
  go_wp2_with fail
  have hw : IntKind.i64.wrap ((q : Int) + 1) = (q : Int) + 1 := IntWalk.i64_in _ (by omega)
  have g4 : (0 : Int) ≤ (q : Int) + 1 := by omega
  have g5 : (q : Int) + 1 ≤ 11 := by omega
  have g6 : ((q : Int) + 1).toNat = q + 1 := by omega
  have g7 : q + 1 ≤ 11 := by omega
  go_region_with (go_at_call 111; refine (Try.strings_IndexByte _ _ _).mono ?_; rintro e w1 ⟨rfl, rfl⟩)
  have hib : Lib.indexByte (List.take (10 - q) (List.drop (q + 1) mk11.data.toList)) es[q] = -1 := idxByte_none _ _ fun b hb e => by
    have := mk11_ascii b (List.mem_of_mem_drop (List.mem_of_mem_take hb))
    rw [e] at this
    omega
  rw [hib]
  go_wp2_with fail
  rw [Exit.noGoto_ret]
  simp only [Exit.inBlock, Exit.then, Exit.noGoto]
  go_ret
  exact ⟨rfl, (Below.refl _ _).drew.drew⟩

theorem idxRune_any (r : Int) (w : World) (h1 : 128 ≤ r) (h2 : r ≤ 2147483647) : Calls Try.prog 109 #[.string mk11, .int .i32 r] w fun e w' => e = .returned (.int .i64 (-1)) ∧ Below w.heap.size w w' := by
  by_cases h : r = 65533
  · subst h; exact idxRune_err w
  · cases hv : Lib.validRune r
    · exact idxRune_bad r w h1 h2 hv
    · exact idxRune_high r w h1 h2 (by simpa using h) hv

/-- Is a rune one of the eleven marks? -/
def markR (r : Int) : Bool := decide (r = 33 ∨ r = 63 ∨ r = 42 ∨ r = 60 ∨ r = 62 ∨ r = 61 ∨ r = 47 ∨ r = 43 ∨ r = 45 ∨ r = 46 ∨ r = 95)
theorem markR_byte : ∀ n : Fin 128, (decide (0 ≤ Lib.indexByte mk11.data.toList (n.val : Int).toNat.toUInt8)) = markR n.val := by decide +kernel
set_option maxRecDepth 100000 in
theorem containsRune_any (r : Int) (w : World) (h1 : 0 ≤ r) (h2 : r ≤ 2147483647) : Calls Try.prog 107 #[.string mk11, .int .i32 r] w fun e w' => e = .returned (.bool (markR r)) ∧ Below w.heap.size w w' := by
  by_cases h : r < 128
  · have hm := markR_byte ⟨r.toNat, by omega⟩
    simp only [show ((r.toNat : Nat) : Int) = r by omega] at hm
    have Hm := Lib.hid hm
    clear hm
    go_enter Try.func107, Try.ntmps107
    go_wp2_with fail
    refine (Try.strings_IndexRune_ascii _ _ _ h1 h).mono ?_
    rintro e w' ⟨rfl, rfl⟩
    go_wp2_with fail
    go_ret
    exact ⟨ret_bool Hm.out, Below.refl _ _⟩
  · have Hm : Hid (markR r = false) := by show _ = _; simp [markR]; omega
    go_enter Try.func107, Try.ntmps107
    go_wp2_with fail
    refine (idxRune_any _ _ (by omega) h2).mono ?_
    rintro e w' ⟨rfl, hb⟩
    go_wp2_with fail
    go_ret
    exact ⟨ret_bool Hm.out.symm, hb⟩
theorem containsRune_ascii (r : Int) (w : World) (h1 : 0 ≤ r) (h : r < 128) : Calls Try.prog 107 #[.string mk11, .int .i32 r] w fun e w' => e = .returned (.bool (markR r)) ∧ w = w' := by
  have hm := markR_byte ⟨r.toNat, by omega⟩
  simp only [show ((r.toNat : Nat) : Int) = r by omega] at hm
  have Hm := Lib.hid hm
  clear hm
  go_enter Try.func107, Try.ntmps107
  go_wp2_with fail
  refine (Try.strings_IndexRune_ascii _ _ _ h1 h).mono ?_
  rintro e w' ⟨rfl, rfl⟩
  go_wp2_with fail
  go_ret
  exact ⟨ret_bool Hm.out, rfl⟩
end Go.Proofs.Ytpigpncbjckbcaa

namespace Go.Proofs.Ytpigpncbjckbcaa
open Go.RowKit

def isDig (c : Int) : Bool := decide (48 ≤ c ∧ c ≤ 57)
def symRune (r : Int) : Bool := decide (97 ≤ r ∧ r ≤ 122) || (isDig r || markR r)
def stNum : List UInt8 → Bool
  | [] => false
  | [c] => isDig c.toNat
  | c :: d :: _ => isDig c.toNat || (decide ((c.toNat : Int) = 45) && isDig d.toNat)
def symL (l : List UInt8) : Bool := decide (1 ≤ l.length ∧ l.length ≤ 16) && (!stNum l && l.all fun c => symRune c.toNat)
def symB (s : ByteArray) : Bool := symL s.data.toList
def txtByte (c : Int) : Bool := !(decide (c < 32) || (decide (126 < c) || decide (c = 34)))
def txtL (l : List UInt8) : Bool := decide (l.length ≤ 20) && l.all fun c => txtByte c.toNat
def txtB (s : ByteArray) : Bool := txtL s.data.toList

theorem symRune_high {r : Int} (h : 128 ≤ r) : symRune r = false := by simp [symRune, isDig, markR]; omega
theorem txtByte_high {r : Int} (h : 128 ≤ r) : txtByte r = false := by simp [txtByte]; omega

theorem isDigit_any (r : Int) (w : World) : Calls Try.prog 106 #[.int .i32 r] w fun e w' => e = .returned (.bool (isDig r)) ∧ w = w' := by
  have h0 : isDig r = (decide (48 ≤ r) && decide (r ≤ 57)) := by simp [isDig]
  have H := Lib.hid h0
  clear h0
  by_cases h1 : 48 ≤ r
  · by_cases h2 : r ≤ 57
    · go_enter Try.func106, Try.ntmps106
      go_wp2_with fail
      go_ret
      exact ⟨ret_bool (by rw [H.out]; simp; omega), rfl⟩
    · go_enter Try.func106, Try.ntmps106
      go_wp2_with fail
      go_ret
      exact ⟨ret_bool (by rw [H.out]; simp; omega), rfl⟩
  · go_enter Try.func106, Try.ntmps106
    go_wp2_with fail
    go_ret
    exact ⟨ret_bool (by rw [H.out]; simp; omega), rfl⟩
theorem l1Digit_any (r : Int) (w : World) : Calls Try.prog 98 #[.int .u8 r] w fun e w' => e = .returned (.bool (isDig r)) ∧ w = w' := by
  have h0 : isDig r = (decide (48 ≤ r) && decide (r ≤ 57)) := by simp [isDig]
  have H := Lib.hid h0
  clear h0
  by_cases h1 : 48 ≤ r
  · by_cases h2 : r ≤ 57
    · go_enter Try.func98, Try.ntmps98
      go_wp2_with fail
      go_ret
      exact ⟨ret_bool (by rw [H.out]; simp; omega), rfl⟩
    · go_enter Try.func98, Try.ntmps98
      go_wp2_with fail
      go_ret
      exact ⟨ret_bool (by rw [H.out]; simp; omega), rfl⟩
  · go_enter Try.func98, Try.ntmps98
    go_wp2_with fail
    go_ret
    exact ⟨ret_bool (by rw [H.out]; simp; omega), rfl⟩

theorem isSymbolRune_any (r : Int) (w : World) (h1 : 0 ≤ r) (h2 : r ≤ 2147483647) : Calls Try.prog 104 #[.int .i32 r] w fun e w' => e = .returned (.bool (symRune r)) ∧ Below w.heap.size w w' := by
  have h0 : symRune r = (decide (97 ≤ r ∧ r ≤ 122) || (isDig r || markR r)) := rfl
  have H := Lib.hid h0
  clear h0
  by_cases h3 : 97 ≤ r ∧ r ≤ 122
  · obtain ⟨h4, h5⟩ := h3
    go_enter Try.func104, Try.ntmps104
    go_wp2_with fail
    go_ret
    exact ⟨ret_bool (by rw [H.out]; simp; omega), Below.refl _ _⟩
  · have hx : (decide (97 ≤ r ∧ r ≤ 122)) = false := by simpa using h3
    have Hx := Lib.hid hx
    clear hx
    by_cases h4 : 97 ≤ r
    · have h5 : ¬ r ≤ 122 := fun h => h3 ⟨h4, h⟩
      clear h3
      go_enter Try.func104, Try.ntmps104
      go_wp2_with fail
      refine (isDigit_any _ _).mono ?_
      rintro e w1 ⟨rfl, rfl⟩
      cases hd : isDig r
      · have Hd := Lib.hid hd
        go_wp2_with fail
        refine (containsRune_any _ _ h1 h2).mono ?_
        rintro e w1 ⟨rfl, hb⟩
        go_wp2_with fail
        go_ret
        exact ⟨ret_bool (by rw [H.out, Hx.out, Hd.out]; simp), hb⟩
      · have Hd := Lib.hid hd
        go_wp2_with fail
        go_ret
        exact ⟨ret_bool (by rw [H.out, Hd.out]; simp), Below.refl _ _⟩
    · clear h3
      go_enter Try.func104, Try.ntmps104
      go_wp2_with fail
      refine (isDigit_any _ _).mono ?_
      rintro e w1 ⟨rfl, rfl⟩
      cases hd : isDig r
      · have Hd := Lib.hid hd
        go_wp2_with fail
        refine (containsRune_any _ _ h1 h2).mono ?_
        rintro e w1 ⟨rfl, hb⟩
        go_wp2_with fail
        go_ret
        exact ⟨ret_bool (by rw [H.out, Hx.out, Hd.out]; simp), hb⟩
      · have Hd := Lib.hid hd
        go_wp2_with fail
        go_ret
        exact ⟨ret_bool (by rw [H.out, Hd.out]; simp), Below.refl _ _⟩
theorem isSymbolRune_ascii (r : Int) (w : World) (h1 : 0 ≤ r) (h2 : r < 128) : Calls Try.prog 104 #[.int .i32 r] w fun e w' => e = .returned (.bool (symRune r)) ∧ w = w' := by
  have h0 : symRune r = (decide (97 ≤ r ∧ r ≤ 122) || (isDig r || markR r)) := rfl
  have H := Lib.hid h0
  clear h0
  by_cases h3 : 97 ≤ r ∧ r ≤ 122
  · obtain ⟨h4, h5⟩ := h3
    go_enter Try.func104, Try.ntmps104
    go_wp2_with fail
    go_ret
    exact ⟨ret_bool (by rw [H.out]; simp; omega), rfl⟩
  · have hx : (decide (97 ≤ r ∧ r ≤ 122)) = false := by simpa using h3
    have Hx := Lib.hid hx
    clear hx
    by_cases h4 : 97 ≤ r
    · have h5 : ¬ r ≤ 122 := fun h => h3 ⟨h4, h⟩
      clear h3
      go_enter Try.func104, Try.ntmps104
      go_wp2_with fail
      refine (isDigit_any _ _).mono ?_
      rintro e w1 ⟨rfl, rfl⟩
      cases hd : isDig r
      · have Hd := Lib.hid hd
        go_wp2_with fail
        refine (containsRune_ascii _ _ h1 h2).mono ?_
        rintro e w1 ⟨rfl, rfl⟩
        go_wp2_with fail
        go_ret
        exact ⟨ret_bool (by rw [H.out, Hx.out, Hd.out]; simp), rfl⟩
      · have Hd := Lib.hid hd
        go_wp2_with fail
        go_ret
        exact ⟨ret_bool (by rw [H.out, Hd.out]; simp), rfl⟩
    · clear h3
      go_enter Try.func104, Try.ntmps104
      go_wp2_with fail
      refine (isDigit_any _ _).mono ?_
      rintro e w1 ⟨rfl, rfl⟩
      cases hd : isDig r
      · have Hd := Lib.hid hd
        go_wp2_with fail
        refine (containsRune_ascii _ _ h1 h2).mono ?_
        rintro e w1 ⟨rfl, rfl⟩
        go_wp2_with fail
        go_ret
        exact ⟨ret_bool (by rw [H.out, Hx.out, Hd.out]; simp), rfl⟩
      · have Hd := Lib.hid hd
        go_wp2_with fail
        go_ret
        exact ⟨ret_bool (by rw [H.out, Hd.out]; simp), rfl⟩
end Go.Proofs.Ytpigpncbjckbcaa

namespace Go.Proofs.Ytpigpncbjckbcaa
open Go.RowKit

theorem symRune_mk (b : UInt8) : symRune b.toNat = (decide (97 ≤ (b.toNat : Int) ∧ (b.toNat : Int) ≤ 122) || (isDig b.toNat || mk11.data.toList.any (· == b))) := by
  have key : ∀ n : Fin 256, symRune n.val = (decide (97 ≤ (n.val : Int) ∧ (n.val : Int) ≤ 122) || (isDig n.val || mk11.data.toList.any (· == UInt8.ofNat n.val))) := by decide +kernel
  have := key ⟨b.toNat, b.toNat_lt⟩
  simpa using this

theorem l1Mark_any (b : UInt8) (w : World) : Calls Try.prog 99 #[.int .u8 b.toNat] w fun e w' => e = .returned (.bool (symRune b.toNat)) ∧ w = w' := by
  have hb0 : (0 : Int) ≤ (b.toNat : Int) := by omega
  have hb1 : (b.toNat : Int) ≤ 255 := by have := b.toNat_lt; omega
  have H := Lib.hid (symRune_mk b)
  have hmz : mk11.size = 11 := rfl
  by_cases hx : 97 ≤ (b.toNat : Int) ∧ (b.toNat : Int) ≤ 122
  · obtain ⟨h4, h5⟩ := hx
    go_enter Try.func99, Try.ntmps99
    go_wp2_with fail
    go_ret
    exact ⟨ret_bool (by rw [H.out]; simp; omega), rfl⟩
  · have Hx : Hid (decide (97 ≤ (b.toNat : Int) ∧ (b.toNat : Int) ≤ 122) = false) := by show _ = _; simpa using hx
    by_cases h4 : 97 ≤ (b.toNat : Int)
    · have h5 : ¬ (b.toNat : Int) ≤ 122 := fun h => hx ⟨h4, h⟩
      clear hx
      go_enter Try.func99, Try.ntmps99
      go_wp2_with fail
      refine (l1Digit_any _ _).mono ?_
      rintro e w1 ⟨rfl, rfl⟩
      cases hd : isDig b.toNat
      rotate_left
      · have Hd := Lib.hid hd
        go_wp2_with fail
        go_ret
        exact ⟨ret_bool (by rw [H.out, Hd.out]; simp), rfl⟩
      have Hd := Lib.hid hd
      clear hd
      go_wp2_with fail
      rw [show (⟨#[33, 63, 42, 60, 62, 61, 47, 43, 45, 46, 95]⟩ : ByteArray) = mk11 from rfl]
      go_loop [4] (fun i => ∃ j : Nat, j ≤ 11 ∧ i = .int .i64 j ∧ Hid ((mk11.data.toList.take j).any (· == b) = false)) (fun i => 11 - (intOf i).toNat)
      case atStart => exact ⟨0, by omega, rfl, by simp [Hid]⟩
      case round =>
        obtain ⟨j, hj, rfl, HE⟩ := hrel
        by_cases hlt : j < 11
        · have hlt' : j < mk11.size := hlt
          have g1 : (0 : Int) ≤ (j : Int) := by omega
          have g2 : (j : Int) < (mk11.size : Int) := by omega
          have hg : mk11.data.toList[j]? = some (mk11[j]'hlt') := by
            rw [List.getElem?_eq_getElem (by exact hlt')]; rfl
          have HT : Hid (mk11.data.toList.take (j + 1) = mk11.data.toList.take j ++ [mk11[j]'hlt']) := by
            show _ = _
            rw [List.take_add_one, hg]; rfl
          clear hg
          by_cases hc : (mk11[j]'hlt') = b
          · have hc1 : (((mk11[j]'hlt').toNat : Int) == (b.toNat : Int)) = true := by rw [hc]; simp
            have HC := Lib.hid hc
            clear hc
            go_wp2_with fail
            go_ret
            refine ⟨ret_bool ?_, rfl⟩
            have h1 : mk11.data.toList.any (· == b) = true := by
              rw [List.any_eq_true]
              exact ⟨mk11[j]'hlt', Array.getElem_mem_toList (xs := mk11.data) hlt', by rw [HC.out]; simp⟩
            rw [H.out, h1]; simp
          · have hc1 : (((mk11[j]'hlt').toNat : Int) == (b.toNat : Int)) = false := by
              simp only [beq_eq_false_iff_ne, ne_eq]
              intro h
              exact hc (UInt8.toNat_inj.1 (by omega))
            have HC : Hid (((mk11[j]'hlt') == b) = false) := by show _ = _; simpa using hc
            clear hc
            go_wp2_with fail
            go_round
            case rel => exact ⟨j + 1, by omega, by go_num, by (show _ = _); rw [HT.out, List.any_append, HE.out]; simp [HC.out]⟩
            case measure => simp [intOf]; omega
        · have hj' : j = 11 := by omega
          subst hj'
          go_wp2_with fail
          go_ret
          refine ⟨ret_bool ?_, rfl⟩
          have h1 : mk11.data.toList.any (· == b) = false := HE.out
          rw [H.out, Hx.out, Hd.out, h1]; rfl
    · clear hx
      go_enter Try.func99, Try.ntmps99
      go_wp2_with fail
      refine (l1Digit_any _ _).mono ?_
      rintro e w1 ⟨rfl, rfl⟩
      cases hd : isDig b.toNat
      rotate_left
      · have Hd := Lib.hid hd
        go_wp2_with fail
        go_ret
        exact ⟨ret_bool (by rw [H.out, Hd.out]; simp), rfl⟩
      have Hd := Lib.hid hd
      clear hd
      go_wp2_with fail
      rw [show (⟨#[33, 63, 42, 60, 62, 61, 47, 43, 45, 46, 95]⟩ : ByteArray) = mk11 from rfl]
      go_loop [4] (fun i => ∃ j : Nat, j ≤ 11 ∧ i = .int .i64 j ∧ Hid ((mk11.data.toList.take j).any (· == b) = false)) (fun i => 11 - (intOf i).toNat)
      case atStart => exact ⟨0, by omega, rfl, by simp [Hid]⟩
      case round =>
        obtain ⟨j, hj, rfl, HE⟩ := hrel
        by_cases hlt : j < 11
        · have hlt' : j < mk11.size := hlt
          have g1 : (0 : Int) ≤ (j : Int) := by omega
          have g2 : (j : Int) < (mk11.size : Int) := by omega
          have hg : mk11.data.toList[j]? = some (mk11[j]'hlt') := by
            rw [List.getElem?_eq_getElem (by exact hlt')]; rfl
          have HT : Hid (mk11.data.toList.take (j + 1) = mk11.data.toList.take j ++ [mk11[j]'hlt']) := by
            show _ = _
            rw [List.take_add_one, hg]; rfl
          clear hg
          by_cases hc : (mk11[j]'hlt') = b
          · have hc1 : (((mk11[j]'hlt').toNat : Int) == (b.toNat : Int)) = true := by rw [hc]; simp
            have HC := Lib.hid hc
            clear hc
            go_wp2_with fail
            go_ret
            refine ⟨ret_bool ?_, rfl⟩
            have h1 : mk11.data.toList.any (· == b) = true := by
              rw [List.any_eq_true]
              exact ⟨mk11[j]'hlt', Array.getElem_mem_toList (xs := mk11.data) hlt', by rw [HC.out]; simp⟩
            rw [H.out, h1]; simp
          · have hc1 : (((mk11[j]'hlt').toNat : Int) == (b.toNat : Int)) = false := by
              simp only [beq_eq_false_iff_ne, ne_eq]
              intro h
              exact hc (UInt8.toNat_inj.1 (by omega))
            have HC : Hid (((mk11[j]'hlt') == b) = false) := by show _ = _; simpa using hc
            clear hc
            go_wp2_with fail
            go_round
            case rel => exact ⟨j + 1, by omega, by go_num, by (show _ = _); rw [HT.out, List.any_append, HE.out]; simp [HC.out]⟩
            case measure => simp [intOf]; omega
        · have hj' : j = 11 := by omega
          subst hj'
          go_wp2_with fail
          go_ret
          refine ⟨ret_bool ?_, rfl⟩
          have h1 : mk11.data.toList.any (· == b) = false := HE.out
          rw [H.out, Hx.out, Hd.out, h1]; rfl

theorem starts_any (s : ByteArray) (w : World) : Calls Try.prog 103 #[.string s] w fun e w' => e = .returned (.bool (stNum s.data.toList)) ∧ w = w' := by
  have key : ∀ l : List UInt8, stNum l = (!(Lib.trimPrefix l [45]).isEmpty && isDig ((Lib.trimPrefix l [45]).headD 0).toNat) := by
    intro l
    cases l with
    | nil => rfl
    | cons c r =>
      by_cases hc : c = 45
      · subst hc
        cases r with
        | nil => rfl
        | cons d t => simp [stNum, Lib.trimPrefix, Lib.hasPrefix, isDig]
      · have h1 : Lib.trimPrefix (c :: r) [45] = c :: r := by simp [Lib.trimPrefix, Lib.hasPrefix]; intro h; exact absurd h.symm hc
        have h2 : ¬ (c.toNat : Int) = 45 := fun h => hc (UInt8.toNat_inj.1 (by simp; omega))
        rw [h1]
        cases r <;> simp [stNum, h2]
  have K := Lib.hid (key s.data.toList)
  clear key
  go_enter Try.func103, Try.ntmps103
  go_wp2_with fail
  refine (Try.strings_TrimPrefix _ _ _).mono ?_
  rintro e w1 ⟨rfl, rfl⟩
  rw [show (⟨#[45]⟩ : ByteArray).data.toList = [45] from rfl]
  generalize Lib.trimPrefix s.data.toList [45] = t at *
  cases t with
  | nil =>
    go_wp2_with fail
    go_ret
    exact ⟨ret_bool (by rw [K.out]; rfl), rfl⟩
  | cons c r =>
    have g1 : (0 : Int) < (r.length : Int) + 1 := by omega
    go_wp2_with fail
    refine (isDigit_any _ _).mono ?_
    rintro e w1 ⟨rfl, rfl⟩
    go_wp2_with fail
    go_ret
    exact ⟨ret_bool (by rw [K.out]; have := c.toNat_lt; show isDig (wrap32 (c.toNat : Int)) = isDig (c.toNat : Int); rw [IntWalk.wrap32_in _ ⟨by omega, by omega⟩]), rfl⟩
end Go.Proofs.Ytpigpncbjckbcaa

namespace Go.Proofs.Ytpigpncbjckbcaa
open Go.RowKit

theorem l1In_any (x a b : Int) (w : World) : Calls Try.prog 22 #[.int .i64 x, .int .i64 a, .int .i64 b] w fun e w' => e = .returned (.bool (decide (a ≤ x ∧ x ≤ b))) ∧ w = w' := by
  by_cases h1 : a ≤ x
  · by_cases h2 : x ≤ b
    · go_enter Try.func22, Try.ntmps22
      go_wp2_with fail
      go_ret
      exact ⟨ret_bool (by simp; omega), rfl⟩
    · go_enter Try.func22, Try.ntmps22
      go_wp2_with fail
      go_ret
      exact ⟨ret_bool (by simp; omega), rfl⟩
  · go_enter Try.func22, Try.ntmps22
    go_wp2_with fail
    go_ret
    exact ⟨ret_bool (by simp; omega), rfl⟩
theorem isNumber_any (x : Int) (w : World) : Calls Try.prog 101 #[.int .i64 x] w fun e w' => e = .returned (.bool (decide (-999999999 ≤ x ∧ x ≤ 999999999))) ∧ w = w' := by
  by_cases h1 : -999999999 ≤ x
  · by_cases h2 : x ≤ 999999999
    · go_enter Try.func101, Try.ntmps101
      go_wp2_with fail
      go_ret
      exact ⟨ret_bool (by simp; omega), rfl⟩
    · go_enter Try.func101, Try.ntmps101
      go_wp2_with fail
      go_ret
      exact ⟨ret_bool (by simp; omega), rfl⟩
  · go_enter Try.func101, Try.ntmps101
    go_wp2_with fail
    go_ret
    exact ⟨ret_bool (by simp; omega), rfl⟩

theorem all_take_succ (s : ByteArray) (p : UInt8 → Bool) (j : Nat) (h : j < s.size) : (s.data.toList.take (j + 1)).all p = ((s.data.toList.take j).all p && p (s[j]'h)) := by
  have hg : s.data.toList[j]? = some (s[j]'h) := by rw [List.getElem?_eq_getElem (by exact h)]; rfl
  rw [List.take_add_one, hg]
  simp
theorem all_false_of (s : ByteArray) (p : UInt8 → Bool) (j : Nat) (h : j < s.size) (hp : p (s[j]'h) = false) : s.data.toList.all p = false := by
  rw [List.all_eq_false]
  exact ⟨s[j]'h, Array.getElem_mem_toList (xs := s.data) h, by simpa using hp⟩
theorem len_size (s : ByteArray) : s.data.toList.length = s.size := by simp

theorem isEmpty_pos (s : ByteArray) (h : s.size ≠ 0) : s.toList.isEmpty = false := by
  rw [ByteArray.toList_eq]
  cases hl : s.data.toList with
  | nil => have := len_size s; rw [hl] at this; simp at this; omega
  | cons _ _ => rfl
theorem isEmpty_zero (s : ByteArray) (h : s.size = 0) : s.toList.isEmpty = true := by
  rw [ByteArray.toList_eq]
  have := len_size s
  rw [h] at this
  rw [List.eq_nil_of_length_eq_zero this]; rfl

set_option maxRecDepth 100000 in
set_option maxHeartbeats 1000000 in
theorem implSymbol_any (s : ByteArray) (w : World) : Calls Try.prog 100 #[.string s] w fun e w' => e = .returned (.bool (symB s)) ∧ Below w.heap.size w w' := by
  have K : Hid (symB s = (decide (1 ≤ s.size ∧ s.size ≤ 16) && (!stNum s.data.toList && s.data.toList.all fun c => symRune c.toNat))) := by
    show _ = _
    rw [symB, symL, len_size]
  by_cases h0 : s.size = 0
  · have he := isEmpty_zero s h0
    have H0 := Lib.hid h0
    clear h0
    go_enter Try.func100, Try.ntmps100
    go_wp2_with fail
    go_ret
    exact ⟨ret_bool (by rw [K.out, H0.out]; rfl), Below.refl _ _⟩
  · have he := isEmpty_pos s h0
    by_cases h1 : s.size ≤ 16
    · have h2 : ¬ (16 : Int) < (s.size : Int) := by omega
      cases hst : stNum s.data.toList
      · have Hst := Lib.hid hst
        go_enter Try.func100, Try.ntmps100
        go_wp2_with fail
        refine (starts_any _ _).mono ?_
        rintro e w1 ⟨rfl, rfl⟩
        rw [Hst.out]
        clear hst
        go_wp2_with fail
        go_loopw [] (fun w' => ∃ pos : Nat, pos ≤ s.size ∧ Hid ((s.data.toList.take pos).all (fun c => symRune c.toNat) = true) ∧ w' = w.iter s pos) (fun w' => s.size - w'.iterPos w.heap.size)
        case atStart => exact ⟨0, Nat.zero_le _, by simp [Hid], rfl⟩
        case round =>
          obtain ⟨pos, hpos, HE, rfl⟩ := hrel
          by_cases hp : pos < s.size
          · have hnx : ∀ ty, (Instr.next (.pointer (some ⟨w.heap.size, 0, none⟩)) true ty).run Try.prog (w.iter s pos) = _ := fun ty => run_next_any w s pos ty hp
            have HT := Lib.hid (all_take_succ s (fun c => symRune c.toNat) pos hp)
            by_cases ha : (s[pos]'hp).toNat < 128
            · have hda := decode_ascii s pos hp ha
              rw [hda] at hnx
              clear hda
              go_wp2_with fail
              refine (isSymbolRune_ascii _ _ (by omega) (by omega)).mono ?_
              rintro e w1 ⟨rfl, rfl⟩
              cases hq : symRune (s[pos]'hp).toNat
              · have Hq := Lib.hid hq
                go_wp2_with fail
                go_ret
                exact ⟨ret_bool (by rw [K.out, all_false_of s _ pos hp Hq.out]; simp), (Below.refl _ _).alloc (Nat.le_refl _) _⟩
              · have Hq := Lib.hid hq
                go_wp2_with fail
                refine ⟨⟨pos + 1, by omega, by (show _ = _); rw [HT.out, HE.out, Hq.out]; rfl, rfl⟩, by simp; omega⟩
            · obtain ⟨hd1, hd2⟩ := decode_high s pos hp (by omega)
              have hd3 := decode_le s pos
              generalize Utf8.decode s pos = dc at *
              obtain ⟨dr, dw⟩ := dc
              simp only at hnx hd1 hd2 hd3
              go_wp2_with fail
              refine (isSymbolRune_any _ _ (by omega) (by omega)).mono ?_
              rintro e w1 ⟨rfl, hb1⟩
              rw [symRune_high (by omega)]
              have Hq : Hid (symRune (s[pos]'hp).toNat = false) := symRune_high (by omega)
              go_wp2_with fail
              go_ret
              exact ⟨ret_bool (by rw [K.out, all_false_of s _ pos hp Hq.out]; simp), ((Below.refl _ _).alloc (Nat.le_refl _) _).trans (hb1.mono (by simp [World.iter]))⟩
          · have hnx : ∀ ty, (Instr.next (.pointer (some ⟨w.heap.size, 0, none⟩)) true ty).run Try.prog (w.iter s pos) = _ := fun ty => run_next_end w s pos ty hp
            go_wp2_with fail
            go_ret
            have hpe : pos = s.size := by omega
            refine ⟨ret_bool ?_, (Below.refl _ _).alloc (Nat.le_refl _) _⟩
            have := HE.out
            rw [hpe, List.take_of_length_le (by rw [len_size]; omega)] at this
            rw [K.out, this, Hst.out]
            simp
            omega
      · have Hst := Lib.hid hst
        go_enter Try.func100, Try.ntmps100
        go_wp2_with fail
        refine (starts_any _ _).mono ?_
        rintro e w1 ⟨rfl, rfl⟩
        rw [Hst.out]
        clear hst
        go_wp2_with fail
        go_ret
        exact ⟨ret_bool (by rw [K.out, Hst.out]; simp), Below.refl _ _⟩
    · have h2 : (16 : Int) < (s.size : Int) := by omega
      have HK : Hid (decide (1 ≤ s.size ∧ s.size ≤ 16) = false) := by show _ = _; simp; omega
      go_enter Try.func100, Try.ntmps100
      go_wp2_with fail
      go_ret
      exact ⟨ret_bool (by rw [K.out, HK.out]; rfl), Below.refl _ _⟩

set_option maxRecDepth 100000 in
set_option maxHeartbeats 1000000 in
theorem specSymbol_any (s : ByteArray) (w : World) : Calls Try.prog 95 #[.string s] w fun e w' => e = .returned (.bool (symB s)) ∧ w = w' := by
  have K : Hid (symB s = (decide (1 ≤ s.size ∧ s.size ≤ 16) && (!stNum s.data.toList && s.data.toList.all fun c => symRune c.toNat))) := by
    show _ = _
    rw [symB, symL, len_size]
  have L1 := l1In_any s.size 1 16
  have H1 := Lib.hid L1
  clear L1
  by_cases h1 : 1 ≤ s.size ∧ s.size ≤ 16
  · have hd1 : decide ((1 : Int) ≤ s.size ∧ (s.size : Int) ≤ 16) = true := by simp; omega
    have HD := Lib.hid hd1
    clear hd1
    obtain ⟨h1a, h1b⟩ := h1
    have h0 : 0 < s.size := by omega
    have g0 : (0 : Int) < (s.size : Int) := by omega
    have loop : ∀ (T : Prop), True := fun _ => trivial
    have hst : stNum s.data.toList = (isDig (s[0]'h0).toNat || (decide (((s[0]'h0).toNat : Int) = 45) && (if h : 1 < s.size then isDig (s[1]'h).toNat else false))) := by
      have e0 : s.data.toList[0]? = some (s[0]'h0) := by rw [List.getElem?_eq_getElem (by exact h0)]; rfl
      have ls := len_size s
      match hl : s.data.toList with
      | [] => rw [hl] at ls; simp at ls; omega
      | [c] =>
        rw [hl] at ls e0
        simp at ls e0
        rw [stNum, e0, dif_neg (by omega)]
        simp
      | c :: d :: r =>
        have h2 : 1 < s.size := by rw [← ls, hl]; simp
        have e1 : s.data.toList[1]? = some (s[1]'h2) := by rw [List.getElem?_eq_getElem (by exact h2)]; rfl
        rw [hl] at e0 e1
        simp at e0 e1
        rw [stNum, e0, e1, dif_pos h2]
    have Hst := Lib.hid hst
    clear hst loop
    go_enter Try.func95, Try.ntmps95
    go_wp2_with fail
    refine (H1.out _).mono ?_
    rintro e w1 ⟨rfl, rfl⟩
    rw [HD.out]
    go_wp2_with fail
    refine (l1Digit_any _ _).mono ?_
    rintro e w1 ⟨rfl, rfl⟩
    cases hd : isDig (s[0]'h0).toNat
    · have Hd := Lib.hid hd
      clear hd
      by_cases h45 : (((s[0]'h0).toNat : Int) == 45) = true
      · have h45' : ((s[0]'h0).toNat : Int) = 45 := by simpa using h45
        have H45 := Lib.hid h45'
        clear h45'
        by_cases hs1 : 1 < s.size
        · have g3 : (1 : Int) < (s.size : Int) := by omega
          go_wp2_with fail
          refine (l1Digit_any _ _).mono ?_
          rintro e w1 ⟨rfl, rfl⟩
          cases hd1 : isDig (s[1]'hs1).toNat
          · have Hd1 := Lib.hid hd1
            clear hd1
            go_wp2_with fail
            go_loop [3] (fun i => ∃ j : Nat, j ≤ s.size ∧ i = .int .i64 j ∧ Hid ((s.data.toList.take j).all (fun c => symRune c.toNat) = true)) (fun i => s.size - (intOf i).toNat)
            case atStart => exact ⟨0, Nat.zero_le _, rfl, by simp [Hid]⟩
            case round =>
              obtain ⟨j, hj, rfl, HE⟩ := hrel
              by_cases hlt : j < s.size
              · have HT := Lib.hid (all_take_succ s (fun c => symRune c.toNat) j hlt)
                have g1 : (0 : Int) ≤ (j : Int) := by omega
                have g2 : (j : Int) < (s.size : Int) := by omega
                go_wp2_with fail
                refine (l1Mark_any _ _).mono ?_
                rintro e w1 ⟨rfl, rfl⟩
                cases hq : symRune (s[j]'hlt).toNat
                · have Hq := Lib.hid hq
                  go_wp2_with fail
                  go_ret
                  exact ⟨ret_bool (by rw [K.out, all_false_of s _ j hlt Hq.out]; simp), rfl⟩
                · have Hq := Lib.hid hq
                  go_wp2_with fail
                  go_round
                  case rel => exact ⟨j + 1, by omega, by go_num, by (show _ = _); rw [HT.out, HE.out, Hq.out]; rfl⟩
                  case measure => simp [intOf]; omega
              · go_wp2_with fail
                go_ret
                have hpe : j = s.size := by omega
                refine ⟨ret_bool ?_, rfl⟩
                have := HE.out
                rw [hpe, List.take_of_length_le (by rw [len_size]; omega)] at this
                rw [K.out, this, Hst.out]
                rw [Hd.out, dif_pos hs1, Hd1.out]; simp; omega
          · have Hd1 := Lib.hid hd1
            clear hd1
            go_wp2_with fail
            go_ret
            exact ⟨ret_bool (by rw [K.out, Hst.out, dif_pos hs1, Hd1.out, decide_eq_true H45.out]; simp), rfl⟩
        · have g3 : ¬ (1 : Int) < (s.size : Int) := by omega
          go_wp2_with fail
          go_loop [3] (fun i => ∃ j : Nat, j ≤ s.size ∧ i = .int .i64 j ∧ Hid ((s.data.toList.take j).all (fun c => symRune c.toNat) = true)) (fun i => s.size - (intOf i).toNat)
          case atStart => exact ⟨0, Nat.zero_le _, rfl, by simp [Hid]⟩
          case round =>
            obtain ⟨j, hj, rfl, HE⟩ := hrel
            by_cases hlt : j < s.size
            · have HT := Lib.hid (all_take_succ s (fun c => symRune c.toNat) j hlt)
              have g1 : (0 : Int) ≤ (j : Int) := by omega
              have g2 : (j : Int) < (s.size : Int) := by omega
              go_wp2_with fail
              refine (l1Mark_any _ _).mono ?_
              rintro e w1 ⟨rfl, rfl⟩
              cases hq : symRune (s[j]'hlt).toNat
              · have Hq := Lib.hid hq
                go_wp2_with fail
                go_ret
                exact ⟨ret_bool (by rw [K.out, all_false_of s _ j hlt Hq.out]; simp), rfl⟩
              · have Hq := Lib.hid hq
                go_wp2_with fail
                go_round
                case rel => exact ⟨j + 1, by omega, by go_num, by (show _ = _); rw [HT.out, HE.out, Hq.out]; rfl⟩
                case measure => simp [intOf]; omega
            · go_wp2_with fail
              go_ret
              have hpe : j = s.size := by omega
              refine ⟨ret_bool ?_, rfl⟩
              have := HE.out
              rw [hpe, List.take_of_length_le (by rw [len_size]; omega)] at this
              rw [K.out, this, Hst.out]
              rw [Hd.out, dif_neg hs1]; simp; omega
      · have h45' : (((s[0]'h0).toNat : Int) == 45) = false := by simpa using h45
        have h46 : ¬ ((s[0]'h0).toNat : Int) = 45 := by simpa using h45
        have H46 := Lib.hid (decide_eq_false h46)
        clear h45 h46
        go_wp2_with fail
        go_loop [3] (fun i => ∃ j : Nat, j ≤ s.size ∧ i = .int .i64 j ∧ Hid ((s.data.toList.take j).all (fun c => symRune c.toNat) = true)) (fun i => s.size - (intOf i).toNat)
        case atStart => exact ⟨0, Nat.zero_le _, rfl, by simp [Hid]⟩
        case round =>
          obtain ⟨j, hj, rfl, HE⟩ := hrel
          by_cases hlt : j < s.size
          · have HT := Lib.hid (all_take_succ s (fun c => symRune c.toNat) j hlt)
            have g1 : (0 : Int) ≤ (j : Int) := by omega
            have g2 : (j : Int) < (s.size : Int) := by omega
            go_wp2_with fail
            refine (l1Mark_any _ _).mono ?_
            rintro e w1 ⟨rfl, rfl⟩
            cases hq : symRune (s[j]'hlt).toNat
            · have Hq := Lib.hid hq
              go_wp2_with fail
              go_ret
              exact ⟨ret_bool (by rw [K.out, all_false_of s _ j hlt Hq.out]; simp), rfl⟩
            · have Hq := Lib.hid hq
              go_wp2_with fail
              go_round
              case rel => exact ⟨j + 1, by omega, by go_num, by (show _ = _); rw [HT.out, HE.out, Hq.out]; rfl⟩
              case measure => simp [intOf]; omega
          · go_wp2_with fail
            go_ret
            have hpe : j = s.size := by omega
            refine ⟨ret_bool ?_, rfl⟩
            have := HE.out
            rw [hpe, List.take_of_length_le (by rw [len_size]; omega)] at this
            rw [K.out, this, Hst.out]
            rw [Hd.out, H46.out]; simp; omega
    · have Hd := Lib.hid hd
      clear hd
      go_wp2_with fail
      go_ret
      exact ⟨ret_bool (by rw [K.out, Hst.out, Hd.out]; simp), rfl⟩
  · have hd1 : decide ((1 : Int) ≤ s.size ∧ (s.size : Int) ≤ 16) = false := by simp; omega
    have HD := Lib.hid hd1
    have HN : Hid (decide (1 ≤ s.size ∧ s.size ≤ 16) = false) := by show _ = _; simpa using h1
    clear hd1 h1
    go_enter Try.func95, Try.ntmps95
    go_wp2_with fail
    refine (H1.out _).mono ?_
    rintro e w1 ⟨rfl, rfl⟩
    rw [HD.out]
    go_wp2_with fail
    go_ret
    exact ⟨ret_bool (by rw [K.out, HN.out]; rfl), rfl⟩
end Go.Proofs.Ytpigpncbjckbcaa

namespace Go.Proofs.Ytpigpncbjckbcaa
open Go.RowKit

set_option maxRecDepth 100000 in
set_option maxHeartbeats 1000000 in
theorem implText_any (s : ByteArray) (w : World) : Calls Try.prog 102 #[.string s] w fun e w' => e = .returned (.bool (txtB s)) ∧ Below w.heap.size w w' := by
  have K : Hid (txtB s = (decide (s.size ≤ 20) && s.data.toList.all fun c => txtByte c.toNat)) := by
    show _ = _
    rw [txtB, txtL, len_size]
  by_cases h1 : s.size ≤ 20
  · have h2 : ¬ (20 : Int) < (s.size : Int) := by omega
    go_enter Try.func102, Try.ntmps102
    go_wp2_with fail
    go_loopw [] (fun w' => ∃ pos : Nat, pos ≤ s.size ∧ Hid ((s.data.toList.take pos).all (fun c => txtByte c.toNat) = true) ∧ w' = w.iter s pos) (fun w' => s.size - w'.iterPos w.heap.size)
    case atStart => exact ⟨0, Nat.zero_le _, by simp [Hid], rfl⟩
    case round =>
      obtain ⟨pos, hpos, HE, rfl⟩ := hrel
      by_cases hp : pos < s.size
      · have hnx : ∀ ty, (Instr.next (.pointer (some ⟨w.heap.size, 0, none⟩)) true ty).run Try.prog (w.iter s pos) = _ := fun ty => run_next_any w s pos ty hp
        have HT := Lib.hid (all_take_succ s (fun c => txtByte c.toNat) pos hp)
        by_cases ha : (s[pos]'hp).toNat < 128
        · have hda := decode_ascii s pos hp ha
          rw [hda] at hnx
          clear hda
          by_cases c1 : ((s[pos]'hp).toNat : Int) < 32
          · have Hq : Hid (txtByte (s[pos]'hp).toNat = false) := by show _ = _; simp [txtByte]; omega
            go_wp2_with fail
            go_ret
            exact ⟨ret_bool (by rw [K.out, all_false_of s _ pos hp Hq.out]; simp), (Below.refl _ _).alloc (Nat.le_refl _) _⟩
          · by_cases c2 : (126 : Int) < ((s[pos]'hp).toNat : Int)
            · have Hq : Hid (txtByte (s[pos]'hp).toNat = false) := by show _ = _; simp [txtByte]; omega
              go_wp2_with fail
              go_ret
              exact ⟨ret_bool (by rw [K.out, all_false_of s _ pos hp Hq.out]; simp), (Below.refl _ _).alloc (Nat.le_refl _) _⟩
            · by_cases c3 : (((s[pos]'hp).toNat : Int) == 34) = true
              · have Hq : Hid (txtByte (s[pos]'hp).toNat = false) := by show _ = _; simp [txtByte]; simp at c3; omega
                go_wp2_with fail
                go_ret
                exact ⟨ret_bool (by rw [K.out, all_false_of s _ pos hp Hq.out]; simp), (Below.refl _ _).alloc (Nat.le_refl _) _⟩
              · have c4 : (((s[pos]'hp).toNat : Int) == 34) = false := by simpa using c3
                have Hq : Hid (txtByte (s[pos]'hp).toNat = true) := by show _ = _; simp [txtByte]; simp at c3; omega
                clear c3
                go_wp2_with fail
                refine ⟨⟨pos + 1, by omega, by (show _ = _); rw [HT.out, HE.out, Hq.out]; rfl, rfl⟩, by simp; omega⟩
        · obtain ⟨hd1, hd2⟩ := decode_high s pos hp (by omega)
          have hd3 := decode_le s pos
          generalize Utf8.decode s pos = dc at *
          obtain ⟨dr, dw⟩ := dc
          simp only at hnx hd1 hd2 hd3
          have c1 : ¬ (dr : Int) < 32 := by omega
          have c2 : (126 : Int) < (dr : Int) := by omega
          have Hq : Hid (txtByte (s[pos]'hp).toNat = false) := txtByte_high (by omega)
          go_wp2_with fail
          go_ret
          exact ⟨ret_bool (by rw [K.out, all_false_of s _ pos hp Hq.out]; simp), (Below.refl _ _).alloc (Nat.le_refl _) _⟩
      · have hnx : ∀ ty, (Instr.next (.pointer (some ⟨w.heap.size, 0, none⟩)) true ty).run Try.prog (w.iter s pos) = _ := fun ty => run_next_end w s pos ty hp
        go_wp2_with fail
        go_ret
        have hpe : pos = s.size := by omega
        refine ⟨ret_bool ?_, (Below.refl _ _).alloc (Nat.le_refl _) _⟩
        have := HE.out
        rw [hpe, List.take_of_length_le (by rw [len_size]; omega)] at this
        rw [K.out, this]
        simp
        omega
  · have h2 : (20 : Int) < (s.size : Int) := by omega
    have HK : Hid (decide (s.size ≤ 20) = false) := by show _ = _; simp; omega
    go_enter Try.func102, Try.ntmps102
    go_wp2_with fail
    go_ret
    exact ⟨ret_bool (by rw [K.out, HK.out]; rfl), Below.refl _ _⟩

set_option maxRecDepth 100000 in
set_option maxHeartbeats 1000000 in
theorem specText_any (s : ByteArray) (w : World) (hs : s.size ≤ 9223372036854775807) : Calls Try.prog 96 #[.string s] w fun e w' => e = .returned (.bool (txtB s)) ∧ w = w' := by
  have K : Hid (txtB s = (decide (s.size ≤ 20) && s.data.toList.all fun c => txtByte c.toNat)) := by
    show _ = _
    rw [txtB, txtL, len_size]
  go_enter Try.func96, Try.ntmps96
  go_wp2_with fail
  go_loop [3] (fun i => ∃ j : Nat, j ≤ s.size ∧ i = .int .i64 j ∧ Hid ((s.data.toList.take j).all (fun c => txtByte c.toNat) = true)) (fun i => s.size - (intOf i).toNat)
  case atStart => exact ⟨0, Nat.zero_le _, rfl, by simp [Hid]⟩
  case round =>
    obtain ⟨j, hj, rfl, HE⟩ := hrel
    by_cases hlt : j < s.size
    · have HT := Lib.hid (all_take_succ s (fun c => txtByte c.toNat) j hlt)
      have g1 : (0 : Int) ≤ (j : Int) := by omega
      have g2 : (j : Int) < (s.size : Int) := by omega
      by_cases c1 : ((s[j]'hlt).toNat : Int) < 32
      · have Hq : Hid (txtByte (s[j]'hlt).toNat = false) := by show _ = _; simp [txtByte]; omega
        go_wp2_with fail
        go_ret
        exact ⟨ret_bool (by rw [K.out, all_false_of s _ j hlt Hq.out]; simp), rfl⟩
      · by_cases c2 : (126 : Int) < ((s[j]'hlt).toNat : Int)
        · have Hq : Hid (txtByte (s[j]'hlt).toNat = false) := by show _ = _; simp [txtByte]; omega
          go_wp2_with fail
          go_ret
          exact ⟨ret_bool (by rw [K.out, all_false_of s _ j hlt Hq.out]; simp), rfl⟩
        · by_cases c3 : (((s[j]'hlt).toNat : Int) == 34) = true
          · have Hq : Hid (txtByte (s[j]'hlt).toNat = false) := by show _ = _; simp [txtByte]; simp at c3; omega
            go_wp2_with fail
            go_ret
            exact ⟨ret_bool (by rw [K.out, all_false_of s _ j hlt Hq.out]; simp), rfl⟩
          · have c4 : (((s[j]'hlt).toNat : Int) == 34) = false := by simpa using c3
            have Hq : Hid (txtByte (s[j]'hlt).toNat = true) := by show _ = _; simp [txtByte]; simp at c3; omega
            clear c3
            go_wp2_with fail
            go_round
            case rel => exact ⟨j + 1, by omega, by go_num, by (show _ = _); rw [HT.out, HE.out, Hq.out]; rfl⟩
            case measure => simp [intOf]; omega
    · go_wp2_with fail
      go_ret
      have hpe : j = s.size := by omega
      refine ⟨ret_bool ?_, rfl⟩
      have := HE.out
      rw [hpe, List.take_of_length_le (by rw [len_size]; omega)] at this
      rw [K.out, this]
      simp
      omega
end Go.Proofs.Ytpigpncbjckbcaa
