/- What toks.One answers: a token's text. Condition: the table of powers of ten is the library's own; the token's number is an int. -/
import Derived.Test.YtnkdppbpcinjhaaDoorTokN
import Derived.Test.YtnkdppbpcinjhaaDoorTokP
import Derived.Test.YtnkdppbpcinjhaaDoorShelf
import Derived.Deep.RegionHeld3
import Derived.Lib.AppendIntMem
import Derived.Lib.SmallJoins
set_option maxRecDepth 20000
namespace Go.Proofs.YtnkdppbpcinjhaaDoor
open Go.RowKit
/-- the world's table of powers of ten is the library's -/
def Tab (w : World) : Prop := Lib.TabIs Tryd.prog w "internal/strconv.uint64pow10" .u64 Lib.pow10Tab
theorem Tab.below {w w' : World} (h : Tab w) (hb : Below w.heap.size w w') : Tab w' := Lib.tabBelow_of_tabIs h w' hb
theorem ret_str {a b : ByteArray} (h : a = b) : Ending.returned (.string a) = .returned (.string b) := by rw [h]
theorem Itoa_any (n : Int) (h0 : -9223372036854775808 ≤ n) (h1 : n ≤ 9223372036854775807) (w : World) (ht : Tab w) :
    Calls Tryd.prog 46 #[.int .i64 n] w fun e w' => e = .returned (.string (Wn.str (Lib.itoa n))) ∧ Below w.heap.size w w' :=
  (Tryd.strconv_Itoa n h0 h1 w ht).mono fun e w' ⟨he, k, os, hw⟩ => ⟨he, by subst hw; exact Lib.below_grow _ _ (Nat.le_refl _) k os⟩
/-- a token's value, its text as a Go string -/
theorem tokV_str (t : Wn.Tok) : tokV t = .agg #[.int .i64 t.1, .string (Wn.str t.2.1), .int .i64 t.2.2] := rfl
theorem str_list (l : List UInt8) : (Wn.str l).toList = l := by
  rw [Lib.toList_data]; rfl
set_option maxHeartbeats 400000 in
theorem quotedText_any (t : Wn.Tok) (w : World) (hl : t.2.1.length ≤ 1099511627776) :
    Calls Tryd.prog 47 #[tokV t] w fun e w' => e = .returned (.string (Wn.str (Wn.strText t))) ∧ Below w.heap.size w w' := by
  obtain ⟨k, l, n⟩ := t
  rw [tokV_str]
  dsimp only at *
  have hx : (Wn.str l).size ≤ 1099511627776 := by rw [Wn.str_size]; exact hl
  clear hl
  have e1 : n = 39 → Wn.str (Wn.strText (k, l, n)) = ⟨#[39]⟩ ++ Wn.str l ++ ⟨#[39]⟩ := fun h => by
    unfold Wn.strText; rw [if_pos h]; exact ((congrArg (· ++ _) (Wn.str_append [39] l)).trans (Wn.str_append (39 :: l) [39])).symm
  have e2 : ¬ n = 39 → Wn.str (Wn.strText (k, l, n)) = ⟨#[34]⟩ ++ Wn.str l ++ ⟨#[34]⟩ := fun h => by
    unfold Wn.strText; rw [if_neg h]; exact ((congrArg (· ++ _) (Wn.str_append [34] l)).trans (Wn.str_append (34 :: l) [34])).symm
  generalize Wn.str (Wn.strText (k, l, n)) = R at *
  generalize Wn.str l = x at *
  have E1 := Lib.hid e1; clear e1
  have E2 := Lib.hid e2; clear e2
  by_cases hn : (n == 39) = true
  · go_enter Tryd.func47, Tryd.ntmps47
    go_wp2
    go_ret
    exact ⟨ret_str (E1.out (by simpa using hn)).symm, (Below.refl _ _).alloc (Nat.le_refl _) _⟩
  · have hn' : (n == 39) = false := by simpa using hn
    have HN := Lib.hid hn; clear hn
    go_enter Tryd.func47, Tryd.ntmps47
    go_wp2
    go_ret
    exact ⟨ret_str (E2.out (by simpa using HN.out)).symm, (Below.refl _ _).alloc (Nat.le_refl _) _⟩
set_option maxHeartbeats 400000 in
theorem delimText_any (t : Wn.Tok) (w : World) (hl : t.2.1.length ≤ 1099511627776) :
    Calls Tryd.prog 48 #[tokV t] w fun e w' => e = .returned (.string (Wn.str (Wn.delimText t))) ∧ Below w.heap.size w w' := by
  obtain ⟨k, l, n⟩ := t
  rw [tokV_str]
  dsimp only at *
  have hx : (Wn.str l).size ≤ 1099511627776 := by rw [Wn.str_size]; exact hl
  clear hl
  have e1 : (l = [34] ∨ l = [39]) → Wn.str (Wn.delimText (k, l, n)) = Wn.str l ++ ⟨#[47, 42, 10, 42, 47]⟩ := fun h => by
    unfold Wn.delimText; rw [if_pos h]; exact (Wn.str_append l _).symm
  have e2 : ¬ (l = [34] ∨ l = [39]) → Wn.str (Wn.delimText (k, l, n)) = Wn.str l := fun h => by
    unfold Wn.delimText; rw [if_neg h]
  have hl := str_list l
  generalize Wn.str (Wn.delimText (k, l, n)) = R at *
  generalize Wn.str l = x at *
  subst hl
  have E1 := Lib.hid e1; clear e1
  have E2 := Lib.hid e2; clear e2
  cases h1 : (x.toList == [34])
  · cases h2 : (x.toList == [39])
    · have F : ¬ (x.toList = [34] ∨ x.toList = [39]) := by rintro (h | h) <;> simp [h] at h1 h2
      have F' := Lib.hid F; clear F
      go_enter Tryd.func48, Tryd.ntmps48
      go_wp2
      go_ret
      exact ⟨ret_str (E2.out F'.out).symm, (Below.refl _ _).alloc (Nat.le_refl _) _⟩
    · have F' := Lib.hid (show x.toList = [39] by simpa using h2)
      go_enter Tryd.func48, Tryd.ntmps48
      go_wp2
      go_ret
      exact ⟨ret_str (E1.out (.inr F'.out)).symm, (Below.refl _ _).alloc (Nat.le_refl _) _⟩
  · have F' := Lib.hid (show x.toList = [34] by simpa using h1)
    go_enter Tryd.func48, Tryd.ntmps48
    go_wp2
    go_ret
    exact ⟨ret_str (E1.out (.inl F'.out)).symm, (Below.refl _ _).alloc (Nat.le_refl _) _⟩
end Go.Proofs.YtnkdppbpcinjhaaDoor
