/- What toks.One answers: a token's text. Condition: the table of powers of ten is the library's own; the token's number is an int. What toks.One answers, whatever the token. What a strings.Builder of a call's own does: WriteString behind the bytes that it has. -/
import Derived.Test.YtncknaagbafhhaaGreatDoorGD
import Derived.Test.YtncknaagbafhhaaGreatDoorGA
import Derived.Test.YtncknaagbafhhaaGreatDoorShelf
import Derived.Deep.RegionHeld3
import Derived.Lib.AppendIntMem
import Derived.Lib.SmallJoins
import Derived.Laws.Externs
import Derived.Lib.Builder
import Derived.Lib.AppendStr
import Derived.Lib.UnsafeStr
set_option maxRecDepth 20000
namespace Go.Proofs.YtncknaagbafhhaaGreatDoor
open Go.RowKit
/-- the world's table of powers of ten is the library's -/
def Tab (w : World) : Prop := Lib.TabIs Tryz.prog w "internal/strconv.uint64pow10" .u64 Lib.pow10Tab
theorem Tab.below {w w' : World} (h : Tab w) (hb : Below w.heap.size w w') : Tab w' := Lib.tabBelow_of_tabIs h w' hb
theorem ret_str {a b : ByteArray} (h : a = b) : Ending.returned (.string a) = .returned (.string b) := by rw [h]
theorem Itoa_any (n : Int) (h0 : -9223372036854775808 ≤ n) (h1 : n ≤ 9223372036854775807) (w : World) (ht : Tab w) :
    Calls Tryz.prog 135 #[.int .i64 n] w fun e w' => e = .returned (.string (Wn.str (Lib.itoa n))) ∧ Below w.heap.size w w' :=
  (Tryz.strconv_Itoa n h0 h1 w ht).mono fun e w' ⟨he, k, os, hw⟩ => ⟨he, by subst hw; exact Lib.below_grow _ _ (Nat.le_refl _) k os⟩
/-- a token's value, its text as a Go string -/
theorem tokV_str (t : Wn.Tok) : tokV t = .agg #[.int .i64 t.1, .string (Wn.str t.2.1), .int .i64 t.2.2] := rfl
theorem str_list (l : List UInt8) : (Wn.str l).toList = l := by
  rw [Lib.toList_data]; rfl
set_option maxHeartbeats 400000 in
theorem quotedText_any (t : Wn.Tok) (w : World) (hl : t.2.1.length ≤ 1099511627776) :
    Calls Tryz.prog 173 #[tokV t] w fun e w' => e = .returned (.string (Wn.str (Wn.strText t))) ∧ Below w.heap.size w w' := by
  obtain ⟨k, l, n⟩ := t
  rw [tokV_str]
  dsimp only at *
  have hx : (Wn.str l).size ≤ 1099511627776 := by rw [Wn.str_size]; exact hl
  clear hl
  have e1 : n = 39 → Wn.str (Wn.strText (k, l, n)) = ⟨#[39]⟩ ++ Wn.str l ++ ⟨#[39]⟩ := fun h => by
    unfold Wn.strText; rw [if_pos h]; exact ((congrArg (· ++ _) (Wn.str_append [39] l)).trans (Wn.str_append (39 :: l) [39])).symm
  have e2 : ¬ n = 39 → Wn.str (Wn.strText (k, l, n)) = ⟨#[34]⟩ ++ Wn.str l ++ ⟨#[34]⟩ := fun h => by
    unfold Wn.strText; rw [if_neg h]; exact ((congrArg (· ++ _) (Wn.str_append [34] l)).trans (Wn.str_append (34 :: l) [34])).symm
  generalize Wn.str (Wn.strText (k, l, n)) = R at *
  generalize Wn.str l = x at *
  have E1 := Lib.hid e1; clear e1
  have E2 := Lib.hid e2; clear e2
  by_cases hn : (n == 39) = true
  · go_enter Tryz.func173, Tryz.ntmps173
    go_wp2
    go_ret
    exact ⟨ret_str (E1.out (by simpa using hn)).symm, (Below.refl _ _).alloc (Nat.le_refl _) _⟩
  · have hn' : (n == 39) = false := by simpa using hn
    have HN := Lib.hid hn; clear hn
    go_enter Tryz.func173, Tryz.ntmps173
    go_wp2
    go_ret
    exact ⟨ret_str (E2.out (by simpa using HN.out)).symm, (Below.refl _ _).alloc (Nat.le_refl _) _⟩
set_option maxHeartbeats 400000 in
theorem delimText_any (t : Wn.Tok) (w : World) (hl : t.2.1.length ≤ 1099511627776) :
    Calls Tryz.prog 174 #[tokV t] w fun e w' => e = .returned (.string (Wn.str (Wn.delimText t))) ∧ Below w.heap.size w w' := by
  obtain ⟨k, l, n⟩ := t
  rw [tokV_str]
  dsimp only at *
  have hx : (Wn.str l).size ≤ 1099511627776 := by rw [Wn.str_size]; exact hl
  clear hl
  have e1 : (l = [34] ∨ l = [39]) → Wn.str (Wn.delimText (k, l, n)) = Wn.str l ++ ⟨#[47, 42, 10, 42, 47]⟩ := fun h => by
    unfold Wn.delimText; rw [if_pos h]; exact (Wn.str_append l _).symm
  have e2 : ¬ (l = [34] ∨ l = [39]) → Wn.str (Wn.delimText (k, l, n)) = Wn.str l := fun h => by
    unfold Wn.delimText; rw [if_neg h]
  have hl := str_list l
  generalize Wn.str (Wn.delimText (k, l, n)) = R at *
  generalize Wn.str l = x at *
  subst hl
  have E1 := Lib.hid e1; clear e1
  have E2 := Lib.hid e2; clear e2
  cases h1 : (x.toList == [34])
  · cases h2 : (x.toList == [39])
    · have F : ¬ (x.toList = [34] ∨ x.toList = [39]) := by rintro (h | h) <;> simp [h] at h1 h2
      have F' := Lib.hid F; clear F
      go_enter Tryz.func174, Tryz.ntmps174
      go_wp2
      go_ret
      exact ⟨ret_str (E2.out F'.out).symm, (Below.refl _ _).alloc (Nat.le_refl _) _⟩
    · have F' := Lib.hid (show x.toList = [39] by simpa using h2)
      go_enter Tryz.func174, Tryz.ntmps174
      go_wp2
      go_ret
      exact ⟨ret_str (E1.out (.inr F'.out)).symm, (Below.refl _ _).alloc (Nat.le_refl _) _⟩
  · have F' := Lib.hid (show x.toList = [34] by simpa using h1)
    go_enter Tryz.func174, Tryz.ntmps174
    go_wp2
    go_ret
    exact ⟨ret_str (E1.out (.inl F'.out)).symm, (Below.refl _ _).alloc (Nat.le_refl _) _⟩
end Go.Proofs.YtncknaagbafhhaaGreatDoor
set_option maxRecDepth 20000
namespace Go.Proofs.YtncknaagbafhhaaGreatDoor
open Go.RowKit
theorem one_pre (l : List UInt8) (c : UInt8) : Wn.str (c :: l) = ⟨#[c]⟩ ++ Wn.str l := (Wn.str_append [c] l).symm
theorem one_suf (l : List UInt8) (c : UInt8) : Wn.str (l ++ [c]) = Wn.str l ++ ⟨#[c]⟩ := (Wn.str_append l [c]).symm
set_option maxHeartbeats 1000000 in
theorem One_num (l : List UInt8) (n : Int) (w : World) (ht : Tab w) (hl : l.length ≤ 1099511627776) (hn0 : -9223372036854775808 ≤ n) (hn1 : n ≤ 9223372036854775807) :
    Calls Tryz.prog 136 #[.agg #[.int .i64 5, .string (Wn.str l), .int .i64 n]] w fun e w' => e = .returned (.string (Wn.str (Lib.itoa n ++ l))) ∧ Below w.heap.size w w' := by
  have hx : (Wn.str l).size ≤ 1099511627776 := by rw [Wn.str_size]; exact hl
  have hy : (Wn.str (Lib.itoa n)).size ≤ 1099511627776 := by rw [Wn.str_size]; have := Wn.itoa_len hn0 hn1; omega
  rw [← Wn.str_append]
  generalize hI : Wn.str (Lib.itoa n) = I at *
  generalize Wn.str l = x at *
  have HI := Lib.hid hI; clear hI
  have HT := Lib.hid ht; clear ht
  have HN0 := Lib.hid hn0; clear hn0
  have HN1 := Lib.hid hn1; clear hn1
  go_enter Tryz.func136, Tryz.ntmps136
  go_wp2_with fail
  go_region_with (first | (go_at_call 135; (refine (Itoa_any n HN0.out HN1.out _ (HT.out.below (by exact ((Below.refl _ _).alloc (Nat.le_refl _) _).drew))).mono ?_); rw [HI.out]; rintro e w1 ⟨rfl, hb⟩; (have k1 : w1.cell? ⟨w.heap.size, 1, none⟩ = some (.string x) := by rw [hb.cell (by simp)]; simp)))
  all_goals
    go_wp2_with fail
    go_ret
    exact ⟨rfl, ((Below.refl _ _).alloc (Nat.le_refl _) _).trans ((Below.refl _ _).drew.trans (hb.mono (by simp)))⟩
set_option maxHeartbeats 1000000 in
theorem One_any (t : Wn.Tok) (w : World) (ht : Tab w) (hl : t.2.1.length ≤ 1099511627776) (hn0 : -9223372036854775808 ≤ t.2.2) (hn1 : t.2.2 ≤ 9223372036854775807) :
    Calls Tryz.prog 136 #[tokV t] w fun e w' => e = .returned (.string (Wn.str (Wn.oneText t))) ∧ Below w.heap.size w w' := by
  obtain ⟨k, l, n⟩ := t
  rw [tokV_str]
  dsimp only at *
  by_cases h5 : k = 5
  · subst h5
    exact One_num l n w ht hl hn0 hn1
  clear ht hn0 hn1
  have hx : (Wn.str l).size ≤ 1099511627776 := by rw [Wn.str_size]; exact hl
  have HL := Lib.hid hl; clear hl
  have b5 : (k == 5) = false := by simpa using h5
  have q6 := fun w => quotedText_any (k, l, n) w HL.out
  have q7 := fun w => delimText_any (k, l, n) w HL.out
  rw [tokV_str] at q6 q7
  dsimp only at q6 q7
  have Q6 := Lib.hid q6; clear q6
  have Q7 := Lib.hid q7; clear q7
  have e : Wn.oneText (k, l, n) = if (k == 1) = true then l else if (k == 2) = true then l ++ [40] else if (k == 3) = true then 64 :: l else if (k == 4) = true then 35 :: l
    else if (k == 6) = true then Wn.strText (k, l, n) else if (k == 7) = true then Wn.delimText (k, l, n) else if (k == 8) = true then [10] else [] := by
    simp only [Wn.oneText, if_neg h5, beq_iff_eq]
  generalize Wn.oneText (k, l, n) = R at *
  generalize hS : Wn.str (Wn.strText (k, l, n)) = S6 at *
  generalize hD : Wn.str (Wn.delimText (k, l, n)) = S7 at *
  have EE := Lib.hid e; clear e
  have HS := Lib.hid hS; clear hS
  have HD := Lib.hid hD; clear hD
  have H5 := Lib.hid h5; clear h5
  go_enter Tryz.func136, Tryz.ntmps136
  go_wp2_with (first | (go_at_call 173; (refine (Q6.out _).mono ?_); rintro e w1 ⟨rfl, hb⟩) | (go_at_call 174; (refine (Q7.out _).mono ?_); rintro e w1 ⟨rfl, hb⟩))
  all_goals
    go_ret
    have e := EE.out
    repeat (first | rw [if_pos (by assumption)] at e | rw [if_neg (by simp only [*]; decide)] at e)
    subst e
    refine ⟨ret_str ?_, ?_⟩
    · first | rfl | exact (one_suf _ _).symm | exact (one_pre _ _).symm | exact HS.out.symm | exact HD.out.symm
    · first | exact (Below.refl _ _).alloc (Nat.le_refl _) _ | exact ((Below.refl _ _).alloc (Nat.le_refl _) _).trans (hb.mono (by simp))
end Go.Proofs.YtncknaagbafhhaaGreatDoor
set_option maxRecDepth 20000
namespace Go.Proofs.YtncknaagbafhhaaGreatDoor
open Go.RowKit
/-- a builder that a call has made: it holds these bytes -/
def Bld (B b : Nat) (l : List UInt8) (w : World) : Prop := Lib.IsBuilder 127 5 B b (Lib.byteCells l) w
end Go.Proofs.YtncknaagbafhhaaGreatDoor
