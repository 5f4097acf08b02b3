/- The verifier's second writing: the text of a token. -/
import Derived.Test.YtnkdppbpcinjhaaDoorRefJ
set_option maxRecDepth 20000
namespace Go.Proofs.YtnkdppbpcinjhaaDoor
open Go.RowKit
set_option maxHeartbeats 1000000 in
theorem rOne_num (l : List UInt8) (n : Int) (w : World) (hl : l.length ≤ 1099511627776) (hn0 : -9223372036854775808 ≤ n) (hn1 : n ≤ 9223372036854775807) :
    Calls Tryd.prog 22 #[.agg #[.int .i64 5, .string (Wn.str l), .int .i64 n]] w fun e w' => e = .returned (.string (Wn.str (Lib.itoa n ++ l))) ∧ Below w.heap.size w w' := by
  have hx : (Wn.str l).size ≤ 1099511627776 := by rw [Wn.str_size]; exact hl
  have hy : (Wn.str (Lib.itoa n)).size ≤ 1099511627776 := by rw [Wn.str_size]; have := Wn.itoa_len hn0 hn1; omega
  have QD := Lib.hid (fun w => rDigits n n w hn0 hn1 rfl)
  rw [← Wn.str_append]
  have hI : (⟨(Lib.itoa n).toArray⟩ : ByteArray) = Wn.str (Lib.itoa n) := rfl
  rw [hI] at QD
  clear hI
  generalize Wn.str (Lib.itoa n) = I at *
  generalize Wn.str l = x at *
  clear hn0 hn1
  go_enter Tryd.func22, Tryd.ntmps22
  go_wp2_with fail
  go_region_with (first | (go_at_call 49; (refine (QD.out _).mono ?_); rintro e w1 ⟨rfl, hb⟩; (have k1 : w1.cell? ⟨w.heap.size, 1, none⟩ = some (.string x) := by rw [hb.cell (by simp)]; simp)))
  all_goals
    go_wp2_with fail
    go_ret
    exact ⟨rfl, ((Below.refl _ _).alloc (Nat.le_refl _) _).trans ((Below.refl _ _).drew.trans (hb.mono (by simp)))⟩
set_option maxHeartbeats 1000000 in
theorem rOne_str (l : List UInt8) (n : Int) (w : World) (hl : l.length ≤ 1099511627776) :
    Calls Tryd.prog 22 #[.agg #[.int .i64 6, .string (Wn.str l), .int .i64 n]] w fun e w' => e = .returned (.string (Wn.str (Wn.strText (6, l, n)))) ∧ Below w.heap.size w w' := by
  have hx : (Wn.str l).size ≤ 1099511627776 := by rw [Wn.str_size]; exact hl
  have e9 : n = 39 → (⟨#[39]⟩ : ByteArray) ++ Wn.str l ++ ⟨#[39]⟩ = Wn.str (Wn.strText (6, l, n)) := by
    intro h; unfold Wn.strText; rw [if_pos h, ← one_pre, ← one_suf]
  have e4 : ¬ n = 39 → (⟨#[34]⟩ : ByteArray) ++ Wn.str l ++ ⟨#[34]⟩ = Wn.str (Wn.strText (6, l, n)) := by
    intro h; unfold Wn.strText; rw [if_neg h, ← one_pre, ← one_suf]
  generalize Wn.str (Wn.strText (6, l, n)) = R at *
  generalize Wn.str l = x at *
  have E9 := Lib.hid e9; have E4 := Lib.hid e4
  clear e9 e4
  have hz9 : ¬ 9223372036854775807 < (⟨#[39]⟩ : ByteArray).size + x.size := by show ¬ 9223372036854775807 < 1 + x.size; omega
  have hz4 : ¬ 9223372036854775807 < (⟨#[34]⟩ : ByteArray).size + x.size := by show ¬ 9223372036854775807 < 1 + x.size; omega
  have hy9 : ¬ 9223372036854775807 < ((⟨#[39]⟩ : ByteArray) ++ x).size + (⟨#[39]⟩ : ByteArray).size := by rw [ByteArray.size_append]; show ¬ 9223372036854775807 < 1 + x.size + 1; omega
  have hy4 : ¬ 9223372036854775807 < ((⟨#[34]⟩ : ByteArray) ++ x).size + (⟨#[34]⟩ : ByteArray).size := by rw [ByteArray.size_append]; show ¬ 9223372036854775807 < 1 + x.size + 1; omega
  by_cases h : n = 39
  · have h' : (n == 39) = true := by simpa using h
    go_enter Tryd.func22, Tryd.ntmps22
    go_wp2_with fail
    go_ret
    exact ⟨ret_str (E9.out h), (Below.refl _ _).alloc (Nat.le_refl _) _⟩
  · have h' : (n == 39) = false := by simpa using h
    go_enter Tryd.func22, Tryd.ntmps22
    go_wp2_with fail
    go_ret
    exact ⟨ret_str (E4.out h), (Below.refl _ _).alloc (Nat.le_refl _) _⟩
set_option maxHeartbeats 1000000 in
theorem rOne_delim (l : List UInt8) (n : Int) (w : World) (hl : l.length ≤ 1099511627776) :
    Calls Tryd.prog 22 #[.agg #[.int .i64 7, .string (Wn.str l), .int .i64 n]] w fun e w' => e = .returned (.string (Wn.str (Wn.delimText (7, l, n)))) ∧ Below w.heap.size w w' := by
  have hx : (Wn.str l).size ≤ 1099511627776 := by rw [Wn.str_size]; exact hl
  clear hl
  have e1 : (l = [34] ∨ l = [39]) → Wn.str (Wn.delimText (7, l, n)) = Wn.str l ++ ⟨#[47, 42, 10, 42, 47]⟩ := fun h => by
    unfold Wn.delimText; rw [if_pos h]; exact (Wn.str_append l _).symm
  have e2 : ¬ (l = [34] ∨ l = [39]) → Wn.str (Wn.delimText (7, l, n)) = Wn.str l := fun h => by
    unfold Wn.delimText; rw [if_neg h]
  have hl := str_list l
  generalize Wn.str (Wn.delimText (7, l, n)) = R at *
  generalize Wn.str l = x at *
  subst hl
  have E1 := Lib.hid e1; clear e1
  have E2 := Lib.hid e2; clear e2
  cases h1 : (x.toList == [34])
  · cases h2 : (x.toList == [39])
    · have F : ¬ (x.toList = [34] ∨ x.toList = [39]) := by rintro (h | h) <;> simp [h] at h1 h2
      have F' := Lib.hid F; clear F
      go_enter Tryd.func22, Tryd.ntmps22
      go_wp2
      go_ret
      exact ⟨ret_str (E2.out F'.out).symm, (Below.refl _ _).alloc (Nat.le_refl _) _⟩
    · have F' := Lib.hid (show x.toList = [39] by simpa using h2)
      go_enter Tryd.func22, Tryd.ntmps22
      go_wp2
      go_ret
      exact ⟨ret_str (E1.out (.inr F'.out)).symm, (Below.refl _ _).alloc (Nat.le_refl _) _⟩
  · have F' := Lib.hid (show x.toList = [34] by simpa using h1)
    go_enter Tryd.func22, Tryd.ntmps22
    go_wp2
    go_ret
    exact ⟨ret_str (E1.out (.inl F'.out)).symm, (Below.refl _ _).alloc (Nat.le_refl _) _⟩
set_option maxHeartbeats 1000000 in
theorem rOne (t : Wn.Tok) (w : World) (hl : t.2.1.length ≤ 1099511627776) (hn0 : -9223372036854775808 ≤ t.2.2) (hn1 : t.2.2 ≤ 9223372036854775807) :
    Calls Tryd.prog 22 #[.agg #[.int .i64 t.1, .string (Wn.str t.2.1), .int .i64 t.2.2]] w fun e w' => e = .returned (.string (Wn.str (Wn.oneText t))) ∧ Below w.heap.size w w' := by
  obtain ⟨k, l, n⟩ := t
  dsimp only at *
  by_cases h5 : k = 5
  · subst h5; exact rOne_num l n w hl hn0 hn1
  by_cases h6 : k = 6
  · subst h6; exact rOne_str l n w hl
  by_cases h7 : k = 7
  · subst h7; exact rOne_delim l n w hl
  have hx : (Wn.str l).size ≤ 1099511627776 := by rw [Wn.str_size]; exact hl
  have b5 : (k == 5) = false := by simpa using h5
  have b6 : (k == 6) = false := by simpa using h6
  have b7 : (k == 7) = false := by simpa using h7
  have e : Wn.oneText (k, l, n) = if (k == 1) = true then l else if (k == 2) = true then l ++ [40] else if (k == 3) = true then 64 :: l else if (k == 4) = true then 35 :: l
    else if (k == 8) = true then [10] else [] := by
    simp only [Wn.oneText, if_neg h5, if_neg h6, if_neg h7, beq_iff_eq]
  generalize Wn.oneText (k, l, n) = R at *
  have EE := Lib.hid e; clear e
  clear hn0 hn1 hl h5 h6 h7
  go_enter Tryd.func22, Tryd.ntmps22
  go_wp2_with fail
  all_goals
    go_ret
    have e := EE.out
    repeat (first | rw [if_pos (by assumption)] at e | rw [if_neg (by simp only [*]; decide)] at e)
    subst e
    refine ⟨ret_str ?_, ?_⟩
    · first | rfl | exact (one_suf _ _).symm | exact (one_pre _ _).symm
    · exact (Below.refl _ _).alloc (Nat.le_refl _) _
end Go.Proofs.YtnkdppbpcinjhaaDoor
