/- What toks.One answers, whatever the token. -/
import Derived.Test.YtnkdppbpcinjhaaDoorTokO
set_option maxRecDepth 20000
namespace Go.Proofs.YtnkdppbpcinjhaaDoor
open Go.RowKit
theorem one_pre (l : List UInt8) (c : UInt8) : Wn.str (c :: l) = ⟨#[c]⟩ ++ Wn.str l := (Wn.str_append [c] l).symm
theorem one_suf (l : List UInt8) (c : UInt8) : Wn.str (l ++ [c]) = Wn.str l ++ ⟨#[c]⟩ := (Wn.str_append l [c]).symm
set_option maxHeartbeats 1000000 in
theorem One_num (l : List UInt8) (n : Int) (w : World) (ht : Tab w) (hl : l.length ≤ 1099511627776) (hn0 : -9223372036854775808 ≤ n) (hn1 : n ≤ 9223372036854775807) :
    Calls Tryd.prog 21 #[.agg #[.int .i64 5, .string (Wn.str l), .int .i64 n]] w fun e w' => e = .returned (.string (Wn.str (Lib.itoa n ++ l))) ∧ Below w.heap.size w w' := by
  have hx : (Wn.str l).size ≤ 1099511627776 := by rw [Wn.str_size]; exact hl
  have hy : (Wn.str (Lib.itoa n)).size ≤ 1099511627776 := by rw [Wn.str_size]; have := Wn.itoa_len hn0 hn1; omega
  rw [← Wn.str_append]
  generalize hI : Wn.str (Lib.itoa n) = I at *
  generalize Wn.str l = x at *
  have HI := Lib.hid hI; clear hI
  have HT := Lib.hid ht; clear ht
  have HN0 := Lib.hid hn0; clear hn0
  have HN1 := Lib.hid hn1; clear hn1
  go_enter Tryd.func21, Tryd.ntmps21
  go_wp2_with fail
  go_region_with (first | (go_at_call 46; (refine (Itoa_any n HN0.out HN1.out _ (HT.out.below (by exact ((Below.refl _ _).alloc (Nat.le_refl _) _).drew))).mono ?_); rw [HI.out]; rintro e w1 ⟨rfl, hb⟩; (have k1 : w1.cell? ⟨w.heap.size, 1, none⟩ = some (.string x) := by rw [hb.cell (by simp)]; simp)))
  all_goals
    go_wp2_with fail
    go_ret
    exact ⟨rfl, ((Below.refl _ _).alloc (Nat.le_refl _) _).trans ((Below.refl _ _).drew.trans (hb.mono (by simp)))⟩
set_option maxHeartbeats 1000000 in
theorem One_any (t : Wn.Tok) (w : World) (ht : Tab w) (hl : t.2.1.length ≤ 1099511627776) (hn0 : -9223372036854775808 ≤ t.2.2) (hn1 : t.2.2 ≤ 9223372036854775807) :
    Calls Tryd.prog 21 #[tokV t] w fun e w' => e = .returned (.string (Wn.str (Wn.oneText t))) ∧ Below w.heap.size w w' := by
  obtain ⟨k, l, n⟩ := t
  rw [tokV_str]
  dsimp only at *
  by_cases h5 : k = 5
  · subst h5
    exact One_num l n w ht hl hn0 hn1
  clear ht hn0 hn1
  have hx : (Wn.str l).size ≤ 1099511627776 := by rw [Wn.str_size]; exact hl
  have HL := Lib.hid hl; clear hl
  have b5 : (k == 5) = false := by simpa using h5
  have q6 := fun w => quotedText_any (k, l, n) w HL.out
  have q7 := fun w => delimText_any (k, l, n) w HL.out
  rw [tokV_str] at q6 q7
  dsimp only at q6 q7
  have Q6 := Lib.hid q6; clear q6
  have Q7 := Lib.hid q7; clear q7
  have e : Wn.oneText (k, l, n) = if (k == 1) = true then l else if (k == 2) = true then l ++ [40] else if (k == 3) = true then 64 :: l else if (k == 4) = true then 35 :: l
    else if (k == 6) = true then Wn.strText (k, l, n) else if (k == 7) = true then Wn.delimText (k, l, n) else if (k == 8) = true then [10] else [] := by
    simp only [Wn.oneText, if_neg h5, beq_iff_eq]
  generalize Wn.oneText (k, l, n) = R at *
  generalize hS : Wn.str (Wn.strText (k, l, n)) = S6 at *
  generalize hD : Wn.str (Wn.delimText (k, l, n)) = S7 at *
  have EE := Lib.hid e; clear e
  have HS := Lib.hid hS; clear hS
  have HD := Lib.hid hD; clear hD
  have H5 := Lib.hid h5; clear h5
  go_enter Tryd.func21, Tryd.ntmps21
  go_wp2_with (first | (go_at_call 47; (refine (Q6.out _).mono ?_); rintro e w1 ⟨rfl, hb⟩) | (go_at_call 48; (refine (Q7.out _).mono ?_); rintro e w1 ⟨rfl, hb⟩))
  all_goals
    go_ret
    have e := EE.out
    repeat (first | rw [if_pos (by assumption)] at e | rw [if_neg (by simp only [*]; decide)] at e)
    subst e
    refine ⟨ret_str ?_, ?_⟩
    · first | rfl | exact (one_suf _ _).symm | exact (one_pre _ _).symm | exact HS.out.symm | exact HD.out.symm
    · first | exact (Below.refl _ _).alloc (Nat.le_refl _) _ | exact ((Below.refl _ _).alloc (Nat.le_refl _) _).trans (hb.mono (by simp))
end Go.Proofs.YtnkdppbpcinjhaaDoor
