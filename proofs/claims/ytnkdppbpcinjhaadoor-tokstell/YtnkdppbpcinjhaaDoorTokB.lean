/- What the methods of the lexer's text answer at any place. No conditions but that the text is a string and the place a small number. -/
import Derived.Test.YtnkdppbpcinjhaaDoorRows
import Derived.Test.YtnkdppbpcinjhaaDoorTokA
import Derived.WalkKit
import Derived.WalkSpells
import Derived.WalkLawsBesides
import Derived.Deep.QuietTactic
import Derived.BigQuiet
import Derived.IntWalk
import Derived.Lib.Hide
set_option maxRecDepth 20000
namespace Go.Proofs.YtnkdppbpcinjhaaDoor
open Go.RowKit
theorem ret_int {k : IntKind} {a b : Int} (h : a = b) : Ending.returned (.int k a) = .returned (.int k b) := by rw [h]
theorem ret_bool {a b : Bool} (h : a = b) : Ending.returned (.bool a) = .returned (.bool b) := by rw [h]
theorem wrap64_u8 (b : UInt8) : wrap64 (b.toNat : Int) = (b.toNat : Int) := IntWalk.wrap64_in _ (by have := b.toNat_lt; omega)
set_option maxHeartbeats 400000 in
theorem byteAt_any (s : ByteArray) (i : Nat) (w : World) (_hs : s.size ≤ maxLen) (_hi : i ≤ 4611686018427387904) :
    Calls Tryd.prog 67 #[.string s, .int .i64 i] w fun e w' => e = .returned (.int .i64 (Wn.hd (Wn.sfx s i))) ∧ w = w' := by
  have hs := _hs
  unfold maxLen at hs
  by_cases h : i < s.size
  · have E := Lib.hid (Wn.hd_in s i h)
    go_enter Tryd.func67, Tryd.ntmps67
    go_wp2
    go_ret
    exact ⟨ret_int (by rw [E.out, wrap64_u8]), rfl⟩
  · have E := Lib.hid (Wn.hd_out s i (by omega))
    go_enter Tryd.func67, Tryd.ntmps67
    go_wp2
    go_ret
    exact ⟨ret_int (by rw [E.out]), rfl⟩
set_option maxHeartbeats 400000 in
theorem isLineEnd_any (s : ByteArray) (i : Nat) (w : World) (hs : s.size ≤ maxLen) (hi : i ≤ 4611686018427387904) :
    Calls Tryd.prog 92 #[.string s, .int .i64 i] w fun e w' => e = .returned (.bool (Wn.lineEnd (Wn.sfx s i))) ∧ w = w' := by
  go_enter Tryd.func92, Tryd.ntmps92
  go_wp2_with (go_at_call 67; refine (byteAt_any _ _ _ hs hi).mono ?_; rintro e w' ⟨rfl, rfl⟩)
  all_goals
    go_ret
    refine ⟨ret_bool ?_, rfl⟩
    unfold Wn.lineEnd
    first | (simp [*]; done) | (generalize Wn.hd (Wn.sfx s i) = c at *; rw [Bool.eq_iff_iff]; simp; omega)
set_option maxHeartbeats 400000 in
theorem isBlank_any (s : ByteArray) (i : Nat) (w : World) (hs : s.size ≤ maxLen) (hi : i ≤ 4611686018427387904) :
    Calls Tryd.prog 63 #[.string s, .int .i64 i] w fun e w' => e = .returned (.bool (Wn.blank (Wn.sfx s i))) ∧ w = w' := by
  go_enter Tryd.func63, Tryd.ntmps63
  go_wp2_with (first | (go_at_call 67; refine (byteAt_any _ _ _ hs hi).mono ?_; rintro e w' ⟨rfl, rfl⟩) | (go_at_call 92; refine (isLineEnd_any _ _ _ hs hi).mono ?_; rintro e w' ⟨rfl, rfl⟩))
  all_goals
    go_ret
    refine ⟨ret_bool ?_, rfl⟩
    unfold Wn.blank
    first | (simp [*]; done) | (generalize Wn.hd (Wn.sfx s i) = c at *; rw [Bool.eq_iff_iff]; simp; omega)
set_option maxHeartbeats 400000 in
theorem isDigit_any (s : ByteArray) (i : Nat) (w : World) (hs : s.size ≤ maxLen) (hi : i ≤ 4611686018427387904) :
    Calls Tryd.prog 96 #[.string s, .int .i64 i] w fun e w' => e = .returned (.bool (Wn.digit (Wn.sfx s i))) ∧ w = w' := by
  go_enter Tryd.func96, Tryd.ntmps96
  go_wp2_with (go_at_call 67; refine (byteAt_any _ _ _ hs hi).mono ?_; rintro e w' ⟨rfl, rfl⟩)
  all_goals
    go_ret
    refine ⟨ret_bool ?_, rfl⟩
    unfold Wn.digit
    first | (simp [*]; done) | (generalize Wn.hd (Wn.sfx s i) = c at *; rw [Bool.eq_iff_iff]; simp; omega)
set_option maxHeartbeats 400000 in
theorem isNameStart_any (s : ByteArray) (i : Nat) (w : World) (hs : s.size ≤ maxLen) (hi : i ≤ 4611686018427387904) :
    Calls Tryd.prog 95 #[.string s, .int .i64 i] w fun e w' => e = .returned (.bool (Wn.nameStart (Wn.sfx s i))) ∧ w = w' := by
  go_enter Tryd.func95, Tryd.ntmps95
  go_wp2_with (go_at_call 67; refine (byteAt_any _ _ _ hs hi).mono ?_; rintro e w' ⟨rfl, rfl⟩)
  all_goals
    go_ret
    refine ⟨ret_bool ?_, rfl⟩
    unfold Wn.nameStart
    first | (simp [*]; done) | (generalize Wn.hd (Wn.sfx s i) = c at *; rw [Bool.eq_iff_iff]; simp; omega)
set_option maxHeartbeats 400000 in
theorem isNameByte_any (s : ByteArray) (i : Nat) (w : World) (hs : s.size ≤ maxLen) (hi : i ≤ 4611686018427387904) :
    Calls Tryd.prog 68 #[.string s, .int .i64 i] w fun e w' => e = .returned (.bool (Wn.nameByte (Wn.sfx s i))) ∧ w = w' := by
  go_enter Tryd.func68, Tryd.ntmps68
  go_wp2_with (first | (go_at_call 67; refine (byteAt_any _ _ _ hs hi).mono ?_; rintro e w' ⟨rfl, rfl⟩) | (go_at_call 95; refine (isNameStart_any _ _ _ hs hi).mono ?_; rintro e w' ⟨rfl, rfl⟩) | (go_at_call 96; refine (isDigit_any _ _ _ hs hi).mono ?_; rintro e w' ⟨rfl, rfl⟩))
  all_goals
    go_ret
    refine ⟨ret_bool ?_, rfl⟩
    unfold Wn.nameByte
    first | (simp [*]; done) | (generalize Wn.hd (Wn.sfx s i) = c at *; rw [Bool.eq_iff_iff]; simp; omega)
set_option maxHeartbeats 400000 in
theorem isQuote_any (s : ByteArray) (i : Nat) (w : World) (hs : s.size ≤ maxLen) (hi : i ≤ 4611686018427387904) :
    Calls Tryd.prog 94 #[.string s, .int .i64 i] w fun e w' => e = .returned (.bool (Wn.quote (Wn.sfx s i))) ∧ w = w' := by
  go_enter Tryd.func94, Tryd.ntmps94
  go_wp2_with (go_at_call 67; refine (byteAt_any _ _ _ hs hi).mono ?_; rintro e w' ⟨rfl, rfl⟩)
  all_goals
    go_ret
    refine ⟨ret_bool ?_, rfl⟩
    unfold Wn.quote
    first | (simp [*]; done) | (generalize Wn.hd (Wn.sfx s i) = c at *; rw [Bool.eq_iff_iff]; simp; omega)
theorem cast1 (i : Nat) : ((i : Int) + 1) = ((i + 1 : Nat) : Int) := by omega
theorem cast2 (i : Nat) : ((i : Int) + 2) = ((i + 2 : Nat) : Int) := by omega
/-- 'byteAt' at the place behind -/
theorem byteAt1 (s : ByteArray) (i : Nat) (w : World) (hs : s.size ≤ maxLen) (hi : i ≤ 4611686018427387900) :
    Calls Tryd.prog 67 #[.string s, .int .i64 ((i : Int) + 1)] w fun e w' => e = .returned (.int .i64 (Wn.hd (Wn.sfx s (i + 1)))) ∧ w = w' := by
  rw [cast1]; exact byteAt_any s (i + 1) w hs (by omega)
theorem isNameStart1 (s : ByteArray) (i : Nat) (w : World) (hs : s.size ≤ maxLen) (hi : i ≤ 4611686018427387900) :
    Calls Tryd.prog 95 #[.string s, .int .i64 ((i : Int) + 1)] w fun e w' => e = .returned (.bool (Wn.nameStart (Wn.sfx s (i + 1)))) ∧ w = w' := by
  rw [cast1]; exact isNameStart_any s (i + 1) w hs (by omega)
theorem isDigit1 (s : ByteArray) (i : Nat) (w : World) (hs : s.size ≤ maxLen) (hi : i ≤ 4611686018427387900) :
    Calls Tryd.prog 96 #[.string s, .int .i64 ((i : Int) + 1)] w fun e w' => e = .returned (.bool (Wn.digit (Wn.sfx s (i + 1)))) ∧ w = w' := by
  rw [cast1]; exact isDigit_any s (i + 1) w hs (by omega)
set_option maxHeartbeats 400000 in
theorem commentBegins_any (s : ByteArray) (i : Nat) (w : World) (hs : s.size ≤ maxLen) (hi : i ≤ 4611686018427387900) :
    Calls Tryd.prog 90 #[.string s, .int .i64 i] w fun e w' => e = .returned (.bool (Wn.commentBegins (Wn.sfx s i))) ∧ w = w' := by
  have hi' : i ≤ 4611686018427387904 := by omega
  go_enter Tryd.func90, Tryd.ntmps90
  go_wp2_with (first | (go_at_call 67; (with_reducible refine (byteAt_any _ _ _ hs hi').mono ?_); rintro e w' ⟨rfl, rfl⟩) | (go_at_call 67; (with_reducible refine (byteAt1 _ _ _ hs hi).mono ?_); rintro e w' ⟨rfl, rfl⟩))
  all_goals
    go_ret
    refine ⟨ret_bool ?_, rfl⟩
    unfold Wn.commentBegins
    rw [Wn.sfx_drop]
    first | (simp [*]; done) | (generalize Wn.hd (Wn.sfx s i) = c at *; rw [Bool.eq_iff_iff]; simp; omega)
set_option maxHeartbeats 400000 in
theorem nameBegins_any (s : ByteArray) (i : Nat) (w : World) (hs : s.size ≤ maxLen) (hi : i ≤ 4611686018427387900) :
    Calls Tryd.prog 70 #[.string s, .int .i64 i] w fun e w' => e = .returned (.bool (Wn.nameBegins (Wn.sfx s i))) ∧ w = w' := by
  have hi' : i ≤ 4611686018427387904 := by omega
  go_enter Tryd.func70, Tryd.ntmps70
  go_wp2_with (first | (go_at_call 67; (with_reducible refine (byteAt_any _ _ _ hs hi').mono ?_); rintro e w' ⟨rfl, rfl⟩) | (go_at_call 67; (with_reducible refine (byteAt1 _ _ _ hs hi).mono ?_); rintro e w' ⟨rfl, rfl⟩) | (go_at_call 95; (with_reducible refine (isNameStart1 _ _ _ hs hi).mono ?_); rintro e w' ⟨rfl, rfl⟩) | (go_at_call 95; (with_reducible refine (isNameStart_any _ _ _ hs hi').mono ?_); rintro e w' ⟨rfl, rfl⟩))
  all_goals
    go_ret
    refine ⟨ret_bool ?_, rfl⟩
    unfold Wn.nameBegins
    rw [Wn.sfx_drop]
    first | (simp [*]; done) | (generalize Wn.hd (Wn.sfx s i) = c at *; rw [Bool.eq_iff_iff]; simp; omega)
set_option maxHeartbeats 400000 in
theorem numberBegins_any (s : ByteArray) (i : Nat) (w : World) (hs : s.size ≤ maxLen) (hi : i ≤ 4611686018427387900) :
    Calls Tryd.prog 71 #[.string s, .int .i64 i] w fun e w' => e = .returned (.bool (Wn.numberBegins (Wn.sfx s i))) ∧ w = w' := by
  have hi' : i ≤ 4611686018427387904 := by omega
  go_enter Tryd.func71, Tryd.ntmps71
  go_wp2_with (first | (go_at_call 67; (with_reducible refine (byteAt_any _ _ _ hs hi').mono ?_); rintro e w' ⟨rfl, rfl⟩) | (go_at_call 96; (with_reducible refine (isDigit1 _ _ _ hs hi).mono ?_); rintro e w' ⟨rfl, rfl⟩) | (go_at_call 96; (with_reducible refine (isDigit_any _ _ _ hs hi').mono ?_); rintro e w' ⟨rfl, rfl⟩))
  all_goals
    go_ret
    refine ⟨ret_bool ?_, rfl⟩
    unfold Wn.numberBegins
    rw [Wn.sfx_drop]
    first | (simp [*]; done) | (generalize Wn.hd (Wn.sfx s i) = c at *; rw [Bool.eq_iff_iff]; simp; omega)
end Go.Proofs.YtnkdppbpcinjhaaDoor
