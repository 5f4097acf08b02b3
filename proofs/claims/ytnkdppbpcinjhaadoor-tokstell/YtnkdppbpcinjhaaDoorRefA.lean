/- The verifier's second writing: the class of a byte, where names end. -/
import Derived.Test.YtnkdppbpcinjhaaDoorTokY
set_option maxRecDepth 20000
namespace Wn
/-- the class of a byte -/
def clsC (c : Int) : Int :=
  if (65 ≤ c ∧ c ≤ 90) ∨ (97 ≤ c ∧ c ≤ 122) ∨ c = 95 ∨ 128 ≤ c then 1 else if 48 ≤ c ∧ c ≤ 57 then 2 else if c = 45 then 3 else if c = 32 ∨ c = 9 ∨ c = 10 ∨ c = 12 ∨ c = 13 then 4 else 0
/-- the class of the byte at the head; -1: there is none -/
def cls (l : List UInt8) : Int := if hd l = -1 then -1 else clsC (hd l)
theorem cls_one (l : List UInt8) : (cls l == 1) = nameStart l := by
  have h1 := hd_ge l; have h2 := hd_le l
  unfold cls clsC nameStart
  generalize hd l = c at *
  rw [Bool.eq_iff_iff]
  simp only [beq_iff_eq, Bool.or_eq_true, Bool.and_eq_true, decide_eq_true_eq]
  (repeat' split) <;> omega
theorem cls_two (l : List UInt8) : (cls l == 2) = digit l := by
  have h1 := hd_ge l; have h2 := hd_le l
  unfold cls clsC digit
  generalize hd l = c at *
  rw [Bool.eq_iff_iff]
  simp only [beq_iff_eq, Bool.and_eq_true, decide_eq_true_eq]
  (repeat' split) <;> omega
theorem cls_three (l : List UInt8) : (cls l == 3) = (hd l == 45) := by
  have h1 := hd_ge l; have h2 := hd_le l
  unfold cls clsC
  generalize hd l = c at *
  rw [Bool.eq_iff_iff]
  simp only [beq_iff_eq]
  (repeat' split) <;> omega
theorem cls_four (l : List UInt8) : (cls l == 4) = blank l := by
  have h1 := hd_ge l; have h2 := hd_le l
  unfold cls clsC blank lineEnd
  generalize hd l = c at *
  rw [Bool.eq_iff_iff]
  simp only [beq_iff_eq, Bool.or_eq_true]
  (repeat' split) <;> omega
theorem cls_name (l : List UInt8) : (decide (1 ≤ cls l) && decide (cls l ≤ 3)) = nameByte l := by
  have h1 := hd_ge l; have h2 := hd_le l
  unfold cls clsC nameByte nameStart digit
  generalize hd l = c at *
  rw [Bool.eq_iff_iff]
  simp only [beq_iff_eq, Bool.or_eq_true, Bool.and_eq_true, decide_eq_true_eq]
  (repeat' split) <;> omega
end Wn
namespace Go.Proofs.YtnkdppbpcinjhaaDoor
open Go.RowKit
set_option maxHeartbeats 1000000 in
theorem class_any (c : Int) (w : World) (h0 : 0 ≤ c) (h1 : c ≤ 255) :
    Calls Tryd.prog 100 #[.int .u8 c] w fun e w' => e = .returned (.int .i64 (Wn.clsC c)) ∧ w = w' := by
  go_enter Tryd.func100, Tryd.ntmps100
  go_wp2
  all_goals
    go_ret
    refine ⟨ret_int ?_, rfl⟩
    unfold Wn.clsC
    first | (simp [*]; done) | (simp only [beq_iff_eq, beq_eq_false_iff_ne, ne_eq] at *; (repeat' split) <;> omega) | ((repeat' split) <;> omega)
theorem class_r (c r : Int) (w : World) (h0 : 0 ≤ c) (h1 : c ≤ 255) (hr : Wn.clsC c = r) :
    Calls Tryd.prog 100 #[.int .u8 c] w fun e w' => e = .returned (.int .i64 r) ∧ w = w' := by subst hr; exact class_any c w h0 h1
theorem at_any (s : ByteArray) (i : Nat) (x : Int) (r : Int) (w : World) (_hs : s.size ≤ maxLen) (_hi : i ≤ 4611686018427387904) (hx : x = (i : Int)) (hr : Wn.cls (Wn.sfx s i) = r) :
    Calls Tryd.prog 76 #[.string s, .int .i64 x] w fun e w' => e = .returned (.int .i64 r) ∧ w = w' := by
  subst hx
  have hs := _hs
  unfold maxLen at hs
  by_cases h : i < s.size
  · have hc : Wn.clsC (s[i].toNat : Int) = r := by
      rw [← hr]; unfold Wn.cls; rw [Wn.hd_in s i h, if_neg (by omega)]
    have HC := Lib.hid hc
    clear hr hc
    go_enter Tryd.func76, Tryd.ntmps76
    go_wp2_with (go_at_call 100; refine (class_r _ r _ (by omega) (by have := s[i].toNat_lt; omega) HC.out).mono ?_; rintro e w' ⟨rfl, rfl⟩)
    go_ret
    exact ⟨rfl, rfl⟩
  · have hc : -1 = r := by rw [← hr]; unfold Wn.cls; rw [Wn.hd_out s i (by omega)]; rfl
    have HC := Lib.hid hc
    clear hr hc
    go_enter Tryd.func76, Tryd.ntmps76
    go_wp2
    go_ret
    exact ⟨ret_int HC.out, rfl⟩
end Go.Proofs.YtnkdppbpcinjhaaDoor
