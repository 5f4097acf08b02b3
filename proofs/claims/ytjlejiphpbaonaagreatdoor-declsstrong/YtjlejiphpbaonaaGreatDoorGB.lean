/- What the methods of the lexer's text answer at any place. No conditions but that the text is a string and the place a small number. What the searches of the lexer's text answer: where blanks, names, comments and strings end. Conditions: a string's length, a small place. What the lexer's own methods do: its place moves on, its text stays, all else stays. What skipping comments, digits, a unit do to the scanner. -/
import Derived.Test.YtjlejiphpbaonaaGreatDoorRows
import Derived.Test.YtjlejiphpbaonaaGreatDoorGA
import Derived.WalkKit
import Derived.WalkSpells
import Derived.WalkLawsBesides
import Derived.Deep.QuietTactic
import Derived.BigQuiet
import Derived.IntWalk
import Derived.Lib.Hide
import Derived.StillTailTactics
import Derived.Deep.RegionWith
set_option maxRecDepth 20000
namespace Go.Proofs.YtjlejiphpbaonaaGreatDoor
open Go.RowKit
theorem ret_int {k : IntKind} {a b : Int} (h : a = b) : Ending.returned (.int k a) = .returned (.int k b) := by rw [h]
theorem ret_bool {a b : Bool} (h : a = b) : Ending.returned (.bool a) = .returned (.bool b) := by rw [h]
theorem wrap64_u8 (b : UInt8) : wrap64 (b.toNat : Int) = (b.toNat : Int) := IntWalk.wrap64_in _ (by have := b.toNat_lt; omega)
set_option maxHeartbeats 400000 in
theorem byteAt_any (s : ByteArray) (i : Nat) (w : World) (_hs : s.size ≤ maxLen) (_hi : i ≤ 4611686018427387904) :
    Calls Tryz.prog 123 #[.string s, .int .i64 i] w fun e w' => e = .returned (.int .i64 (Wn.hd (Wn.sfx s i))) ∧ w = w' := by
  have hs := _hs
  unfold maxLen at hs
  by_cases h : i < s.size
  · have E := Lib.hid (Wn.hd_in s i h)
    go_enter Tryz.func123, Tryz.ntmps123
    go_wp2
    go_ret
    exact ⟨ret_int (by rw [E.out, wrap64_u8]), rfl⟩
  · have E := Lib.hid (Wn.hd_out s i (by omega))
    go_enter Tryz.func123, Tryz.ntmps123
    go_wp2
    go_ret
    exact ⟨ret_int (by rw [E.out]), rfl⟩
set_option maxHeartbeats 400000 in
theorem isLineEnd_any (s : ByteArray) (i : Nat) (w : World) (hs : s.size ≤ maxLen) (hi : i ≤ 4611686018427387904) :
    Calls Tryz.prog 138 #[.string s, .int .i64 i] w fun e w' => e = .returned (.bool (Wn.lineEnd (Wn.sfx s i))) ∧ w = w' := by
  go_enter Tryz.func138, Tryz.ntmps138
  go_wp2_with (go_at_call 123; refine (byteAt_any _ _ _ hs hi).mono ?_; rintro e w' ⟨rfl, rfl⟩)
  all_goals
    go_ret
    refine ⟨ret_bool ?_, rfl⟩
    unfold Wn.lineEnd
    first | (simp [*]; done) | (generalize Wn.hd (Wn.sfx s i) = c at *; rw [Bool.eq_iff_iff]; simp; omega)
set_option maxHeartbeats 400000 in
theorem isBlank_any (s : ByteArray) (i : Nat) (w : World) (hs : s.size ≤ maxLen) (hi : i ≤ 4611686018427387904) :
    Calls Tryz.prog 119 #[.string s, .int .i64 i] w fun e w' => e = .returned (.bool (Wn.blank (Wn.sfx s i))) ∧ w = w' := by
  go_enter Tryz.func119, Tryz.ntmps119
  go_wp2_with (first | (go_at_call 123; refine (byteAt_any _ _ _ hs hi).mono ?_; rintro e w' ⟨rfl, rfl⟩) | (go_at_call 138; refine (isLineEnd_any _ _ _ hs hi).mono ?_; rintro e w' ⟨rfl, rfl⟩))
  all_goals
    go_ret
    refine ⟨ret_bool ?_, rfl⟩
    unfold Wn.blank
    first | (simp [*]; done) | (generalize Wn.hd (Wn.sfx s i) = c at *; rw [Bool.eq_iff_iff]; simp; omega)
set_option maxHeartbeats 400000 in
theorem isDigit_any (s : ByteArray) (i : Nat) (w : World) (hs : s.size ≤ maxLen) (hi : i ≤ 4611686018427387904) :
    Calls Tryz.prog 142 #[.string s, .int .i64 i] w fun e w' => e = .returned (.bool (Wn.digit (Wn.sfx s i))) ∧ w = w' := by
  go_enter Tryz.func142, Tryz.ntmps142
  go_wp2_with (go_at_call 123; refine (byteAt_any _ _ _ hs hi).mono ?_; rintro e w' ⟨rfl, rfl⟩)
  all_goals
    go_ret
    refine ⟨ret_bool ?_, rfl⟩
    unfold Wn.digit
    first | (simp [*]; done) | (generalize Wn.hd (Wn.sfx s i) = c at *; rw [Bool.eq_iff_iff]; simp; omega)
set_option maxHeartbeats 400000 in
theorem isNameStart_any (s : ByteArray) (i : Nat) (w : World) (hs : s.size ≤ maxLen) (hi : i ≤ 4611686018427387904) :
    Calls Tryz.prog 141 #[.string s, .int .i64 i] w fun e w' => e = .returned (.bool (Wn.nameStart (Wn.sfx s i))) ∧ w = w' := by
  go_enter Tryz.func141, Tryz.ntmps141
  go_wp2_with (go_at_call 123; refine (byteAt_any _ _ _ hs hi).mono ?_; rintro e w' ⟨rfl, rfl⟩)
  all_goals
    go_ret
    refine ⟨ret_bool ?_, rfl⟩
    unfold Wn.nameStart
    first | (simp [*]; done) | (generalize Wn.hd (Wn.sfx s i) = c at *; rw [Bool.eq_iff_iff]; simp; omega)
set_option maxHeartbeats 400000 in
theorem isNameByte_any (s : ByteArray) (i : Nat) (w : World) (hs : s.size ≤ maxLen) (hi : i ≤ 4611686018427387904) :
    Calls Tryz.prog 124 #[.string s, .int .i64 i] w fun e w' => e = .returned (.bool (Wn.nameByte (Wn.sfx s i))) ∧ w = w' := by
  go_enter Tryz.func124, Tryz.ntmps124
  go_wp2_with (first | (go_at_call 123; refine (byteAt_any _ _ _ hs hi).mono ?_; rintro e w' ⟨rfl, rfl⟩) | (go_at_call 141; refine (isNameStart_any _ _ _ hs hi).mono ?_; rintro e w' ⟨rfl, rfl⟩) | (go_at_call 142; refine (isDigit_any _ _ _ hs hi).mono ?_; rintro e w' ⟨rfl, rfl⟩))
  all_goals
    go_ret
    refine ⟨ret_bool ?_, rfl⟩
    unfold Wn.nameByte
    first | (simp [*]; done) | (generalize Wn.hd (Wn.sfx s i) = c at *; rw [Bool.eq_iff_iff]; simp; omega)
set_option maxHeartbeats 400000 in
theorem isQuote_any (s : ByteArray) (i : Nat) (w : World) (hs : s.size ≤ maxLen) (hi : i ≤ 4611686018427387904) :
    Calls Tryz.prog 140 #[.string s, .int .i64 i] w fun e w' => e = .returned (.bool (Wn.quote (Wn.sfx s i))) ∧ w = w' := by
  go_enter Tryz.func140, Tryz.ntmps140
  go_wp2_with (go_at_call 123; refine (byteAt_any _ _ _ hs hi).mono ?_; rintro e w' ⟨rfl, rfl⟩)
  all_goals
    go_ret
    refine ⟨ret_bool ?_, rfl⟩
    unfold Wn.quote
    first | (simp [*]; done) | (generalize Wn.hd (Wn.sfx s i) = c at *; rw [Bool.eq_iff_iff]; simp; omega)
theorem cast1 (i : Nat) : ((i : Int) + 1) = ((i + 1 : Nat) : Int) := by omega
theorem cast2 (i : Nat) : ((i : Int) + 2) = ((i + 2 : Nat) : Int) := by omega
/-- 'byteAt' at the place behind -/
theorem byteAt1 (s : ByteArray) (i : Nat) (w : World) (hs : s.size ≤ maxLen) (hi : i ≤ 4611686018427387900) :
    Calls Tryz.prog 123 #[.string s, .int .i64 ((i : Int) + 1)] w fun e w' => e = .returned (.int .i64 (Wn.hd (Wn.sfx s (i + 1)))) ∧ w = w' := by
  rw [cast1]; exact byteAt_any s (i + 1) w hs (by omega)
theorem isNameStart1 (s : ByteArray) (i : Nat) (w : World) (hs : s.size ≤ maxLen) (hi : i ≤ 4611686018427387900) :
    Calls Tryz.prog 141 #[.string s, .int .i64 ((i : Int) + 1)] w fun e w' => e = .returned (.bool (Wn.nameStart (Wn.sfx s (i + 1)))) ∧ w = w' := by
  rw [cast1]; exact isNameStart_any s (i + 1) w hs (by omega)
theorem isDigit1 (s : ByteArray) (i : Nat) (w : World) (hs : s.size ≤ maxLen) (hi : i ≤ 4611686018427387900) :
    Calls Tryz.prog 142 #[.string s, .int .i64 ((i : Int) + 1)] w fun e w' => e = .returned (.bool (Wn.digit (Wn.sfx s (i + 1)))) ∧ w = w' := by
  rw [cast1]; exact isDigit_any s (i + 1) w hs (by omega)
set_option maxHeartbeats 400000 in
theorem commentBegins_any (s : ByteArray) (i : Nat) (w : World) (hs : s.size ≤ maxLen) (hi : i ≤ 4611686018427387900) :
    Calls Tryz.prog 136 #[.string s, .int .i64 i] w fun e w' => e = .returned (.bool (Wn.commentBegins (Wn.sfx s i))) ∧ w = w' := by
  have hi' : i ≤ 4611686018427387904 := by omega
  go_enter Tryz.func136, Tryz.ntmps136
  go_wp2_with (first | (go_at_call 123; (with_reducible refine (byteAt_any _ _ _ hs hi').mono ?_); rintro e w' ⟨rfl, rfl⟩) | (go_at_call 123; (with_reducible refine (byteAt1 _ _ _ hs hi).mono ?_); rintro e w' ⟨rfl, rfl⟩))
  all_goals
    go_ret
    refine ⟨ret_bool ?_, rfl⟩
    unfold Wn.commentBegins
    rw [Wn.sfx_drop]
    first | (simp [*]; done) | (generalize Wn.hd (Wn.sfx s i) = c at *; rw [Bool.eq_iff_iff]; simp; omega)
set_option maxHeartbeats 400000 in
theorem nameBegins_any (s : ByteArray) (i : Nat) (w : World) (hs : s.size ≤ maxLen) (hi : i ≤ 4611686018427387900) :
    Calls Tryz.prog 126 #[.string s, .int .i64 i] w fun e w' => e = .returned (.bool (Wn.nameBegins (Wn.sfx s i))) ∧ w = w' := by
  have hi' : i ≤ 4611686018427387904 := by omega
  go_enter Tryz.func126, Tryz.ntmps126
  go_wp2_with (first | (go_at_call 123; (with_reducible refine (byteAt_any _ _ _ hs hi').mono ?_); rintro e w' ⟨rfl, rfl⟩) | (go_at_call 123; (with_reducible refine (byteAt1 _ _ _ hs hi).mono ?_); rintro e w' ⟨rfl, rfl⟩) | (go_at_call 141; (with_reducible refine (isNameStart1 _ _ _ hs hi).mono ?_); rintro e w' ⟨rfl, rfl⟩) | (go_at_call 141; (with_reducible refine (isNameStart_any _ _ _ hs hi').mono ?_); rintro e w' ⟨rfl, rfl⟩))
  all_goals
    go_ret
    refine ⟨ret_bool ?_, rfl⟩
    unfold Wn.nameBegins
    rw [Wn.sfx_drop]
    first | (simp [*]; done) | (generalize Wn.hd (Wn.sfx s i) = c at *; rw [Bool.eq_iff_iff]; simp; omega)
set_option maxHeartbeats 400000 in
theorem numberBegins_any (s : ByteArray) (i : Nat) (w : World) (hs : s.size ≤ maxLen) (hi : i ≤ 4611686018427387900) :
    Calls Tryz.prog 127 #[.string s, .int .i64 i] w fun e w' => e = .returned (.bool (Wn.numberBegins (Wn.sfx s i))) ∧ w = w' := by
  have hi' : i ≤ 4611686018427387904 := by omega
  go_enter Tryz.func127, Tryz.ntmps127
  go_wp2_with (first | (go_at_call 123; (with_reducible refine (byteAt_any _ _ _ hs hi').mono ?_); rintro e w' ⟨rfl, rfl⟩) | (go_at_call 142; (with_reducible refine (isDigit1 _ _ _ hs hi).mono ?_); rintro e w' ⟨rfl, rfl⟩) | (go_at_call 142; (with_reducible refine (isDigit_any _ _ _ hs hi').mono ?_); rintro e w' ⟨rfl, rfl⟩))
  all_goals
    go_ret
    refine ⟨ret_bool ?_, rfl⟩
    unfold Wn.numberBegins
    rw [Wn.sfx_drop]
    first | (simp [*]; done) | (generalize Wn.hd (Wn.sfx s i) = c at *; rw [Bool.eq_iff_iff]; simp; omega)
end Go.Proofs.YtjlejiphpbaonaaGreatDoor
set_option maxRecDepth 20000
namespace Go.Proofs.YtjlejiphpbaonaaGreatDoor
open Go.RowKit
set_option maxHeartbeats 400000 in
theorem blanksEnd_any (s : ByteArray) (i : Nat) (w : World) (hs : s.size ≤ 4611686018427387000) (hi : i ≤ s.size) :
    Calls Tryz.prog 139 #[.string s, .int .i64 i] w fun e w' => e = .returned (.int .i64 ((i + Wn.runLen Wn.blank (Wn.sfx s i) : Nat) : Int)) ∧ w = w' := by
  have hs' : s.size ≤ maxLen := by unfold maxLen; omega
  generalize hE : i + Wn.runLen Wn.blank (Wn.sfx s i) = E
  have HE := Lib.hid hE; clear hE
  go_enter Tryz.func139, Tryz.ntmps139
  go_wp2_with fail
  go_loop [1] (fun t => ∃ k : Nat, k ≤ s.size ∧ t = .int .i64 k ∧ Hid (k + Wn.runLen Wn.blank (Wn.sfx s k) = E)) (fun t => s.size - (intOf t).toNat)
  case atStart => exact ⟨i, hi, rfl, HE⟩
  case round =>
    obtain ⟨k, hk, rfl, HK⟩ := hrel
    cases hb : Wn.blank (Wn.sfx s k)
    · have h0 := Wn.runLen_no hb
      have H0 := Lib.hid h0; clear h0
      have HB := Lib.hid hb; clear hb
      go_wp2_with (go_at_call 119; (with_reducible refine (isBlank_any _ _ _ hs' (by omega)).mono ?_); rintro e w' ⟨rfl, rfl⟩; rw [HB.out])
      go_ret
      exact ⟨ret_int (by rw [← HK.out, H0.out]; simp), rfl⟩
    · obtain ⟨h1, h2⟩ := Wn.runLen_yes hb (by decide)
      have H2 := Lib.hid h2; clear h2
      have HB := Lib.hid hb; clear hb
      go_wp2_with (go_at_call 119; (with_reducible refine (isBlank_any _ _ _ hs' (by omega)).mono ?_); rintro e w' ⟨rfl, rfl⟩; rw [HB.out])
      go_round
      case rel => exact ⟨k + 1, by omega, by go_num, Lib.hid (by rw [← HK.out, H2.out]; omega)⟩
      case measure => simp [intOf]; omega
set_option maxHeartbeats 400000 in
theorem nameEnd_any (s : ByteArray) (i : Nat) (w : World) (hs : s.size ≤ 4611686018427387000) (hi : i ≤ s.size) :
    Calls Tryz.prog 143 #[.string s, .int .i64 i] w fun e w' => e = .returned (.int .i64 ((i + Wn.runLen Wn.nameByte (Wn.sfx s i) : Nat) : Int)) ∧ w = w' := by
  have hs' : s.size ≤ maxLen := by unfold maxLen; omega
  generalize hE : i + Wn.runLen Wn.nameByte (Wn.sfx s i) = E
  have HE := Lib.hid hE; clear hE
  go_enter Tryz.func143, Tryz.ntmps143
  go_wp2_with fail
  go_loop [1] (fun t => ∃ k : Nat, k ≤ s.size ∧ t = .int .i64 k ∧ Hid (k + Wn.runLen Wn.nameByte (Wn.sfx s k) = E)) (fun t => s.size - (intOf t).toNat)
  case atStart => exact ⟨i, hi, rfl, HE⟩
  case round =>
    obtain ⟨k, hk, rfl, HK⟩ := hrel
    cases hb : Wn.nameByte (Wn.sfx s k)
    · have h0 := Wn.runLen_no hb
      have H0 := Lib.hid h0; clear h0
      have HB := Lib.hid hb; clear hb
      go_wp2_with (go_at_call 124; (with_reducible refine (isNameByte_any _ _ _ hs' (by omega)).mono ?_); rintro e w' ⟨rfl, rfl⟩; rw [HB.out])
      go_ret
      exact ⟨ret_int (by rw [← HK.out, H0.out]; simp), rfl⟩
    · obtain ⟨h1, h2⟩ := Wn.runLen_yes hb (by decide)
      have H2 := Lib.hid h2; clear h2
      have HB := Lib.hid hb; clear hb
      go_wp2_with (go_at_call 124; (with_reducible refine (isNameByte_any _ _ _ hs' (by omega)).mono ?_); rintro e w' ⟨rfl, rfl⟩; rw [HB.out])
      go_round
      case rel => exact ⟨k + 1, by omega, by go_num, Lib.hid (by rw [← HK.out, H2.out]; omega)⟩
      case measure => simp [intOf]; omega
theorem nameEnd_i (s : ByteArray) (i : Nat) (x : Int) (E : Nat) (w : World) (hs : s.size ≤ 4611686018427387000) (hi : i ≤ s.size) (hx : x = i) (hE : i + Wn.runLen Wn.nameByte (Wn.sfx s i) = E) :
    Calls Tryz.prog 143 #[.string s, .int .i64 x] w fun e w' => e = .returned (.int .i64 (E : Int)) ∧ w = w' := by
  subst hx hE; exact nameEnd_any s i w hs hi
set_option maxHeartbeats 400000 in
theorem commentEnd_any (s : ByteArray) (i : Nat) (w : World) (hs : s.size ≤ 4611686018427387000) (hi : i + 2 ≤ s.size) :
    Calls Tryz.prog 137 #[.string s, .int .i64 i] w fun e w' => e = .returned (.int .i64 ((i + 2 + Wn.closeLen (Wn.sfx s (i + 2)) : Nat) : Int)) ∧ w = w' := by
  have hs' : s.size ≤ maxLen := by unfold maxLen; omega
  generalize hE : i + 2 + Wn.closeLen (Wn.sfx s (i + 2)) = E
  have HE := Lib.hid hE; clear hE
  go_enter Tryz.func137, Tryz.ntmps137
  go_wp2_with fail
  go_loop [1] (fun t => ∃ k : Nat, k ≤ s.size ∧ t = .int .i64 k ∧ Hid (k + Wn.closeLen (Wn.sfx s k) = E)) (fun t => s.size - (intOf t).toNat)
  case atStart => exact ⟨i + 2, hi, by go_num, HE⟩
  case round =>
    obtain ⟨k, hk, rfl, HK⟩ := hrel
    by_cases hlt : k < s.size
    · cases hb : (Wn.hd (Wn.sfx s k) == 42 && Wn.hd (Wn.sfx s (k + 1)) == 47)
      · have h2 := Wn.closeLen_no s k hlt hb
        have H2 := Lib.hid h2; clear h2
        have HB := Lib.hid hb; clear hb
        go_wp2_with (first | (go_at_call 123; (with_reducible refine (byteAt_any _ _ _ hs' (by omega)).mono ?_); rintro e w' ⟨rfl, rfl⟩) | (go_at_call 123; (with_reducible refine (byteAt1 _ _ _ hs' (by omega)).mono ?_); rintro e w' ⟨rfl, rfl⟩))
        all_goals first
          | (exfalso; have := HB.out; simp_all; done)
          | (go_round
             case rel => exact ⟨k + 1, by omega, by go_num, Lib.hid (by rw [← HK.out, H2.out]; omega)⟩
             case measure => simp [intOf]; omega)
      · have h2 := Wn.closeLen_yes s k hlt hb
        have H2 := Lib.hid h2; clear h2
        have HB := Lib.hid hb; clear hb
        go_wp2_with (first | (go_at_call 123; (with_reducible refine (byteAt_any _ _ _ hs' (by omega)).mono ?_); rintro e w' ⟨rfl, rfl⟩) | (go_at_call 123; (with_reducible refine (byteAt1 _ _ _ hs' (by omega)).mono ?_); rintro e w' ⟨rfl, rfl⟩))
        all_goals first
          | (exfalso; have := HB.out; simp_all; done)
          | (go_ret; exact ⟨ret_int (by rw [← HK.out, H2.out]; omega), rfl⟩)
    · have h2 := Wn.closeLen_out s k (by omega)
      have H2 := Lib.hid h2; clear h2
      go_wp2_with fail
      go_ret
      exact ⟨ret_int (by rw [← HK.out, H2.out]; omega), rfl⟩
set_option maxHeartbeats 400000 in
theorem secondQuote_any (s : ByteArray) (i : Nat) (w : World) (hs : s.size ≤ 4611686018427387000) (hi : i ≤ s.size) :
    Calls Tryz.prog 121 #[.string s, .int .i64 i] w fun e w' => e = .returned (.int .i64 (Wn.place (i + 1) (Wn.strLen (Wn.sfx s i)))) ∧ ∃ n, w' = w.drewN n := by
  have hs' : s.size ≤ maxLen := by unfold maxLen; omega
  cases hq : Wn.quote (Wn.sfx s i)
  · have e : Wn.place (i + 1) (Wn.strLen (Wn.sfx s i)) = -1 := by unfold Wn.strLen; rw [hq]; rfl
    have E := Lib.hid e; clear e
    have HQ := Lib.hid hq; clear hq
    go_enter Tryz.func121, Tryz.ntmps121
    go_wp2_with (go_at_call 140; (with_reducible refine (isQuote_any _ _ _ hs' (by omega)).mono ?_); rintro e w' ⟨rfl, rfl⟩; rw [HQ.out])
    go_ret
    exact ⟨ret_int E.out.symm, 0, rfl⟩
  · have hlt : i < s.size := by
      by_cases h : i < s.size
      · exact h
      · rw [Wn.sfx_out s i (by omega)] at hq; cases hq
    have e : Wn.strLen (Wn.sfx s i) = Wn.quoteLen (Wn.hd (Wn.sfx s i)) (Wn.sfx s (i + 1)) := by unfold Wn.strLen; rw [hq, Wn.sfx_drop]; rfl
    have E := Lib.hid e; clear e
    have HQ := Lib.hid hq; clear hq
    generalize hP : Wn.place (i + 1) (Wn.strLen (Wn.sfx s i)) = E1
    rw [E.out] at hP
    have HP := Lib.hid hP; clear hP
    go_enter Tryz.func121, Tryz.ntmps121
    go_wp2_with (go_at_call 140; (with_reducible refine (isQuote_any _ _ _ hs' (by omega)).mono ?_); rintro e w' ⟨rfl, rfl⟩; rw [HQ.out])
    go_loopw [5] (fun t wr => ∃ (k : Nat) (n : Nat), i + 1 ≤ k ∧ k ≤ s.size ∧ t = .int .i64 k ∧ wr = w.drewN n ∧ Hid (Wn.place k (Wn.quoteLen (Wn.hd (Wn.sfx s i)) (Wn.sfx s k)) = E1)) (fun t _ => s.size - (intOf t).toNat)
    case atStart => exact ⟨i + 1, 0, by omega, by omega, by go_num, rfl, HP⟩
    case round =>
      obtain ⟨k, n, hk1, hk, rfl, rfl, HK⟩ := hrel
      by_cases hlk : k < s.size
      · cases hb : Wn.lineEnd (Wn.sfx s k)
        · have HB := Lib.hid hb
          cases hc : (Wn.hd (Wn.sfx s k) == Wn.hd (Wn.sfx s i))
          · have h2 := Wn.quoteLen_no _ s k hlk hb hc
            have H2 := Lib.hid h2; clear h2
            rw [Wn.hd_in s k hlk, Wn.hd_in s i hlt] at hc
            clear hb
            go_wp2_with (go_at_call 138; (with_reducible refine (isLineEnd_any _ _ _ hs' (by omega)).mono ?_); rintro e w' ⟨rfl, rfl⟩; rw [HB.out])
            go_quiet (fail)
            go_wp2_with fail
            exact ⟨⟨k + 1, n + nq, by omega, by omega, by go_num, rfl, Lib.hid (by rw [← HK.out, H2.out, Wn.place_succ])⟩, by simp [intOf]; omega⟩
          · have h2 := Wn.quoteLen_yes _ s k hlk hb hc
            have H2 := Lib.hid h2; clear h2
            rw [Wn.hd_in s k hlk, Wn.hd_in s i hlt] at hc
            clear hb
            go_wp2_with (go_at_call 138; (with_reducible refine (isLineEnd_any _ _ _ hs' (by omega)).mono ?_); rintro e w' ⟨rfl, rfl⟩; rw [HB.out])
            go_quiet (fail)
            go_wp2_with fail
            go_ret
            exact ⟨ret_int (by rw [← HK.out, H2.out]; rfl), n + nq, World.drewN_drewN ..⟩
        · have h2 := Wn.quoteLen_line (Wn.hd (Wn.sfx s i)) s k hlk hb
          have H2 := Lib.hid h2; clear h2
          have HB := Lib.hid hb; clear hb
          go_wp2_with (go_at_call 138; (with_reducible refine (isLineEnd_any _ _ _ hs' (by omega)).mono ?_); rintro e w' ⟨rfl, rfl⟩; rw [HB.out])
          go_ret
          exact ⟨ret_int (by rw [← HK.out, H2.out]; rfl), n, rfl⟩
      · have h2 := Wn.quoteLen_out (Wn.hd (Wn.sfx s i)) s k (by omega)
        have H2 := Lib.hid h2; clear h2
        go_wp2_with fail
        go_ret
        exact ⟨ret_int (by rw [← HK.out, H2.out]; rfl), n, rfl⟩
/- the same, with the place and the answer as the caller has them -/
theorem byteAt_i (s : ByteArray) (i : Nat) (x v : Int) (w : World) (hs : s.size ≤ 4611686018427387000) (hi : i ≤ s.size + 2) (hx : x = i) (hv : Wn.hd (Wn.sfx s i) = v) :
    Calls Tryz.prog 123 #[.string s, .int .i64 x] w fun e w' => e = .returned (.int .i64 v) ∧ w = w' := by
  subst hx hv; exact byteAt_any s i w (by unfold maxLen; omega) (by omega)
theorem isLineEnd_i (s : ByteArray) (i : Nat) (x : Int) (c : Bool) (w : World) (hs : s.size ≤ 4611686018427387000) (hi : i ≤ s.size + 2) (hx : x = i) (hc : Wn.lineEnd (Wn.sfx s i) = c) :
    Calls Tryz.prog 138 #[.string s, .int .i64 x] w fun e w' => e = .returned (.bool c) ∧ w = w' := by
  subst hx hc; exact isLineEnd_any s i w (by unfold maxLen; omega) (by omega)
theorem isBlank_i (s : ByteArray) (i : Nat) (x : Int) (c : Bool) (w : World) (hs : s.size ≤ 4611686018427387000) (hi : i ≤ s.size + 2) (hx : x = i) (hc : Wn.blank (Wn.sfx s i) = c) :
    Calls Tryz.prog 119 #[.string s, .int .i64 x] w fun e w' => e = .returned (.bool c) ∧ w = w' := by
  subst hx hc; exact isBlank_any s i w (by unfold maxLen; omega) (by omega)
theorem isDigit_i (s : ByteArray) (i : Nat) (x : Int) (c : Bool) (w : World) (hs : s.size ≤ 4611686018427387000) (hi : i ≤ s.size + 2) (hx : x = i) (hc : Wn.digit (Wn.sfx s i) = c) :
    Calls Tryz.prog 142 #[.string s, .int .i64 x] w fun e w' => e = .returned (.bool c) ∧ w = w' := by
  subst hx hc; exact isDigit_any s i w (by unfold maxLen; omega) (by omega)
theorem isNameStart_i (s : ByteArray) (i : Nat) (x : Int) (c : Bool) (w : World) (hs : s.size ≤ 4611686018427387000) (hi : i ≤ s.size + 2) (hx : x = i) (hc : Wn.nameStart (Wn.sfx s i) = c) :
    Calls Tryz.prog 141 #[.string s, .int .i64 x] w fun e w' => e = .returned (.bool c) ∧ w = w' := by
  subst hx hc; exact isNameStart_any s i w (by unfold maxLen; omega) (by omega)
theorem isNameByte_i (s : ByteArray) (i : Nat) (x : Int) (c : Bool) (w : World) (hs : s.size ≤ 4611686018427387000) (hi : i ≤ s.size + 2) (hx : x = i) (hc : Wn.nameByte (Wn.sfx s i) = c) :
    Calls Tryz.prog 124 #[.string s, .int .i64 x] w fun e w' => e = .returned (.bool c) ∧ w = w' := by
  subst hx hc; exact isNameByte_any s i w (by unfold maxLen; omega) (by omega)
theorem isQuote_i (s : ByteArray) (i : Nat) (x : Int) (c : Bool) (w : World) (hs : s.size ≤ 4611686018427387000) (hi : i ≤ s.size + 2) (hx : x = i) (hc : Wn.quote (Wn.sfx s i) = c) :
    Calls Tryz.prog 140 #[.string s, .int .i64 x] w fun e w' => e = .returned (.bool c) ∧ w = w' := by
  subst hx hc; exact isQuote_any s i w (by unfold maxLen; omega) (by omega)
theorem commentBegins_i (s : ByteArray) (i : Nat) (x : Int) (c : Bool) (w : World) (hs : s.size ≤ 4611686018427387000) (hi : i ≤ s.size + 2) (hx : x = i) (hc : Wn.commentBegins (Wn.sfx s i) = c) :
    Calls Tryz.prog 136 #[.string s, .int .i64 x] w fun e w' => e = .returned (.bool c) ∧ w = w' := by
  subst hx hc; exact commentBegins_any s i w (by unfold maxLen; omega) (by omega)
theorem nameBegins_i (s : ByteArray) (i : Nat) (x : Int) (c : Bool) (w : World) (hs : s.size ≤ 4611686018427387000) (hi : i ≤ s.size + 2) (hx : x = i) (hc : Wn.nameBegins (Wn.sfx s i) = c) :
    Calls Tryz.prog 126 #[.string s, .int .i64 x] w fun e w' => e = .returned (.bool c) ∧ w = w' := by
  subst hx hc; exact nameBegins_any s i w (by unfold maxLen; omega) (by omega)
theorem numberBegins_i (s : ByteArray) (i : Nat) (x : Int) (c : Bool) (w : World) (hs : s.size ≤ 4611686018427387000) (hi : i ≤ s.size + 2) (hx : x = i) (hc : Wn.numberBegins (Wn.sfx s i) = c) :
    Calls Tryz.prog 127 #[.string s, .int .i64 x] w fun e w' => e = .returned (.bool c) ∧ w = w' := by
  subst hx hc; exact numberBegins_any s i w (by unfold maxLen; omega) (by omega)
theorem blanksEnd_i (s : ByteArray) (i : Nat) (x : Int) (E : Nat) (w : World) (hs : s.size ≤ 4611686018427387000) (hi : i ≤ s.size) (hx : x = i) (hE : i + Wn.runLen Wn.blank (Wn.sfx s i) = E) :
    Calls Tryz.prog 139 #[.string s, .int .i64 x] w fun e w' => e = .returned (.int .i64 (E : Int)) ∧ w = w' := by
  subst hx hE; exact blanksEnd_any s i w hs hi
theorem commentEnd_i (s : ByteArray) (i : Nat) (x : Int) (E : Nat) (w : World) (hs : s.size ≤ 4611686018427387000) (hi : i + 2 ≤ s.size) (hx : x = i) (hE : i + 2 + Wn.closeLen (Wn.sfx s (i + 2)) = E) :
    Calls Tryz.prog 137 #[.string s, .int .i64 x] w fun e w' => e = .returned (.int .i64 (E : Int)) ∧ w = w' := by
  subst hx hE; exact commentEnd_any s i w hs hi
theorem secondQuote_i (s : ByteArray) (i : Nat) (x v : Int) (w : World) (hs : s.size ≤ 4611686018427387000) (hi : i ≤ s.size) (hx : x = i) (hv : Wn.place (i + 1) (Wn.strLen (Wn.sfx s i)) = v) :
    Calls Tryz.prog 121 #[.string s, .int .i64 x] w fun e w' => e = .returned (.int .i64 v) ∧ ∃ n, w' = w.drewN n := by
  subst hx hv; exact secondQuote_any s i w hs hi
end Go.Proofs.YtjlejiphpbaonaaGreatDoor
set_option maxRecDepth 20000
namespace Go.Proofs.YtjlejiphpbaonaaGreatDoor
open Go.RowKit
/-- block b is the scanner of the text s at the place p -/
def ScanAt (w : World) (b : Nat) (s : ByteArray) (p : Nat) : Prop := w.heap[b]? = some (.cells #[.string s, .int .i64 p] 123)
/-- all blocks that were there, but for block b, are as they were -/
structure Only (b : Nat) (w w' : World) : Prop where
  os : w'.os = w.os
  tape : w'.tape = w.tape
  output : w'.output = w.output
  size : w.heap.size ≤ w'.heap.size
  block : ∀ k, k < w.heap.size → k ≠ b → w'.heap[k]? = w.heap[k]?
theorem Only.refl (b : Nat) (w : World) : Only b w w := ⟨rfl, rfl, rfl, Nat.le_refl _, fun _ _ _ => rfl⟩
theorem Only.trans {b : Nat} {x y z : World} (h : Only b x y) (k : Only b y z) : Only b x z :=
  ⟨k.os.trans h.os, k.tape.trans h.tape, k.output.trans h.output, Nat.le_trans h.size k.size, fun i hi hb => (k.block i (Nat.lt_of_lt_of_le hi h.size) hb).trans (h.block i hi hb)⟩
theorem Only.drew {b : Nat} {a w : World} (h : Only b a w) : Only b a w.drew := ⟨h.os, h.tape, h.output, h.size, h.block⟩
theorem Only.drewN {b : Nat} {a w : World} (h : Only b a w) (n : Nat) : Only b a (w.drewN n) := h.trans ⟨rfl, rfl, rfl, Nat.le_refl _, fun _ _ _ => rfl⟩
theorem Only.alloc {b : Nat} {a w : World} (h : Only b a w) (o : Obj) : Only b a (w.alloc o) :=
  h.trans ⟨rfl, rfl, rfl, by simp, fun k hk _ => Below.heap_alloc _ _ _ hk⟩
theorem Only.setCell {b : Nat} {a w : World} (h : Only b a w) {p : Addr} (hp : p.block = b) (u : Value) : Only b a (w.setCell p u) :=
  h.trans ⟨rfl, rfl, rfl, by simp [World.setCell], fun k _ hk => Below.heap_setCell _ _ _ _ (by omega)⟩
theorem ScanAt.lt {w : World} {b : Nat} {s : ByteArray} {p : Nat} (h : ScanAt w b s p) : b < w.heap.size := by
  unfold ScanAt at h
  exact (Array.getElem?_eq_some_iff.1 h).1
theorem ScanAt.cell0 {w : World} {b : Nat} {s : ByteArray} {p : Nat} (h : ScanAt w b s p) : w.cell? ⟨b, 0, none⟩ = some (.string s) := by
  unfold ScanAt at h; simp [World.cell?, h]
theorem ScanAt.cell1 {w : World} {b : Nat} {s : ByteArray} {p : Nat} (h : ScanAt w b s p) : w.cell? ⟨b, 1, none⟩ = some (.int .i64 p) := by
  unfold ScanAt at h; simp [World.cell?, h]
theorem ScanAt.frozen {w : World} {b : Nat} {s : ByteArray} {p : Nat} (h : ScanAt w b s p) (o : Nat) : w.frozen? ⟨b, o, none⟩ = false := by
  unfold ScanAt at h; simp [World.frozen?, h]
theorem ScanAt.drewN {w : World} {b : Nat} {s : ByteArray} {p : Nat} (h : ScanAt w b s p) (n : Nat) : ScanAt (w.drewN n) b s p := h
theorem ScanAt.drew {w : World} {b : Nat} {s : ByteArray} {p : Nat} (h : ScanAt w b s p) : ScanAt w.drew b s p := h
theorem ScanAt.alloc {w : World} {b : Nat} {s : ByteArray} {p : Nat} (h : ScanAt w b s p) (o : Obj) : ScanAt (w.alloc o) b s p := by
  have hl := h.lt
  unfold ScanAt at *
  rw [Below.heap_alloc _ _ _ hl, h]
theorem ScanAt.set' {w : World} {b : Nat} {s : ByteArray} {p q : Nat} {v : Int} (h : ScanAt w b s p) (hv : v = (q : Int)) : ScanAt (w.setCell ⟨b, 1, none⟩ (.int .i64 v)) b s q := by
  subst hv
  unfold ScanAt at *
  simp [World.setCell, Array.getElem?_modify, h]
theorem ScanAt.set {w : World} {b : Nat} {s : ByteArray} {p q : Nat} (h : ScanAt w b s p) : ScanAt (w.setCell ⟨b, 1, none⟩ (.int .i64 q)) b s q := by
  unfold ScanAt at *
  simp [World.setCell, Array.getElem?_modify, h]
theorem ScanAt.other {w : World} {b : Nat} {s : ByteArray} {p : Nat} {a : Addr} (h : ScanAt w b s p) (ha : a.block ≠ b) (v : Value) : ScanAt (w.setCell a v) b s p := by
  unfold ScanAt at *
  rw [Below.heap_setCell _ _ _ _ (Ne.symm ha), h]
theorem ScanAt.q {w : World} {b : Nat} {s : ByteArray} {p q : Nat} (h : ScanAt w b s p) (e : p = q) : ScanAt w b s q := e ▸ h
theorem Only.fresh {b : Nat} {x w : World} (h : Only b x w) {a : Addr} (ha : x.heap.size ≤ a.block) (v : Value) : Only b x (w.setCell a v) :=
  ⟨h.os, h.tape, h.output, by simpa [World.setCell] using h.size, fun k hk hb => by rw [Below.heap_setCell _ _ _ _ (by omega)]; exact h.block k hk hb⟩
section
variable {P : Program}
theorem region_tail {id : Nat} {Q : Exit → Act → World → Prop} {a : Act} {w : World} {l : List Oper} (n : Nat) (hm : P.follows .mixedOrders = true) (hB : Region.lexTailB .any l.toArray n = true)
    (h : wpStill P l.toArray w.drew (fun a' => wpList P l.toArray Q (l.drop n) a' w.drew) (l.take n) a) : (Code.region id l.toArray true).wp P Q a w := wp_region_still_tail n hm hB h
end
set_option maxHeartbeats 400000 in
theorem newScanner_any (s : ByteArray) (w : World) :
    Calls Tryz.prog 107 #[.string s] w fun e w' => e = .returned (.pointer (some ⟨w.heap.size, 0, none⟩)) ∧ w' = w.alloc (.cells #[.string s, .int .i64 0] 123) := by
  go_enter Tryz.func107, Tryz.ntmps107
  go_wp2
  go_ret
  exact ⟨rfl, rfl⟩
/-- what a scanner's method leaves: the result, the scanner at its new place, all else as it was -/
def Left (b : Nat) (s : ByteArray) (q : Nat) (v : Value) (w : World) (e : Ending) (w' : World) : Prop := e = .returned v ∧ ScanAt w' b s q ∧ Only b w w'
set_option maxHeartbeats 400000 in
theorem take_any (b : Nat) (s : ByteArray) (p q : Nat) (w : World) (c0 : w.cell? ⟨b, 0, none⟩ = some (.string s)) (c1 : w.cell? ⟨b, 1, none⟩ = some (.int .i64 p)) (f1 : w.frozen? ⟨b, 1, none⟩ = false) (hpq : p ≤ q) (hq : q ≤ s.size) :
    Calls Tryz.prog 130 #[.pointer (some ⟨b, 0, none⟩), .int .i64 q] w fun e w' => e = .returned (.string (s.extract p q)) ∧ ∃ n, w' = (w.setCell ⟨b, 1, none⟩ (.int .i64 q)).drewN n := by
  go_enter Tryz.func130, Tryz.ntmps130
  go_wp2_with fail
  go_quiet (fail)
  go_wp2_with fail
  go_ret
  exact ⟨rfl, nq, rfl⟩
theorem take_i (b : Nat) (s : ByteArray) (p q : Nat) (y : Int) (w : World) (h : ScanAt w b s p) (hpq : p ≤ q) (hq : q ≤ s.size) (hy : y = q) :
    Calls Tryz.prog 130 #[.pointer (some ⟨b, 0, none⟩), .int .i64 y] w fun e w' => e = .returned (.string (s.extract p q)) ∧ ∃ n, w' = (w.setCell ⟨b, 1, none⟩ (.int .i64 q)).drewN n := by
  subst hy; exact take_any b s p q w h.cell0 h.cell1 (h.frozen 1) hpq hq
set_option maxHeartbeats 400000 in
theorem white_any (b : Nat) (s : ByteArray) (p : Nat) (w : World) (hs : s.size ≤ 4611686018427387000) (h : ScanAt w b s p) (hp : p ≤ s.size) :
    Calls Tryz.prog 120 #[.pointer (some ⟨b, 0, none⟩)] w (Left b s (p + Wn.runLen Wn.blank (Wn.sfx s p)) (.agg #[.int .i64 8, .string ⟨#[10]⟩, .int .i64 0]) w) := by
  have hlt := h.lt
  have c0 := h.cell0
  have c1 := h.cell1
  have f1 := h.frozen 1
  have H := Lib.hid h; clear h
  go_enter Tryz.func120, Tryz.ntmps120
  go_wp2_with fail
  refine region_tail 12 (by kernel_rfl) (by kernel_rfl) ?_
  simp only [List.take_succ_cons, List.take_zero, List.drop_succ_cons, List.drop_zero]
  repeat still_step
  still_call ((blanksEnd_any s p _ hs hp).mono fun e w' h => ⟨h.1, h.2.symm⟩)
  repeat still_step
  refine wpStill_nil ?_
  go_wp2_with fail
  exact bodyPost_ret (v := .agg #[.int .i64 8, .string ⟨#[10]⟩, .int .i64 0]) (by simp [results, Tryz.results120, go_sem]) rfl ⟨rfl, ((H.out.set' (by omega)).alloc _).drew, (((Only.refl b w).setCell rfl _).alloc _).drew⟩
set_option maxHeartbeats 1000000 in
theorem named_any (b : Nat) (s : ByteArray) (p : Nat) (k : Int) (E : Nat) (w : World) (hs : s.size ≤ 4611686018427387000) (h : ScanAt w b s p) (hp : p + 1 ≤ s.size) (hE : p + 1 + Wn.runLen Wn.nameByte (Wn.sfx s (p + 1)) = E) :
    Calls Tryz.prog 125 #[.pointer (some ⟨b, 0, none⟩), .int .i64 k] w (Left b s E (.agg #[.int .i64 k, .string (s.extract (p + 1) E), .int .i64 0]) w) := by
  have hlt := h.lt
  have c0 := h.cell0
  have c1 := h.cell1
  have f1 := h.frozen 1
  have H := Lib.hid h; clear h
  have hr := Wn.runLen_le Wn.nameByte (Wn.sfx s (p + 1))
  rw [Wn.sfx_length] at hr
  have hE1 : p + 1 ≤ E := by omega
  have hE2 : E ≤ s.size := by omega
  have HE := Lib.hid hE; clear hE hr
  go_enter Tryz.func125, Tryz.ntmps125
  go_wp2_with fail
  go_region_with (first | (go_at_call 143; (with_reducible refine (nameEnd_i s (p + 1) _ E _ hs hp (by omega) HE.out).mono ?_); rintro e w' ⟨rfl, rfl⟩) | (go_at_call 130; (refine (take_i b s (p + 1) E _ _ (by exact (H.out.set' (by omega)).alloc _) hE1 hE2 rfl).mono ?_); rintro e w' ⟨rfl, nt, rfl⟩))
  all_goals
    go_wp2_with fail
    refine bodyPost_ret (v := .agg #[.int .i64 k, .string (s.extract (p + 1) E), .int .i64 0]) (by simp [results, Tryz.results125, go_sem]) rfl ⟨rfl, ?_, ?_⟩
    · exact (((((((H.out.set' (q := p + 1) (by omega)).set).alloc _).drewN _).other (by simp; omega) _).other (by simp; omega) _).other (by simp; omega) _)
    · exact (((((((Only.refl b w).setCell rfl _).setCell rfl _).alloc _).drewN _).fresh (by simp) _).fresh (by simp) _).fresh (by simp) _
end Go.Proofs.YtjlejiphpbaonaaGreatDoor
set_option maxRecDepth 20000
namespace Go.Proofs.YtjlejiphpbaonaaGreatDoor
open Go.RowKit
theorem quiet_left {P : Program} {f : FuncId} {args : Array Value} {w : World} {n : Nat} {v : Value}
    (h : Calls P f args (w.drewN n) fun e w' => e = .returned v ∧ w.drewN n = w') : Calls P f args (w.drewN n) fun e w'' => e = .returned v ∧ ∃ m, w'' = w.drewN m :=
  h.mono fun _ _ ⟨he, hm⟩ => ⟨he, n, hm.symm⟩
/-- nothing but the scanner's place has turned -/
def Moved (b : Nat) (s : ByteArray) (q : Nat) (w w' : World) : Prop := ScanAt w' b s q ∧ Only b w w'
set_option maxHeartbeats 1000000 in
theorem skipComments_any (b : Nat) (s : ByteArray) (p E : Nat) (w : World) (hs : s.size ≤ 4611686018427387000) (h : ScanAt w b s p) (hp : p ≤ s.size) (hE : p + Wn.skip (Wn.sfx s p) = E) :
    Calls Tryz.prog 118 #[.pointer (some ⟨b, 0, none⟩)] w fun e w' => e = .returned (.tuple #[]) ∧ Moved b s E w w' := by
  have hs' : s.size ≤ maxLen := by unfold maxLen; omega
  have H := Lib.hid h; clear h
  have HE := Lib.hid hE; clear hE
  go_enter Tryz.func118, Tryz.ntmps118
  go_wp2_with fail
  go_loopw [4] (fun _ wr => ∃ (k : Nat), k ≤ s.size ∧ Moved b s k w wr ∧ Hid (k + Wn.skip (Wn.sfx s k) = E)) (fun _ wr => s.size - (intOf ((wr.cell? ⟨b, 1, none⟩).getD (.int .i64 0))).toNat)
  case atStart => exact ⟨p, hp, ⟨H.out, Only.refl _ _⟩, HE⟩
  case round =>
    obtain ⟨k, hk, HM, HK⟩ := hrel
    obtain ⟨hsc, hon⟩ := HM
    have c0 := hsc.cell0
    have c1 := hsc.cell1
    have f1 := hsc.frozen 1
    have H1 := Lib.hid hsc
    have HO := Lib.hid hon
    clear hsc hon
    cases hb : Wn.commentBegins (Wn.sfx s k)
    · have e0 := Wn.skip_no hb
      have E0 := Lib.hid e0; clear e0
      have HB := Lib.hid hb; clear hb
      go_wp2_with fail
      go_quiet ((go_at_call 136; exact quiet_left (commentBegins_i s k _ false _ hs (by omega) rfl HB.out)))
      go_wp2_with fail
      go_end0
      exact ⟨rfl, H1.out.q (by have := HK.out; rw [E0.out] at this; omega), HO.out.drewN nq⟩
    · have e0 := Wn.skip_yes hb
      have h2 := Wn.commentBegins_two hb
      rw [Wn.sfx_drop, Wn.sfx_drop] at e0
      have hr := Wn.closeLen_le (Wn.sfx s (k + 2))
      rw [Wn.sfx_length] at hr
      generalize hcl : k + 2 + Wn.closeLen (Wn.sfx s (k + 2)) = q at *
      have hq1 : k + 2 ≤ q := by omega
      have hq2 : q ≤ s.size := by omega
      have e1 : k + Wn.skip (Wn.sfx s k) = q + Wn.skip (Wn.sfx s q) := by
        rw [e0, show k + (2 + Wn.closeLen (Wn.sfx s (k + 2))) = q by omega]; omega
      have E1 := Lib.hid e1
      have HC := Lib.hid hcl
      have HB := Lib.hid hb
      clear hb e0 e1 hcl hr
      go_wp2_with fail
      go_quiet ((go_at_call 136; exact quiet_left (commentBegins_i s k _ true _ hs (by omega) rfl HB.out)))
      go_wp2_with fail
      refine region_tail 12 (by kernel_rfl) (by kernel_rfl) ?_
      simp only [List.take_succ_cons, List.take_zero, List.drop_succ_cons, List.drop_zero]
      repeat still_step
      still_call ((commentEnd_i s k _ q _ hs h2 rfl HC.out).mono fun e w' h => ⟨h.1, h.2.symm⟩)
      repeat still_step
      refine wpStill_nil ?_
      go_wp2_with fail
      go_roundw
      case rel => exact ⟨q, hq2, ⟨(H1.out.drewN _).set, (HO.out.drewN _).setCell rfl _⟩, Lib.hid (by rw [← E1.out]; exact HK.out)⟩
      case measure =>
        have d1 := ((H1.out.drewN (nq + 1)).set (q := q)).cell1
        rw [d1, c1]
        simp [intOf]; omega
set_option maxHeartbeats 1000000 in
theorem digits_any (b : Nat) (s : ByteArray) (p E : Nat) (V : Int) (w : World) (hs : s.size ≤ 4611686018427387000) (h : ScanAt w b s p) (hp : p ≤ s.size) (hE : p + Wn.runLen Wn.digit (Wn.sfx s p) = E) (hV : Wn.numVal 0 (Wn.sfx s p) = V) :
    Calls Tryz.prog 144 #[.pointer (some ⟨b, 0, none⟩)] w fun e w' => e = .returned (.int .i64 V) ∧ Moved b s E w w' := by
  have H := Lib.hid h; clear h
  have HE := Lib.hid hE; clear hE
  have HV := Lib.hid hV; clear hV
  go_enter Tryz.func144, Tryz.ntmps144
  go_wp2_with fail
  go_loopw [3] (fun t wr => ∃ (k : Nat) (n : Int), k ≤ s.size ∧ 0 ≤ n ∧ n ≤ 999999999 ∧ t = .int .i64 n ∧ Moved b s k w wr ∧ Hid (k + Wn.runLen Wn.digit (Wn.sfx s k) = E) ∧ Hid (Wn.numVal n (Wn.sfx s k) = V)) (fun _ wr => s.size - (intOf ((wr.cell? ⟨b, 1, none⟩).getD (.int .i64 0))).toNat)
  case atStart => exact ⟨p, 0, hp, by omega, by omega, rfl, ⟨H.out, Only.refl _ _⟩, HE, HV⟩
  case round =>
    obtain ⟨k, n, hk, hn0, hn1, rfl, HM, HK, HN⟩ := hrel
    obtain ⟨hsc, hon⟩ := HM
    have c0 := hsc.cell0
    have c1 := hsc.cell1
    have f1 := hsc.frozen 1
    have H1 := Lib.hid hsc
    have HO := Lib.hid hon
    clear hsc hon
    cases hb : Wn.digit (Wn.sfx s k)
    · have e0 := Wn.runLen_no hb
      have e1 := Wn.numVal_no n _ hb
      have E0 := Lib.hid e0; clear e0
      have E1 := Lib.hid e1; clear e1
      have HB := Lib.hid hb; clear hb
      go_wp2_with fail
      go_quiet ((go_at_call 142; exact quiet_left (isDigit_i s k _ false _ hs (by omega) rfl HB.out)))
      go_wp2_with fail
      go_ret
      exact ⟨ret_int (by rw [← HN.out, E1.out]), H1.out.q (by have := HK.out; rw [E0.out] at this; omega), HO.out.drewN nq⟩
    · have e1 := Wn.numVal_yes n s k hb
      obtain ⟨hlt, e0⟩ := Wn.runLen_yes hb (by decide)
      have hd := Wn.digit_hd hb
      generalize hc : Wn.hd (Wn.sfx s k) = c at *
      obtain ⟨hd1, hd2⟩ := hd
      have E0 := Lib.hid e0; clear e0
      have E1 := Lib.hid e1; clear e1
      have HB := Lib.hid hb; clear hb
      have HC := Lib.hid hc; clear hc
      go_wp2_with fail
      go_quiet ((go_at_call 142; exact quiet_left (isDigit_i s k _ true _ hs (by omega) rfl HB.out)))
      go_wp2_with fail
      refine region_tail 13 (by kernel_rfl) (by kernel_rfl) ?_
      simp only [List.take_succ_cons, List.take_zero, List.drop_succ_cons, List.drop_zero]
      repeat still_step
      still_call ((byteAt_i s k _ c _ hs (by omega) rfl HC.out).mono fun e w' h => ⟨h.1, h.2.symm⟩)
      repeat still_step
      refine wpStill_nil ?_
      go_wp2_with fail
      have hm : (if 999999999 < n * 10 + c - 48 then 999999999 else n * 10 + c - 48) = min (n * 10 + c - 48) 999999999 := by omega
      rw [hm]
      refine ⟨⟨k + 1, _, by omega, by omega, by omega, rfl, ⟨(H1.out.drewN _).set' (by omega), (HO.out.drewN _).setCell rfl _⟩, Lib.hid (by rw [← HK.out, E0.out]; omega), Lib.hid (by rw [← HN.out, E1.out])⟩, ?_⟩
      have d1 := ((H1.out.drewN (nq + 1)).set' (q := k + 1) (v := (k : Int) + 1) (by omega)).cell1
      rw [d1, c1]
      simp [intOf]; omega
end Go.Proofs.YtjlejiphpbaonaaGreatDoor
