/- What the searches of the lexer's text answer: where blanks, names, comments and strings end. Conditions: a string's length, a small place. -/
import Derived.Test.YtnkdppbpcinjhaaDoorTokB
set_option maxRecDepth 20000
namespace Go.Proofs.YtnkdppbpcinjhaaDoor
open Go.RowKit
set_option maxHeartbeats 400000 in
theorem blanksEnd_any (s : ByteArray) (i : Nat) (w : World) (hs : s.size ≤ 4611686018427387000) (hi : i ≤ s.size) :
    Calls Tryd.prog 93 #[.string s, .int .i64 i] w fun e w' => e = .returned (.int .i64 ((i + Wn.runLen Wn.blank (Wn.sfx s i) : Nat) : Int)) ∧ w = w' := by
  have hs' : s.size ≤ maxLen := by unfold maxLen; omega
  generalize hE : i + Wn.runLen Wn.blank (Wn.sfx s i) = E
  have HE := Lib.hid hE; clear hE
  go_enter Tryd.func93, Tryd.ntmps93
  go_wp2_with fail
  go_loop [1] (fun t => ∃ k : Nat, k ≤ s.size ∧ t = .int .i64 k ∧ Hid (k + Wn.runLen Wn.blank (Wn.sfx s k) = E)) (fun t => s.size - (intOf t).toNat)
  case atStart => exact ⟨i, hi, rfl, HE⟩
  case round =>
    obtain ⟨k, hk, rfl, HK⟩ := hrel
    cases hb : Wn.blank (Wn.sfx s k)
    · have h0 := Wn.runLen_no hb
      have H0 := Lib.hid h0; clear h0
      have HB := Lib.hid hb; clear hb
      go_wp2_with (go_at_call 63; (with_reducible refine (isBlank_any _ _ _ hs' (by omega)).mono ?_); rintro e w' ⟨rfl, rfl⟩; rw [HB.out])
      go_ret
      exact ⟨ret_int (by rw [← HK.out, H0.out]; simp), rfl⟩
    · obtain ⟨h1, h2⟩ := Wn.runLen_yes hb (by decide)
      have H2 := Lib.hid h2; clear h2
      have HB := Lib.hid hb; clear hb
      go_wp2_with (go_at_call 63; (with_reducible refine (isBlank_any _ _ _ hs' (by omega)).mono ?_); rintro e w' ⟨rfl, rfl⟩; rw [HB.out])
      go_round
      case rel => exact ⟨k + 1, by omega, by go_num, Lib.hid (by rw [← HK.out, H2.out]; omega)⟩
      case measure => simp [intOf]; omega
set_option maxHeartbeats 400000 in
theorem nameEnd_any (s : ByteArray) (i : Nat) (w : World) (hs : s.size ≤ 4611686018427387000) (hi : i ≤ s.size) :
    Calls Tryd.prog 97 #[.string s, .int .i64 i] w fun e w' => e = .returned (.int .i64 ((i + Wn.runLen Wn.nameByte (Wn.sfx s i) : Nat) : Int)) ∧ w = w' := by
  have hs' : s.size ≤ maxLen := by unfold maxLen; omega
  generalize hE : i + Wn.runLen Wn.nameByte (Wn.sfx s i) = E
  have HE := Lib.hid hE; clear hE
  go_enter Tryd.func97, Tryd.ntmps97
  go_wp2_with fail
  go_loop [1] (fun t => ∃ k : Nat, k ≤ s.size ∧ t = .int .i64 k ∧ Hid (k + Wn.runLen Wn.nameByte (Wn.sfx s k) = E)) (fun t => s.size - (intOf t).toNat)
  case atStart => exact ⟨i, hi, rfl, HE⟩
  case round =>
    obtain ⟨k, hk, rfl, HK⟩ := hrel
    cases hb : Wn.nameByte (Wn.sfx s k)
    · have h0 := Wn.runLen_no hb
      have H0 := Lib.hid h0; clear h0
      have HB := Lib.hid hb; clear hb
      go_wp2_with (go_at_call 68; (with_reducible refine (isNameByte_any _ _ _ hs' (by omega)).mono ?_); rintro e w' ⟨rfl, rfl⟩; rw [HB.out])
      go_ret
      exact ⟨ret_int (by rw [← HK.out, H0.out]; simp), rfl⟩
    · obtain ⟨h1, h2⟩ := Wn.runLen_yes hb (by decide)
      have H2 := Lib.hid h2; clear h2
      have HB := Lib.hid hb; clear hb
      go_wp2_with (go_at_call 68; (with_reducible refine (isNameByte_any _ _ _ hs' (by omega)).mono ?_); rintro e w' ⟨rfl, rfl⟩; rw [HB.out])
      go_round
      case rel => exact ⟨k + 1, by omega, by go_num, Lib.hid (by rw [← HK.out, H2.out]; omega)⟩
      case measure => simp [intOf]; omega
theorem nameEnd_i (s : ByteArray) (i : Nat) (x : Int) (E : Nat) (w : World) (hs : s.size ≤ 4611686018427387000) (hi : i ≤ s.size) (hx : x = i) (hE : i + Wn.runLen Wn.nameByte (Wn.sfx s i) = E) :
    Calls Tryd.prog 97 #[.string s, .int .i64 x] w fun e w' => e = .returned (.int .i64 (E : Int)) ∧ w = w' := by
  subst hx hE; exact nameEnd_any s i w hs hi
set_option maxHeartbeats 400000 in
theorem commentEnd_any (s : ByteArray) (i : Nat) (w : World) (hs : s.size ≤ 4611686018427387000) (hi : i + 2 ≤ s.size) :
    Calls Tryd.prog 91 #[.string s, .int .i64 i] w fun e w' => e = .returned (.int .i64 ((i + 2 + Wn.closeLen (Wn.sfx s (i + 2)) : Nat) : Int)) ∧ w = w' := by
  have hs' : s.size ≤ maxLen := by unfold maxLen; omega
  generalize hE : i + 2 + Wn.closeLen (Wn.sfx s (i + 2)) = E
  have HE := Lib.hid hE; clear hE
  go_enter Tryd.func91, Tryd.ntmps91
  go_wp2_with fail
  go_loop [1] (fun t => ∃ k : Nat, k ≤ s.size ∧ t = .int .i64 k ∧ Hid (k + Wn.closeLen (Wn.sfx s k) = E)) (fun t => s.size - (intOf t).toNat)
  case atStart => exact ⟨i + 2, hi, by go_num, HE⟩
  case round =>
    obtain ⟨k, hk, rfl, HK⟩ := hrel
    by_cases hlt : k < s.size
    · cases hb : (Wn.hd (Wn.sfx s k) == 42 && Wn.hd (Wn.sfx s (k + 1)) == 47)
      · have h2 := Wn.closeLen_no s k hlt hb
        have H2 := Lib.hid h2; clear h2
        have HB := Lib.hid hb; clear hb
        go_wp2_with (first | (go_at_call 67; (with_reducible refine (byteAt_any _ _ _ hs' (by omega)).mono ?_); rintro e w' ⟨rfl, rfl⟩) | (go_at_call 67; (with_reducible refine (byteAt1 _ _ _ hs' (by omega)).mono ?_); rintro e w' ⟨rfl, rfl⟩))
        all_goals first
          | (exfalso; have := HB.out; simp_all; done)
          | (go_round
             case rel => exact ⟨k + 1, by omega, by go_num, Lib.hid (by rw [← HK.out, H2.out]; omega)⟩
             case measure => simp [intOf]; omega)
      · have h2 := Wn.closeLen_yes s k hlt hb
        have H2 := Lib.hid h2; clear h2
        have HB := Lib.hid hb; clear hb
        go_wp2_with (first | (go_at_call 67; (with_reducible refine (byteAt_any _ _ _ hs' (by omega)).mono ?_); rintro e w' ⟨rfl, rfl⟩) | (go_at_call 67; (with_reducible refine (byteAt1 _ _ _ hs' (by omega)).mono ?_); rintro e w' ⟨rfl, rfl⟩))
        all_goals first
          | (exfalso; have := HB.out; simp_all; done)
          | (go_ret; exact ⟨ret_int (by rw [← HK.out, H2.out]; omega), rfl⟩)
    · have h2 := Wn.closeLen_out s k (by omega)
      have H2 := Lib.hid h2; clear h2
      go_wp2_with fail
      go_ret
      exact ⟨ret_int (by rw [← HK.out, H2.out]; omega), rfl⟩
set_option maxHeartbeats 400000 in
theorem secondQuote_any (s : ByteArray) (i : Nat) (w : World) (hs : s.size ≤ 4611686018427387000) (hi : i ≤ s.size) :
    Calls Tryd.prog 65 #[.string s, .int .i64 i] w fun e w' => e = .returned (.int .i64 (Wn.place (i + 1) (Wn.strLen (Wn.sfx s i)))) ∧ ∃ n, w' = w.drewN n := by
  have hs' : s.size ≤ maxLen := by unfold maxLen; omega
  cases hq : Wn.quote (Wn.sfx s i)
  · have e : Wn.place (i + 1) (Wn.strLen (Wn.sfx s i)) = -1 := by unfold Wn.strLen; rw [hq]; rfl
    have E := Lib.hid e; clear e
    have HQ := Lib.hid hq; clear hq
    go_enter Tryd.func65, Tryd.ntmps65
    go_wp2_with (go_at_call 94; (with_reducible refine (isQuote_any _ _ _ hs' (by omega)).mono ?_); rintro e w' ⟨rfl, rfl⟩; rw [HQ.out])
    go_ret
    exact ⟨ret_int E.out.symm, 0, rfl⟩
  · have hlt : i < s.size := by
      by_cases h : i < s.size
      · exact h
      · rw [Wn.sfx_out s i (by omega)] at hq; cases hq
    have e : Wn.strLen (Wn.sfx s i) = Wn.quoteLen (Wn.hd (Wn.sfx s i)) (Wn.sfx s (i + 1)) := by unfold Wn.strLen; rw [hq, Wn.sfx_drop]; rfl
    have E := Lib.hid e; clear e
    have HQ := Lib.hid hq; clear hq
    generalize hP : Wn.place (i + 1) (Wn.strLen (Wn.sfx s i)) = E1
    rw [E.out] at hP
    have HP := Lib.hid hP; clear hP
    go_enter Tryd.func65, Tryd.ntmps65
    go_wp2_with (go_at_call 94; (with_reducible refine (isQuote_any _ _ _ hs' (by omega)).mono ?_); rintro e w' ⟨rfl, rfl⟩; rw [HQ.out])
    go_loopw [5] (fun t wr => ∃ (k : Nat) (n : Nat), i + 1 ≤ k ∧ k ≤ s.size ∧ t = .int .i64 k ∧ wr = w.drewN n ∧ Hid (Wn.place k (Wn.quoteLen (Wn.hd (Wn.sfx s i)) (Wn.sfx s k)) = E1)) (fun t _ => s.size - (intOf t).toNat)
    case atStart => exact ⟨i + 1, 0, by omega, by omega, by go_num, rfl, HP⟩
    case round =>
      obtain ⟨k, n, hk1, hk, rfl, rfl, HK⟩ := hrel
      by_cases hlk : k < s.size
      · cases hb : Wn.lineEnd (Wn.sfx s k)
        · have HB := Lib.hid hb
          cases hc : (Wn.hd (Wn.sfx s k) == Wn.hd (Wn.sfx s i))
          · have h2 := Wn.quoteLen_no _ s k hlk hb hc
            have H2 := Lib.hid h2; clear h2
            rw [Wn.hd_in s k hlk, Wn.hd_in s i hlt] at hc
            clear hb
            go_wp2_with (go_at_call 92; (with_reducible refine (isLineEnd_any _ _ _ hs' (by omega)).mono ?_); rintro e w' ⟨rfl, rfl⟩; rw [HB.out])
            go_quiet (fail)
            go_wp2_with fail
            exact ⟨⟨k + 1, n + nq, by omega, by omega, by go_num, rfl, Lib.hid (by rw [← HK.out, H2.out, Wn.place_succ])⟩, by simp [intOf]; omega⟩
          · have h2 := Wn.quoteLen_yes _ s k hlk hb hc
            have H2 := Lib.hid h2; clear h2
            rw [Wn.hd_in s k hlk, Wn.hd_in s i hlt] at hc
            clear hb
            go_wp2_with (go_at_call 92; (with_reducible refine (isLineEnd_any _ _ _ hs' (by omega)).mono ?_); rintro e w' ⟨rfl, rfl⟩; rw [HB.out])
            go_quiet (fail)
            go_wp2_with fail
            go_ret
            exact ⟨ret_int (by rw [← HK.out, H2.out]; rfl), n + nq, World.drewN_drewN ..⟩
        · have h2 := Wn.quoteLen_line (Wn.hd (Wn.sfx s i)) s k hlk hb
          have H2 := Lib.hid h2; clear h2
          have HB := Lib.hid hb; clear hb
          go_wp2_with (go_at_call 92; (with_reducible refine (isLineEnd_any _ _ _ hs' (by omega)).mono ?_); rintro e w' ⟨rfl, rfl⟩; rw [HB.out])
          go_ret
          exact ⟨ret_int (by rw [← HK.out, H2.out]; rfl), n, rfl⟩
      · have h2 := Wn.quoteLen_out (Wn.hd (Wn.sfx s i)) s k (by omega)
        have H2 := Lib.hid h2; clear h2
        go_wp2_with fail
        go_ret
        exact ⟨ret_int (by rw [← HK.out, H2.out]; rfl), n, rfl⟩
/- the same, with the place and the answer as the caller has them -/
theorem byteAt_i (s : ByteArray) (i : Nat) (x v : Int) (w : World) (hs : s.size ≤ 4611686018427387000) (hi : i ≤ s.size + 2) (hx : x = i) (hv : Wn.hd (Wn.sfx s i) = v) :
    Calls Tryd.prog 67 #[.string s, .int .i64 x] w fun e w' => e = .returned (.int .i64 v) ∧ w = w' := by
  subst hx hv; exact byteAt_any s i w (by unfold maxLen; omega) (by omega)
theorem isLineEnd_i (s : ByteArray) (i : Nat) (x : Int) (c : Bool) (w : World) (hs : s.size ≤ 4611686018427387000) (hi : i ≤ s.size + 2) (hx : x = i) (hc : Wn.lineEnd (Wn.sfx s i) = c) :
    Calls Tryd.prog 92 #[.string s, .int .i64 x] w fun e w' => e = .returned (.bool c) ∧ w = w' := by
  subst hx hc; exact isLineEnd_any s i w (by unfold maxLen; omega) (by omega)
theorem isBlank_i (s : ByteArray) (i : Nat) (x : Int) (c : Bool) (w : World) (hs : s.size ≤ 4611686018427387000) (hi : i ≤ s.size + 2) (hx : x = i) (hc : Wn.blank (Wn.sfx s i) = c) :
    Calls Tryd.prog 63 #[.string s, .int .i64 x] w fun e w' => e = .returned (.bool c) ∧ w = w' := by
  subst hx hc; exact isBlank_any s i w (by unfold maxLen; omega) (by omega)
theorem isDigit_i (s : ByteArray) (i : Nat) (x : Int) (c : Bool) (w : World) (hs : s.size ≤ 4611686018427387000) (hi : i ≤ s.size + 2) (hx : x = i) (hc : Wn.digit (Wn.sfx s i) = c) :
    Calls Tryd.prog 96 #[.string s, .int .i64 x] w fun e w' => e = .returned (.bool c) ∧ w = w' := by
  subst hx hc; exact isDigit_any s i w (by unfold maxLen; omega) (by omega)
theorem isNameStart_i (s : ByteArray) (i : Nat) (x : Int) (c : Bool) (w : World) (hs : s.size ≤ 4611686018427387000) (hi : i ≤ s.size + 2) (hx : x = i) (hc : Wn.nameStart (Wn.sfx s i) = c) :
    Calls Tryd.prog 95 #[.string s, .int .i64 x] w fun e w' => e = .returned (.bool c) ∧ w = w' := by
  subst hx hc; exact isNameStart_any s i w (by unfold maxLen; omega) (by omega)
theorem isNameByte_i (s : ByteArray) (i : Nat) (x : Int) (c : Bool) (w : World) (hs : s.size ≤ 4611686018427387000) (hi : i ≤ s.size + 2) (hx : x = i) (hc : Wn.nameByte (Wn.sfx s i) = c) :
    Calls Tryd.prog 68 #[.string s, .int .i64 x] w fun e w' => e = .returned (.bool c) ∧ w = w' := by
  subst hx hc; exact isNameByte_any s i w (by unfold maxLen; omega) (by omega)
theorem isQuote_i (s : ByteArray) (i : Nat) (x : Int) (c : Bool) (w : World) (hs : s.size ≤ 4611686018427387000) (hi : i ≤ s.size + 2) (hx : x = i) (hc : Wn.quote (Wn.sfx s i) = c) :
    Calls Tryd.prog 94 #[.string s, .int .i64 x] w fun e w' => e = .returned (.bool c) ∧ w = w' := by
  subst hx hc; exact isQuote_any s i w (by unfold maxLen; omega) (by omega)
theorem commentBegins_i (s : ByteArray) (i : Nat) (x : Int) (c : Bool) (w : World) (hs : s.size ≤ 4611686018427387000) (hi : i ≤ s.size + 2) (hx : x = i) (hc : Wn.commentBegins (Wn.sfx s i) = c) :
    Calls Tryd.prog 90 #[.string s, .int .i64 x] w fun e w' => e = .returned (.bool c) ∧ w = w' := by
  subst hx hc; exact commentBegins_any s i w (by unfold maxLen; omega) (by omega)
theorem nameBegins_i (s : ByteArray) (i : Nat) (x : Int) (c : Bool) (w : World) (hs : s.size ≤ 4611686018427387000) (hi : i ≤ s.size + 2) (hx : x = i) (hc : Wn.nameBegins (Wn.sfx s i) = c) :
    Calls Tryd.prog 70 #[.string s, .int .i64 x] w fun e w' => e = .returned (.bool c) ∧ w = w' := by
  subst hx hc; exact nameBegins_any s i w (by unfold maxLen; omega) (by omega)
theorem numberBegins_i (s : ByteArray) (i : Nat) (x : Int) (c : Bool) (w : World) (hs : s.size ≤ 4611686018427387000) (hi : i ≤ s.size + 2) (hx : x = i) (hc : Wn.numberBegins (Wn.sfx s i) = c) :
    Calls Tryd.prog 71 #[.string s, .int .i64 x] w fun e w' => e = .returned (.bool c) ∧ w = w' := by
  subst hx hc; exact numberBegins_any s i w (by unfold maxLen; omega) (by omega)
theorem blanksEnd_i (s : ByteArray) (i : Nat) (x : Int) (E : Nat) (w : World) (hs : s.size ≤ 4611686018427387000) (hi : i ≤ s.size) (hx : x = i) (hE : i + Wn.runLen Wn.blank (Wn.sfx s i) = E) :
    Calls Tryd.prog 93 #[.string s, .int .i64 x] w fun e w' => e = .returned (.int .i64 (E : Int)) ∧ w = w' := by
  subst hx hE; exact blanksEnd_any s i w hs hi
theorem commentEnd_i (s : ByteArray) (i : Nat) (x : Int) (E : Nat) (w : World) (hs : s.size ≤ 4611686018427387000) (hi : i + 2 ≤ s.size) (hx : x = i) (hE : i + 2 + Wn.closeLen (Wn.sfx s (i + 2)) = E) :
    Calls Tryd.prog 91 #[.string s, .int .i64 x] w fun e w' => e = .returned (.int .i64 (E : Int)) ∧ w = w' := by
  subst hx hE; exact commentEnd_any s i w hs hi
theorem secondQuote_i (s : ByteArray) (i : Nat) (x v : Int) (w : World) (hs : s.size ≤ 4611686018427387000) (hi : i ≤ s.size) (hx : x = i) (hv : Wn.place (i + 1) (Wn.strLen (Wn.sfx s i)) = v) :
    Calls Tryd.prog 65 #[.string s, .int .i64 x] w fun e w' => e = .returned (.int .i64 v) ∧ ∃ n, w' = w.drewN n := by
  subst hx hv; exact secondQuote_any s i w hs hi
end Go.Proofs.YtnkdppbpcinjhaaDoor
