/- The verifier's second writing: where a name begins, where names and comments end. -/
import Derived.Test.YtnkdppbpcinjhaaDoorRefA
set_option maxRecDepth 20000
namespace Go.Proofs.YtnkdppbpcinjhaaDoor
open Go.RowKit
set_option maxHeartbeats 1000000 in
theorem Begins_any (s : ByteArray) (i : Nat) (x : Int) (r : Bool) (w : World) (hs : s.size ≤ maxLen) (hi : i ≤ 4611686018427387903) (hx : x = (i : Int)) (hr : Wn.nameBegins (Wn.sfx s i) = r) :
    Calls Tryd.prog 79 #[.string s, .int .i64 x] w fun e w' => e = .returned (.bool r) ∧ w = w' := by
  subst hx
  have e1 := Wn.cls_one (Wn.sfx s i)
  have e3 := Wn.cls_three (Wn.sfx s i)
  have f1 := Wn.cls_one (Wn.sfx s (i + 1))
  have f3 := Wn.cls_three (Wn.sfx s (i + 1))
  have hd45 : Wn.hd (Wn.sfx s i) = 45 → Wn.nameStart (Wn.sfx s i) = false := by
    intro h; unfold Wn.nameStart; rw [h]; rfl
  unfold Wn.nameBegins at hr
  rw [Wn.sfx_drop] at hr
  have q0 := fun w => at_any s i (i : Int) _ w hs (by omega) rfl rfl
  have q1 := fun x w hx => at_any s (i + 1) x _ w hs (by omega) hx rfl
  generalize Wn.cls (Wn.sfx s i) = a at *
  generalize Wn.cls (Wn.sfx s (i + 1)) = b at *
  generalize Wn.nameStart (Wn.sfx s i) = n0 at *
  generalize Wn.nameStart (Wn.sfx s (i + 1)) = n1 at *
  generalize (Wn.hd (Wn.sfx s (i + 1)) == 45) = m1 at *
  have hR : (a == 1 || a == 3 && (b == 1 || b == 3)) = r := by
    rw [e1, e3, f1, f3, ← hr]
    by_cases h : Wn.hd (Wn.sfx s i) = 45
    · rw [hd45 h]; simp [h]
    · simp [h]
  have HR := Lib.hid hR
  have Q0 := Lib.hid q0
  have Q1 := Lib.hid q1
  clear hR q0 q1 e1 e3 f1 f3 hd45 hr
  go_enter Tryd.func79, Tryd.ntmps79
  go_wp2_with (first | (go_at_call 76; (with_reducible refine (Q0.out _).mono ?_); rintro e w' ⟨rfl, rfl⟩) | (go_at_call 76; (refine (Q1.out _ _ ?_).mono ?_); (simp <;> omega); rintro e w' ⟨rfl, rfl⟩))
  all_goals
    go_ret
    refine ⟨ret_bool ?_, rfl⟩
    rw [← HR.out]
    first | (simp [*]; done) | (rw [Bool.eq_iff_iff]; simp; omega)
set_option maxHeartbeats 1000000 in
theorem names_any (s : ByteArray) (i : Nat) (x : Int) (r : Int) (w : World) (hs : s.size ≤ 4611686018427387000) (hi : i ≤ s.size) (hx : x = (i : Int)) (hr : ((i + Wn.runLen Wn.nameByte (Wn.sfx s i) : Nat) : Int) = r) :
    Calls Tryd.prog 78 #[.string s, .int .i64 x] w fun e w' => e = .returned (.int .i64 r) ∧ w = w' := by
  subst hx
  have hs' : s.size ≤ maxLen := by unfold maxLen; omega
  have HR := Lib.hid hr; clear hr
  go_enter Tryd.func78, Tryd.ntmps78
  go_wp2_with fail
  go_loop [1] (fun v => ∃ k : Nat, k ≤ s.size ∧ v = .int .i64 (k : Int) ∧ Hid (((k + Wn.runLen Wn.nameByte (Wn.sfx s k) : Nat) : Int) = r)) (fun v => s.size - (intOf v).toNat)
  case atStart => exact ⟨i, hi, rfl, HR⟩
  case round =>
    obtain ⟨k, hk, rfl, HK⟩ := hrel
    have hc := Wn.cls_name (Wn.sfx s k)
    have q0 := fun w => at_any s k (k : Int) _ w hs' (by omega) rfl rfl
    generalize Wn.cls (Wn.sfx s k) = a at *
    have Q0 := Lib.hid q0; clear q0
    cases hn : Wn.nameByte (Wn.sfx s k)
    · have h0 : Wn.runLen Wn.nameByte (Wn.sfx s k) = 0 := Wn.runLen_no hn
      have hK : (k : Int) = r := by rw [← HK.out, h0]; simp
      have HK2 := Lib.hid hK
      rw [hn] at hc
      have hc' : ¬ (1 ≤ a ∧ a ≤ 3) := by simpa using hc
      clear hc hK h0 hn
      by_cases h1 : 1 ≤ a
      · have h3 : ¬ a ≤ 3 := fun h => hc' ⟨h1, h⟩
        clear hc'
        go_wp2_with (go_at_call 76; (with_reducible refine (Q0.out _).mono ?_); rintro e w' ⟨rfl, rfl⟩)
        go_ret
        exact ⟨ret_int HK2.out, rfl⟩
      · clear hc'
        go_wp2_with (go_at_call 76; (with_reducible refine (Q0.out _).mono ?_); rintro e w' ⟨rfl, rfl⟩)
        go_ret
        exact ⟨ret_int HK2.out, rfl⟩
    · have hlt : k < s.size := by
        apply Classical.byContradiction; intro h
        rw [Wn.sfx_out s k (by omega)] at hn; exact absurd hn (by decide)
      have h0 := Wn.runLen_yes hn (by decide)
      have HK2 : Hid (((k + 1 + Wn.runLen Wn.nameByte (Wn.sfx s (k + 1)) : Nat) : Int) = r) := Lib.hid (by rw [← HK.out, h0.2]; congr 1; omega)
      rw [hn] at hc
      obtain ⟨h1, h3⟩ : 1 ≤ a ∧ a ≤ 3 := by simpa using hc
      clear hc h0 hn
      go_wp2_with (go_at_call 76; (with_reducible refine (Q0.out _).mono ?_); rintro e w' ⟨rfl, rfl⟩)
      go_round
      case rel => exact ⟨k + 1, by omega, by go_num, HK2⟩
      case measure => simp [intOf]; omega
set_option maxHeartbeats 1000000 in
theorem comment_any (s : ByteArray) (i : Nat) (x : Int) (r : Int) (w : World) (hs : s.size ≤ 4611686018427387000) (hi : i + 2 ≤ s.size) (hx : x = (i : Int)) (hr : ((i + 2 + Wn.closeLen (Wn.sfx s (i + 2)) : Nat) : Int) = r) :
    Calls Tryd.prog 75 #[.string s, .int .i64 x] w fun e w' => e = .returned (.int .i64 r) ∧ w = w' := by
  subst hx
  have HR := Lib.hid hr; clear hr
  go_enter Tryd.func75, Tryd.ntmps75
  go_wp2_with fail
  go_loop [5] (fun v => ∃ k : Nat, k ≤ s.size ∧ v = .int .i64 (k : Int) ∧ Hid (((k + Wn.closeLen (Wn.sfx s k) : Nat) : Int) = r)) (fun v => s.size - (intOf v).toNat)
  case atStart => exact ⟨i + 2, hi, by go_num, HR⟩
  case round =>
    obtain ⟨k, hk, rfl, HK⟩ := hrel
    by_cases hlt : k + 1 < s.size
    · have hk1 : k < s.size := by omega
      have e1 := Wn.hd_in s k hk1
      have e2 := Wn.hd_in s (k + 1) hlt
      cases hb : (Wn.hd (Wn.sfx s k) == 42 && Wn.hd (Wn.sfx s (k + 1)) == 47)
      · have h2 := Wn.closeLen_no s k hk1 hb
        have HK2 : Hid (((k + 1 + Wn.closeLen (Wn.sfx s (k + 1)) : Nat) : Int) = r) := Lib.hid (by rw [← HK.out, h2]; congr 1; omega)
        rw [e1, e2] at hb
        clear h2 e1 e2
        by_cases h42 : ((s[k].toNat : Int) == 42) = true
        · have h47 : ((s[k + 1].toNat : Int) == 47) = false := by rw [h42] at hb; simpa using hb
          clear hb
          go_wp2_with fail
          go_round
          case rel => exact ⟨k + 1, by omega, by go_num, HK2⟩
          case measure => simp [intOf]; omega
        · have h42' : ((s[k].toNat : Int) == 42) = false := by simpa using h42
          clear hb h42
          go_wp2_with fail
          go_round
          case rel => exact ⟨k + 1, by omega, by go_num, HK2⟩
          case measure => simp [intOf]; omega
      · have h2 := Wn.closeLen_yes s k hk1 hb
        have HK2 : Hid (((k + 2 : Nat) : Int) = r) := Lib.hid (by rw [← HK.out, h2])
        rw [e1, e2, Bool.and_eq_true] at hb
        obtain ⟨h42, h47⟩ := hb
        clear h2 e1 e2
        go_wp2_with fail
        go_ret
        exact ⟨ret_int (by rw [← HK2.out]; simp), rfl⟩
    · have h2 : k + Wn.closeLen (Wn.sfx s k) = s.size := by
        by_cases h : k = s.size
        · rw [Wn.closeLen_out s k (by omega)]; omega
        · rw [Wn.closeLen_no s k (by omega) (by rw [Wn.hd_out s (k + 1) (by omega)]; simp), Wn.closeLen_out s (k + 1) (by omega)]; omega
      have HK2 : Hid ((s.size : Int) = r) := Lib.hid (by rw [← HK.out, h2])
      clear h2
      go_wp2_with fail
      go_ret
      exact ⟨ret_int HK2.out, rfl⟩
end Go.Proofs.YtnkdppbpcinjhaaDoor
