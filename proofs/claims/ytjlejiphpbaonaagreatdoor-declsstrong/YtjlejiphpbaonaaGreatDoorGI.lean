/- The verifier's second writing: the class of a byte, where names end. The verifier's second writing: where a name begins, where names and comments end. The verifier's second writing: where a string has its second sign. -/
import Derived.Test.YtjlejiphpbaonaaGreatDoorGG
set_option maxRecDepth 20000
namespace Wn
/-- the class of a byte -/
def clsC (c : Int) : Int :=
  if (65 ≤ c ∧ c ≤ 90) ∨ (97 ≤ c ∧ c ≤ 122) ∨ c = 95 ∨ 128 ≤ c then 1 else if 48 ≤ c ∧ c ≤ 57 then 2 else if c = 45 then 3 else if c = 32 ∨ c = 9 ∨ c = 10 ∨ c = 12 ∨ c = 13 then 4 else 0
/-- the class of the byte at the head; -1: there is none -/
def cls (l : List UInt8) : Int := if hd l = -1 then -1 else clsC (hd l)
theorem cls_one (l : List UInt8) : (cls l == 1) = nameStart l := by
  have h1 := hd_ge l; have h2 := hd_le l
  unfold cls clsC nameStart
  generalize hd l = c at *
  rw [Bool.eq_iff_iff]
  simp only [beq_iff_eq, Bool.or_eq_true, Bool.and_eq_true, decide_eq_true_eq]
  (repeat' split) <;> omega
theorem cls_two (l : List UInt8) : (cls l == 2) = digit l := by
  have h1 := hd_ge l; have h2 := hd_le l
  unfold cls clsC digit
  generalize hd l = c at *
  rw [Bool.eq_iff_iff]
  simp only [beq_iff_eq, Bool.and_eq_true, decide_eq_true_eq]
  (repeat' split) <;> omega
theorem cls_three (l : List UInt8) : (cls l == 3) = (hd l == 45) := by
  have h1 := hd_ge l; have h2 := hd_le l
  unfold cls clsC
  generalize hd l = c at *
  rw [Bool.eq_iff_iff]
  simp only [beq_iff_eq]
  (repeat' split) <;> omega
theorem cls_four (l : List UInt8) : (cls l == 4) = blank l := by
  have h1 := hd_ge l; have h2 := hd_le l
  unfold cls clsC blank lineEnd
  generalize hd l = c at *
  rw [Bool.eq_iff_iff]
  simp only [beq_iff_eq, Bool.or_eq_true]
  (repeat' split) <;> omega
theorem cls_name (l : List UInt8) : (decide (1 ≤ cls l) && decide (cls l ≤ 3)) = nameByte l := by
  have h1 := hd_ge l; have h2 := hd_le l
  unfold cls clsC nameByte nameStart digit
  generalize hd l = c at *
  rw [Bool.eq_iff_iff]
  simp only [beq_iff_eq, Bool.or_eq_true, Bool.and_eq_true, decide_eq_true_eq]
  (repeat' split) <;> omega
end Wn
namespace Go.Proofs.YtjlejiphpbaonaaGreatDoor
open Go.RowKit
set_option maxHeartbeats 1000000 in
theorem class_any (c : Int) (w : World) (h0 : 0 ≤ c) (h1 : c ≤ 255) :
    Calls Tryz.prog 116 #[.int .u8 c] w fun e w' => e = .returned (.int .i64 (Wn.clsC c)) ∧ w = w' := by
  go_enter Tryz.func116, Tryz.ntmps116
  go_wp2
  all_goals
    go_ret
    refine ⟨ret_int ?_, rfl⟩
    unfold Wn.clsC
    first | (simp [*]; done) | (simp only [beq_iff_eq, beq_eq_false_iff_ne, ne_eq] at *; (repeat' split) <;> omega) | ((repeat' split) <;> omega)
theorem class_r (c r : Int) (w : World) (h0 : 0 ≤ c) (h1 : c ≤ 255) (hr : Wn.clsC c = r) :
    Calls Tryz.prog 116 #[.int .u8 c] w fun e w' => e = .returned (.int .i64 r) ∧ w = w' := by subst hr; exact class_any c w h0 h1
theorem at_any (s : ByteArray) (i : Nat) (x : Int) (r : Int) (w : World) (_hs : s.size ≤ maxLen) (_hi : i ≤ 4611686018427387904) (hx : x = (i : Int)) (hr : Wn.cls (Wn.sfx s i) = r) :
    Calls Tryz.prog 97 #[.string s, .int .i64 x] w fun e w' => e = .returned (.int .i64 r) ∧ w = w' := by
  subst hx
  have hs := _hs
  unfold maxLen at hs
  by_cases h : i < s.size
  · have hc : Wn.clsC (s[i].toNat : Int) = r := by
      rw [← hr]; unfold Wn.cls; rw [Wn.hd_in s i h, if_neg (by omega)]
    have HC := Lib.hid hc
    clear hr hc
    go_enter Tryz.func97, Tryz.ntmps97
    go_wp2_with (go_at_call 116; refine (class_r _ r _ (by omega) (by have := s[i].toNat_lt; omega) HC.out).mono ?_; rintro e w' ⟨rfl, rfl⟩)
    go_ret
    exact ⟨rfl, rfl⟩
  · have hc : -1 = r := by rw [← hr]; unfold Wn.cls; rw [Wn.hd_out s i (by omega)]; rfl
    have HC := Lib.hid hc
    clear hr hc
    go_enter Tryz.func97, Tryz.ntmps97
    go_wp2
    go_ret
    exact ⟨ret_int HC.out, rfl⟩
end Go.Proofs.YtjlejiphpbaonaaGreatDoor
set_option maxRecDepth 20000
namespace Go.Proofs.YtjlejiphpbaonaaGreatDoor
open Go.RowKit
set_option maxHeartbeats 1000000 in
theorem Begins_any (s : ByteArray) (i : Nat) (x : Int) (r : Bool) (w : World) (hs : s.size ≤ maxLen) (hi : i ≤ 4611686018427387903) (hx : x = (i : Int)) (hr : Wn.nameBegins (Wn.sfx s i) = r) :
    Calls Tryz.prog 100 #[.string s, .int .i64 x] w fun e w' => e = .returned (.bool r) ∧ w = w' := by
  subst hx
  have e1 := Wn.cls_one (Wn.sfx s i)
  have e3 := Wn.cls_three (Wn.sfx s i)
  have f1 := Wn.cls_one (Wn.sfx s (i + 1))
  have f3 := Wn.cls_three (Wn.sfx s (i + 1))
  have hd45 : Wn.hd (Wn.sfx s i) = 45 → Wn.nameStart (Wn.sfx s i) = false := by
    intro h; unfold Wn.nameStart; rw [h]; rfl
  unfold Wn.nameBegins at hr
  rw [Wn.sfx_drop] at hr
  have q0 := fun w => at_any s i (i : Int) _ w hs (by omega) rfl rfl
  have q1 := fun x w hx => at_any s (i + 1) x _ w hs (by omega) hx rfl
  generalize Wn.cls (Wn.sfx s i) = a at *
  generalize Wn.cls (Wn.sfx s (i + 1)) = b at *
  generalize Wn.nameStart (Wn.sfx s i) = n0 at *
  generalize Wn.nameStart (Wn.sfx s (i + 1)) = n1 at *
  generalize (Wn.hd (Wn.sfx s (i + 1)) == 45) = m1 at *
  have hR : (a == 1 || a == 3 && (b == 1 || b == 3)) = r := by
    rw [e1, e3, f1, f3, ← hr]
    by_cases h : Wn.hd (Wn.sfx s i) = 45
    · rw [hd45 h]; simp [h]
    · simp [h]
  have HR := Lib.hid hR
  have Q0 := Lib.hid q0
  have Q1 := Lib.hid q1
  clear hR q0 q1 e1 e3 f1 f3 hd45 hr
  go_enter Tryz.func100, Tryz.ntmps100
  go_wp2_with (first | (go_at_call 97; (with_reducible refine (Q0.out _).mono ?_); rintro e w' ⟨rfl, rfl⟩) | (go_at_call 97; (refine (Q1.out _ _ ?_).mono ?_); (simp <;> omega); rintro e w' ⟨rfl, rfl⟩))
  all_goals
    go_ret
    refine ⟨ret_bool ?_, rfl⟩
    rw [← HR.out]
    first | (simp [*]; done) | (rw [Bool.eq_iff_iff]; simp; omega)
set_option maxHeartbeats 1000000 in
theorem names_any (s : ByteArray) (i : Nat) (x : Int) (r : Int) (w : World) (hs : s.size ≤ 4611686018427387000) (hi : i ≤ s.size) (hx : x = (i : Int)) (hr : ((i + Wn.runLen Wn.nameByte (Wn.sfx s i) : Nat) : Int) = r) :
    Calls Tryz.prog 99 #[.string s, .int .i64 x] w fun e w' => e = .returned (.int .i64 r) ∧ w = w' := by
  subst hx
  have hs' : s.size ≤ maxLen := by unfold maxLen; omega
  have HR := Lib.hid hr; clear hr
  go_enter Tryz.func99, Tryz.ntmps99
  go_wp2_with fail
  go_loop [1] (fun v => ∃ k : Nat, k ≤ s.size ∧ v = .int .i64 (k : Int) ∧ Hid (((k + Wn.runLen Wn.nameByte (Wn.sfx s k) : Nat) : Int) = r)) (fun v => s.size - (intOf v).toNat)
  case atStart => exact ⟨i, hi, rfl, HR⟩
  case round =>
    obtain ⟨k, hk, rfl, HK⟩ := hrel
    have hc := Wn.cls_name (Wn.sfx s k)
    have q0 := fun w => at_any s k (k : Int) _ w hs' (by omega) rfl rfl
    generalize Wn.cls (Wn.sfx s k) = a at *
    have Q0 := Lib.hid q0; clear q0
    cases hn : Wn.nameByte (Wn.sfx s k)
    · have h0 : Wn.runLen Wn.nameByte (Wn.sfx s k) = 0 := Wn.runLen_no hn
      have hK : (k : Int) = r := by rw [← HK.out, h0]; simp
      have HK2 := Lib.hid hK
      rw [hn] at hc
      have hc' : ¬ (1 ≤ a ∧ a ≤ 3) := by simpa using hc
      clear hc hK h0 hn
      by_cases h1 : 1 ≤ a
      · have h3 : ¬ a ≤ 3 := fun h => hc' ⟨h1, h⟩
        clear hc'
        go_wp2_with (go_at_call 97; (with_reducible refine (Q0.out _).mono ?_); rintro e w' ⟨rfl, rfl⟩)
        go_ret
        exact ⟨ret_int HK2.out, rfl⟩
      · clear hc'
        go_wp2_with (go_at_call 97; (with_reducible refine (Q0.out _).mono ?_); rintro e w' ⟨rfl, rfl⟩)
        go_ret
        exact ⟨ret_int HK2.out, rfl⟩
    · have hlt : k < s.size := by
        apply Classical.byContradiction; intro h
        rw [Wn.sfx_out s k (by omega)] at hn; exact absurd hn (by decide)
      have h0 := Wn.runLen_yes hn (by decide)
      have HK2 : Hid (((k + 1 + Wn.runLen Wn.nameByte (Wn.sfx s (k + 1)) : Nat) : Int) = r) := Lib.hid (by rw [← HK.out, h0.2]; congr 1; omega)
      rw [hn] at hc
      obtain ⟨h1, h3⟩ : 1 ≤ a ∧ a ≤ 3 := by simpa using hc
      clear hc h0 hn
      go_wp2_with (go_at_call 97; (with_reducible refine (Q0.out _).mono ?_); rintro e w' ⟨rfl, rfl⟩)
      go_round
      case rel => exact ⟨k + 1, by omega, by go_num, HK2⟩
      case measure => simp [intOf]; omega
set_option maxHeartbeats 1000000 in
theorem comment_any (s : ByteArray) (i : Nat) (x : Int) (r : Int) (w : World) (hs : s.size ≤ 4611686018427387000) (hi : i + 2 ≤ s.size) (hx : x = (i : Int)) (hr : ((i + 2 + Wn.closeLen (Wn.sfx s (i + 2)) : Nat) : Int) = r) :
    Calls Tryz.prog 96 #[.string s, .int .i64 x] w fun e w' => e = .returned (.int .i64 r) ∧ w = w' := by
  subst hx
  have HR := Lib.hid hr; clear hr
  go_enter Tryz.func96, Tryz.ntmps96
  go_wp2_with fail
  go_loop [5] (fun v => ∃ k : Nat, k ≤ s.size ∧ v = .int .i64 (k : Int) ∧ Hid (((k + Wn.closeLen (Wn.sfx s k) : Nat) : Int) = r)) (fun v => s.size - (intOf v).toNat)
  case atStart => exact ⟨i + 2, hi, by go_num, HR⟩
  case round =>
    obtain ⟨k, hk, rfl, HK⟩ := hrel
    by_cases hlt : k + 1 < s.size
    · have hk1 : k < s.size := by omega
      have e1 := Wn.hd_in s k hk1
      have e2 := Wn.hd_in s (k + 1) hlt
      cases hb : (Wn.hd (Wn.sfx s k) == 42 && Wn.hd (Wn.sfx s (k + 1)) == 47)
      · have h2 := Wn.closeLen_no s k hk1 hb
        have HK2 : Hid (((k + 1 + Wn.closeLen (Wn.sfx s (k + 1)) : Nat) : Int) = r) := Lib.hid (by rw [← HK.out, h2]; congr 1; omega)
        rw [e1, e2] at hb
        clear h2 e1 e2
        by_cases h42 : ((s[k].toNat : Int) == 42) = true
        · have h47 : ((s[k + 1].toNat : Int) == 47) = false := by rw [h42] at hb; simpa using hb
          clear hb
          go_wp2_with fail
          go_round
          case rel => exact ⟨k + 1, by omega, by go_num, HK2⟩
          case measure => simp [intOf]; omega
        · have h42' : ((s[k].toNat : Int) == 42) = false := by simpa using h42
          clear hb h42
          go_wp2_with fail
          go_round
          case rel => exact ⟨k + 1, by omega, by go_num, HK2⟩
          case measure => simp [intOf]; omega
      · have h2 := Wn.closeLen_yes s k hk1 hb
        have HK2 : Hid (((k + 2 : Nat) : Int) = r) := Lib.hid (by rw [← HK.out, h2])
        rw [e1, e2, Bool.and_eq_true] at hb
        obtain ⟨h42, h47⟩ := hb
        clear h2 e1 e2
        go_wp2_with fail
        go_ret
        exact ⟨ret_int (by rw [← HK2.out]; simp), rfl⟩
    · have h2 : k + Wn.closeLen (Wn.sfx s k) = s.size := by
        by_cases h : k = s.size
        · rw [Wn.closeLen_out s k (by omega)]; omega
        · rw [Wn.closeLen_no s k (by omega) (by rw [Wn.hd_out s (k + 1) (by omega)]; simp), Wn.closeLen_out s (k + 1) (by omega)]; omega
      have HK2 : Hid ((s.size : Int) = r) := Lib.hid (by rw [← HK.out, h2])
      clear h2
      go_wp2_with fail
      go_ret
      exact ⟨ret_int HK2.out, rfl⟩
end Go.Proofs.YtjlejiphpbaonaaGreatDoor
set_option maxRecDepth 20000
namespace Go.Proofs.YtjlejiphpbaonaaGreatDoor
open Go.RowKit
set_option maxHeartbeats 2000000 in
theorem inner_any (s : ByteArray) (i : Nat) (x : Int) (r : Int) (w : World) (hs : s.size ≤ 4611686018427387000) (hi : i < s.size) (hx : x = (i : Int)) (hq : Wn.quote (Wn.sfx s i) = true)
    (hr : Wn.place (i + 1) (Wn.quoteLen (Wn.hd (Wn.sfx s i)) (Wn.sfx s (i + 1))) = r) :
    Calls Tryz.prog 98 #[.string s, .int .i64 x] w fun e w' => e = .returned (.int .i64 r) ∧ ∃ n, w' = w.drewN n := by
  subst hx
  have hqq : (s[i].toNat : Int) = 34 ∨ (s[i].toNat : Int) = 39 := by
    rw [← Wn.hd_in s i hi]; unfold Wn.quote at hq; simpa using hq
  have HQ := Lib.hid hqq
  have HR := Lib.hid hr
  clear hr hq hqq
  go_enter Tryz.func98, Tryz.ntmps98
  go_wp2_with fail
  go_loopw [5] (fun t wr => ∃ (k : Nat) (n : Nat), i + 1 ≤ k ∧ k ≤ s.size ∧ t = .int .i64 k ∧ wr = w.drewN n ∧ Hid (Wn.place k (Wn.quoteLen (Wn.hd (Wn.sfx s i)) (Wn.sfx s k)) = r)) (fun t _ => s.size - (intOf t).toNat)
  case atStart => exact ⟨i + 1, 0, by omega, by omega, by go_num, rfl, HR⟩
  case round =>
    obtain ⟨k, n, hk1, hk, rfl, rfl, HK⟩ := hrel
    by_cases hlk : k < s.size
    · have ek := Wn.hd_in s k hlk
      have ei := Wn.hd_in s i hi
      cases hc : (Wn.hd (Wn.sfx s k) == Wn.hd (Wn.sfx s i))
      · cases hb : Wn.lineEnd (Wn.sfx s k)
        · have h2 := Wn.quoteLen_no _ s k hlk hb hc
          have HK2 : Hid (Wn.place (k + 1) (Wn.quoteLen (Wn.hd (Wn.sfx s i)) (Wn.sfx s (k + 1))) = r) := Lib.hid (by rw [← HK.out, h2, Wn.place_succ])
          rw [ek, ei] at hc
          unfold Wn.lineEnd at hb
          rw [ek] at hb
          simp only [Bool.or_eq_false_iff] at hb
          obtain ⟨⟨h10, h12⟩, h13⟩ := hb
          clear h2 ek ei
          go_wp2_with fail
          go_quiet (fail)
          go_wp2_with fail
          go_round
          case rel => exact ⟨k + 1, _, by omega, by omega, by go_num, (by first | rfl | exact World.drewN_drewN ..), HK2⟩
          case measure => simp [intOf]; omega
        · have h2 := Wn.quoteLen_line (Wn.hd (Wn.sfx s i)) s k hlk hb
          have HK2 : Hid (-1 = r) := Lib.hid (by rw [← HK.out, h2]; rfl)
          rw [ek, ei] at hc
          unfold Wn.lineEnd at hb
          rw [ek] at hb
          clear h2 ek ei
          cases h10 : ((s[k].toNat : Int) == 10)
          · cases h12 : ((s[k].toNat : Int) == 12)
            · have h13 : ((s[k].toNat : Int) == 13) = true := by rw [h10, h12] at hb; simpa using hb
              clear hb
              go_wp2_with fail
              go_quiet (fail)
              go_wp2_with fail
              go_ret
              exact ⟨ret_int HK2.out, _, by first | rfl | exact World.drewN_drewN ..⟩
            · clear hb
              go_wp2_with fail
              go_quiet (fail)
              go_wp2_with fail
              go_ret
              exact ⟨ret_int HK2.out, _, by first | rfl | exact World.drewN_drewN ..⟩
          · clear hb
            go_wp2_with fail
            go_quiet (fail)
            go_wp2_with fail
            go_ret
            exact ⟨ret_int HK2.out, _, by first | rfl | exact World.drewN_drewN ..⟩
      · have hb : Wn.lineEnd (Wn.sfx s k) = false := by
          have e : Wn.hd (Wn.sfx s k) = Wn.hd (Wn.sfx s i) := by simpa using hc
          unfold Wn.lineEnd
          rw [e, ei]
          rcases HQ.out with h | h <;> rw [h] <;> rfl
        have h2 := Wn.quoteLen_yes _ s k hlk hb hc
        have HK2 : Hid ((k : Int) = r) := Lib.hid (by rw [← HK.out, h2]; rfl)
        rw [ek, ei] at hc
        clear h2 ek ei hb
        go_wp2_with fail
        go_quiet (fail)
        go_wp2_with fail
        go_ret
        exact ⟨ret_int HK2.out, _, by first | rfl | exact World.drewN_drewN ..⟩
    · have h2 := Wn.quoteLen_out (Wn.hd (Wn.sfx s i)) s k (by omega)
      have HK2 : Hid (-1 = r) := Lib.hid (by rw [← HK.out, h2]; rfl)
      clear h2
      go_wp2_with fail
      go_ret
      exact ⟨ret_int HK2.out, n, rfl⟩
end Go.Proofs.YtjlejiphpbaonaaGreatDoor
