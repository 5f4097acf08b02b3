/- The verifier's second writing: where a string has its second sign. -/
import Derived.Test.YtnkdppbpcinjhaaDoorRefB
set_option maxRecDepth 20000
namespace Go.Proofs.YtnkdppbpcinjhaaDoor
open Go.RowKit
set_option maxHeartbeats 2000000 in
theorem inner_any (s : ByteArray) (i : Nat) (x : Int) (r : Int) (w : World) (hs : s.size ≤ 4611686018427387000) (hi : i < s.size) (hx : x = (i : Int)) (hq : Wn.quote (Wn.sfx s i) = true)
    (hr : Wn.place (i + 1) (Wn.quoteLen (Wn.hd (Wn.sfx s i)) (Wn.sfx s (i + 1))) = r) :
    Calls Tryd.prog 77 #[.string s, .int .i64 x] w fun e w' => e = .returned (.int .i64 r) ∧ ∃ n, w' = w.drewN n := by
  subst hx
  have hqq : (s[i].toNat : Int) = 34 ∨ (s[i].toNat : Int) = 39 := by
    rw [← Wn.hd_in s i hi]; unfold Wn.quote at hq; simpa using hq
  have HQ := Lib.hid hqq
  have HR := Lib.hid hr
  clear hr hq hqq
  go_enter Tryd.func77, Tryd.ntmps77
  go_wp2_with fail
  go_loopw [5] (fun t wr => ∃ (k : Nat) (n : Nat), i + 1 ≤ k ∧ k ≤ s.size ∧ t = .int .i64 k ∧ wr = w.drewN n ∧ Hid (Wn.place k (Wn.quoteLen (Wn.hd (Wn.sfx s i)) (Wn.sfx s k)) = r)) (fun t _ => s.size - (intOf t).toNat)
  case atStart => exact ⟨i + 1, 0, by omega, by omega, by go_num, rfl, HR⟩
  case round =>
    obtain ⟨k, n, hk1, hk, rfl, rfl, HK⟩ := hrel
    by_cases hlk : k < s.size
    · have ek := Wn.hd_in s k hlk
      have ei := Wn.hd_in s i hi
      cases hc : (Wn.hd (Wn.sfx s k) == Wn.hd (Wn.sfx s i))
      · cases hb : Wn.lineEnd (Wn.sfx s k)
        · have h2 := Wn.quoteLen_no _ s k hlk hb hc
          have HK2 : Hid (Wn.place (k + 1) (Wn.quoteLen (Wn.hd (Wn.sfx s i)) (Wn.sfx s (k + 1))) = r) := Lib.hid (by rw [← HK.out, h2, Wn.place_succ])
          rw [ek, ei] at hc
          unfold Wn.lineEnd at hb
          rw [ek] at hb
          simp only [Bool.or_eq_false_iff] at hb
          obtain ⟨⟨h10, h12⟩, h13⟩ := hb
          clear h2 ek ei
          go_wp2_with fail
          go_quiet (fail)
          go_wp2_with fail
          go_round
          case rel => exact ⟨k + 1, _, by omega, by omega, by go_num, (by first | rfl | exact World.drewN_drewN ..), HK2⟩
          case measure => simp [intOf]; omega
        · have h2 := Wn.quoteLen_line (Wn.hd (Wn.sfx s i)) s k hlk hb
          have HK2 : Hid (-1 = r) := Lib.hid (by rw [← HK.out, h2]; rfl)
          rw [ek, ei] at hc
          unfold Wn.lineEnd at hb
          rw [ek] at hb
          clear h2 ek ei
          cases h10 : ((s[k].toNat : Int) == 10)
          · cases h12 : ((s[k].toNat : Int) == 12)
            · have h13 : ((s[k].toNat : Int) == 13) = true := by rw [h10, h12] at hb; simpa using hb
              clear hb
              go_wp2_with fail
              go_quiet (fail)
              go_wp2_with fail
              go_ret
              exact ⟨ret_int HK2.out, _, by first | rfl | exact World.drewN_drewN ..⟩
            · clear hb
              go_wp2_with fail
              go_quiet (fail)
              go_wp2_with fail
              go_ret
              exact ⟨ret_int HK2.out, _, by first | rfl | exact World.drewN_drewN ..⟩
          · clear hb
            go_wp2_with fail
            go_quiet (fail)
            go_wp2_with fail
            go_ret
            exact ⟨ret_int HK2.out, _, by first | rfl | exact World.drewN_drewN ..⟩
      · have hb : Wn.lineEnd (Wn.sfx s k) = false := by
          have e : Wn.hd (Wn.sfx s k) = Wn.hd (Wn.sfx s i) := by simpa using hc
          unfold Wn.lineEnd
          rw [e, ei]
          rcases HQ.out with h | h <;> rw [h] <;> rfl
        have h2 := Wn.quoteLen_yes _ s k hlk hb hc
        have HK2 : Hid ((k : Int) = r) := Lib.hid (by rw [← HK.out, h2]; rfl)
        rw [ek, ei] at hc
        clear h2 ek ei hb
        go_wp2_with fail
        go_quiet (fail)
        go_wp2_with fail
        go_ret
        exact ⟨ret_int HK2.out, _, by first | rfl | exact World.drewN_drewN ..⟩
    · have h2 := Wn.quoteLen_out (Wn.hd (Wn.sfx s i)) s k (by omega)
      have HK2 : Hid (-1 = r) := Lib.hid (by rw [← HK.out, h2]; rfl)
      clear h2
      go_wp2_with fail
      go_ret
      exact ⟨ret_int HK2.out, n, rfl⟩
end Go.Proofs.YtnkdppbpcinjhaaDoor
