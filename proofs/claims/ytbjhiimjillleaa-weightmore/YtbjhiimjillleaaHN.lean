/- The verifier's second writing of selectors: what Low, Name, few answer. -/
import Derived.Test.YtbjhiimjillleaaHI
import Derived.Test.YtbjhiimjillleaaHD
set_option linter.unusedVariables false
set_option linter.unusedSimpArgs false
set_option maxRecDepth 20000
namespace Go.Proofs.Ytbjhiimjillleaa
open Go.RowKit Go.Sort
set_option maxRecDepth 100000 in
set_option maxHeartbeats 1000000 in
theorem rLow_v (s : List UInt8) (w : World) (hs : s.length ≤ 1048576) :
    Calls Try.prog 52 #[.string (Wn.str s)] w fun e w' => e = .returned (.string (Wn.str (Wn.low s))) ∧ Below w.heap.size w w' := by
  obtain ⟨C, W, hrun, hB, hW, hC⟩ := bytes_of s w
  have HB := Lib.hid hB
  have HW := Lib.hid hW
  have HLN := Lib.hid (Wn.lowTo_length (l := s))
  clear hB hW
  generalize hn : w.heap.size = n at *
  clear hn
  generalize Wn.str s = x at *
  go_enter Try.func52, Try.ntmps52
  go_wp2_with fail
  go_loopw [4] (fun v4 wr => ∃ i : Nat, i ≤ s.length ∧ v4 = .int .i64 (i : Int) ∧ Hid (BAt wr n (Wn.lowTo i s)) ∧ Hid (Below n w wr)) (fun v4 _ => s.length - (intOf v4).toNat)
  case atStart => exact ⟨0, Nat.zero_le _, rfl, Lib.hid (by rw [Wn.lowTo_zero]; exact HB.out), HW⟩
  case round =>
    clear hrun
    obtain ⟨i, hi, rfl, HBi, HWi⟩ := hrel
    by_cases hil : i < s.length
    · have hl' : i < (Wn.lowTo i s).length := by rw [HLN.out]; exact hil
      have k0 := HBi.out.cell hl'
      have f0 := HBi.out.frozen hl'
      rw [Wn.lowTo_at hil] at k0
      have hu8 := (s[i]).toNat_lt
      have hi1 : (i : Int) < (s.length : Int) := by omega
      have HSame : Hid (¬ (65 ≤ s[i].toNat ∧ s[i].toNat ≤ 90) → BAt wr n (Wn.lowTo (i + 1) s)) := Lib.hid (fun h => by rw [Wn.lowTo_same hil (Wn.lowB_no h)]; exact HBi.out)
      have HSet : Hid (65 ≤ s[i].toNat → s[i].toNat ≤ 90 → ∀ x : Int, x = (s[i].toNat : Int) + 32 → BAt (wr.setCell ⟨n, i, none⟩ (.int .u8 x)) n (Wn.lowTo (i + 1) s)) := Lib.hid (fun h1 h2 x hx => by rw [Wn.lowTo_succ hil]; exact HBi.out.set _ (by rw [Wn.lowB_yes h1 h2, hx]; rfl))
      clear hl' HBi HB
      generalize s[i].toNat = c at *
      by_cases h65 : 65 ≤ c
      · by_cases h90 : c ≤ 90
        · have h65' : (65 : Int) ≤ (c : Int) := by omega
          have h90' : (c : Int) ≤ 90 := by omega
          go_wp2_with fail
          exact ⟨⟨i + 1, by omega, by go_num, Lib.hid (HSet.out h65 h90 _ (by omega)), Lib.hid (HWi.out.setCell (p := ⟨n, i, none⟩) (Nat.le_refl _) _)⟩, by simp [intOf]; omega⟩
        · have h90' : ¬ (c : Int) ≤ 90 := by omega
          go_wp2_with fail
          exact ⟨⟨i + 1, by omega, by go_num, Lib.hid (HSame.out (fun h => h90 h.2)), HWi⟩, by simp [intOf]; omega⟩
      · have h65' : ¬ (65 : Int) ≤ (c : Int) := by omega
        go_wp2_with fail
        exact ⟨⟨i + 1, by omega, by go_num, Lib.hid (HSame.out (fun h => h65 h.1)), HWi⟩, by simp [intOf]; omega⟩
    · have hback := HBi.out.back C s.length (HLN.out i).symm
      have HE : Hid (Wn.lowTo i s = Wn.low s) := Lib.hid (Wn.lowTo_all (by omega))
      have hi1 : ¬ (i : Int) < (s.length : Int) := by omega
      go_wp2_with fail
      go_ret
      rw [← HE.out]
      exact ⟨rfl, HWi.out⟩
set_option maxHeartbeats 400000 in
theorem rFew_v (n : Int) (w : World) :
    Calls Try.prog 62 #[.int .i64 n] w fun e w' => e = .returned (.bool (Wn.few n)) ∧ w' = w := by
  have e : Wn.few n = (decide (-9999 ≤ n) && decide (n ≤ 9999)) := rfl
  rw [e]
  by_cases h1 : -9999 ≤ n
  · by_cases h2 : n ≤ 9999
    · go_enter Try.func62, Try.ntmps62
      go_wp2_with fail
      go_ret
      exact ⟨ret_bool (by simp; omega), rfl⟩
    · go_enter Try.func62, Try.ntmps62
      go_wp2_with fail
      go_ret
      exact ⟨ret_bool (by simp; omega), rfl⟩
  · go_enter Try.func62, Try.ntmps62
    go_wp2_with fail
    go_ret
    exact ⟨ret_bool (by simp; omega), rfl⟩
end Go.Proofs.Ytbjhiimjillleaa
