/- What skipping comments, digits, a unit do to the scanner. -/
import Derived.Test.YtnkdppbpcinjhaaDoorTokD
set_option maxRecDepth 20000
namespace Go.Proofs.YtnkdppbpcinjhaaDoor
open Go.RowKit
theorem quiet_left {P : Program} {f : FuncId} {args : Array Value} {w : World} {n : Nat} {v : Value}
    (h : Calls P f args (w.drewN n) fun e w' => e = .returned v ∧ w.drewN n = w') : Calls P f args (w.drewN n) fun e w'' => e = .returned v ∧ ∃ m, w'' = w.drewN m :=
  h.mono fun _ _ ⟨he, hm⟩ => ⟨he, n, hm.symm⟩
/-- nothing but the scanner's place has turned -/
def Moved (b : Nat) (s : ByteArray) (q : Nat) (w w' : World) : Prop := ScanAt w' b s q ∧ Only b w w'
set_option maxHeartbeats 1000000 in
theorem skipComments_any (b : Nat) (s : ByteArray) (p E : Nat) (w : World) (hs : s.size ≤ 4611686018427387000) (h : ScanAt w b s p) (hp : p ≤ s.size) (hE : p + Wn.skip (Wn.sfx s p) = E) :
    Calls Tryd.prog 62 #[.pointer (some ⟨b, 0, none⟩)] w fun e w' => e = .returned (.tuple #[]) ∧ Moved b s E w w' := by
  have hs' : s.size ≤ maxLen := by unfold maxLen; omega
  have H := Lib.hid h; clear h
  have HE := Lib.hid hE; clear hE
  go_enter Tryd.func62, Tryd.ntmps62
  go_wp2_with fail
  go_loopw [4] (fun _ wr => ∃ (k : Nat), k ≤ s.size ∧ Moved b s k w wr ∧ Hid (k + Wn.skip (Wn.sfx s k) = E)) (fun _ wr => s.size - (intOf ((wr.cell? ⟨b, 1, none⟩).getD (.int .i64 0))).toNat)
  case atStart => exact ⟨p, hp, ⟨H.out, Only.refl _ _⟩, HE⟩
  case round =>
    obtain ⟨k, hk, HM, HK⟩ := hrel
    obtain ⟨hsc, hon⟩ := HM
    have c0 := hsc.cell0
    have c1 := hsc.cell1
    have f1 := hsc.frozen 1
    have H1 := Lib.hid hsc
    have HO := Lib.hid hon
    clear hsc hon
    cases hb : Wn.commentBegins (Wn.sfx s k)
    · have e0 := Wn.skip_no hb
      have E0 := Lib.hid e0; clear e0
      have HB := Lib.hid hb; clear hb
      go_wp2_with fail
      go_quiet ((go_at_call 90; exact quiet_left (commentBegins_i s k _ false _ hs (by omega) rfl HB.out)))
      go_wp2_with fail
      go_end0
      exact ⟨rfl, H1.out.q (by have := HK.out; rw [E0.out] at this; omega), HO.out.drewN nq⟩
    · have e0 := Wn.skip_yes hb
      have h2 := Wn.commentBegins_two hb
      rw [Wn.sfx_drop, Wn.sfx_drop] at e0
      have hr := Wn.closeLen_le (Wn.sfx s (k + 2))
      rw [Wn.sfx_length] at hr
      generalize hcl : k + 2 + Wn.closeLen (Wn.sfx s (k + 2)) = q at *
      have hq1 : k + 2 ≤ q := by omega
      have hq2 : q ≤ s.size := by omega
      have e1 : k + Wn.skip (Wn.sfx s k) = q + Wn.skip (Wn.sfx s q) := by
        rw [e0, show k + (2 + Wn.closeLen (Wn.sfx s (k + 2))) = q by omega]; omega
      have E1 := Lib.hid e1
      have HC := Lib.hid hcl
      have HB := Lib.hid hb
      clear hb e0 e1 hcl hr
      go_wp2_with fail
      go_quiet ((go_at_call 90; exact quiet_left (commentBegins_i s k _ true _ hs (by omega) rfl HB.out)))
      go_wp2_with fail
      refine region_tail 12 (by kernel_rfl) (by kernel_rfl) ?_
      simp only [List.take_succ_cons, List.take_zero, List.drop_succ_cons, List.drop_zero]
      repeat still_step
      still_call ((commentEnd_i s k _ q _ hs h2 rfl HC.out).mono fun e w' h => ⟨h.1, h.2.symm⟩)
      repeat still_step
      refine wpStill_nil ?_
      go_wp2_with fail
      go_roundw
      case rel => exact ⟨q, hq2, ⟨(H1.out.drewN _).set, (HO.out.drewN _).setCell rfl _⟩, Lib.hid (by rw [← E1.out]; exact HK.out)⟩
      case measure =>
        have d1 := ((H1.out.drewN (nq + 1)).set (q := q)).cell1
        rw [d1, c1]
        simp [intOf]; omega
set_option maxHeartbeats 1000000 in
theorem digits_any (b : Nat) (s : ByteArray) (p E : Nat) (V : Int) (w : World) (hs : s.size ≤ 4611686018427387000) (h : ScanAt w b s p) (hp : p ≤ s.size) (hE : p + Wn.runLen Wn.digit (Wn.sfx s p) = E) (hV : Wn.numVal 0 (Wn.sfx s p) = V) :
    Calls Tryd.prog 98 #[.pointer (some ⟨b, 0, none⟩)] w fun e w' => e = .returned (.int .i64 V) ∧ Moved b s E w w' := by
  have H := Lib.hid h; clear h
  have HE := Lib.hid hE; clear hE
  have HV := Lib.hid hV; clear hV
  go_enter Tryd.func98, Tryd.ntmps98
  go_wp2_with fail
  go_loopw [3] (fun t wr => ∃ (k : Nat) (n : Int), k ≤ s.size ∧ 0 ≤ n ∧ n ≤ 999999999 ∧ t = .int .i64 n ∧ Moved b s k w wr ∧ Hid (k + Wn.runLen Wn.digit (Wn.sfx s k) = E) ∧ Hid (Wn.numVal n (Wn.sfx s k) = V)) (fun _ wr => s.size - (intOf ((wr.cell? ⟨b, 1, none⟩).getD (.int .i64 0))).toNat)
  case atStart => exact ⟨p, 0, hp, by omega, by omega, rfl, ⟨H.out, Only.refl _ _⟩, HE, HV⟩
  case round =>
    obtain ⟨k, n, hk, hn0, hn1, rfl, HM, HK, HN⟩ := hrel
    obtain ⟨hsc, hon⟩ := HM
    have c0 := hsc.cell0
    have c1 := hsc.cell1
    have f1 := hsc.frozen 1
    have H1 := Lib.hid hsc
    have HO := Lib.hid hon
    clear hsc hon
    cases hb : Wn.digit (Wn.sfx s k)
    · have e0 := Wn.runLen_no hb
      have e1 := Wn.numVal_no n _ hb
      have E0 := Lib.hid e0; clear e0
      have E1 := Lib.hid e1; clear e1
      have HB := Lib.hid hb; clear hb
      go_wp2_with fail
      go_quiet ((go_at_call 96; exact quiet_left (isDigit_i s k _ false _ hs (by omega) rfl HB.out)))
      go_wp2_with fail
      go_ret
      exact ⟨ret_int (by rw [← HN.out, E1.out]), H1.out.q (by have := HK.out; rw [E0.out] at this; omega), HO.out.drewN nq⟩
    · have e1 := Wn.numVal_yes n s k hb
      obtain ⟨hlt, e0⟩ := Wn.runLen_yes hb (by decide)
      have hd := Wn.digit_hd hb
      generalize hc : Wn.hd (Wn.sfx s k) = c at *
      obtain ⟨hd1, hd2⟩ := hd
      have E0 := Lib.hid e0; clear e0
      have E1 := Lib.hid e1; clear e1
      have HB := Lib.hid hb; clear hb
      have HC := Lib.hid hc; clear hc
      go_wp2_with fail
      go_quiet ((go_at_call 96; exact quiet_left (isDigit_i s k _ true _ hs (by omega) rfl HB.out)))
      go_wp2_with fail
      refine region_tail 13 (by kernel_rfl) (by kernel_rfl) ?_
      simp only [List.take_succ_cons, List.take_zero, List.drop_succ_cons, List.drop_zero]
      repeat still_step
      still_call ((byteAt_i s k _ c _ hs (by omega) rfl HC.out).mono fun e w' h => ⟨h.1, h.2.symm⟩)
      repeat still_step
      refine wpStill_nil ?_
      go_wp2_with fail
      have hm : (if 999999999 < n * 10 + c - 48 then 999999999 else n * 10 + c - 48) = min (n * 10 + c - 48) 999999999 := by omega
      rw [hm]
      refine ⟨⟨k + 1, _, by omega, by omega, by omega, rfl, ⟨(H1.out.drewN _).set' (by omega), (HO.out.drewN _).setCell rfl _⟩, Lib.hid (by rw [← HK.out, E0.out]; omega), Lib.hid (by rw [← HN.out, E1.out])⟩, ?_⟩
      have d1 := ((H1.out.drewN (nq + 1)).set' (q := k + 1) (v := (k : Int) + 1) (by omega)).cell1
      rw [d1, c1]
      simp [intOf]; omega
end Go.Proofs.YtnkdppbpcinjhaaDoor
