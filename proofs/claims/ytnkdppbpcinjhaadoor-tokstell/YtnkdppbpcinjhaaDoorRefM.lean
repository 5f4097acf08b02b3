/- The verifier's second writing: may all of some tokens be? -/
import Derived.Test.YtnkdppbpcinjhaaDoorRefL
set_option maxRecDepth 20000
namespace Go.Proofs.YtnkdppbpcinjhaaDoor
open Go.RowKit
theorem all_step {l : List Wn.Tok} {j : Nat} {t : Wn.Tok} (h : l[j]? = some t) : (l.drop j).all Wn.may = (Wn.may t && (l.drop (j + 1)).all Wn.may) := by
  have hj : j < l.length := (List.getElem?_eq_some_iff.1 h).1
  rw [List.drop_eq_getElem_cons hj, List.all_cons]
  rw [List.getElem?_eq_getElem hj, Option.some.injEq] at h
  rw [h]
set_option maxRecDepth 100000 in
set_option maxHeartbeats 2000000 in
theorem rMays (v : Value) (l : List Wn.Tok) (R : Bool) (w : World) (hR : l.all Wn.may = R) (hl : Toks w v l) (hf : ∀ t ∈ l, t.2.1.length ≤ 100000 ∧ -9223372036854775808 ≤ t.2.2 ∧ t.2.2 ≤ 9223372036854775807) :
    Calls Tryd.prog 25 #[v] w fun e w' => e = .returned (.bool R) ∧ Below w.heap.size w w' := by
  have HR : Hid ((l.drop 0).all Wn.may = R) := Lib.hid hR
  clear hR
  have HF := Lib.hid hf; clear hf
  obtain ⟨lo, lcap, rfl, hc1, hc2, hcell⟩ := hl
  have HLC := Lib.hid hcell
  clear hcell
  unfold maxLen at hc2
  go_enter Tryd.func25, Tryd.ntmps25
  go_wp2_with fail
  go_loopw [3] (fun v3 ws => ∃ j : Nat, j ≤ l.length ∧ v3 = .int .i64 (j : Int) ∧ Hid (Below w.heap.size w ws) ∧ Hid ((l.drop j).all Wn.may = R)) (fun v3 _ => l.length - (intOf v3).toNat)
  case atStart => exact ⟨0, by omega, rfl, Lib.hid (Below.refl _ _), HR⟩
  case round =>
    obtain ⟨j, hj, rfl, HB, HV⟩ := hrel
    by_cases hlt : j < l.length
    · obtain ⟨t, hTk⟩ : ∃ t, l[j]? = some t := ⟨l[j], List.getElem?_eq_getElem hlt⟩
      obtain ⟨b, off, rfl, hin⟩ := HLC.out j _ hTk
      obtain ⟨i0, i1, i2⟩ := hin.below HB.out hin.lt
      generalize hm : Wn.may t = m
      have hft := HF.out t (List.mem_of_getElem? hTk)
      have qm := fun w => rMay t w hft.1 hft.2.1 hft.2.2
      rw [hm] at qm
      have HTK := Lib.hid (all_step hTk)
      have HM := Lib.hid hm
      clear hm hTk hin hft
      generalize hx : Wn.str t.2.1 = x at *
      have QM := Lib.hid qm
      clear qm hx
      cases m
      · go_wp2_with fail
        refine (QM.out _).mono ?_
        rintro e w10 ⟨rfl, b10⟩
        have HB10 := Lib.hid (HB.out.trans (b10.mono HB.out.size)); clear b10
        go_wp2_with fail
        go_ret
        exact ⟨ret_bool (by rw [← HV.out, HTK.out, HM.out]; rfl), HB10.out⟩
      · go_wp2_with fail
        refine (QM.out _).mono ?_
        rintro e w10 ⟨rfl, b10⟩
        have HB10 := Lib.hid (HB.out.trans (b10.mono HB.out.size)); clear b10
        have HV' : Hid ((l.drop (j + 1)).all Wn.may = R) := Lib.hid (by rw [← HV.out, HTK.out, HM.out]; rfl)
        go_wp2_with fail
        go_round
        case rel => exact ⟨j + 1, by omega, by go_num, HB10, HV'⟩
        case measure => simp [intOf]; omega
    · have HR2 : Hid (R = true) := Lib.hid (by rw [← HV.out, List.drop_of_length_le (by omega)]; rfl)
      go_wp2_with fail
      go_ret
      exact ⟨ret_bool HR2.out.symm, HB.out⟩
end Go.Proofs.YtnkdppbpcinjhaaDoor
