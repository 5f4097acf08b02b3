/- ToksBack: whatever the text and the tokens, the law answers true, and nothing that was there has turned. -/
import Derived.Test.YtjhmljgmckadnaaDoorTokMg
namespace Go.Proofs.YtjhmljgmckadnaaDoor
open Go.RowKit
theorem back_big (s : ByteArray) (v : Value) (l : List Wn.Tok) (w : World) (ht : Tab w) (hl : Toks w v l) (hs : s.size ≤ maxLen) (hbig : ¬ (s.size ≤ 2000 ∧ Wn.small l 200 = true)) :
    Calls Tryd.prog 4 #[.string s, v] w fun e w' => e = .returned (.bool true) ∧ Below w.heap.size w w' := by
  unfold maxLen at hs
  have HT := Lib.hid ht; clear ht
  have HL := Lib.hid hl; clear hl
  by_cases h1 : 2000 < s.size
  · clear hbig
    go_enter Tryd.func4, Tryd.ntmps4
    go_wp2_with fail
    refine (fixed_any _ HT.out).mono ?_
    rintro e w1 ⟨rfl, b1⟩
    have HB := Lib.hid b1; clear b1
    go_wp2_with fail
    refine (fixed_any _ (HT.out.below HB.out)).mono ?_
    rintro e w2 ⟨rfl, b2⟩
    have HB2 := Lib.hid (HB.out.trans (b2.mono HB.out.size)); clear b2
    go_wp2_with fail
    go_ret
    exact ⟨rfl, HB2.out⟩
  · have h2 : Wn.small l 200 = false := by cases h : Wn.small l 200; rfl; exact absurd ⟨by omega, h⟩ hbig
    have HS := Lib.hid h2
    clear hbig h2
    go_enter Tryd.func4, Tryd.ntmps4
    go_wp2_with fail
    refine (fixed_any _ HT.out).mono ?_
    rintro e w1 ⟨rfl, b1⟩
    have HB := Lib.hid b1; clear b1
    go_wp2_with fail
    refine (Small_any _ l 200 _ (HL.out.below HB.out)).mono ?_
    rintro e w' ⟨rfl, rfl⟩
    rw [HS.out]
    go_wp2_with fail
    refine (fixed_any _ (HT.out.below HB.out)).mono ?_
    rintro e w2 ⟨rfl, b2⟩
    have HB2 := Lib.hid (HB.out.trans (b2.mono HB.out.size)); clear b2
    go_wp2_with fail
    go_ret
    exact ⟨rfl, HB2.out⟩
set_option maxRecDepth 100000 in
set_option maxHeartbeats 2000000 in
theorem back_small (s : ByteArray) (v : Value) (l : List Wn.Tok) (w : World) (ht : Tab w) (hl : Toks w v l) (hs : s.size ≤ 2000) (hsm : Wn.small l 200 = true) (hf : ∀ t ∈ l, Fine t) :
    Calls Tryd.prog 4 #[.string s, v] w fun e w' => e = .returned (.bool true) ∧ Below w.heap.size w w' := by
  have HT := Lib.hid ht; clear ht
  have HL := Lib.hid hl; clear hl
  have HS := Lib.hid hsm
  have hll : l.length ≤ 200 := by unfold Wn.small at hsm; simp at hsm; omega
  clear hsm
  have HF := Lib.hid hf; clear hf
  -- what the text's tokens are
  generalize hA : Wn.lex s.data.toList = A
  have lA : A.length ≤ 2000 := by rw [← hA]; have := Wn.lex_length s.data.toList; simp at this; omega
  have vA : ∀ t ∈ A, Wn.Valid t := by rw [← hA]; exact Wn.lex_valid _ _ (Nat.le_refl _)
  have fA : ∀ t ∈ A, Fine t := by rw [← hA]; exact lex_fine (by simp; omega)
  generalize hr : Wn.text A = r
  have hback : Wn.lex r = A := by rw [← hr]; exact Wn.lex_text A vA
  have hrl : r.length ≤ 2097200000 := by rw [← hr]; have := fine_text fA; omega
  generalize hz : Wn.str r = z
  have hzl : z.size ≤ 2097200000 := by rw [← hz, Wn.str_size]; exact hrl
  have hzz : Wn.lex z.data.toList = A := by rw [← hz]; exact hback
  have qa := fun w => All_toks s A w (by omega) hA
  have qt := fun v w ht hW => Text_r v A r z w hr hz ht hW fA (by omega)
  have qz := fun w => All_toks z A w (by omega) hzz
  have QA := Lib.hid qa
  have QT := Lib.hid qt
  have QZ := Lib.hid qz
  have HVA := Lib.hid vA
  have HFA := Lib.hid fA
  clear qa qt qz hA hr hz hzz hback hrl vA fA
  obtain ⟨lo, lcap, rfl, hc1, hc2, hcell⟩ := HL.out
  have HLC := Lib.hid hcell
  clear hcell
  unfold maxLen at hc2
  go_enter Tryd.func4, Tryd.ntmps4
  go_wp2_with fail
  refine (fixed_any _ HT.out).mono ?_
  rintro e w1 ⟨rfl, b1⟩
  have HB1 := Lib.hid b1; clear b1
  go_wp2_with fail
  refine (Small_any _ l 200 _ (HL.out.below HB1.out)).mono ?_
  rintro e w' ⟨rfl, rfl⟩
  rw [HS.out]
  go_wp2_with fail
  refine (QA.out _).mono ?_
  rintro e w2 ⟨va, rfl, ha, b2⟩
  have SA2 := Lib.hid ha
  have HB2 := Lib.hid (HB1.out.trans (b2.mono HB1.out.size)); clear b2 ha HB1
  go_wp2_with fail
  refine (QT.out _ _ (HT.out.below HB2.out) SA2.out).mono ?_
  rintro e w3 ⟨rfl, b3⟩
  have SA3 := Lib.hid (SA2.out.below b3)
  have HB3 := Lib.hid (HB2.out.trans (b3.mono HB2.out.size)); clear b3 SA2 HB2
  go_wp2_with fail
  refine (QZ.out _).mono ?_
  rintro e w4 ⟨vb, rfl, hb, b4⟩
  have SA4 := Lib.hid (SA3.out.below b4)
  have SB4 := Lib.hid hb
  have HB4 := Lib.hid (HB3.out.trans (b4.mono HB3.out.size)); clear b4 hb SA3 HB3
  go_wp2_with fail
  refine (Same_b _ _ A A true _ (by simp) SB4.out SA4.out).mono ?_
  rintro e w5 ⟨rfl, b5⟩
  have SA5 := Lib.hid (SA4.out.below b5)
  have HB5 := Lib.hid (HB4.out.trans (b5.mono HB4.out.size)); clear b5 SB4 SA4 HB4
  go_wp2_with fail
  refine (QZ.out _).mono ?_
  rintro e w6 ⟨vc, rfl, hb, b6⟩
  have SA6 := Lib.hid (SA5.out.below b6)
  have SC6 := Lib.hid hb
  have HB6 := Lib.hid (HB5.out.trans (b6.mono HB5.out.size)); clear b6 hb SA5 HB5
  go_wp2_with fail
  refine (QT.out _ _ (HT.out.below HB6.out) SC6.out).mono ?_
  rintro e w7 ⟨rfl, b7⟩
  have SA7 := Lib.hid (SA6.out.below b7)
  have HB7 := Lib.hid (HB6.out.trans (b7.mono HB6.out.size)); clear b7 SC6 SA6 HB6 QA QT QZ
  obtain ⟨ao, acap, rfl, ac1, ac2, acell⟩ := SA7.out
  have HAC := Lib.hid acell
  have HAL := Lib.hid (rfl : A.length = A.length)
  clear acell SA7
  unfold maxLen at ac2
  go_wp2_with fail
  go_loopw [7] (fun v7 wr => ∃ k : Nat, k ≤ A.length ∧ v7 = .int .i64 (k : Int) ∧ Hid (Below w.heap.size w wr) ∧ Hid (Below w7.heap.size w7 wr)) (fun v7 _ => A.length - (intOf v7).toNat)
  case atStart => exact ⟨0, by omega, rfl, HB7, Lib.hid (Below.refl _ _)⟩
  case round =>
    obtain ⟨k, hk, rfl, HB8, HBr⟩ := hrel
    by_cases hlt : k < A.length
    · obtain ⟨t, hTk⟩ : ∃ t, A[k]? = some t := ⟨A[k], List.getElem?_eq_getElem hlt⟩
      obtain ⟨b, off, rfl, hin⟩ := HAC.out k _ hTk
      obtain ⟨i0, i1, i2⟩ := hin.below HBr.out hin.lt
      have qm := fun w ht => May_r t true _ w rfl (Wn.valid_may (HVA.out t (List.mem_of_getElem? hTk))) ht (HFA.out t (List.mem_of_getElem? hTk))
      rw [tokV_str] at qm
      generalize hx : Wn.str t.2.1 = x at *
      have QM := Lib.hid qm
      clear qm hx hin hTk
      go_wp2_with fail
      refine (QM.out _ (HT.out.below HB8.out)).mono ?_
      rintro e w9 ⟨rfl, b9⟩
      have HB9 := Lib.hid (HB8.out.trans (b9.mono HB8.out.size))
      have HBr9 := Lib.hid (HBr.out.trans (b9.mono HBr.out.size)); clear b9
      go_wp2_with fail
      go_round
      case rel => exact ⟨k + 1, by omega, by go_num, HB9, HBr9⟩
      case measure => simp [intOf]; omega
    · clear HAC HAL HFA HVA HB7 HBr
      go_wp2_with fail
      go_loopw [8] (fun v8 ws => ∃ j : Nat, j ≤ l.length ∧ v8 = .int .i64 (j : Int) ∧ Hid (Below w.heap.size w ws) ∧ Hid (∀ t ∈ l.take j, Wn.Valid t)) (fun v8 _ => l.length - (intOf v8).toNat)
      case atStart => exact ⟨0, by omega, rfl, HB8, Lib.hid (by simp)⟩
      case round =>
        obtain ⟨j, hj, rfl, HB9, HV⟩ := hrel
        by_cases hlt : j < l.length
        · obtain ⟨t, hTk⟩ : ∃ t, l[j]? = some t := ⟨l[j], List.getElem?_eq_getElem hlt⟩
          obtain ⟨b, off, rfl, hin⟩ := HLC.out j _ hTk
          obtain ⟨i0, i1, i2⟩ := hin.below HB9.out hin.lt
          generalize hm : Wn.may t = m
          have qm := fun w ht => May_r t m _ w rfl hm ht (HF.out t (List.mem_of_getElem? hTk))
          rw [tokV_str] at qm
          have HTK := Lib.hid hTk
          have HM := Lib.hid hm
          clear hm hTk hin
          generalize hx : Wn.str t.2.1 = x at *
          have QM := Lib.hid qm
          clear qm hx
          cases m
          · go_wp2_with fail
            refine (QM.out _ (HT.out.below HB9.out)).mono ?_
            rintro e w10 ⟨rfl, b10⟩
            have HB10 := Lib.hid (HB9.out.trans (b10.mono HB9.out.size)); clear b10
            go_wp2_with fail
            go_ret
            exact ⟨rfl, HB10.out⟩
          · go_wp2_with fail
            refine (QM.out _ (HT.out.below HB9.out)).mono ?_
            rintro e w10 ⟨rfl, b10⟩
            have HB10 := Lib.hid (HB9.out.trans (b10.mono HB9.out.size)); clear b10
            have HV' : Hid (∀ u ∈ l.take (j + 1), Wn.Valid u) := Lib.hid (by
              intro u hu
              rw [List.take_succ_eq_append_getElem hlt, List.mem_append] at hu
              rcases hu with hu | hu
              · exact HV.out u hu
              · have := HTK.out
                rw [List.getElem?_eq_getElem hlt, Option.some.injEq] at this
                simp only [List.mem_singleton] at hu
                rw [hu, this]; exact Wn.may_valid HM.out)
            go_wp2_with fail
            go_round
            case rel => exact ⟨j + 1, by omega, by go_num, HB10, HV'⟩
            case measure => simp [intOf]; omega
        · have vl : ∀ t ∈ l, Wn.Valid t := by have := HV.out; rwa [List.take_of_length_le (by omega)] at this
          generalize hr : Wn.text l = r2
          have hback : Wn.lex r2 = l := by rw [← hr]; exact Wn.lex_text l vl
          have hrl : r2.length ≤ 209720000 := by rw [← hr]; have := fine_text HF.out; omega
          generalize hz : Wn.str r2 = z2
          have hzl2 : z2.size ≤ 209720000 := by rw [← hz, Wn.str_size]; exact hrl
          have hzz : Wn.lex z2.data.toList = l := by rw [← hz]; exact hback
          have QT := Lib.hid (fun v w ht hW => Text_r v l r2 z2 w hr hz ht hW HF.out (by omega))
          have QZ := Lib.hid (fun w => All_toks z2 l w (by omega) hzz)
          clear hr hback hrl hz hzz vl HV
          go_wp2_with fail
          refine (QT.out _ _ (HT.out.below HB9.out) (HL.out.below HB9.out)).mono ?_
          rintro e w10 ⟨rfl, b10⟩
          have HB10 := Lib.hid (HB9.out.trans (b10.mono HB9.out.size)); clear b10
          go_wp2_with fail
          refine (QZ.out _).mono ?_
          rintro e w11 ⟨vd, rfl, hd, b11⟩
          have SD := Lib.hid hd
          have HB11 := Lib.hid (HB10.out.trans (b11.mono HB10.out.size)); clear b11 hd
          go_wp2_with fail
          refine (Same_b _ _ l l true _ (by simp) SD.out (HL.out.below HB11.out)).mono ?_
          rintro e w12 ⟨rfl, b12⟩
          have HB12 := Lib.hid (HB11.out.trans (b12.mono HB11.out.size)); clear b12
          go_wp2_with fail
          go_ret
          exact ⟨rfl, HB12.out⟩
end Go.Proofs.YtjhmljgmckadnaaDoor
