/- SplitReads: whatever the values and the text, the law answers true, and nothing that was there has turned. -/
import Derived.Test.YtjmocdoimiomdaaGreatDoorGZ
import Derived.Test.YtjmocdoimiomdaaGreatDoorSplPM
import Derived.Test.YtjmocdoimiomdaaGreatDoorGS
import Derived.Test.YtjmocdoimiomdaaGreatDoorGV
set_option linter.unusedVariables false
set_option linter.unusedSimpArgs false
set_option maxRecDepth 20000
namespace Go.Proofs.YtjmocdoimiomdaaGreatDoor
open Go.RowKit Go.Sort
set_option maxRecDepth 100000 in
set_option maxHeartbeats 2000000 in
theorem sreads_any (v : Value) (f : Wn.Fs) (s : ByteArray) (w : World) (ht : Tab w) (hv : Vals w v f) (hn : FNums f) (hs : s.size ≤ maxLen) :
    Calls Tryz.prog 4 #[v, .string s] w fun e w' => e = .returned (.bool true) ∧ Below w.heap.size w w' := by
  have HT := Lib.hid ht; clear ht
  have HV := Lib.hid hv
  have HN := Lib.hid hn; clear hn
  obtain ⟨vo, vc, rfl, hvc1, hvc2⟩ := hv.form
  clear hv
  unfold maxLen at hvc2 hs
  go_enter Tryz.func4, Tryz.ntmps4
  go_wp2_with fail
  refine (sfixed_any _ HT.out).mono ?_
  rintro e w1 ⟨rfl, b1⟩
  have HB1 := Lib.hid b1; clear b1
  go_wp2_with fail
  refine (rSmall_any _ f 200 _ (HV.out.below HB1.out) (by omega) (by omega)).mono ?_
  rintro e w' ⟨c1, rfl, hc1, rfl⟩
  have HC1 := Lib.hid hc1; clear hc1
  cases c1
  · skip
    go_wp2_with fail
    refine (sfixed_any _ (HT.out.below HB1.out)).mono ?_
    rintro e w9 ⟨rfl, b9⟩
    have HB9 := Lib.hid (HB1.out.trans (b9.mono HB1.out.size)); clear b9
    go_wp2_with fail
    go_ret
    exact ⟨rfl, HB9.out⟩
  · by_cases hlen : 1000 < s.size
    · have hi1 : (1000 : Int) < (s.size : Int) := by omega
      skip
      go_wp2_with fail
      refine (sfixed_any _ (HT.out.below HB1.out)).mono ?_
      rintro e w9 ⟨rfl, b9⟩
      have HB9 := Lib.hid (HB1.out.trans (b9.mono HB1.out.size)); clear b9
      go_wp2_with fail
      go_ret
      exact ⟨rfl, HB9.out⟩
    · have hi1 : ¬ (1000 : Int) < (s.size : Int) := by omega
      obtain ⟨hsa, hta⟩ := HC1.out (by simp)
      have hfa := Wn.flat_len f
      have hfin := flat_fine hta HN.out
      have HFIN := Lib.hid hfin.1
      have QMY := Lib.hid (fun w hv => rMayF (.slice vo f.len vc) f w hv (by omega) hfin.2)
      have QT := Lib.hid (fun w ht hv => SText_any (.slice vo f.len vc) f w ht hv (by omega) hfin.1)
      have QTR := Lib.hid (fun w hv => Trim_any (.slice vo f.len vc) f w hv (by omega))
      have QR := Lib.hid (fun w => Read_any s w (by omega))
      have hlf : (Wn.flat f).length ≤ 1000 := by omega
      clear hta hfin HC1 hfa
      go_wp2_with fail
      refine (QR.out _).mono ?_
      rintro e w2 ⟨r2, c2, rfl, b2, h2⟩
      have HB2 := Lib.hid (HB1.out.trans (b2.mono HB1.out.size))
      clear b2 HB1 QR
      rcases h2 with ⟨rfl, rfl, _⟩ | ⟨rfl, fr, hfr, hv2⟩
      · go_wp2_with fail
        refine (QMY.out _ (HV.out.below HB2.out)).mono ?_
        rintro e wa ⟨rfl, ba⟩
        have HBa := Lib.hid (HB2.out.trans (ba.mono HB2.out.size))
        clear ba QMY HB2
        cases hmy : Wn.mayF f
        · clear QT QTR
          go_wp2_with fail
          go_ret
          exact ⟨rfl, HBa.out⟩
        · have QRT := Lib.hid (fun w => Read_text w hmy HFIN.out (by omega))
          clear hmy
          go_wp2_with fail
          refine (QT.out _ (HT.out.below HBa.out) (HV.out.below HBa.out)).mono ?_
          rintro e wb ⟨rfl, bb⟩
          have HBb := Lib.hid (HBa.out.trans (bb.mono HBa.out.size))
          clear bb HBa QT
          go_wp2_with fail
          refine (QRT.out _).mono ?_
          rintro e wc ⟨rc, rfl, hvc, bc⟩
          have HBc := Lib.hid (HBb.out.trans (bc.mono HBb.out.size))
          have HVc := Lib.hid hvc.any
          clear bc hvc HBb QRT
          go_wp2_with fail
          refine (QTR.out _ (HV.out.below HBc.out)).mono ?_
          rintro e wd ⟨rd, rfl, hvd, bd⟩
          have HBd := Lib.hid (HBc.out.trans (bd.mono HBc.out.size))
          have HVd := Lib.hid hvd.any
          have HVc' := Lib.hid (HVc.out.below bd)
          clear bd hvd HBc HVc QTR
          go_wp2_with fail
          refine (rSameF _ _ (Wn.trimF f) (Wn.trimF f) _ HVc'.out HVd.out).mono ?_
          rintro e we ⟨rfl, be⟩
          rw [show decide (Wn.trimF f = Wn.trimF f) = true by simp]
          have HBe := Lib.hid (HBd.out.trans (be.mono HBd.out.size))
          clear be HBd HVd HVc'
          go_wp2_with fail
          go_ret
          exact ⟨rfl, HBe.out⟩
      · have hm := Wn.may_trim (Wn.may_read hfr)
        have hsz := Wn.parse_size hfr
        have hll : (Wn.lex s.data.toList).length ≤ 1000 := lex_short (by omega)
        have hts := Wn.trim_size fr
        have hfl := Wn.flat_len (Wn.trimF fr)
        have hff := fine_trim (fine_of_read hfr (by rw [show s.data.toList.length = s.size from Array.length_toList]; omega))
        have hid := Wn.trim_idem fr
        have QT2 := Lib.hid (fun v w ht hv => SText_any v (Wn.trimF fr) w ht hv (by omega) hff)
        have QR2 := Lib.hid (fun w => Read_text w hm hff (by omega))
        have QTR2 := Lib.hid (fun v w hv => Trim_any v (Wn.trimF fr) w hv (by omega))
        rw [hid] at QR2 QTR2
        have HV2 := Lib.hid hv2.any
        clear hm hsz hll hts hfl hff hid hfr hv2
        generalize Wn.trimF fr = g at *
        go_wp2_with fail
        refine (QT2.out _ _ (HT.out.below HB2.out) HV2.out).mono ?_
        rintro e w3 ⟨rfl, b3⟩
        have HB3 := Lib.hid (HB2.out.trans (b3.mono HB2.out.size))
        have HV3 := Lib.hid (HV2.out.below b3)
        clear b3 HB2 HV2 QT2
        go_wp2_with fail
        refine (QR2.out _).mono ?_
        rintro e w4 ⟨r4, rfl, hv4, b4⟩
        have HB4 := Lib.hid (HB3.out.trans (b4.mono HB3.out.size))
        have HV4 := Lib.hid (HV3.out.below b4)
        have HW4 := Lib.hid hv4.any
        clear b4 HB3 HV3 QR2 hv4
        go_wp2_with fail
        refine (rSameF _ _ g g _ HV4.out HW4.out).mono ?_
        rintro e w5 ⟨rfl, b5⟩
        rw [show decide (g = g) = true by simp]
        have HB5 := Lib.hid (HB4.out.trans (b5.mono HB4.out.size))
        have HV5 := Lib.hid (HV4.out.below b5)
        clear b5 HB4 HV4 HW4
        go_wp2_with fail
        refine (QTR2.out _ _ HV5.out).mono ?_
        rintro e w6 ⟨r6, rfl, hv6, b6⟩
        have HB6 := Lib.hid (HB5.out.trans (b6.mono HB5.out.size))
        have HV6 := Lib.hid (HV5.out.below b6)
        have HW6 := Lib.hid hv6.any
        clear b6 HB5 HV5 QTR2 hv6
        go_wp2_with fail
        refine (rSameF _ _ g g _ HW6.out HV6.out).mono ?_
        rintro e w7 ⟨rfl, b7⟩
        rw [show decide (g = g) = true by simp]
        have HB7 := Lib.hid (HB6.out.trans (b7.mono HB6.out.size))
        clear b7 HB6 HV6 HW6
        go_wp2_with fail
        refine (QMY.out _ (HV.out.below HB7.out)).mono ?_
        rintro e wa ⟨rfl, ba⟩
        have HBa := Lib.hid (HB7.out.trans (ba.mono HB7.out.size))
        clear ba QMY HB7
        cases hmy : Wn.mayF f
        · clear QT QTR
          go_wp2_with fail
          go_ret
          exact ⟨rfl, HBa.out⟩
        · have QRT := Lib.hid (fun w => Read_text w hmy HFIN.out (by omega))
          clear hmy
          go_wp2_with fail
          refine (QT.out _ (HT.out.below HBa.out) (HV.out.below HBa.out)).mono ?_
          rintro e wb ⟨rfl, bb⟩
          have HBb := Lib.hid (HBa.out.trans (bb.mono HBa.out.size))
          clear bb HBa QT
          go_wp2_with fail
          refine (QRT.out _).mono ?_
          rintro e wc ⟨rc, rfl, hvc, bc⟩
          have HBc := Lib.hid (HBb.out.trans (bc.mono HBb.out.size))
          have HVc := Lib.hid hvc.any
          clear bc hvc HBb QRT
          go_wp2_with fail
          refine (QTR.out _ (HV.out.below HBc.out)).mono ?_
          rintro e wd ⟨rd, rfl, hvd, bd⟩
          have HBd := Lib.hid (HBc.out.trans (bd.mono HBc.out.size))
          have HVd := Lib.hid hvd.any
          have HVc' := Lib.hid (HVc.out.below bd)
          clear bd hvd HBc HVc QTR
          go_wp2_with fail
          refine (rSameF _ _ (Wn.trimF f) (Wn.trimF f) _ HVc'.out HVd.out).mono ?_
          rintro e we ⟨rfl, be⟩
          rw [show decide (Wn.trimF f = Wn.trimF f) = true by simp]
          have HBe := Lib.hid (HBd.out.trans (be.mono HBd.out.size))
          clear be HBd HVd HVc'
          go_wp2_with fail
          go_ret
          exact ⟨rfl, HBe.out⟩
end Go.Proofs.YtjmocdoimiomdaaGreatDoor
