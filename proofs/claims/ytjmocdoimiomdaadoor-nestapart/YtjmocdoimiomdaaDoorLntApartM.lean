/- NestApart: whatever the values, the law answers true, and nothing that was there has turned. -/
import Derived.Test.YtjmocdoimiomdaaDoorNstOfM
import Derived.Test.YtjmocdoimiomdaaDoorGV
set_option linter.unusedVariables false
set_option linter.unusedSimpArgs false
set_option maxRecDepth 20000
namespace Go.Proofs.YtjmocdoimiomdaaDoor
open Go.RowKit Go.Sort
set_option maxRecDepth 100000 in
set_option maxHeartbeats 1000000 in
theorem napart_any (v u : Value) (a b : Wn.Fs) (w : World) (ht : Tab w) (ha : Vals w v a) (hb : Vals w u b) (hna : FNums a) (hnb : FNums b) :
    Calls Tryd.prog 5 #[v, u] w fun e w' => e = .returned (.bool true) ∧ Below w.heap.size w w' := by
  have HT := Lib.hid ht; clear ht
  have HA := Lib.hid ha; clear ha
  have HB := Lib.hid hb; clear hb
  have HNA := Lib.hid hna; clear hna
  have HNB := Lib.hid hnb; clear hnb
  go_enter Tryd.func5, Tryd.ntmps5
  go_wp2_with fail
  refine (nfixed_any _ HT.out).mono ?_
  rintro e w1 ⟨rfl, b1⟩
  have HB1 := Lib.hid b1; clear b1
  go_wp2_with fail
  refine (rSmall_any _ a 200 _ (HA.out.below HB1.out) (by omega) (by omega)).mono ?_
  rintro e w' ⟨c1, rfl, hc1, rfl⟩
  have HC1 := Lib.hid hc1; clear hc1
  cases c1
  · skip
    go_wp2_with fail
    refine (nfixed_any _ (HT.out.below HB1.out)).mono ?_
    rintro e w9 ⟨rfl, b9⟩
    have HB9 := Lib.hid (HB1.out.trans (b9.mono HB1.out.size)); clear b9
    go_wp2_with fail
    go_ret
    exact ⟨rfl, HB9.out⟩
  · go_wp2_with fail
    refine (rSmall_any _ b 200 _ (HB.out.below HB1.out) (by omega) (by omega)).mono ?_
    rintro e w' ⟨c2, rfl, hc2, rfl⟩
    have HC2 := Lib.hid hc2; clear hc2
    cases c2
    · skip
      go_wp2_with fail
      refine (nfixed_any _ (HT.out.below HB1.out)).mono ?_
      rintro e w9 ⟨rfl, b9⟩
      have HB9 := Lib.hid (HB1.out.trans (b9.mono HB1.out.size)); clear b9
      go_wp2_with fail
      go_ret
      exact ⟨rfl, HB9.out⟩
    · obtain ⟨hsa, hta⟩ := HC1.out (by simp)
      obtain ⟨hsb, htb⟩ := HC2.out (by simp)
      have hfa := Wn.flat_len a
      have hfb := Wn.flat_len b
      have QA := Lib.hid (fun w hv => rMayF v a w hv (by omega) (flat_fine hta HNA.out).2)
      have QB := Lib.hid (fun w hv => rMayF u b w hv (by omega) (flat_fine htb HNB.out).2)
      have QFA := Lib.hid (fun w hv => Flat_any v a w hv (by omega))
      have QFB := Lib.hid (fun w hv => Flat_any u b w hv (by omega))
      clear hta htb hsa hsb hfa hfb HC1 HC2
      generalize hma : Wn.mayF a = ma at QA
      generalize hmb : Wn.mayF b = mb at QB
      have HMA := Lib.hid hma; clear hma
      have HMB := Lib.hid hmb; clear hmb
      go_wp2_with fail
      refine (QA.out _ (HA.out.below HB1.out)).mono ?_
      rintro e w2 ⟨rfl, b2⟩
      have HB2 := Lib.hid (HB1.out.trans (b2.mono HB1.out.size))
      clear b2 QA HB1
      cases ma
      · skip
        go_wp2_with fail
        refine (nfixed_any _ (HT.out.below HB2.out)).mono ?_
        rintro e w9 ⟨rfl, b9⟩
        have HB9 := Lib.hid (HB2.out.trans (b9.mono HB2.out.size)); clear b9
        go_wp2_with fail
        go_ret
        exact ⟨rfl, HB9.out⟩
      · go_wp2_with fail
        refine (QB.out _ (HB.out.below HB2.out)).mono ?_
        rintro e w3 ⟨rfl, b3⟩
        have HB3 := Lib.hid (HB2.out.trans (b3.mono HB2.out.size))
        clear b3 QB HB2
        cases mb
        · skip
          go_wp2_with fail
          refine (nfixed_any _ (HT.out.below HB3.out)).mono ?_
          rintro e w9 ⟨rfl, b9⟩
          have HB9 := Lib.hid (HB3.out.trans (b9.mono HB3.out.size)); clear b9
          go_wp2_with fail
          go_ret
          exact ⟨rfl, HB9.out⟩
        · obtain ⟨c, hc1⟩ : ∃ c, decide (a = b) = c := ⟨_, rfl⟩
          have hc2 : decide (b = a) = c := by rw [← hc1, Bool.eq_iff_iff]; simp [eq_comm]
          have hc3 : decide (Wn.flat a = Wn.flat b) = c := by rw [← hc1, Wn.may_apart HMA.out HMB.out]
          have H1 := Lib.hid hc1
          have H2 := Lib.hid hc2
          have H3 := Lib.hid hc3
          clear hc1 hc2 hc3
          go_wp2_with fail
          refine (NSame_any _ _ a b _ (HA.out.below HB3.out) (HB.out.below HB3.out)).mono ?_
          rintro e w4 ⟨rfl, b4⟩
          rw [H1.out]
          have HB4 := Lib.hid (HB3.out.trans (b4.mono HB3.out.size))
          clear b4 HB3
          go_wp2_with fail
          refine (NSame_any _ _ b a _ (HB.out.below HB4.out) (HA.out.below HB4.out)).mono ?_
          rintro e w5 ⟨rfl, b5⟩
          rw [H2.out]
          have HB5 := Lib.hid (HB4.out.trans (b5.mono HB4.out.size))
          clear b5 HB4
          have hcc : (c == c) = true := by simp
          go_wp2_with fail
          refine (QFA.out _ (HA.out.below HB5.out)).mono ?_
          rintro e w6 ⟨ra, rfl, ho6, b6⟩
          have HB6 := Lib.hid (HB5.out.trans (b6.mono HB5.out.size))
          have HF6 := Lib.hid (Toks.ofRow ho6)
          clear b6 HB5 ho6 QFA
          go_wp2_with fail
          refine (QFB.out _ (HB.out.below HB6.out)).mono ?_
          rintro e w7 ⟨rb, rfl, ho7, b7⟩
          have HB7 := Lib.hid (HB6.out.trans (b7.mono HB6.out.size))
          have HF7 := Lib.hid (HF6.out.below b7)
          have HG7 := Lib.hid (Toks.ofRow ho7)
          clear b7 HB6 ho7 QFB HF6
          go_wp2_with fail
          refine (Same_b _ _ (Wn.flat a) (Wn.flat b) c _ H3.out HF7.out HG7.out).mono ?_
          rintro e w8 ⟨rfl, b8⟩
          have HB8 := Lib.hid (HB7.out.trans (b8.mono HB7.out.size))
          clear b8 HB7 HF7 HG7
          go_wp2_with fail
          refine (NSame_any _ _ a a _ (HA.out.below HB8.out) (HA.out.below HB8.out)).mono ?_
          rintro e w9 ⟨rfl, b9⟩
          rw [show decide (a = a) = true by simp]
          have HB9 := Lib.hid (HB8.out.trans (b9.mono HB8.out.size))
          clear b9 HB8
          go_wp2_with fail
          go_ret
          exact ⟨rfl, HB9.out⟩
end Go.Proofs.YtjmocdoimiomdaaDoor
