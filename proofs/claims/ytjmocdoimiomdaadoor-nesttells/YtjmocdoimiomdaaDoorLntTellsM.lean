/- NestTells: whatever the tokens, the depth and the values, the law answers true, and nothing that was there has turned. -/
import Derived.Test.YtjmocdoimiomdaaDoorNstOfM
import Derived.Test.YtjmocdoimiomdaaDoorGV
set_option linter.unusedVariables false
set_option linter.unusedSimpArgs false
set_option maxRecDepth 20000
namespace Wn
def parsedF (l : List Tok) (deep : Int) : Fs := if deep < 1 ∨ 60 < deep then .nil else (parse l deep.toNat).getD .nil
def parsedE (l : List Tok) (deep : Int) : Int := if deep < 1 ∨ 60 < deep then 1 else match parse l deep.toNat with | some _ => 0 | none => 20
end Wn
namespace Go.Proofs.YtjmocdoimiomdaaDoor
open Go.RowKit Go.Sort
theorem ParsePost.one {w w' : World} {l : List Wn.Tok} {deep : Int} {e : Ending} (h : ParsePost w l deep e w') : ∃ ao n c, e = .returned (.tuple #[.slice ao n c, .int .i64 (Wn.parsedE l deep)]) ∧ Vals w' (.slice ao n c) (Wn.parsedF l deep) ∧ Below w.heap.size w w' := by
  obtain ⟨hb, h⟩ := h
  unfold Wn.parsedE Wn.parsedF
  by_cases hd : deep < 1 ∨ 60 < deep
  · rw [if_pos hd] at h
    rw [if_pos hd, if_pos hd]
    exact ⟨_, _, _, h, Vals.nil w', hb⟩
  · rw [if_neg hd] at h
    rw [if_neg hd, if_neg hd]
    cases hp : Wn.parse l deep.toNat with
    | none => rw [hp] at h; exact ⟨_, _, _, h, Vals.nil w', hb⟩
    | some f =>
      rw [hp] at h
      obtain ⟨r, he, hv⟩ := h
      have hform : ∃ ao n c, r = .slice ao n c := by obtain ⟨ao, cap, hv, _⟩ := hv.form; exact ⟨_, _, _, hv⟩
      obtain ⟨ro, rn, rc, rfl⟩ := hform
      exact ⟨_, _, _, he, hv.any, hb⟩
set_option maxRecDepth 100000 in
set_option maxHeartbeats 1000000 in
theorem ntells_any (v u : Value) (l : List Wn.Tok) (deep : Int) (f : Wn.Fs) (w : World) (ht : Tab w) (hl : Toks w v l) (hv : Vals w u f) (hn : FNums f) :
    Calls Tryd.prog 3 #[v, .int .i64 deep, u] w fun e w' => e = .returned (.bool true) ∧ Below w.heap.size w w' := by
  have HT := Lib.hid ht; clear ht
  have HL := Lib.hid hl; clear hl
  have HV := Lib.hid hv; clear hv
  have HN := Lib.hid hn; clear hn
  have HB0 := Lib.hid (Below.refl w.heap.size w)
  cases h1 : Wn.small l 300
  · have HS := Lib.hid h1
    clear h1
    go_enter Tryd.func3, Tryd.ntmps3
    go_wp2_with fail
    refine (Small_any _ l 300 _ HL.out).mono ?_
    rintro e w' ⟨rfl, rfl⟩
    rw [HS.out]
    go_wp2_with fail
    refine (nfixed_any _ (HT.out.below HB0.out)).mono ?_
    rintro e w9 ⟨rfl, b9⟩
    have HB9 := Lib.hid (HB0.out.trans (b9.mono HB0.out.size)); clear b9
    go_wp2_with fail
    go_ret
    exact ⟨rfl, HB9.out⟩
  · have HS := Lib.hid h1
    have hll : l.length ≤ 300 := by unfold Wn.small at h1; simp at h1; omega
    clear h1
    go_enter Tryd.func3, Tryd.ntmps3
    go_wp2_with fail
    refine (Small_any _ l 300 _ HL.out).mono ?_
    rintro e w' ⟨rfl, rfl⟩
    rw [HS.out]
    go_wp2_with fail
    refine (rSmall_any _ f 200 _ HV.out (by omega) (by omega)).mono ?_
    rintro e w' ⟨c1, rfl, hc1, rfl⟩
    have HC1 := Lib.hid hc1; clear hc1
    cases c1
    · skip
      go_wp2_with fail
      refine (nfixed_any _ (HT.out.below HB0.out)).mono ?_
      rintro e w9 ⟨rfl, b9⟩
      have HB9 := Lib.hid (HB0.out.trans (b9.mono HB0.out.size)); clear b9
      go_wp2_with fail
      go_ret
      exact ⟨rfl, HB9.out⟩
    · obtain ⟨hsa, hta⟩ := HC1.out rfl
      have hfa := Wn.flat_len f
      have hfin := flat_fine hta HN.out
      have QM := Lib.hid (fun w ht hv => NMay_any u f w ht hv (by omega) hfin.1)
      have QR := Lib.hid (fun w hv => rMayF u f w hv (by omega) hfin.2)
      have QF := Lib.hid (fun w hv => Flat_any u f w hv (by omega))
      have QG := Lib.hid (fun w hv => rFlat_any u f w hv (by omega))
      have QD := Lib.hid (fun w hv => Depth_any u f w hv (by omega))
      have QE := Lib.hid (fun w hv => rDepth_all (f.size + 1) f (Nat.lt_succ_self _) (by omega) u w hv)
      have QP := Lib.hid (fun w hT => Parse_any v l deep w hT (by omega))
      have QQ := Lib.hid (fun w hT => rParse_any v l deep w hT (by omega))
      clear hta hsa hfa HC1 hfin hll
      generalize Wn.depth f = df at QD QE
      generalize Wn.mayF f = mf at QM QR
      go_wp2_with fail
      refine (QP.out _ HL.out).mono ?_
      intro e w1 hp1
      obtain ⟨ao, an, ac, rfl, hv1, b1⟩ := hp1.one
      have HV1 := Lib.hid hv1
      have HB1 := Lib.hid b1
      clear b1 hv1 hp1 QP
      go_wp2_with fail
      refine (QQ.out _ (HL.out.below HB1.out)).mono ?_
      intro e w2 hp2
      obtain ⟨bo, bn, bc, rfl, hv2, b2⟩ := hp2.one
      have HV2 := Lib.hid hv2
      have HV1' := Lib.hid (HV1.out.below b2)
      have HB2 := Lib.hid (HB1.out.trans (b2.mono HB1.out.size))
      clear b2 hv2 hp2 QQ HV1 HB1
      generalize Wn.parsedE l deep = ec at *
      generalize Wn.parsedF l deep = pf at *
      go_wp2_with fail
      refine (nfixed_any _ (HT.out.below HB2.out)).mono ?_
      rintro e w3 ⟨rfl, b3⟩
      have HV3 := Lib.hid (HV1'.out.below b3)
      have HW3 := Lib.hid (HV2.out.below b3)
      have HB3 := Lib.hid (HB2.out.trans (b3.mono HB2.out.size))
      clear b3 HB2 HV1' HV2
      go_wp2_with fail
      refine (rSameF _ _ pf pf _ HV3.out HW3.out).mono ?_
      rintro e w4 ⟨rfl, b4⟩
      rw [show decide (pf = pf) = true by simp]
      have HB4 := Lib.hid (HB3.out.trans (b4.mono HB3.out.size))
      clear b4 HB3 HV3 HW3
      go_wp2_with fail
      refine (QF.out _ (HV.out.below HB4.out)).mono ?_
      rintro e w6 ⟨ra, rfl, ho6, b6⟩
      have HB6 := Lib.hid (HB4.out.trans (b6.mono HB4.out.size))
      have HF6 := Lib.hid (Toks.ofRow ho6)
      clear b6 HB4 ho6 QF
      go_wp2_with fail
      refine (QG.out _ (HV.out.below HB6.out)).mono ?_
      rintro e w7 ⟨rb, rfl, ho7, b7⟩
      have HB7 := Lib.hid (HB6.out.trans (b7.mono HB6.out.size))
      have HF7 := Lib.hid (HF6.out.below b7)
      have HG7 := Lib.hid (Toks.ofRow ho7)
      clear b7 HB6 ho7 QG HF6
      go_wp2_with fail
      refine (Same_b _ _ (Wn.flat f) (Wn.flat f) true _ (by simp) HF7.out HG7.out).mono ?_
      rintro e w8 ⟨rfl, b8⟩
      have HB8 := Lib.hid (HB7.out.trans (b8.mono HB7.out.size))
      clear b8 HB7 HF7 HG7
      go_wp2_with fail
      refine (QD.out _ (HV.out.below HB8.out)).mono ?_
      rintro e w9 ⟨rfl, b9⟩
      have HB9 := Lib.hid (HB8.out.trans (b9.mono HB8.out.size))
      clear b9 HB8 QD
      go_wp2_with fail
      refine (QE.out _ (HV.out.below HB9.out)).mono ?_
      rintro e w' ⟨rfl, rfl⟩
      clear QE
      go_wp2_with fail
      refine (QM.out _ (HT.out.below HB9.out) (HV.out.below HB9.out)).mono ?_
      rintro e w10 ⟨rfl, b10⟩
      have HB10 := Lib.hid (HB9.out.trans (b10.mono HB9.out.size))
      clear b10 HB9 QM
      go_wp2_with fail
      refine (QR.out _ (HV.out.below HB10.out)).mono ?_
      rintro e w11 ⟨rfl, b11⟩
      have HB11 := Lib.hid (HB10.out.trans (b11.mono HB10.out.size))
      clear b11 HB10 QR
      go_wp2_with fail
      go_ret
      exact ⟨ret_bool (by simp), HB11.out⟩
end Go.Proofs.YtjmocdoimiomdaaDoor
