/- What the fixed calls of the second layer's laws answer: true. -/
import Derived.Test.YtjmocdoimiomdaaDoorGQ
set_option linter.unusedVariables false
set_option linter.unusedSimpArgs false
set_option maxRecDepth 20000
namespace Go.Proofs.YtjmocdoimiomdaaDoor
open Go.RowKit Go.Sort
set_option maxRecDepth 100000 in
set_option maxHeartbeats 2000000 in
theorem nfixed_any (w : World) (ht : Tab w) :
    Calls Tryd.prog 10 #[] w fun e w' => e = .returned (.bool true) ∧ Below w.heap.size w w' := by
  have HT := Lib.hid ht; clear ht
  have QA := Lib.hid (fun w => rAll ⟨#[97, 40, 98, 93]⟩ Wn.nA w (by show 4 ≤ _; omega) Wn.lex_nA)
  have QB := Lib.hid (fun w => rAll ⟨#[40, 91, 123, 120]⟩ Wn.nB w (by show 4 ≤ _; omega) Wn.lex_nB)
  go_enter Tryd.func10, Tryd.ntmps10
  go_wp2_with fail
  refine (QA.out _).mono ?_
  rintro e w1 ⟨va, rfl, h1, b1⟩
  have HB1 := Lib.hid b1
  have HS1 := Lib.hid h1.toks
  clear b1 h1 QA
  go_wp2_with fail
  refine (Parse_some va _ (by omega) (by omega) Wn.parse_nA HS1.out (by decide)).mono ?_
  rintro e w2 ⟨r1, rfl, hv1, b2⟩
  have HB2 := Lib.hid (HB1.out.trans (b2.mono HB1.out.size))
  have HV1 := Lib.hid hv1.any
  have hf1 : ∃ ao n c, r1 = .slice ao n c := by obtain ⟨ao, cap, hv, _⟩ := hv1.form; exact ⟨_, _, _, hv⟩
  clear b2 hv1 HS1 HB1
  go_wp2_with fail
  refine (QB.out _).mono ?_
  rintro e w3 ⟨vb, rfl, h3, b3⟩
  have HB3 := Lib.hid (HB2.out.trans (b3.mono HB2.out.size))
  have HV3 := Lib.hid (HV1.out.below b3)
  have HS3 := Lib.hid h3.toks
  clear b3 h3 HB2 HV1
  go_wp2_with fail
  refine (Parse_none vb _ (by omega) (by omega) Wn.parse_nB2 HS3.out (by decide)).mono ?_
  rintro e w4 ⟨rfl, b4⟩
  have HB4 := Lib.hid (HB3.out.trans (b4.mono HB3.out.size))
  have HV4 := Lib.hid (HV3.out.below b4)
  clear b4 HS3 HB3 HV3
  go_wp2_with fail
  refine (QB.out _).mono ?_
  rintro e w5 ⟨vc, rfl, h5, b5⟩
  have HB5 := Lib.hid (HB4.out.trans (b5.mono HB4.out.size))
  have HV5 := Lib.hid (HV4.out.below b5)
  have HS5 := Lib.hid h5.toks
  clear b5 h5 HB4 HV4 QB
  go_wp2_with fail
  refine (Parse_some vc _ (by omega) (by omega) Wn.parse_nB3 HS5.out (by decide)).mono ?_
  rintro e w6 ⟨r2, rfl, hv6, b6⟩
  have HB6 := Lib.hid (HB5.out.trans (b6.mono HB5.out.size))
  have HV6 := Lib.hid (HV5.out.below b6)
  have HG6 := Lib.hid hv6.any
  have hf2 : ∃ ao n c, r2 = .slice ao n c := by obtain ⟨ao, cap, hv, _⟩ := hv6.form; exact ⟨_, _, _, hv⟩
  clear b6 hv6 HS5 HB5 HV5
  go_wp2_with fail
  refine (Parse_bad _ 0 _ (by omega)).mono ?_
  rintro e w7 ⟨rfl, b7⟩
  have HB7 := Lib.hid (HB6.out.trans (b7.mono HB6.out.size))
  have HV7 := Lib.hid (HV6.out.below b7)
  have HG7 := Lib.hid (HG6.out.below b7)
  clear b7 HB6 HV6 HG6
  obtain ⟨xo, xn, xc, rfl⟩ := hf1
  obtain ⟨yo, yn, yc, rfl⟩ := hf2
  have hlen : xn = 1 := by obtain ⟨ao, cap, hv, _⟩ := HV7.out.form; simp only [Value.slice.injEq] at hv; exact hv.2.1
  subst hlen
  obtain ⟨b, o, rfl, j0, _, u, j4, hu⟩ := HV7.out.at (i := 0) (Wn.Fs.drop_zero Wn.nF)
  obtain ⟨uo, cap, hv, hcap, _⟩ := hu.form
  subst hv
  obtain ⟨b', o', rfl, _, ⟨_, l2, _⟩, _⟩ := hu.at (i := 1) (f := .cons 1 (1, [98], 0) .nil (.cons 1 (7, [93], 0) .nil .nil)) rfl
  simp only [Nat.zero_mul, Nat.add_zero, Nat.one_mul] at j0 j4 l2
  rw [show o' + 5 + 1 + 1 = o' + 7 by omega] at l2
  have hlen2 : (Wn.Fs.cons 1 (1, [98], 0) .nil (.cons 1 (7, [93], 0) .nil .nil)).len = 2 := rfl
  rw [hlen2] at j4 hcap
  have hs93 : Wn.str [93] = ⟨#[93]⟩ := rfl
  rw [hs93] at l2
  clear hu hlen2 hs93
  have QD := Lib.hid (fun w hv => (Depth_any (.slice yo yn yc) Wn.nG w hv (by decide)).mono (R' := fun e w' => e = .returned (.int .i64 3) ∧ Below w.heap.size w w') fun e w' ⟨he, hb⟩ => ⟨by rw [he, Wn.depth_nG]; rfl, hb⟩)
  have hfl := Wn.flat_nG
  have hfine := fine_lit (l := Wn.flat Wn.nG) (by rw [hfl]; decide)
  have QF := Lib.hid (fun w hv => Flat_any (.slice yo yn yc) Wn.nG w hv (by rw [hfl]; decide))
  have QT := Lib.hid (fun v w hW => (rText v (Wn.flat Wn.nG) w hW hfine.2 (by rw [hfl]; decide)).mono (R' := fun e w' => e = .returned (.string ⟨#[40, 91, 123, 120, 125, 93, 41]⟩) ∧ Below w.heap.size w w') fun e w' ⟨he, hb⟩ => ⟨by rw [he, Wn.text_nG]; rfl, hb⟩)
  have QM := Lib.hid (fun w ht hv => (NMay_any (.slice yo yn yc) Wn.nG w ht hv (by rw [hfl]; decide) hfine.1).mono (R' := fun e w' => e = .returned (.bool true) ∧ Below w.heap.size w w') fun e w' ⟨he, hb⟩ => ⟨by rw [he, Wn.may_nG], hb⟩)
  have QZ := Lib.hid (fun v w ht hv => (NMay_any v Wn.nZ w ht hv (by decide) (fun t ht => by simp [Wn.nZ, Wn.flat, Wn.isBlk] at ht)).mono (R' := fun e w' => e = .returned (.bool false) ∧ Below w.heap.size w w') fun e w' ⟨he, hb⟩ => ⟨by rw [he, Wn.may_nZ], hb⟩)
  clear hfl hfine
  go_wp2_with fail
  refine (QD.out _ HG7.out).mono ?_
  rintro e w8 ⟨rfl, b8⟩
  have HB8 := Lib.hid (HB7.out.trans (b8.mono HB7.out.size))
  have HV8 := Lib.hid (HV7.out.below b8)
  have HG8 := Lib.hid (HG7.out.below b8)
  clear b8 HB7 HV7 HG7 QD j0 j4 l2
  go_wp2_with fail
  refine (QF.out _ HG8.out).mono ?_
  rintro e w9 ⟨rf, rfl, hown, b9⟩
  have HB9 := Lib.hid (HB8.out.trans (b9.mono HB8.out.size))
  have HV9 := Lib.hid (HV8.out.below b9)
  have HG9 := Lib.hid (HG8.out.below b9)
  have HF9 := Lib.hid (Toks.ofRow hown)
  clear b9 HB8 HV8 HG8 QF hown
  go_wp2_with fail
  refine (QT.out _ _ HF9.out).mono ?_
  rintro e w10 ⟨rfl, b10⟩
  have HB10 := Lib.hid (HB9.out.trans (b10.mono HB9.out.size))
  have HV10 := Lib.hid (HV9.out.below b10)
  have HG10 := Lib.hid (HG9.out.below b10)
  clear b10 HB9 HV9 HG9 QT HF9
  go_wp2_with fail
  refine (QM.out _ (HT.out.below HB10.out) HG10.out).mono ?_
  rintro e w11 ⟨rfl, b11⟩
  have HB11 := Lib.hid (HB10.out.trans (b11.mono HB10.out.size))
  have HV11 := Lib.hid (HV10.out.below b11)
  have HG11 := Lib.hid (HG10.out.below b11)
  have hbz : Below w11.heap.size w11 (w11.alloc (.cells #[.int .i64 0, .int .i64 0, .string ⟨#[]⟩, .int .i64 0, .slice none 0 0] 39)) := (Below.refl _ _).alloc (Nat.le_refl _) _
  have HBZ := Lib.hid (HB11.out.trans (hbz.mono HB11.out.size))
  have HVZ := Lib.hid (HV11.out.below hbz)
  have HGZ := Lib.hid (HG11.out.below hbz)
  have HZZ : Hid (Vals (w11.alloc (.cells #[.int .i64 0, .int .i64 0, .string ⟨#[]⟩, .int .i64 0, .slice none 0 0] 39)) (.slice (some ⟨w11.heap.size, 0, none⟩) 1 1) Wn.nZ) := Lib.hid (Vals.mk1 w11 _ rfl 0 (0, [], 0) .nil _ (Vals.nil w11))
  clear b11 HB10 HV10 HG10 QM hbz HB11 HV11 HG11
  go_wp2_with fail
  refine (QZ.out _ _ (HT.out.below HBZ.out) HZZ.out).mono ?_
  rintro e w12 ⟨rfl, b12⟩
  have HB12 := Lib.hid (HBZ.out.trans (b12.mono HBZ.out.size))
  have HV12 := Lib.hid (HVZ.out.below b12)
  have HG12 := Lib.hid (HGZ.out.below b12)
  clear b12 HBZ HVZ HGZ QZ HZZ
  go_wp2_with fail
  refine (NSame_any _ _ Wn.nG Wn.nG _ HG12.out HG12.out).mono ?_
  rintro e w13 ⟨rfl, b13⟩
  rw [show decide (Wn.nG = Wn.nG) = true by simp]
  have HB13 := Lib.hid (HB12.out.trans (b13.mono HB12.out.size))
  have HV13 := Lib.hid (HV12.out.below b13)
  have HG13 := Lib.hid (HG12.out.below b13)
  clear b13 HB12 HV12 HG12
  go_wp2_with fail
  refine (NSame_any _ _ Wn.nF Wn.nG _ HV13.out HG13.out).mono ?_
  rintro e w14 ⟨rfl, b14⟩
  rw [Wn.ne_nFG]
  have HB14 := Lib.hid (HB13.out.trans (b14.mono HB13.out.size))
  clear b14 HB13 HV13 HG13
  go_wp2_with fail
  go_ret
  exact ⟨rfl, HB14.out⟩
end Go.Proofs.YtjmocdoimiomdaaDoor
