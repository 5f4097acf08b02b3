/- The values that the fixed calls of the third layer's laws are about. What the fixed calls of the third layer's laws answer: true. -/
import Derived.Test.YtjmocdoimiomdaaGreatDoorGY
import Derived.Test.YtjmocdoimiomdaaGreatDoorGX
import Derived.Test.YtjmocdoimiomdaaGreatDoorGS
set_option linter.unusedVariables false
set_option linter.unusedSimpArgs false
set_option maxRecDepth 20000
namespace Wn
def sA : List UInt8 := [32, 97, 44, 40, 98, 44, 99, 41, 32]
def sB : List UInt8 := [97, 32, 98, 32, 32, 99]
def sC : List UInt8 := List.replicate 61 40
def fIn : Fs := .cons 1 (1, [98], 0) .nil (.cons 1 (7, [44], 0) .nil (.cons 1 (1, [99], 0) .nil .nil))
def fV1 : Fs := .cons 1 (1, [97], 0) .nil .nil
def fV2 : Fs := .cons 2 (0, [], 0) fIn .nil
def fV : Fs := .cons 1 (1, [97], 0) .nil (.cons 1 (7, [44], 0) .nil fV2)
def fVr : Fs := .cons 1 (8, [10], 0) .nil (.cons 1 (1, [97], 0) .nil (.cons 1 (7, [44], 0) .nil (.cons 2 (0, [], 0) fIn (.cons 1 (8, [10], 0) .nil .nil))))
def fX : Fs := .cons 1 (1, [97], 0) .nil (.cons 1 (8, [10], 0) .nil (.cons 1 (1, [98], 0) .nil (.cons 1 (8, [10], 0) .nil (.cons 1 (1, [99], 0) .nil .nil))))
set_option maxRecDepth 100000
theorem read_sA : (readF sA).map trimF = some fV := by decide +kernel
theorem read_sB : (readF sB).map trimF = some fX := by decide +kernel
theorem read_sC : readF sC = none := by decide +kernel
theorem cuts_fV : cuts (signV [44]) fV = [fV1, fV2] := by decide +kernel
theorem join_fV : joinF [44] [fV1, fV2] = fV := by decide +kernel
theorem text_fV : textF fV = [97, 44, 40, 98, 44, 99, 41] := by decide +kernel
theorem flat_fV : flat fV = [(1, [97], 0), (7, [44], 0), (7, [40], 0), (1, [98], 0), (7, [44], 0), (1, [99], 0), (7, [41], 0)] := by decide +kernel
theorem size_fV : fV.size ≤ 100 ∧ fX.size ≤ 100 ∧ sizes [fV1, fV2] ≤ 100 := by decide +kernel
end Wn
namespace Go.Proofs.YtjmocdoimiomdaaGreatDoor
theorem words_fV : (words Wn.fV).length = 1 := by decide +kernel
theorem words_fX : (words Wn.fX).length = 3 := by decide +kernel
end Go.Proofs.YtjmocdoimiomdaaGreatDoor
set_option linter.unusedVariables false
set_option linter.unusedSimpArgs false
set_option maxRecDepth 20000
namespace Go.Proofs.YtjmocdoimiomdaaGreatDoor
open Go.RowKit Go.Sort
theorem Words_list (v : Value) (f : Wn.Fs) (w : World) (hv : Vals w v f) (hf : f.size ≤ 100000) :
    Calls Tryz.prog 18 #[v] w fun e w' => ∃ r, e = .returned r ∧ ListP w' (fun b => w.heap.size ≤ b) r (words f) ∧ Below w.heap.size w w' :=
  (Words_any v f w hv hf).mono fun _ _ ⟨r, _, he, ho, hc, hb⟩ => ⟨r, he, ListP.ofRow ho hc (fun _ h => h), hb⟩
theorem At_list (s0 : List UInt8) (v : Value) (f : Wn.Fs) (w : World) (hv : Vals w v f) (hf : f.size ≤ 100000) :
    Calls Tryz.prog 15 #[v, .string (Wn.str s0)] w fun e w' => ∃ r, e = .returned r ∧ ListP w' (fun b => w.heap.size ≤ b) r (Wn.cuts (Wn.signV s0) f) ∧ Below w.heap.size w w' :=
  (At_any s0 v f w hv hf).mono fun _ _ ⟨r, _, he, ho, hc, hb⟩ => ⟨r, he, ListP.ofRow ho hc (fun _ h => h), hb⟩
set_option maxRecDepth 100000 in
set_option maxHeartbeats 2000000 in
theorem sfixed_any (w : World) (ht : Tab w) :
    Calls Tryz.prog 7 #[] w fun e w' => e = .returned (.bool true) ∧ Below w.heap.size w w' := by
  have HT := Lib.hid ht; clear ht
  obtain ⟨fA, hA, tA⟩ := Option.map_eq_some_iff.1 Wn.read_sA
  obtain ⟨fB, hB, tB⟩ := Option.map_eq_some_iff.1 Wn.read_sB
  obtain ⟨z1, z2, z3⟩ := Wn.size_fV
  have hcm : Wn.str [44] = ⟨#[44]⟩ := rfl
  have hlV : Wn.fV.len = 3 := rfl
  have hfine := (fine_lit (l := Wn.flat Wn.fV) (by rw [Wn.flat_fV]; decide)).1
  have htx : Wn.str (Wn.textF Wn.fV) = ⟨#[97, 44, 40, 98, 44, 99, 41]⟩ := by rw [Wn.text_fV]; rfl
  have QA := Lib.hid (fun w => Read_some ⟨#[32, 97, 44, 40, 98, 44, 99, 41, 32]⟩ fA w (by show 9 ≤ _; omega) (lex_short (by show 9 ≤ _; omega)) hA)
  rw [tA] at QA
  have QB := Lib.hid (fun w => Read_some ⟨#[97, 32, 98, 32, 32, 99]⟩ fB w (by show 6 ≤ _; omega) (lex_short (by show 6 ≤ _; omega)) hB)
  rw [tB] at QB
  have QC := Lib.hid (fun w => Read_none ⟨#[40, 40, 40, 40, 40, 40, 40, 40, 40, 40, 40, 40, 40, 40, 40, 40, 40, 40, 40, 40, 40, 40, 40, 40, 40, 40, 40, 40, 40, 40, 40, 40, 40, 40, 40, 40, 40, 40, 40, 40, 40, 40, 40, 40, 40, 40, 40, 40, 40, 40, 40, 40, 40, 40, 40, 40, 40, 40, 40, 40, 40]⟩ w (by show 61 ≤ _; omega) (lex_short (by show 61 ≤ _; omega)) Wn.read_sC)
  have QL := Lib.hid (fun v w hv => At_list [44] v Wn.fV w hv (by omega))
  rw [Wn.cuts_fV, hcm] at QL
  have QW := Lib.hid (fun v w hv => Words_list v Wn.fV w hv (by omega))
  have QX := Lib.hid (fun v w hv => Words_list v Wn.fX w hv (by omega))
  have QT := Lib.hid (fun v w ht hv => SText_any v Wn.fV w ht hv (by rw [Wn.flat_fV]; decide) hfine)
  rw [htx] at QT
  have QJ := Lib.hid (fun v w hv => Join_any [44] v [Wn.fV1, Wn.fV2] w hv (by omega))
  rw [Wn.join_fV, hcm] at QJ
  have QN := Lib.hid (fun w => At_list [44] (.slice Option.none 0 0) .nil w (Vals.nil w) (by decide))
  rw [hcm] at QN
  have QD := Lib.hid (fun w => Trim_any (.slice Option.none 0 0) .nil w (Vals.nil w) (by decide))
  clear hA hB tA tB z1 z2 z3 hfine htx hcm
  go_enter Tryz.func7, Tryz.ntmps7
  go_wp2_with fail
  refine (QA.out _).mono ?_
  rintro e w1 ⟨r1, rfl, hv1, b1⟩
  obtain ⟨xo, xc, rfl, _, _⟩ := hv1.form
  rw [hlV] at hv1 ⊢
  have HB1 := Lib.hid b1
  have HV1 := Lib.hid hv1.any
  clear b1 hv1 QA
  go_wp2_with fail
  refine (QL.out _ _ HV1.out).mono ?_
  rintro e w2 ⟨r2, rfl, hv2, b2⟩
  obtain ⟨lo, lc, rfl, _, _⟩ := hv2.form
  have HB2 := Lib.hid (HB1.out.trans (b2.mono HB1.out.size))
  have HV2 := Lib.hid (HV1.out.below b2)
  have HL2 := Lib.hid hv2.any
  clear b2 hv2 HV1 HB1 QL
  go_wp2_with fail
  refine (QW.out _ _ HV2.out).mono ?_
  rintro e w3 ⟨r3, rfl, hv3, b3⟩
  obtain ⟨wo, wc, rfl, _, _⟩ := hv3.form
  rw [words_fV]
  have HB3 := Lib.hid (HB2.out.trans (b3.mono HB2.out.size))
  have HV3 := Lib.hid (HV2.out.below b3)
  have HL3 := Lib.hid (HL2.out.below b3)
  clear b3 hv3 HV2 HL2 HB2 QW
  go_wp2_with fail
  refine (QB.out _).mono ?_
  rintro e w4 ⟨r4, rfl, hv4, b4⟩
  obtain ⟨yo, yc, rfl, _, _⟩ := hv4.form
  have HB4 := Lib.hid (HB3.out.trans (b4.mono HB3.out.size))
  have HV4 := Lib.hid (HV3.out.below b4)
  have HL4 := Lib.hid (HL3.out.below b4)
  have HX4 := Lib.hid hv4.any
  clear b4 hv4 HV3 HL3 HB3 QB
  go_wp2_with fail
  refine (QC.out _).mono ?_
  rintro e w5 ⟨rfl, b5⟩
  have HB5 := Lib.hid (HB4.out.trans (b5.mono HB4.out.size))
  have HV5 := Lib.hid (HV4.out.below b5)
  have HL5 := Lib.hid (HL4.out.below b5)
  have HX5 := Lib.hid (HX4.out.below b5)
  clear b5 HV4 HL4 HX4 HB4 QC
  obtain ⟨b, o, u, rfl, j0, hu⟩ := HL5.out.at (i := 1) (g := Wn.fV2) rfl
  obtain ⟨uo, uc, rfl, _, _⟩ := hu.form
  rw [show Wn.fV2.len = 1 from rfl] at j0
  rw [show [Wn.fV1, Wn.fV2].length = 2 from rfl] at HL5
  clear hu
  go_wp2_with fail
  refine (QT.out _ _ (HT.out.below HB5.out) HV5.out).mono ?_
  rintro e w6 ⟨rfl, b6⟩
  have HB6 := Lib.hid (HB5.out.trans (b6.mono HB5.out.size))
  have HV6 := Lib.hid (HV5.out.below b6)
  have HL6 := Lib.hid (HL5.out.below b6)
  have HX6 := Lib.hid (HX5.out.below b6)
  clear b6 HV5 HL5 HX5 HB5 QT j0
  go_wp2_with fail
  refine (QJ.out _ _ HL6.out.old).mono ?_
  rintro e w7 ⟨r7, rfl, hv7, b7⟩
  have HB7 := Lib.hid (HB6.out.trans (b7.mono HB6.out.size))
  have HV7 := Lib.hid (HV6.out.below b7)
  have HX7 := Lib.hid (HX6.out.below b7)
  have HJ7 := Lib.hid hv7.any
  clear b7 hv7 HV6 HL6 HX6 HB6 QJ
  go_wp2_with fail
  refine (rSameF _ _ Wn.fV Wn.fV _ HJ7.out HV7.out).mono ?_
  rintro e w8 ⟨rfl, b8⟩
  rw [show decide (Wn.fV = Wn.fV) = true by simp]
  have HB8 := Lib.hid (HB7.out.trans (b8.mono HB7.out.size))
  have HX8 := Lib.hid (HX7.out.below b8)
  clear b8 HV7 HX7 HB7 HJ7
  go_wp2_with fail
  refine (QX.out _ _ HX8.out).mono ?_
  rintro e w9 ⟨r9, rfl, hv9, b9⟩
  obtain ⟨qo, qc, rfl, _, _⟩ := hv9.form
  rw [words_fX]
  have HB9 := Lib.hid (HB8.out.trans (b9.mono HB8.out.size))
  clear b9 hv9 HX8 HB8 QX
  go_wp2_with fail
  refine (QN.out _).mono ?_
  rintro e w10 ⟨r10, rfl, hv10, b10⟩
  obtain ⟨po, pc, rfl, _, _⟩ := hv10.form
  rw [show (Wn.cuts (Wn.signV [44]) .nil).length = 1 from rfl]
  have HB10 := Lib.hid (HB9.out.trans (b10.mono HB9.out.size))
  clear b10 hv10 HB9 QN
  go_wp2_with fail
  refine (QD.out _).mono ?_
  rintro e w11 ⟨r11, rfl, hv11, b11⟩
  obtain ⟨so, sc, rfl, _, _⟩ := hv11.form
  rw [show (Wn.trimF .nil).len = 0 from rfl]
  have HB11 := Lib.hid (HB10.out.trans (b11.mono HB10.out.size))
  clear b11 hv11 HB10 QD
  go_wp2_with fail
  go_ret
  exact ⟨rfl, HB11.out⟩
end Go.Proofs.YtjmocdoimiomdaaGreatDoor
