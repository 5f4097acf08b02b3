/- What the fixed calls of the seventh layer's laws read, as mathematics. What the fixed calls of the seventh layer's laws answer: true. -/
import Derived.Test.YtjlejiphpbaonaaGreatDoorLC
import Derived.Test.YtjlejiphpbaonaaGreatDoorLD
import Derived.Test.YtjlejiphpbaonaaGreatDoorLE
import Derived.Test.YtjlejiphpbaonaaGreatDoorGU
set_option linter.unusedVariables false
set_option linter.unusedSimpArgs false
set_option maxRecDepth 20000
namespace Wn
def allShort : Fs → Bool
  | .nil => true
  | .cons _ t x r => decide (t.2.1.length ≤ 100) && allShort x && allShort r
theorem allShort_all {n : Nat} (hn : 100 ≤ n) : ∀ {f : Fs}, allShort f = true → f.all fun t => t.2.1.length ≤ n
  | .nil, _ => trivial
  | .cons k t x r, h => by
    simp only [allShort, Bool.and_eq_true, decide_eq_true_eq] at h
    exact ⟨by show t.2.1.length ≤ n; omega, allShort_all hn h.1.2, allShort_all hn h.2⟩
def fxB : List UInt8 := [67, 111, 108, 111, 114, 32, 58, 32, 82, 69, 68, 32, 33, 32, 73, 77, 80, 79, 82, 84, 65, 78, 84, 59, 32, 120, 59, 32, 45, 45, 65, 58, 49, 59, 32, 98, 58, 59, 32, 99, 58, 100, 33, 59, 32, 101, 58, 32, 102, 59, 59, 32, 103, 33, 105, 109, 112, 111, 114, 116, 97, 110, 116, 58, 49]
def fxA : Dl := ([99, 111, 108, 111, 114], .cons 1 (1, [82, 69, 68], 0) .nil .nil, true)
def fxC : Dl := ([45, 45, 65], .cons 1 (5, [], 1) .nil .nil, false)
def fxE : Dl := ([101], .cons 1 (1, [102], 0) .nil .nil, false)
def fxL : List Dl := [fxA, fxC, fxE]
def fxT : List UInt8 := [99, 111, 108, 111, 114, 58, 82, 69, 68, 33, 105, 109, 112, 111, 114, 116, 97, 110, 116, 59, 45, 45, 65, 58, 49, 59, 101, 58, 102]
set_option maxRecDepth 100000 in
theorem fx_read : (readF fxB).map (fun f => (parseD (trimF f), decide ((trimF f).size ≤ 1000), allShort (trimF f))) = some (fxL, true, true) := by decide +kernel
set_option maxRecDepth 100000 in
theorem fx_text : textF (valsD fxL) = fxT := by decide +kernel
set_option maxRecDepth 100000 in
theorem fx_may : mayD fxL = true := by decide +kernel
theorem fx_none : mayD [([], .nil, false)] = false := by decide +kernel
def fineB (t : Tok) : Bool := decide (t.2.1.length ≤ 100) && decide (-1000000 ≤ t.2.2) && decide (t.2.2 ≤ 1000000)
def fitB (d : Dl) : Bool := decide (d.1.length ≤ 100) && decide (d.2.1.size ≤ 1000) && decide ((flat d.2.1).length ≤ 1000) && (flat d.2.1).all fineB
theorem fx_fit : fxL.all fitB = true := by decide +kernel
theorem fx_fitN : fitB ([], .nil, false) = true := by decide +kernel
theorem fx_flat : (flat (valsD fxL)).all fineB = true ∧ (flat (valsD fxL)).length ≤ 1000 ∧ sizes (fxL.map valsOne) ≤ 1000 := by decide +kernel
theorem fx_take : decide (fxL = fxL.take 2) = false := by decide +kernel
end Wn
namespace Go.Proofs.YtjlejiphpbaonaaGreatDoor
open Go.RowKit Go.Sort
theorem fit_of {d : Wn.Dl} (h : Wn.fitB d = true) : DFit d := by
  unfold Wn.fitB at h
  simp only [Bool.and_eq_true, decide_eq_true_eq, List.all_eq_true] at h
  refine ⟨by omega, by omega, by omega, fun t ht => ?_⟩
  have := h.2 t ht
  unfold Wn.fineB at this
  simp only [Bool.and_eq_true, decide_eq_true_eq] at this
  exact ⟨by omega, by omega, by omega⟩
end Go.Proofs.YtjlejiphpbaonaaGreatDoor
set_option linter.unusedVariables false
set_option linter.unusedSimpArgs false
set_option maxRecDepth 20000
namespace Go.Proofs.YtjlejiphpbaonaaGreatDoor
open Go.RowKit Go.Sort
set_option maxRecDepth 100000 in
set_option maxHeartbeats 4000000 in
theorem fixed07 (w : World) (ht : Tab w) :
    Calls Tryz.prog 10 #[] w fun e w' => e = .returned (.bool true) ∧ Below w.heap.size w w' := by
  have HT := Lib.hid ht; clear ht
  go_enter Tryz.func10, Tryz.ntmps10
  go_wp2_with fail
  refine (rRead_any _ w (by show 65 ≤ _; omega)).mono ?_
  rintro e w1 ⟨r, c, rfl, b1, ⟨rfl, rfl, hr⟩ | ⟨rfl, f, hr, hv⟩⟩
  · have h := Wn.fx_read
    have hr' : Wn.readF Wn.fxB = none := hr
    rw [hr'] at h
    cases h
  have hr' : Wn.readF Wn.fxB = some f := hr
  have hx := Wn.fx_read
  rw [hr'] at hx
  simp only [Option.map_some, Option.some.injEq, Prod.mk.injEq, decide_eq_true_eq] at hx
  obtain ⟨hx1, hx2, hx3⟩ := hx
  have HB1 := Lib.hid b1
  have QP := Lib.hid (DParse_v r (Wn.trimF f) w1 hv (by omega) (Wn.allShort_all (by omega) hx3))
  obtain ⟨ro, rc, rfl, _, _⟩ := hv.form
  rw [hx1] at QP
  clear hr hr' b1 hv hx1 hx2 hx3
  go_wp2_with fail
  refine QP.out.mono ?_
  rintro e w2 ⟨r2, rfl, hp, b2⟩
  have HB2 := Lib.hid (HB1.out.trans (b2.mono HB1.out.size))
  have hp := RK.P.mono hp (fun _ _ _ => trivial) (ok' := fun _ => True)
  have HP2 := Lib.hid hp
  obtain ⟨lo, lc, rfl, l1, l2⟩ := hp.form
  unfold maxLen at l2
  rw [show Wn.fxL.length = 3 from rfl] at l1 ⊢
  have QV := Lib.hid (DVals_v Wn.fxL _ w2 hp (by have := Wn.fx_flat.2.2; omega))
  rw [show Wn.fxL.length = 3 from rfl] at QV
  clear b2 QP HB1 hp
  go_wp2_with fail
  refine QV.out.mono ?_
  rintro e w3 ⟨r3, rfl, hv3, b3⟩
  have HB3 := Lib.hid (HB2.out.trans (b3.mono HB2.out.size))
  have HP3 := Lib.hid (HP2.out.below b3)
  have hfl := Wn.fx_flat
  have QT := Lib.hid (rSText r3 (Wn.valsD Wn.fxL) w3 hv3.any (by omega) (fun t ht => by
    have := (List.all_eq_true.1 hfl.1) t ht
    unfold Wn.fineB at this
    simp only [Bool.and_eq_true, decide_eq_true_eq] at this
    exact ⟨by omega, by omega, by omega⟩))
  rw [Wn.fx_text] at QT
  obtain ⟨o3, c3, rfl, _, _⟩ := hv3.form
  have hp3 : dlK.P w3 (fun _ => True) (.slice lo 3 lc) Wn.fxL := HP3.out
  obtain ⟨b, o, cs, rfl, _, _, hR0, hL0⟩ := hp3.at (i := 0) (x := Wn.fxA) rfl
  obtain ⟨u0, rfl, hu0⟩ := hR0
  obtain ⟨a0, c0, rfl, d0, e0⟩ := hu0.form
  obtain ⟨b', o', cs, hbo, _, _, hR1, hL1⟩ := hp3.at (i := 1) (x := Wn.fxC) rfl
  cases hbo
  obtain ⟨u1, rfl, hu1⟩ := hR1
  obtain ⟨b', o', cs, hbo, _, _, hR2, hL2⟩ := hp3.at (i := 2) (x := Wn.fxE) rfl
  cases hbo
  obtain ⟨u2, rfl, hu2⟩ := hR2
  have n0 : w3.cell? ⟨b, o, none⟩ = some (.string ⟨#[99, 111, 108, 111, 114]⟩) := hL0 0 _ rfl
  have n1 : w3.cell? ⟨b, o + 1, none⟩ = some (.slice a0 1 c0) := hL0 1 _ rfl
  have n2 : w3.cell? ⟨b, o + 2, none⟩ = some (.bool true) := hL0 2 _ rfl
  have n3 : w3.cell? ⟨b, o + 3, none⟩ = some (.string ⟨#[45, 45, 65]⟩) := hL1 0 _ rfl
  have n5 : w3.cell? ⟨b, o + 3 + 2, none⟩ = some (.bool false) := hL1 2 _ rfl
  have n6 : w3.cell? ⟨b, o + 6, none⟩ = some (.string ⟨#[101]⟩) := hL2 0 _ rfl
  have d0' : 1 ≤ c0 := d0
  obtain ⟨b1, o1, rfl, _, ⟨_, j2, _⟩, _⟩ := hu0.at (i := 0) (k := 1) (t := (1, [82, 69, 68], 0)) (x := .nil) (r := .nil) rfl
  have m2 : w3.cell? ⟨b1, o1 + 1 + 1, none⟩ = some (.string ⟨#[82, 69, 68]⟩) := j2
  clear hp3 hL0 hL1 hL2 hu0 hu1 hu2 j2 hv3 hfl QV b3 HB2 HP2 d0
  go_wp2_with fail
  refine QT.out.mono ?_
  rintro e w4 ⟨rfl, b4⟩
  have HB4 := Lib.hid (HB3.out.trans (b4.mono HB3.out.size))
  have HP4 : Hid (dlK.P w4 (fun _ => True) (.slice (some ⟨b, o, none⟩) 3 lc) Wn.fxL) := Lib.hid (HP3.out.below b4)
  have QM := Lib.hid (DMay_v Wn.fxL _ w4 (HT.out.below HB4.out) HP4.out (fun d hd => fit_of (List.all_eq_true.1 Wn.fx_fit d hd)))
  rw [Wn.fx_may] at QM
  clear n0 n1 n2 n3 n5 n6 m2 b4 QT HB3 HP3
  rw [show Wn.str Wn.fxT = ⟨#[99, 111, 108, 111, 114, 58, 82, 69, 68, 33, 105, 109, 112, 111, 114, 116, 97, 110, 116, 59, 45, 45, 65, 58, 49, 59, 101, 58, 102]⟩ from rfl]
  go_wp2_with fail
  refine QM.out.mono ?_
  rintro e w5 ⟨rfl, b5⟩
  have HB5 := Lib.hid (HB4.out.trans (b5.mono HB4.out.size))
  have HP5 := Lib.hid (HP4.out.below b5)
  have hal : Below w5.heap.size w5 (w5.alloc (.cells #[.string ⟨#[]⟩, .slice none 0 0, .bool false] 44)) := (Below.refl _ _).alloc (Nat.le_refl _) _
  have hN : dlK.P (w5.alloc (.cells #[.string ⟨#[]⟩, .slice none 0 0, .bool false] 44)) (fun _ => True) (.slice (some ⟨w5.heap.size, 0, none⟩) 1 1) [([], .nil, false)] := RK.P.mk (K := dlK) (es := [[.string ⟨#[]⟩, .slice none 0 0, .bool false]]) (heap_alloc_new w5 _) ⟨⟨_, rfl, ValsP.nil _ _⟩, trivial⟩ rfl rfl (by simp) trivial
  have HB6 := Lib.hid (HB5.out.trans (hal.mono HB5.out.size))
  have HP6 := Lib.hid (HP5.out.below hal)
  have QN := Lib.hid (DMay_v [([], .nil, false)] _ _ (HT.out.below HB6.out) hN (fun d hd => by
    simp at hd
    subst hd
    exact fit_of Wn.fx_fitN))
  rw [Wn.fx_none] at QN
  clear b5 QM HB4 HP4 hal hN HB5 HP5
  go_wp2_with fail
  generalize w5.alloc (.cells #[.string ⟨#[]⟩, .slice none 0 0, .bool false] 44) = w6 at *
  refine QN.out.mono ?_
  rintro e w7 ⟨rfl, b7⟩
  have HB7 := Lib.hid (HB6.out.trans (b7.mono HB6.out.size))
  have HP7 := Lib.hid (HP6.out.below b7)
  have QS := Lib.hid (DSame_v Wn.fxL Wn.fxL _ _ w7 HP7.out HP7.out)
  rw [decide_eq_true (rfl : Wn.fxL = Wn.fxL)] at QS
  clear b7 QN HB6 HP6
  go_wp2_with fail
  refine QS.out.mono ?_
  rintro e w8 ⟨rfl, b8⟩
  have HB8 := Lib.hid (HB7.out.trans (b8.mono HB7.out.size))
  have HP8 := Lib.hid (HP7.out.below b8)
  have hsub : dlK.P w8 (fun _ => True) (.slice (some ⟨b, o, none⟩) 2 lc) (Wn.fxL.take 2) := RK.P.sub (K := dlK) (n := 3) HP8.out 0 2 (by omega) (by omega)
  have QS2 := Lib.hid (DSame_v Wn.fxL (Wn.fxL.take 2) _ _ w8 HP8.out hsub)
  rw [Wn.fx_take] at QS2
  clear b8 QS HB7 HP7 hsub
  go_wp2_with fail
  refine QS2.out.mono ?_
  rintro e w9 ⟨rfl, b9⟩
  have HB9 := Lib.hid (HB8.out.trans (b9.mono HB8.out.size))
  clear b9 QS2 HB8 HP8
  go_wp2_with fail
  refine (custom_v [45, 45] _ (by unfold maxLen; simp)).mono ?_
  rintro e w10 ⟨rfl, b10⟩
  have HB10 := Lib.hid (HB9.out.trans (b10.mono HB9.out.size))
  rw [show Wn.custom [45, 45] = true from rfl]
  clear b10 HB9
  go_wp2_with fail
  refine (custom_v [45, 97] _ (by unfold maxLen; simp)).mono ?_
  rintro e w11 ⟨rfl, b11⟩
  have HB11 := Lib.hid (HB10.out.trans (b11.mono HB10.out.size))
  rw [show Wn.custom [45, 97] = false from rfl]
  clear b11 HB10
  go_wp2_with fail
  refine (DVals_v [] (.slice none 0 0) _ (RK.P.nil _ _) (by simp [Wn.sizes])).mono ?_
  rintro e w12 ⟨r12, rfl, hr12, b12⟩
  have HB12 := Lib.hid (HB11.out.trans (b12.mono HB11.out.size))
  obtain ⟨o12, c12, rfl, _, _⟩ := hr12.form
  rw [show (Wn.valsD []).len = 0 from rfl]
  clear b12 HB11 hr12
  go_wp2_with fail
  go_ret
  exact ⟨rfl, HB12.out⟩
end Go.Proofs.YtjlejiphpbaonaaGreatDoor
