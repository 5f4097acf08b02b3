/- DeclsParts: whatever the values, the law answers true, and nothing that was there has turned. DeclsParts holds for all values: the call returns true, and each argument reads afterwards as it read before. The three listed tables of the library are tied to the program's text. -/
import Derived.Test.YtjlejiphpbaonaaGreatDoorLI
import Derived.Test.YtjlejiphpbaonaaGreatDoorLH
import Derived.Test.YtjlejiphpbaonaaGreatDoorGG
import Derived.Test.YtjlejiphpbaonaaGreatDoorGH
set_option linter.unusedVariables false
set_option linter.unusedSimpArgs false
set_option maxRecDepth 20000
namespace Go.Proofs.YtjlejiphpbaonaaGreatDoor
open Go.RowKit Go.Sort
set_option maxRecDepth 100000 in
set_option maxHeartbeats 8000000 in
theorem ldParts_any (va : Value) (fa : Wn.Fs) (w : World) (ht : Tab w) (ha : Vals w va fa) :
    Calls Tryz.prog 6 #[va] w fun e w' => e = .returned (.bool true) ∧ Below w.heap.size w w' := by
  have HT := Lib.hid ht
  have HA := Lib.hid ha
  obtain ⟨ao, ac, rfl, c1, c2⟩ := ha.form
  unfold maxLen at c2
  clear ht ha
  go_enter Tryz.func6, Tryz.ntmps6
  go_wp2_with fail
  refine (fixed07 _ HT.out).mono ?_
  rintro e w1 ⟨rfl, b1⟩
  have HW1 := Lib.hid b1
  have HA1 := Lib.hid (ValsP.below HA.out b1)
  have QA := Lib.hid (rSmall_any _ fa 200 w1 HA1.out (by decide) (by decide))
  clear b1 HA
  go_wp2_with fail
  refine QA.out.mono ?_
  rintro e w2 ⟨c, rfl, hc, rfl⟩
  cases c
  · go_wp2_with fail
    refine (fixed07 _ (HT.out.below HW1.out)).mono ?_
    rintro e w3 ⟨rfl, b3⟩
    go_wp2_with fail
    go_ret
    exact ⟨rfl, HW1.out.trans (b3.mono HW1.out.size)⟩
  obtain ⟨hsa, hsa2⟩ := hc rfl
  clear hc QA
  have QPA := Lib.hid (DParse_v _ fa w1 HA1.out (by omega) (short_mono (by omega) hsa2))
  go_wp2_with fail
  refine QPA.out.mono ?_
  rintro e w3 ⟨rx, rfl, hx, b3⟩
  have HW3 := Lib.hid (HW1.out.trans (b3.mono HW1.out.size))
  have HA3 := Lib.hid (ValsP.below HA1.out b3)
  have HX3 := Lib.hid (RK.P.mono hx (fun _ _ _ => trivial) (ok' := fun _ => True))
  obtain ⟨xo, xc, rfl, x1, x2⟩ := hx.form
  unfold maxLen at x2
  have hpx : (Wn.parseD fa).length ≤ 1000 := by have := Wn.parse_len fa; have := Wn.cuts_len (Wn.signV [59]) fa; have := Wn.Fs.len_le_size fa; omega
  have hcut := Wn.parse_len fa
  have HM : Hid (∀ d ∈ Wn.parseD fa, Wn.isValF d.2.1 = true ∧ d.1 = Wn.proper d.1 ∧ d.2.1.size ≤ 200 ∧ d.1.length ≤ 100) := Lib.hid (fun d hd => by
    obtain ⟨m1, m2, m3, _, m5⟩ := Wn.parse_mem hd (short_mono (Nat.le_refl 100) hsa2)
    exact ⟨m1, m2, by omega, m5⟩)
  have QAT := Lib.hid (fun (W : World) (h : Below w3.heap.size w3 W) => rAt_any [59] _ fa W (ValsP.below HA3.out h) (by omega))
  have HP : Hid (Wn.str [59] = ⟨#[59]⟩) := Lib.hid rfl
  rw [HP.out] at QAT
  have QS1 := Lib.hid (fun k t u w hu => rSign_v [59] k t u w hu)
  have QS2 := Lib.hid (fun k t u w hu => rSign_v [33] k t u w hu)
  rw [HP.out] at QS1
  rw [show Wn.str [33] = ⟨#[33]⟩ from rfl] at QS2
  have HCN : Hid ((Wn.cuts (Wn.signV [59]) fa).length ≤ 1000) := Lib.hid (by have := Wn.cuts_len (Wn.signV [59]) fa; have := Wn.Fs.len_le_size fa; omega)
  clear b3 QPA HA1 hx hsa hsa2 HA3
  generalize Wn.cuts (Wn.signV [59]) fa = CT at *
  generalize hX : Wn.parseD fa = X at *
  clear hX
  go_wp2_with fail
  go_loopw [4] (fun v4 wr => ∃ i : Nat, i ≤ X.length ∧ v4 = .int .i64 (i : Int) ∧ Hid (Below w3.heap.size w3 wr)) (fun v4 _ => X.length - (intOf v4).toNat)
  case atStart => exact ⟨0, Nat.zero_le _, rfl, Lib.hid (Below.refl _ _)⟩
  case round =>
    obtain ⟨i, hi, rfl, HB⟩ := hrel
    by_cases hil : i < X.length
    case neg =>
      have hiv : ¬ (i : Int) < (X.length : Int) := by omega
      have QAB := Lib.hid (QAT.out _ HB.out)
      clear QAT QS1 QS2
      go_wp2_with fail
      refine QAB.out.mono ?_
      rintro e w11 ⟨ra, rfl, hra, b11⟩
      obtain ⟨qo, qc, rfl, _, _⟩ := hra.form
      have hfin : (X.length : Int) ≤ (CT.length : Int) := by omega
      have HB11 := Lib.hid (HB.out.trans (b11.mono HB.out.size))
      clear hra b11 QAB
      go_wp2_with fail
      go_ret
      exact ⟨rfl, HW3.out.trans (HB11.out.mono HW3.out.size)⟩
    have hiv : (i : Int) < (X.length : Int) := by omega
    have hx : X[i]? = some X[i] := List.getElem?_eq_getElem hil
    have hmem : X[i] ∈ X := List.getElem_mem hil
    generalize X[i] = d at *
    obtain ⟨b, o, cs, he, _, _, hRx, hLx⟩ := HX3.out.at hx
    cases he
    obtain ⟨xu, rfl, hxu⟩ := hRx
    obtain ⟨uo, uc, rfl, l1, l2⟩ := hxu.form
    have y0 := hLx 0 _ rfl
    have y1 := hLx 1 _ rfl
    simp only [show dlK.sz = 3 from rfl, Nat.add_zero] at y0 y1
    obtain ⟨q1, q2, q3, q4⟩ := HM.out d hmem
    obtain ⟨nm, f, bb⟩ := d
    dsimp only at *
    cases f with
    | nil => simp [Wn.isValF, Wn.Fs.len] at q1
    | cons k t x r =>
      have hgl : (Wn.Fs.cons k t x r).len = r.len + 1 := rfl
      obtain ⟨k2, t2, x2', hlast⟩ := Wn.Fs.drop_cons (f := Wn.Fs.cons k t x r) (i := r.len) (by rw [hgl]; omega)
      rw [Wn.Fs.drop_len (f := Wn.Fs.cons k t x r) (i := r.len + 1) (Nat.le_refl _)] at hlast
      have hiv2 := Wn.isVal_ends (g := Wn.Fs.cons k t x r) rfl (by rw [hgl, Nat.add_sub_cancel]; exact hlast)
      rw [q1] at hiv2
      have hv2 := hiv2.symm
      simp only [Bool.and_eq_true, Bool.not_eq_true'] at hv2
      obtain ⟨hv3, hv4, hv5, hv6, _⟩ := hv2
      have HS1 := Lib.hid (fun j k' t' x' r' hd => Wn.anyF_at (j := j) (k := k') (t := t') (x := x') (r := r') hv6 hd)
      have HS2 := Lib.hid (fun j k' t' x' r' hd => Wn.anyF_at (j := j) (k := k') (t := t') (x := x') (r := r') hv5 hd)
      obtain ⟨b1, o1, he1, j0, ⟨j1, j2, j3⟩, u1, j4, hu1⟩ := hxu.at (i := 0) (Wn.Fs.drop_zero _)
      cases he1
      obtain ⟨b', o', he, g0, ⟨g1, g2, g3⟩, u2', g4, hu2⟩ := hxu.at (i := r.len) hlast
      cases he
      obtain ⟨uo1, uc1, rfl, _, _⟩ := hu1.form
      obtain ⟨uo2, uc2, rfl, _, _⟩ := hu2.form
      simp only [Nat.zero_mul, Nat.add_zero] at j0 j1 j2 j3 j4
      rw [show o1 + 1 + 1 = o1 + 2 by omega] at j2
      rw [show o1 + 1 + 2 = o1 + 3 by omega] at j3
      rw [show o1 + r.len * 5 + 1 + 1 = o1 + r.len * 5 + 2 by omega] at g2
      rw [show o1 + r.len * 5 + 1 + 2 = o1 + r.len * 5 + 3 by omega] at g3
      have C1 : Hid (∀ d os, Calls Tryz.prog 19 #[.string (Wn.str nm)] (grow (redrawn wr d) os) fun e w'' => e = .returned (.bool (Wn.custom nm)) ∧ ∃ p : Regrown, w'' = grow (redrawn wr p.d) p.os) := Lib.hid (fun d os => Calls.regrown_of (custom_v nm _ (by unfold maxLen; omega)))
      have C2 : Hid (∀ d os, Calls Tryz.prog 27 #[.string (Wn.str nm)] (grow (redrawn wr d) os) fun e w'' => e = .returned (.string (Wn.str nm)) ∧ ∃ p : Regrown, w'' = grow (redrawn wr p.d) p.os) := Lib.hid (fun d os => Calls.regrown_of (by have := rProper_v nm (grow (redrawn wr d) os) (by omega); rwa [← q2] at this))
      have C3 : Hid (∀ d os, Calls Tryz.prog 26 #[.agg #[.int .i64 k, .int .i64 t.1, .string (Wn.str t.2.1), .int .i64 t.2.2, .slice uo1 x.len uc1]] (grow (redrawn wr d) os) fun e w'' => e = .returned (.bool false) ∧ ∃ p : Regrown, w'' = grow (redrawn wr p.d) p.os) := Lib.hid (fun d os => Calls.regrown_of (by rw [← hv3]; exact rBlank_v k t _ _ ⟨_, _, _, rfl⟩))
      have C4 : Hid (∀ d os, Calls Tryz.prog 26 #[.agg #[.int .i64 k2, .int .i64 t2.1, .string (Wn.str t2.2.1), .int .i64 t2.2.2, .slice uo2 x2'.len uc2]] (grow (redrawn wr d) os) fun e w'' => e = .returned (.bool false) ∧ ∃ p : Regrown, w'' = grow (redrawn wr p.d) p.os) := Lib.hid (fun d os => Calls.regrown_of (by rw [← hv4]; exact rBlank_v k2 t2 _ _ ⟨_, _, _, rfl⟩))
      have HYC := Lib.hid y1
      have HVC := Lib.hid hxu
      have e0 := y0.keepB HB.out
      have e1 := y1.keepB HB.out
      have m0 := cell_regrown (j0.keepB HB.out)
      have m1 := cell_regrown (j1.keepB HB.out)
      have m2 := cell_regrown (j2.keepB HB.out)
      have m3 := cell_regrown (j3.keepB HB.out)
      have m4 := cell_regrown (j4.keepB HB.out)
      have n0 := cell_regrown (g0.keepB HB.out)
      have n1 := cell_regrown (g1.keepB HB.out)
      have n2 := cell_regrown (g2.keepB HB.out)
      have n3 := cell_regrown (g3.keepB HB.out)
      have n4 := cell_regrown (g4.keepB HB.out)
      have r0 := cell_regrown e0
      have r1 := cell_regrown e1
      have hrl : r.len ≤ 1000 := by have := Wn.Fs.len_le_size (Wn.Fs.cons k t x r); rw [hgl] at this; omega
      rw [hgl] at e1 r1 HYC HVC
      have hi7 : (((r.len : Int) + 1) == 0) = false := by rw [beq_eq_false_iff_ne]; omega
      have hi8 : (r.len : Int) < (r.len : Int) + 1 := by omega
      have hi2 : (r.len : Int) < ((r.len + 1 : Nat) : Int) := by omega
      have hi3 : (0 : Int) ≤ (r.len : Int) := by omega
      have hi4 : ((r.len : Int)).toNat = r.len := rfl
      have hi5 : IntKind.i64.wrap (r.len : Int) = (r.len : Int) := by rw [IntKind.wrap_i64]; omega
      have hi6 : (((r.len + 1 : Nat) : Int) == 0) = false := by rw [beq_eq_false_iff_ne]; omega
      have hin : ((i : Int)).toNat = i := rfl
      have hi0 : (0 : Int) ≤ (i : Int) := by omega
      clear hlast hiv2 hxu hu1 hu2 j0 j1 j2 j3 j4 g0 g1 g2 g3 g4 q1 q2 q3 q4 hv3 hv4 hv5 hv6 hLx hx hmem y0 y1
      generalize hgg : Wn.Fs.cons k t x r = g at *
      clear hgg
      generalize Wn.custom nm = rc at *
      generalize Wn.str nm = y at *
      generalize Wn.str t.2.1 = s1 at *
      generalize Wn.str t2.2.1 = s2 at *
      go_wp2_with fail
      clear HM HX3
      cases rc
      all_goals (
        (refine wp_region_quiet_below (by kernel_rfl) (by kernel_rfl) ?_); (repeat (first | go_big_quiet_skip | quiet_step (first | with_reducible exact C1.out _ _ | with_reducible exact C2.out _ _ | with_reducible exact C3.out _ _ | with_reducible exact C4.out _ _))); (refine wpQuiet_nil ?_); intro _ hw'; obtain ⟨⟨dq, osq⟩, hw''⟩ := hw'; subst hw''
        have HB2 := Lib.hid (HB.out.trans ((below_regrown wr dq osq).mono HB.out.size))
        obtain ⟨W2, hW2⟩ : ∃ W2, W2 = grow (redrawn wr dq) osq := ⟨_, rfl⟩
        rw [← hW2] at HB2
        simp only []
        rw [← hW2]
        clear hW2 C1 C2 C3 C4 m0 m1 m2 m3 m4 n0 n1 n2 n3 n4 r0 r1 e0 e1
        go_wp2_with fail
        go_loopw [6] (fun v6 wr => ∃ j : Nat, j ≤ r.len + 1 ∧ v6 = .int .i64 (j : Int) ∧ Hid (Below w3.heap.size w3 wr)) (fun v6 _ => r.len + 1 - (intOf v6).toNat)
        case atStart => exact ⟨0, Nat.zero_le _, rfl, HB2⟩
        case round =>
          obtain ⟨j, hj, rfl, HBj⟩ := hrel
          by_cases hjl : j < r.len + 1
          case neg =>
            have hjv : ¬ (j : Int) < (r.len : Int) + 1 := by omega
            go_wp2_with fail
            exact ⟨⟨i + 1, by omega, by go_num, HBj⟩, by simp [intOf]; omega⟩
          have hjv : (j : Int) < (r.len : Int) + 1 := by omega
          obtain ⟨k', t', x', hd⟩ := Wn.Fs.drop_cons (f := g) (i := j) (by omega)
          have f1 := HS1.out _ _ _ _ _ hd
          have f2 := HS2.out _ _ _ _ _ hd
          obtain ⟨b', o', he, g0, ⟨g1, g2, g3⟩, u', g4, hu'⟩ := HVC.out.at hd
          cases he
          obtain ⟨uo', uc', rfl, _, _⟩ := hu'.form
          rw [show o1 + j * 5 + 1 + 1 = o1 + j * 5 + 2 by omega] at g2
          rw [show o1 + j * 5 + 1 + 2 = o1 + j * 5 + 3 by omega] at g3
          have g0 := Lib.hid g0
          have g1 := Lib.hid g1
          have g2 := Lib.hid g2
          have g3 := Lib.hid g3
          have g4 := Lib.hid g4
          have n0 := g0.out.keepB HBj.out
          have n1 := g1.out.keepB HBj.out
          have n2 := g2.out.keepB HBj.out
          have n3 := g3.out.keepB HBj.out
          have n4 := g4.out.keepB HBj.out
          have m1 := HYC.out.keepB HBj.out
          have T1 := Lib.hid (fun w => QS1.out k' t' (.slice uo' x'.len uc') w ⟨_, _, _, rfl⟩)
          have T2 := Lib.hid (fun w => QS2.out k' t' (.slice uo' x'.len uc') w ⟨_, _, _, rfl⟩)
          rw [f1] at T1
          rw [f2] at T2
          clear f1 f2 hd hu'
          generalize Wn.str t'.2.1 = s' at *
          go_wp2_with fail
          refine (T1.out _).mono ?_
          rintro e w5 ⟨rfl, b5⟩
          have HB5 := Lib.hid (HBj.out.trans (b5.mono HBj.out.size))
          clear b5 n0 n1 n2 n3 n4 m1
          have n0 := g0.out.keepB HB5.out
          have n1 := g1.out.keepB HB5.out
          have n2 := g2.out.keepB HB5.out
          have n3 := g3.out.keepB HB5.out
          have n4 := g4.out.keepB HB5.out
          have m1 := HYC.out.keepB HB5.out
          clear g0 g1 g2 g3 g4
          go_wp2_with fail
          refine (T2.out _).mono ?_
          rintro e w6 ⟨rfl, b6⟩
          have HB6 := Lib.hid (HB5.out.trans (b6.mono HB5.out.size))
          clear b6 n0 n1 n2 n3 n4 m1
          go_wp2_with fail
          exact ⟨⟨j + 1, by omega, by go_num, HB6⟩, by simp [intOf]; omega⟩)
end Go.Proofs.YtjlejiphpbaonaaGreatDoor
set_option maxRecDepth 20000
namespace Go.Proofs.YtjlejiphpbaonaaGreatDoor.DParts
open Go.ChangeShapes Go.WideShapes Go.ChangeAt Go.RowKit
open Go.ChangeMaps (open_string shut_string)
theorem contract (H : Type) (enc : TypeId × Value → H) (W : World) (base : Nat) (args : Array Value) (ds gs : List (DataW H)) (before : List MemPlace)
    (hval : ∀ (j : Nat) t v, Tryz.f6.params[j]? = some t → args[j]? = some v → Value.okWide Tryz.prog W .any base t v)
    (hW : DataW.Whole enc Tryz.prog Tryz.f6.params.toList Rows.declsPartsSpec.vars false W args.toList ds gs before) (hL : laidMetH Tryz.prog Rows.declsPartsRow.laid W) :
    Calls Tryz.prog 6 args W fun e W' => ∃ v, e = .returned v ∧ Rows.declsPartsSpec.post enc Tryz.prog Tryz.f6 false true false false W args v W' := by
  have hW' := hW
  obtain ⟨p, q, hA0, hV, rfl, hfz, hnd⟩ := hW
  have hA : DataW.TrodAll enc Tryz.prog W 0 (fun _ => true) true Tryz.f6.params.toList args.toList ds p := hA0
  rw [Tryz.params6] at hA hval
  obtain ⟨v0, vs0, d0, ds0, p0, q0, hargs, rfl, rfl, h0, r0⟩ := trodAll_cons hA
  obtain ⟨rfl, rfl, rfl⟩ := trodAll_nil r0
  obtain rfl : args = #[v0] := by cases args; simp_all
  obtain ⟨rfl, rfl⟩ := trodVars_none hV
  obtain ⟨l0, hl0, hn0⟩ := open_vals (hval 0 22 v0 rfl rfl) h0
  clear hA0
  simp only [List.append_nil] at hW'
  have hlt : ∀ x ∈ p0, x.block < W.heap.size := fun x hx => hW'.lt x hx
  refine (ldParts_any v0 l0 W (table hL) hl0).mono fun e W' ⟨he, hb⟩ => ?_
  subst he
  exact ⟨_, rfl, post_of_below (pa := (p0 ++ [])) (pv := []) hW' (fun _ _ _ => trodAll_cons_mk (shut_bool Tryz.underlying4 _) trodAll_mk0)
    (fun sp hsp => (trodAll_cons_mk (again (t := 22) (by kernel_rfl) (by decide) h0 hb (fun x hx => hlt x (by simp [hx])) (fun x hx => hsp x (by simp [hx])))
      trodAll_mk0)) (fun _ _ => rfl) (by simp) hb
    (ok_one (by kernel_rfl) rfl (okWide_bool_mk Tryz.underlying4 _))⟩
theorem laid_met (os : Os) : laidMet Tryz.prog Rows.declsPartsRow.laid ((laidWorld os).forCall (fun _ _ => 0) ⟨#[], #[.slice none 0 0], []⟩).memory :=
  laidMet_of_run' 8 (by kernel_rfl) (by kernel_rfl)
theorem reads (os : Os) {H : Type} (enc : TypeId × Value → H) : ∃ places, DataW.whole enc Tryz.prog ((laidWorld os).forCall (fun _ _ => 0) ⟨#[], #[.slice none 0 0], []⟩).memory Tryz.f6.params.toList Rows.declsPartsSpec.vars false #[Value.slice none 0 0].toList 8 = some ([.nil], [], places) :=
  ⟨[], by kernel_rfl⟩
set_option maxRecDepth 100000 in
theorem lifted (os : Os) (started : os.Started) (H : Type) (enc : TypeId × Value → H) (F : Stop.Interp) :
    ReturnsInHanded {} Tryz.checked os 6 .any ((OpenSpec.ofChange Rows.declsPartsSpec).preRow enc Tryz.prog Tryz.f6 Rows.declsPartsRow.domain false Rows.declsPartsRow.laid) (((OpenSpec.ofChange Rows.declsPartsSpec).at F).post enc Tryz.prog Tryz.f6 false true false false) := by
  obtain ⟨places, hx⟩ := reads os enc
  refine returnsInHanded_of_row (C := Tryz.checked) (s := OpenSpec.ofChange Rows.declsPartsSpec) own started (by kernel_rfl) Tryz.func6
    (witness_row_at (enc := enc) (C := Tryz.checked) false (laidWorld os) #[.slice none 0 0] rfl (by kernel_rfl) (by kernel_rfl) (by kernel_rfl)
      (OpenSpec.preRow_of_cond 8 hx (by kernel_rfl) (fun k hk => by cases hk) (by kernel_rfl) (laid_met os))) ?_
  intro W base args ds gs before hval hW _ _ _ hL _ _
  exact contract H enc W base args ds gs before hval hW hL
theorem said : Rows.DeclsPartsSaid :=
  OpenClaim.holds_of_cond 6 Tryz.f6 rfl rfl rfl rfl rfl rfl rfl ⟨rfl, rfl, rfl, rfl, rfl⟩ rfl rfl rfl rfl rfl (by kernel_rfl) Tryz.func6 (by kernel_rfl)
    (of_decide_eq_true (by kernel_rfl)) (by unfold Func.isWrapper; first | (rw [if_pos (by decide +kernel)]; kernel_rfl) | (rw [if_neg (by decide +kernel)]; exact ⟨rfl, rfl⟩))
    (fun os started H enc _ F => by rw [OpenClaim.pre_eq_preRow]; exact lifted os started H enc F)
theorem plain (f : FuncId) (fn : Func) (hf : Tryz.pinned.checked.prog.funcNamed "winnowing/winnowinglaw07.DeclsParts" = some f) (hfn : Tryz.pinned.checked.prog.funcs[f]? = some fn) :
    true = Tryz.pinned.checked.prog.looks [] ∧ ∀ (j : Nat) t, fn.params[j]? = some t → Tryz.pinned.checked.prog.wantsStandIn t = false := by
  obtain rfl : f = 6 := Option.some.inj ((show Tryz.prog.funcNamed "winnowing/winnowinglaw07.DeclsParts" = some 6 by kernel_rfl).symm.trans hf) |>.symm
  obtain rfl : fn = Tryz.f6 := (Option.some.inj (Tryz.func6.symm.trans hfn)).symm
  refine ⟨by kernel_rfl, fun j t ht => ?_⟩
  rw [Tryz.params6] at ht
  have hm : t ∈ [22] := by simpa using Array.mem_of_getElem? ht
  have hall : ([22].all fun u => !Tryz.prog.wantsStandIn u) = true := by kernel_rfl
  exact (show Tryz.prog.wantsStandIn t = false by simpa using List.all_eq_true.1 hall t hm)
end Go.Proofs.YtjlejiphpbaonaaGreatDoor.DParts
namespace Go.Proofs.YtjlejiphpbaonaaGreatDoor
open Go
theorem declsParts_card : Rows.DeclsPartsCardSaid :=
  Claim7.holds_tied_plain_at .later [] _ _ _ _ DParts.said (fun _ h => by cases h) (by kernel_rfl) (fun _ h => by cases h) declsParts_row_tie rfl ⟨rfl, rfl⟩ (by kernel_rfl) rfl DParts.plain (by kernel_rfl)
end Go.Proofs.YtjlejiphpbaonaaGreatDoor
