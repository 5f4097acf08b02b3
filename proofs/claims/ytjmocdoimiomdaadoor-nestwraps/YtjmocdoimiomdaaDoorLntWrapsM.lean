/- NestWraps: whatever the values and the kind, the law answers true, and nothing that was there has turned. -/
import Derived.Test.YtjmocdoimiomdaaDoorNstOfM
import Derived.Test.YtjmocdoimiomdaaDoorGV
set_option linter.unusedVariables false
set_option linter.unusedSimpArgs false
set_option maxRecDepth 20000
namespace Go.Proofs.YtjmocdoimiomdaaDoor
open Go.RowKit Go.Sort
set_option maxHeartbeats 1000000 in
theorem ends_any (k' : Int) (t : Wn.Tok) (u : Value) (k : Int) (w : World) (hu : ∃ ao n c, u = .slice ao n c) :
    Calls Tryd.prog 21 #[.agg #[.int .i64 k', .int .i64 t.1, .string (Wn.str t.2.1), .int .i64 t.2.2, u], .int .i64 k] w fun e w' => e = .returned (.bool (Wn.endsV k k' t)) ∧ Below w.heap.size w w' := by
  obtain ⟨uo, un, uc, rfl⟩ := hu
  have hc : Wn.endsV k k' t = decide (k' = 1 ∧ t.1 = 7 ∧ t.2.1 = (if k = 3 then [93] else if k = 4 then [125] else [41])) := by unfold Wn.endsV Wn.closeB; simp [Bool.decide_and]
  generalize Wn.endsV k k' t = c at *
  obtain ⟨tk, tx, tn⟩ := t
  dsimp only at *
  have hx := str_list tx
  generalize Wn.str tx = x at *
  subst hx
  have HC := Lib.hid hc; clear hc
  go_enter Tryd.func21, Tryd.ntmps21
  go_wp2
  all_goals
    go_ret
    refine ⟨ret_bool ?_, (Below.refl _ _).alloc (Nat.le_refl _) _⟩
    rw [HC.out]
    first
      | (simp_all; done)
      | (rw [Bool.eq_iff_iff]; simp_all)
theorem wrap_all {p : Wn.Tok → Prop} {k : Int} {f : Wn.Fs} (h : f.all p) (h1 : p (2, [102], 0)) (h2 : p (0, [], 0)) : (Wn.Fs.cons k (Wn.wrapTok k) f .nil).all p := by
  refine ⟨?_, h, trivial⟩
  unfold Wn.wrapTok
  split
  · exact h1
  · exact h2
set_option maxRecDepth 100000 in
set_option maxHeartbeats 2000000 in
theorem nwraps_any (v : Value) (f : Wn.Fs) (k : Int) (w : World) (ht : Tab w) (hv : Vals w v f) (hn : FNums f) :
    Calls Tryd.prog 4 #[v, .int .i64 k] w fun e w' => e = .returned (.bool true) ∧ Below w.heap.size w w' := by
  have HT := Lib.hid ht; clear ht
  have HV := Lib.hid hv
  have HN := Lib.hid hn; clear hn
  obtain ⟨vo, vc, rfl, hvc1, hvc2⟩ := hv.form
  clear hv
  unfold maxLen at hvc2
  go_enter Tryd.func4, Tryd.ntmps4
  go_wp2_with fail
  refine (nfixed_any _ HT.out).mono ?_
  rintro e w1 ⟨rfl, b1⟩
  have HB1 := Lib.hid b1; clear b1
  go_wp2_with fail
  refine (rSmall_any _ f 150 _ (HV.out.below HB1.out) (by omega) (by omega)).mono ?_
  rintro e w' ⟨c1, rfl, hc1, rfl⟩
  have HC1 := Lib.hid hc1; clear hc1
  cases c1
  · skip
    go_wp2_with fail
    refine (nfixed_any _ (HT.out.below HB1.out)).mono ?_
    rintro e w9 ⟨rfl, b9⟩
    have HB9 := Lib.hid (HB1.out.trans (b9.mono HB1.out.size)); clear b9
    go_wp2_with fail
    go_ret
    exact ⟨rfl, HB9.out⟩
  · by_cases hk1 : k < 2
    · skip
      go_wp2_with fail
      refine (nfixed_any _ (HT.out.below HB1.out)).mono ?_
      rintro e w9 ⟨rfl, b9⟩
      have HB9 := Lib.hid (HB1.out.trans (b9.mono HB1.out.size)); clear b9
      go_wp2_with fail
      go_ret
      exact ⟨rfl, HB9.out⟩
    · by_cases hk2 : 5 < k
      · skip
        go_wp2_with fail
        refine (nfixed_any _ (HT.out.below HB1.out)).mono ?_
        rintro e w9 ⟨rfl, b9⟩
        have HB9 := Lib.hid (HB1.out.trans (b9.mono HB1.out.size)); clear b9
        go_wp2_with fail
        go_ret
        exact ⟨rfl, HB9.out⟩
      · obtain ⟨hsa, hta⟩ := HC1.out (by simp)
        have hfa := Wn.flat_len f
        have hdl := Wn.depth_le_size f
        have hfin := flat_fine hta HN.out
        have hk3 : 2 ≤ k := by omega
        have hk4 : k ≤ 5 := by omega
        have hfl := Wn.flat_wrap f hk3 hk4
        have hfw := flat_fine (f := .cons k (Wn.wrapTok k) f .nil) (wrap_all hta (by decide) (by decide)) (wrap_all HN.out (by unfold Nums maxLen; decide) (by unfold Nums maxLen; decide))
        have QMR := Lib.hid (fun w hv => rMayF (.slice vo f.len vc) f w hv (by omega) hfin.2)
        have QD := Lib.hid (fun w hv => Depth_any (.slice vo f.len vc) f w hv (by omega))
        have QF := Lib.hid (fun w hv => Flat_any (.slice vo f.len vc) f w hv (by omega))
        have hszw : (Wn.Fs.cons k (Wn.wrapTok k) f .nil).size ≤ 1000000 := by simp only [Wn.Fs.size]; omega
        have QDW := Lib.hid (fun v w hv => Depth_any v (.cons k (Wn.wrapTok k) f .nil) w hv hszw)
        have QFW := Lib.hid (fun v w hv => Flat_any v (.cons k (Wn.wrapTok k) f .nil) w hv (by omega))
        have QMW := Lib.hid (fun v w ht hv => NMay_any v (.cons k (Wn.wrapTok k) f .nil) w ht hv (by omega) hfw.1)
        rw [Wn.depth_wrap f hk3 hk4] at QDW
        have HFL := Lib.hid hfl
        have hdf : Wn.depth f ≤ 1000 := by omega
        have hlf : (Wn.flat f).length ≤ 1000 := by omega
        have hle : f.len ≤ 1000 := by have := Wn.Fs.len_le_size f; omega
        clear hta hsa hfa hdl hfin hfl hfw hszw HC1
        obtain ⟨ma, hma⟩ : ∃ ma, Wn.mayF f = ma := ⟨_, rfl⟩
        obtain ⟨R, hR⟩ : ∃ R, Wn.endsF k f = R := ⟨_, rfl⟩
        have HMA := Lib.hid hma
        have HR := Lib.hid hR
        rw [hma] at QMR
        clear hma hR
        go_wp2_with fail
        refine (QMR.out _ (HV.out.below HB1.out)).mono ?_
        rintro e w3 ⟨rfl, b3⟩
        have HB3 := Lib.hid (HB1.out.trans (b3.mono HB1.out.size))
        clear b3 QMR HB1
        cases ma
        · skip
          go_wp2_with fail
          refine (nfixed_any _ (HT.out.below HB3.out)).mono ?_
          rintro e w9 ⟨rfl, b9⟩
          have HB9 := Lib.hid (HB3.out.trans (b9.mono HB3.out.size)); clear b9
          go_wp2_with fail
          go_ret
          exact ⟨rfl, HB9.out⟩
        · have QM : Hid (R = false → ∀ v w, Tab w → Vals w v (.cons k (Wn.wrapTok k) f .nil) → Calls Tryd.prog 19 #[v] w fun e w' => e = .returned (.bool (decide ((Wn.depth f : Int) < 60))) ∧ Below w.heap.size w w') := Lib.hid (fun hr v w ht hv => by
            have := QMW.out v w ht hv
            rw [Wn.may_wrap hk3 hk4 HMA.out (HR.out.trans hr)] at this
            have e : decide (Wn.depth f < 60) = decide ((Wn.depth f : Int) < 60) := by rw [decide_eq_decide]; omega
            rw [e] at this
            exact this)
          clear QMW
          rw [show ((Wn.depth f + 1 : Nat) : Int) = (Wn.depth f : Int) + 1 by omega] at QDW
          generalize Wn.depth f = df at *
          by_cases h5 : k = 5
          · subst h5
            have hvw : Vals ((w3.alloc (.cells #[.int .i64 5, .int .i64 2, .string ⟨#[102]⟩, .int .i64 0, .slice vo f.len vc] 39)).alloc (.cells #[.int .i64 5, .int .i64 2, .string ⟨#[102]⟩, .int .i64 0, .slice vo f.len vc] 39)) (.slice (some ⟨w3.heap.size + 1, 0, none⟩) 1 1) (.cons 5 (Wn.wrapTok 5) f .nil) := by
              have := Vals.mk1 (w3.alloc (.cells #[.int .i64 5, .int .i64 2, .string ⟨#[102]⟩, .int .i64 0, .slice vo f.len vc] 39)) (w3.heap.size + 1) (by simp) 5 (2, [102], 0) f (.slice vo f.len vc) ((HV.out.below HB3.out).below ((Below.refl _ _).alloc (Nat.le_refl _) _))
              exact this
            have hbw : Below w3.heap.size w3 ((w3.alloc (.cells #[.int .i64 5, .int .i64 2, .string ⟨#[102]⟩, .int .i64 0, .slice vo f.len vc] 39)).alloc (.cells #[.int .i64 5, .int .i64 2, .string ⟨#[102]⟩, .int .i64 0, .slice vo f.len vc] 39)) := ((Below.refl _ _).alloc (Nat.le_refl _) _).alloc (by simp) _
            go_wp2_with fail
            generalize (w3.alloc (.cells #[.int .i64 5, .int .i64 2, .string ⟨#[102]⟩, .int .i64 0, .slice vo f.len vc] 39)).alloc (.cells #[.int .i64 5, .int .i64 2, .string ⟨#[102]⟩, .int .i64 0, .slice vo f.len vc] 39) = W5 at *
            have HVW := Lib.hid hvw
            have HB5 := Lib.hid (HB3.out.trans (hbw.mono HB3.out.size))
            clear hvw hbw HB3
            refine (QD.out _ (HV.out.below HB5.out)).mono ?_
            rintro e w6 ⟨rfl, b6⟩
            have HB6 := Lib.hid (HB5.out.trans (b6.mono HB5.out.size))
            have HW6 := Lib.hid (HVW.out.below b6)
            clear b6 HB5 HVW
            go_wp2_with fail
            go_loopw [8, 9] (fun v8 v9 wr => ∃ (i : Nat) (lb : Bool), i ≤ f.len ∧ v8 = .bool lb ∧ v9 = .int .i64 (i : Int) ∧ Hid (Below w6.heap.size w6 wr) ∧ Hid ((lb || Wn.endsF 5 (f.drop i)) = R)) (fun _ v9 _ => f.len - (intOf v9).toNat)
            case atStart => exact ⟨0, false, by omega, rfl, rfl, Lib.hid (Below.refl _ _), Lib.hid (by rw [Wn.Fs.drop_zero, HR.out]; rfl)⟩
            case round =>
              obtain ⟨i, lb, hi, rfl, rfl, HBr, HE⟩ := hrel
              by_cases hlt : i < f.len
              · have hi1 : (i : Int) < (f.len : Int) := by omega
                cases lb
                · obtain ⟨k', t, x, hd⟩ := Wn.Fs.drop_cons hlt
                  obtain ⟨b, o, rfl, j0, ⟨j1, j2, j3⟩, u', j4, hu⟩ := ((HV.out.below HB6.out).below HBr.out).at (i := i) hd
                  have hform : ∃ ao n c, u' = .slice ao n c := by obtain ⟨ao, cap, hv, _⟩ := hu.form; exact ⟨_, _, _, hv⟩
                  obtain ⟨uo, un, uc, rfl⟩ := hform
                  have QE := Lib.hid (fun w => ends_any k' t (.slice uo un uc) 5 w ⟨_, _, _, rfl⟩)
                  have HE1 : Hid ((Wn.endsV 5 k' t || Wn.endsF 5 (f.drop (i + 1))) = R) := Lib.hid (by rw [← HE.out, hd]; rfl)
                  clear hd hu HE
                  generalize Wn.endsV 5 k' t = c at *
                  generalize Wn.str t.2.1 = y at *
                  generalize t.1 = tk at *
                  generalize t.2.2 = tn at *
                  go_wp2_with fail
                  refine (QE.out _).mono ?_
                  rintro e w7 ⟨rfl, b7⟩
                  have HB7 := Lib.hid (HBr.out.trans (b7.mono HBr.out.size))
                  clear b7 QE
                  go_wp2_with fail
                  exact ⟨⟨i + 1, c, by omega, rfl, by go_num, HB7, HE1⟩, by simp [intOf]; omega⟩
                · have HE1 : Hid ((true || Wn.endsF 5 (f.drop (i + 1))) = R) := Lib.hid (by rw [← HE.out]; rfl)
                  go_wp2_with fail
                  exact ⟨⟨i + 1, true, by omega, rfl, by go_num, HBr, HE1⟩, by simp [intOf]; omega⟩
              · have HL : Hid (lb = R) := Lib.hid (by rw [← HE.out, Wn.Fs.drop_len (by omega)]; simp [Wn.endsF])
                have HBr' := Lib.hid (HB6.out.trans (HBr.out.mono HB6.out.size))
                have HWr := Lib.hid (HW6.out.below HBr.out)
                have hni : ¬ (i : Int) < (f.len : Int) := by omega
                clear HE HW6 HB6 HBr
                go_wp2_with fail
                refine (QDW.out _ _ HWr.out).mono ?_
                rintro e w7 ⟨rfl, b7⟩
                have HB7 := Lib.hid (HBr'.out.trans (b7.mono HBr'.out.size))
                have HW7 := Lib.hid (HWr.out.below b7)
                clear b7 HBr' HWr QDW
                have hcc : ((df : Int) + 1 == (df : Int) + 1) = true := by simp
                cases lb
                · have HRf : Hid (R = false) := Lib.hid HL.out.symm
                  go_wp2_with fail
                  refine (QM.out HRf.out _ _ (HT.out.below HB7.out) HW7.out).mono ?_
                  rintro e w8 ⟨rfl, b8⟩
                  have HB8 := Lib.hid (HB7.out.trans (b8.mono HB7.out.size))
                  have HW8 := Lib.hid (HW7.out.below b8)
                  clear b8 HB7 HW7 QM
                  go_wp2_with fail
                  refine (QFW.out _ _ HW8.out).mono ?_
                  rintro e w9 ⟨ra, rfl, ho9, b9⟩
                  have HB9 := Lib.hid (HB8.out.trans (b9.mono HB8.out.size))
                  have ht9 := Toks.ofRow ho9
                  obtain ⟨ao, ac, rfl, _⟩ := ht9
                  clear b9 HB8 ho9 QFW HW8
                  rw [HFL.out]
                  go_wp2_with fail
                  refine (QF.out _ (HV.out.below HB9.out)).mono ?_
                  rintro e w10 ⟨rb, rfl, ho10, b10⟩
                  have HB10 := Lib.hid (HB9.out.trans (b10.mono HB9.out.size))
                  have ht10 := Toks.ofRow ho10
                  obtain ⟨bo, bc, rfl, _⟩ := ht10
                  clear b10 HB9 ho10 QF
                  go_wp2_with fail
                  go_ret
                  exact ⟨ret_bool (by simp), HB10.out⟩
                · have HB8 := HB7
                  have HW8 := HW7
                  clear HB7 HW7 QM
                  go_wp2_with fail
                  refine (QFW.out _ _ HW8.out).mono ?_
                  rintro e w9 ⟨ra, rfl, ho9, b9⟩
                  have HB9 := Lib.hid (HB8.out.trans (b9.mono HB8.out.size))
                  have ht9 := Toks.ofRow ho9
                  obtain ⟨ao, ac, rfl, _⟩ := ht9
                  clear b9 HB8 ho9 QFW HW8
                  rw [HFL.out]
                  go_wp2_with fail
                  refine (QF.out _ (HV.out.below HB9.out)).mono ?_
                  rintro e w10 ⟨rb, rfl, ho10, b10⟩
                  have HB10 := Lib.hid (HB9.out.trans (b10.mono HB9.out.size))
                  have ht10 := Toks.ofRow ho10
                  obtain ⟨bo, bc, rfl, _⟩ := ht10
                  clear b10 HB9 ho10 QF
                  go_wp2_with fail
                  go_ret
                  exact ⟨ret_bool (by simp), HB10.out⟩
          · have hvw : Vals ((w3.alloc (.cells #[.int .i64 k, .int .i64 0, .string ⟨#[]⟩, .int .i64 0, .slice vo f.len vc] 39)).alloc (.cells #[.int .i64 k, .int .i64 0, .string ⟨#[]⟩, .int .i64 0, .slice vo f.len vc] 39)) (.slice (some ⟨w3.heap.size + 1, 0, none⟩) 1 1) (.cons k (Wn.wrapTok k) f .nil) := by
              have := Vals.mk1 (w3.alloc (.cells #[.int .i64 k, .int .i64 0, .string ⟨#[]⟩, .int .i64 0, .slice vo f.len vc] 39)) (w3.heap.size + 1) (by simp) k (0, [], 0) f (.slice vo f.len vc) ((HV.out.below HB3.out).below ((Below.refl _ _).alloc (Nat.le_refl _) _))
              rw [show Wn.wrapTok k = (0, [], 0) by unfold Wn.wrapTok; rw [if_neg h5]]; exact this
            have hbw : Below w3.heap.size w3 ((w3.alloc (.cells #[.int .i64 k, .int .i64 0, .string ⟨#[]⟩, .int .i64 0, .slice vo f.len vc] 39)).alloc (.cells #[.int .i64 k, .int .i64 0, .string ⟨#[]⟩, .int .i64 0, .slice vo f.len vc] 39)) := ((Below.refl _ _).alloc (Nat.le_refl _) _).alloc (by simp) _
            have h5b : (k == 5) = false := by simpa using h5
            go_wp2_with fail
            generalize (w3.alloc (.cells #[.int .i64 k, .int .i64 0, .string ⟨#[]⟩, .int .i64 0, .slice vo f.len vc] 39)).alloc (.cells #[.int .i64 k, .int .i64 0, .string ⟨#[]⟩, .int .i64 0, .slice vo f.len vc] 39) = W5 at *
            have HVW := Lib.hid hvw
            have HB5 := Lib.hid (HB3.out.trans (hbw.mono HB3.out.size))
            clear hvw hbw HB3
            refine (QD.out _ (HV.out.below HB5.out)).mono ?_
            rintro e w6 ⟨rfl, b6⟩
            have HB6 := Lib.hid (HB5.out.trans (b6.mono HB5.out.size))
            have HW6 := Lib.hid (HVW.out.below b6)
            clear b6 HB5 HVW
            go_wp2_with fail
            go_loopw [8, 9] (fun v8 v9 wr => ∃ (i : Nat) (lb : Bool), i ≤ f.len ∧ v8 = .bool lb ∧ v9 = .int .i64 (i : Int) ∧ Hid (Below w6.heap.size w6 wr) ∧ Hid ((lb || Wn.endsF k (f.drop i)) = R)) (fun _ v9 _ => f.len - (intOf v9).toNat)
            case atStart => exact ⟨0, false, by omega, rfl, rfl, Lib.hid (Below.refl _ _), Lib.hid (by rw [Wn.Fs.drop_zero, HR.out]; rfl)⟩
            case round =>
              obtain ⟨i, lb, hi, rfl, rfl, HBr, HE⟩ := hrel
              by_cases hlt : i < f.len
              · have hi1 : (i : Int) < (f.len : Int) := by omega
                cases lb
                · obtain ⟨k', t, x, hd⟩ := Wn.Fs.drop_cons hlt
                  obtain ⟨b, o, rfl, j0, ⟨j1, j2, j3⟩, u', j4, hu⟩ := ((HV.out.below HB6.out).below HBr.out).at (i := i) hd
                  have hform : ∃ ao n c, u' = .slice ao n c := by obtain ⟨ao, cap, hv, _⟩ := hu.form; exact ⟨_, _, _, hv⟩
                  obtain ⟨uo, un, uc, rfl⟩ := hform
                  have QE := Lib.hid (fun w => ends_any k' t (.slice uo un uc) k w ⟨_, _, _, rfl⟩)
                  have HE1 : Hid ((Wn.endsV k k' t || Wn.endsF k (f.drop (i + 1))) = R) := Lib.hid (by rw [← HE.out, hd]; rfl)
                  clear hd hu HE
                  generalize Wn.endsV k k' t = c at *
                  generalize Wn.str t.2.1 = y at *
                  generalize t.1 = tk at *
                  generalize t.2.2 = tn at *
                  go_wp2_with fail
                  refine (QE.out _).mono ?_
                  rintro e w7 ⟨rfl, b7⟩
                  have HB7 := Lib.hid (HBr.out.trans (b7.mono HBr.out.size))
                  clear b7 QE
                  go_wp2_with fail
                  exact ⟨⟨i + 1, c, by omega, rfl, by go_num, HB7, HE1⟩, by simp [intOf]; omega⟩
                · have HE1 : Hid ((true || Wn.endsF k (f.drop (i + 1))) = R) := Lib.hid (by rw [← HE.out]; rfl)
                  go_wp2_with fail
                  exact ⟨⟨i + 1, true, by omega, rfl, by go_num, HBr, HE1⟩, by simp [intOf]; omega⟩
              · have HL : Hid (lb = R) := Lib.hid (by rw [← HE.out, Wn.Fs.drop_len (by omega)]; simp [Wn.endsF])
                have HBr' := Lib.hid (HB6.out.trans (HBr.out.mono HB6.out.size))
                have HWr := Lib.hid (HW6.out.below HBr.out)
                have hni : ¬ (i : Int) < (f.len : Int) := by omega
                clear HE HW6 HB6 HBr
                go_wp2_with fail
                refine (QDW.out _ _ HWr.out).mono ?_
                rintro e w7 ⟨rfl, b7⟩
                have HB7 := Lib.hid (HBr'.out.trans (b7.mono HBr'.out.size))
                have HW7 := Lib.hid (HWr.out.below b7)
                clear b7 HBr' HWr QDW
                have hcc : ((df : Int) + 1 == (df : Int) + 1) = true := by simp
                cases lb
                · have HRf : Hid (R = false) := Lib.hid HL.out.symm
                  go_wp2_with fail
                  refine (QM.out HRf.out _ _ (HT.out.below HB7.out) HW7.out).mono ?_
                  rintro e w8 ⟨rfl, b8⟩
                  have HB8 := Lib.hid (HB7.out.trans (b8.mono HB7.out.size))
                  have HW8 := Lib.hid (HW7.out.below b8)
                  clear b8 HB7 HW7 QM
                  go_wp2_with fail
                  refine (QFW.out _ _ HW8.out).mono ?_
                  rintro e w9 ⟨ra, rfl, ho9, b9⟩
                  have HB9 := Lib.hid (HB8.out.trans (b9.mono HB8.out.size))
                  have ht9 := Toks.ofRow ho9
                  obtain ⟨ao, ac, rfl, _⟩ := ht9
                  clear b9 HB8 ho9 QFW HW8
                  rw [HFL.out]
                  go_wp2_with fail
                  refine (QF.out _ (HV.out.below HB9.out)).mono ?_
                  rintro e w10 ⟨rb, rfl, ho10, b10⟩
                  have HB10 := Lib.hid (HB9.out.trans (b10.mono HB9.out.size))
                  have ht10 := Toks.ofRow ho10
                  obtain ⟨bo, bc, rfl, _⟩ := ht10
                  clear b10 HB9 ho10 QF
                  go_wp2_with fail
                  go_ret
                  exact ⟨ret_bool (by simp), HB10.out⟩
                · have HB8 := HB7
                  have HW8 := HW7
                  clear HB7 HW7 QM
                  go_wp2_with fail
                  refine (QFW.out _ _ HW8.out).mono ?_
                  rintro e w9 ⟨ra, rfl, ho9, b9⟩
                  have HB9 := Lib.hid (HB8.out.trans (b9.mono HB8.out.size))
                  have ht9 := Toks.ofRow ho9
                  obtain ⟨ao, ac, rfl, _⟩ := ht9
                  clear b9 HB8 ho9 QFW HW8
                  rw [HFL.out]
                  go_wp2_with fail
                  refine (QF.out _ (HV.out.below HB9.out)).mono ?_
                  rintro e w10 ⟨rb, rfl, ho10, b10⟩
                  have HB10 := Lib.hid (HB9.out.trans (b10.mono HB9.out.size))
                  have ht10 := Toks.ofRow ho10
                  obtain ⟨bo, bc, rfl, _⟩ := ht10
                  clear b10 HB9 ho10 QF
                  go_wp2_with fail
                  go_ret
                  exact ⟨ret_bool (by simp), HB10.out⟩
end Go.Proofs.YtjmocdoimiomdaaDoor
