/- The verifier's second writing of selectors: what one answers, of a kind with a name. The verifier's second writing of selectors: what one answers, of an attribute with a value. -/
import Derived.Test.YtncknaagbafhhaaGreatDoorHN
set_option linter.unusedVariables false
set_option linter.unusedSimpArgs false
set_option maxRecDepth 20000
namespace Go.Proofs.YtncknaagbafhhaaGreatDoor
open Go.RowKit Go.Sort
set_option maxRecDepth 100000 in
set_option maxHeartbeats 2000000 in
theorem rOne3_v (x : Wn.Sm) (u : Value) (w : World) (hu : SsP w (fun _ => True) u x.l) (hx : Wn.shQ x) (hk : x.k = 3) :
    Calls Tryz.prog 84 #[smV x u] w fun e w' => e = .returned (.bool (Wn.mayPlain x)) ∧ Below w.heap.size w w' := by
  obtain ⟨uo, uc, rfl, _, hc⟩ := hu.form
  unfold maxLen at hc
  have hn := hx.1
  have hv := hx.2
  have HR : Hid (Wn.mayPlain x = _) := Lib.hid (Wn.one_eq x)
  have hlz : decide (x.l.len = 0) = ((x.l.len : Int) == 0) := by rw [Bool.eq_iff_iff]; simp
  have HF : Hid (Wn.fieldsB x = _) := Lib.hid (by unfold Wn.fieldsB; rfl)
  have HS : Hid (Wn.sameB x (Wn.meantS x) = _) := Lib.hid (by unfold Wn.sameB Wn.meantS; rfl)
  have QN := Lib.hid (fun W => rName_v x.n W hn)
  have QL := Lib.hid (fun W => rLow_v x.n W (by omega))
  have QA := Lib.hid (fun W => rFew_v x.a W)
  have QB := Lib.hid (fun W => rFew_v x.b W)
  have QH : Hid (∀ W, Calls Tryz.prog 125 #[.agg #[.int .i64 4, .string (Wn.str x.n), .int .i64 0]] W fun e w' => e = .returned (.bool (Wn.may (4, x.n, 0))) ∧ Below W.heap.size W w') := Lib.hid (fun W => rMay (4, x.n, 0) W hn (by show _ ≤ (0 : Int); omega) (by show (0 : Int) ≤ _; omega))
  have Q4 : Hid (∀ W, Calls Tryz.prog 125 #[.agg #[.int .i64 6, .string (Wn.str x.v), .int .i64 34]] W fun e w' => e = .returned (.bool (Wn.may (6, x.v, 34))) ∧ Below W.heap.size W w') := Lib.hid (fun W => rMay (6, x.v, 34) W hv (by show _ ≤ (34 : Int); omega) (by show (34 : Int) ≤ _; omega))
  have Q9 : Hid (∀ W, Calls Tryz.prog 125 #[.agg #[.int .i64 6, .string (Wn.str x.v), .int .i64 39]] W fun e w' => e = .returned (.bool (Wn.may (6, x.v, 39))) ∧ Below W.heap.size W w') := Lib.hid (fun W => rMay (6, x.v, 39) W hv (by show _ ≤ (39 : Int); omega) (by show (39 : Int) ≤ _; omega))
  have HLO := Lib.hid (low_eq x.n)
  clear hu hx hn hv
  unfold smV
  rw [HR.out, hlz]
  clear HR hlz
  have hsn := str_list x.n
  have hsv := str_list x.v
  generalize Wn.fieldsB x = F at *
  generalize Wn.sameB x (Wn.meantS x) = S at *
  generalize decide (Wn.low x.n = x.n) = E at *
  generalize Wn.str (Wn.low x.n) = sl at *
  generalize Wn.str x.n = sn at *
  generalize Wn.str x.v = sv at *
  generalize Wn.may (1, x.n, 0) = R1 at *
  generalize Wn.may (4, x.n, 0) = R4 at *
  generalize Wn.may (6, x.v, 34) = R6 at *
  generalize Wn.may (6, x.v, 39) = R9 at *
  generalize Wn.few x.a = RA at *
  generalize Wn.few x.b = RB at *
  generalize x.k = xk at *
  generalize x.a = xa at *
  generalize x.b = xb at *
  generalize x.l.len = ln at *
  generalize x.n = xn at *
  generalize x.v = xv at *
  clear x
  subst hsn hsv
  subst hk
  have HE : Hid (F = (R4)) := Lib.hid (by rw [HF.out]; rfl)
  have HT : Hid (S = ((sv.toList == []) && ((xa == 0) && (xb == 0)))) := Lib.hid (by rw [HS.out]; simp [Wn.sNam, Wn.sBare])
  clear HF HS
  go_enter Tryz.func84, Tryz.ntmps84
  go_wp2_with fail
  refine (QH.out _).mono ?_
  rintro e W ⟨rfl, b1⟩
  obtain ⟨HBW, hX, hY⟩ := two4_after b1
  clear b1
  have b2 := cell_of_block (o := 2) hX
  simp only [List.getElem?_toArray, List.getElem?_cons_zero, List.getElem?_cons_succ] at b2
  clear QN QA QB QH Q4 Q9 QL
  go_wp2_with fail
  obtain ⟨c0, c1, c2, c3, c4, c5, f0, f1, f2, f3, f4, f5⟩ := gr_of hX hY
  clear hX hY b2
  have CP := cp_at W 3 sn sv xa xb uo ln uc
  have CQ := cp_at W 3 sn ⟨#[]⟩ 0 0 none 0 0
  cases R4
  · skip
    (refine wp_region_quiet_below (by kernel_rfl) (by kernel_rfl) ?_); (repeat (first | go_big_quiet_skip | quiet_step (first | with_reducible exact CP.out _ _ | with_reducible exact CQ.out _ _))); (refine wpQuiet_nil ?_); intro _ hw'; obtain ⟨⟨dq, osq⟩, hw''⟩ := hw'; subst hw''
    go_wp2_with fail
    go_ret
    exact ⟨ret_bool (by rw [HE.out]; simp), HBW.out.trans ((below_regrown W dq osq).mono HBW.out.size)⟩
  · cases h2 : (sv.toList == [])
    · skip
      (refine wp_region_quiet_below (by kernel_rfl) (by kernel_rfl) ?_); (repeat (first | go_big_quiet_skip | quiet_step (first | with_reducible exact CP.out _ _ | with_reducible exact CQ.out _ _))); (refine wpQuiet_nil ?_); intro _ hw'; obtain ⟨⟨dq, osq⟩, hw''⟩ := hw'; subst hw''
      go_wp2_with fail
      go_ret
      exact ⟨ret_bool (by rw [HE.out, HT.out]; simp [*]), HBW.out.trans ((below_regrown W dq osq).mono HBW.out.size)⟩
    · skip
      cases h3 : (xa == 0)
      · skip
        (refine wp_region_quiet_below (by kernel_rfl) (by kernel_rfl) ?_); (repeat (first | go_big_quiet_skip | quiet_step (first | with_reducible exact CP.out _ _ | with_reducible exact CQ.out _ _))); (refine wpQuiet_nil ?_); intro _ hw'; obtain ⟨⟨dq, osq⟩, hw''⟩ := hw'; subst hw''
        go_wp2_with fail
        go_ret
        exact ⟨ret_bool (by rw [HE.out, HT.out]; simp [*]), HBW.out.trans ((below_regrown W dq osq).mono HBW.out.size)⟩
      · cases h4 : (xb == 0)
        · skip
          (refine wp_region_quiet_below (by kernel_rfl) (by kernel_rfl) ?_); (repeat (first | go_big_quiet_skip | quiet_step (first | with_reducible exact CP.out _ _ | with_reducible exact CQ.out _ _))); (refine wpQuiet_nil ?_); intro _ hw'; obtain ⟨⟨dq, osq⟩, hw''⟩ := hw'; subst hw''
          go_wp2_with fail
          go_ret
          exact ⟨ret_bool (by rw [HE.out, HT.out]; simp [*]), HBW.out.trans ((below_regrown W dq osq).mono HBW.out.size)⟩
        · skip
          (refine wp_region_quiet_below (by kernel_rfl) (by kernel_rfl) ?_); (repeat (first | go_big_quiet_skip | quiet_step (first | with_reducible exact CP.out _ _ | with_reducible exact CQ.out _ _))); (refine wpQuiet_nil ?_); intro _ hw'; obtain ⟨⟨dq, osq⟩, hw''⟩ := hw'; subst hw''
          go_wp2_with fail
          go_ret
          exact ⟨ret_bool (by rw [HE.out, HT.out]; simp [*]), HBW.out.trans ((below_regrown W dq osq).mono HBW.out.size)⟩
set_option maxRecDepth 100000 in
set_option maxHeartbeats 2000000 in
theorem rOne4_v (x : Wn.Sm) (u : Value) (w : World) (hu : SsP w (fun _ => True) u x.l) (hx : Wn.shQ x) (hk : x.k = 4) :
    Calls Tryz.prog 84 #[smV x u] w fun e w' => e = .returned (.bool (Wn.mayPlain x)) ∧ Below w.heap.size w w' := by
  obtain ⟨uo, uc, rfl, _, hc⟩ := hu.form
  unfold maxLen at hc
  have hn := hx.1
  have hv := hx.2
  have HR : Hid (Wn.mayPlain x = _) := Lib.hid (Wn.one_eq x)
  have hlz : decide (x.l.len = 0) = ((x.l.len : Int) == 0) := by rw [Bool.eq_iff_iff]; simp
  have HF : Hid (Wn.fieldsB x = _) := Lib.hid (by unfold Wn.fieldsB; rfl)
  have HS : Hid (Wn.sameB x (Wn.meantS x) = _) := Lib.hid (by unfold Wn.sameB Wn.meantS; rfl)
  have QN := Lib.hid (fun W => rName_v x.n W hn)
  have QL := Lib.hid (fun W => rLow_v x.n W (by omega))
  have QA := Lib.hid (fun W => rFew_v x.a W)
  have QB := Lib.hid (fun W => rFew_v x.b W)
  have QH : Hid (∀ W, Calls Tryz.prog 125 #[.agg #[.int .i64 4, .string (Wn.str x.n), .int .i64 0]] W fun e w' => e = .returned (.bool (Wn.may (4, x.n, 0))) ∧ Below W.heap.size W w') := Lib.hid (fun W => rMay (4, x.n, 0) W hn (by show _ ≤ (0 : Int); omega) (by show (0 : Int) ≤ _; omega))
  have Q4 : Hid (∀ W, Calls Tryz.prog 125 #[.agg #[.int .i64 6, .string (Wn.str x.v), .int .i64 34]] W fun e w' => e = .returned (.bool (Wn.may (6, x.v, 34))) ∧ Below W.heap.size W w') := Lib.hid (fun W => rMay (6, x.v, 34) W hv (by show _ ≤ (34 : Int); omega) (by show (34 : Int) ≤ _; omega))
  have Q9 : Hid (∀ W, Calls Tryz.prog 125 #[.agg #[.int .i64 6, .string (Wn.str x.v), .int .i64 39]] W fun e w' => e = .returned (.bool (Wn.may (6, x.v, 39))) ∧ Below W.heap.size W w') := Lib.hid (fun W => rMay (6, x.v, 39) W hv (by show _ ≤ (39 : Int); omega) (by show (39 : Int) ≤ _; omega))
  have HLO := Lib.hid (low_eq x.n)
  clear hu hx hn hv
  unfold smV
  rw [HR.out, hlz]
  clear HR hlz
  have hsn := str_list x.n
  have hsv := str_list x.v
  generalize Wn.fieldsB x = F at *
  generalize Wn.sameB x (Wn.meantS x) = S at *
  generalize decide (Wn.low x.n = x.n) = E at *
  generalize Wn.str (Wn.low x.n) = sl at *
  generalize Wn.str x.n = sn at *
  generalize Wn.str x.v = sv at *
  generalize Wn.may (1, x.n, 0) = R1 at *
  generalize Wn.may (4, x.n, 0) = R4 at *
  generalize Wn.may (6, x.v, 34) = R6 at *
  generalize Wn.may (6, x.v, 39) = R9 at *
  generalize Wn.few x.a = RA at *
  generalize Wn.few x.b = RB at *
  generalize x.k = xk at *
  generalize x.a = xa at *
  generalize x.b = xb at *
  generalize x.l.len = ln at *
  generalize x.n = xn at *
  generalize x.v = xv at *
  clear x
  subst hsn hsv
  subst hk
  have HE : Hid (F = (R1)) := Lib.hid (by rw [HF.out]; rfl)
  have HT : Hid (S = ((sv.toList == []) && ((xa == 0) && (xb == 0)))) := Lib.hid (by rw [HS.out]; simp [Wn.sNam, Wn.sBare])
  clear HF HS
  go_enter Tryz.func84, Tryz.ntmps84
  go_wp2_with fail
  refine (QN.out _).mono ?_
  rintro e W ⟨rfl, b1⟩
  obtain ⟨HBW, hX, hY⟩ := two4_after b1
  clear b1
  have b2 := cell_of_block (o := 2) hX
  simp only [List.getElem?_toArray, List.getElem?_cons_zero, List.getElem?_cons_succ] at b2
  clear QN QA QB QH Q4 Q9 QL
  go_wp2_with fail
  obtain ⟨c0, c1, c2, c3, c4, c5, f0, f1, f2, f3, f4, f5⟩ := gr_of hX hY
  clear hX hY b2
  have CP := cp_at W 4 sn sv xa xb uo ln uc
  have CQ := cp_at W 4 sn ⟨#[]⟩ 0 0 none 0 0
  cases R1
  · skip
    (refine wp_region_quiet_below (by kernel_rfl) (by kernel_rfl) ?_); (repeat (first | go_big_quiet_skip | quiet_step (first | with_reducible exact CP.out _ _ | with_reducible exact CQ.out _ _))); (refine wpQuiet_nil ?_); intro _ hw'; obtain ⟨⟨dq, osq⟩, hw''⟩ := hw'; subst hw''
    go_wp2_with fail
    go_ret
    exact ⟨ret_bool (by rw [HE.out]; simp), HBW.out.trans ((below_regrown W dq osq).mono HBW.out.size)⟩
  · cases h2 : (sv.toList == [])
    · skip
      (refine wp_region_quiet_below (by kernel_rfl) (by kernel_rfl) ?_); (repeat (first | go_big_quiet_skip | quiet_step (first | with_reducible exact CP.out _ _ | with_reducible exact CQ.out _ _))); (refine wpQuiet_nil ?_); intro _ hw'; obtain ⟨⟨dq, osq⟩, hw''⟩ := hw'; subst hw''
      go_wp2_with fail
      go_ret
      exact ⟨ret_bool (by rw [HE.out, HT.out]; simp [*]), HBW.out.trans ((below_regrown W dq osq).mono HBW.out.size)⟩
    · skip
      cases h3 : (xa == 0)
      · skip
        (refine wp_region_quiet_below (by kernel_rfl) (by kernel_rfl) ?_); (repeat (first | go_big_quiet_skip | quiet_step (first | with_reducible exact CP.out _ _ | with_reducible exact CQ.out _ _))); (refine wpQuiet_nil ?_); intro _ hw'; obtain ⟨⟨dq, osq⟩, hw''⟩ := hw'; subst hw''
        go_wp2_with fail
        go_ret
        exact ⟨ret_bool (by rw [HE.out, HT.out]; simp [*]), HBW.out.trans ((below_regrown W dq osq).mono HBW.out.size)⟩
      · cases h4 : (xb == 0)
        · skip
          (refine wp_region_quiet_below (by kernel_rfl) (by kernel_rfl) ?_); (repeat (first | go_big_quiet_skip | quiet_step (first | with_reducible exact CP.out _ _ | with_reducible exact CQ.out _ _))); (refine wpQuiet_nil ?_); intro _ hw'; obtain ⟨⟨dq, osq⟩, hw''⟩ := hw'; subst hw''
          go_wp2_with fail
          go_ret
          exact ⟨ret_bool (by rw [HE.out, HT.out]; simp [*]), HBW.out.trans ((below_regrown W dq osq).mono HBW.out.size)⟩
        · skip
          (refine wp_region_quiet_below (by kernel_rfl) (by kernel_rfl) ?_); (repeat (first | go_big_quiet_skip | quiet_step (first | with_reducible exact CP.out _ _ | with_reducible exact CQ.out _ _))); (refine wpQuiet_nil ?_); intro _ hw'; obtain ⟨⟨dq, osq⟩, hw''⟩ := hw'; subst hw''
          go_wp2_with fail
          go_ret
          exact ⟨ret_bool (by rw [HE.out, HT.out]; simp [*]), HBW.out.trans ((below_regrown W dq osq).mono HBW.out.size)⟩
set_option maxRecDepth 100000 in
set_option maxHeartbeats 2000000 in
theorem rOne5_v (x : Wn.Sm) (u : Value) (w : World) (hu : SsP w (fun _ => True) u x.l) (hx : Wn.shQ x) (hk : x.k = 5) :
    Calls Tryz.prog 84 #[smV x u] w fun e w' => e = .returned (.bool (Wn.mayPlain x)) ∧ Below w.heap.size w w' := by
  obtain ⟨uo, uc, rfl, _, hc⟩ := hu.form
  unfold maxLen at hc
  have hn := hx.1
  have hv := hx.2
  have HR : Hid (Wn.mayPlain x = _) := Lib.hid (Wn.one_eq x)
  have hlz : decide (x.l.len = 0) = ((x.l.len : Int) == 0) := by rw [Bool.eq_iff_iff]; simp
  have HF : Hid (Wn.fieldsB x = _) := Lib.hid (by unfold Wn.fieldsB; rfl)
  have HS : Hid (Wn.sameB x (Wn.meantS x) = _) := Lib.hid (by unfold Wn.sameB Wn.meantS; rfl)
  have QN := Lib.hid (fun W => rName_v x.n W hn)
  have QL := Lib.hid (fun W => rLow_v x.n W (by omega))
  have QA := Lib.hid (fun W => rFew_v x.a W)
  have QB := Lib.hid (fun W => rFew_v x.b W)
  have QH : Hid (∀ W, Calls Tryz.prog 125 #[.agg #[.int .i64 4, .string (Wn.str x.n), .int .i64 0]] W fun e w' => e = .returned (.bool (Wn.may (4, x.n, 0))) ∧ Below W.heap.size W w') := Lib.hid (fun W => rMay (4, x.n, 0) W hn (by show _ ≤ (0 : Int); omega) (by show (0 : Int) ≤ _; omega))
  have Q4 : Hid (∀ W, Calls Tryz.prog 125 #[.agg #[.int .i64 6, .string (Wn.str x.v), .int .i64 34]] W fun e w' => e = .returned (.bool (Wn.may (6, x.v, 34))) ∧ Below W.heap.size W w') := Lib.hid (fun W => rMay (6, x.v, 34) W hv (by show _ ≤ (34 : Int); omega) (by show (34 : Int) ≤ _; omega))
  have Q9 : Hid (∀ W, Calls Tryz.prog 125 #[.agg #[.int .i64 6, .string (Wn.str x.v), .int .i64 39]] W fun e w' => e = .returned (.bool (Wn.may (6, x.v, 39))) ∧ Below W.heap.size W w') := Lib.hid (fun W => rMay (6, x.v, 39) W hv (by show _ ≤ (39 : Int); omega) (by show (39 : Int) ≤ _; omega))
  have HLO := Lib.hid (low_eq x.n)
  clear hu hx hn hv
  unfold smV
  rw [HR.out, hlz]
  clear HR hlz
  have hsn := str_list x.n
  have hsv := str_list x.v
  generalize Wn.fieldsB x = F at *
  generalize Wn.sameB x (Wn.meantS x) = S at *
  generalize decide (Wn.low x.n = x.n) = E at *
  generalize Wn.str (Wn.low x.n) = sl at *
  generalize Wn.str x.n = sn at *
  generalize Wn.str x.v = sv at *
  generalize Wn.may (1, x.n, 0) = R1 at *
  generalize Wn.may (4, x.n, 0) = R4 at *
  generalize Wn.may (6, x.v, 34) = R6 at *
  generalize Wn.may (6, x.v, 39) = R9 at *
  generalize Wn.few x.a = RA at *
  generalize Wn.few x.b = RB at *
  generalize x.k = xk at *
  generalize x.a = xa at *
  generalize x.b = xb at *
  generalize x.l.len = ln at *
  generalize x.n = xn at *
  generalize x.v = xv at *
  clear x
  subst hsn hsv
  subst hk
  have HE : Hid (F = (R1)) := Lib.hid (by rw [HF.out]; rfl)
  have HT : Hid (S = ((sv.toList == []) && ((xa == 0) && (xb == 0)))) := Lib.hid (by rw [HS.out]; simp [Wn.sNam, Wn.sBare])
  clear HF HS
  go_enter Tryz.func84, Tryz.ntmps84
  go_wp2_with fail
  refine (QN.out _).mono ?_
  rintro e W ⟨rfl, b1⟩
  obtain ⟨HBW, hX, hY⟩ := two4_after b1
  clear b1
  have b2 := cell_of_block (o := 2) hX
  simp only [List.getElem?_toArray, List.getElem?_cons_zero, List.getElem?_cons_succ] at b2
  clear QN QA QB QH Q4 Q9 QL
  go_wp2_with fail
  obtain ⟨c0, c1, c2, c3, c4, c5, f0, f1, f2, f3, f4, f5⟩ := gr_of hX hY
  clear hX hY b2
  have CP := cp_at W 5 sn sv xa xb uo ln uc
  have CQ := cp_at W 5 sn ⟨#[]⟩ 0 0 none 0 0
  cases R1
  · skip
    (refine wp_region_quiet_below (by kernel_rfl) (by kernel_rfl) ?_); (repeat (first | go_big_quiet_skip | quiet_step (first | with_reducible exact CP.out _ _ | with_reducible exact CQ.out _ _))); (refine wpQuiet_nil ?_); intro _ hw'; obtain ⟨⟨dq, osq⟩, hw''⟩ := hw'; subst hw''
    go_wp2_with fail
    go_ret
    exact ⟨ret_bool (by rw [HE.out]; simp), HBW.out.trans ((below_regrown W dq osq).mono HBW.out.size)⟩
  · cases h2 : (sv.toList == [])
    · skip
      (refine wp_region_quiet_below (by kernel_rfl) (by kernel_rfl) ?_); (repeat (first | go_big_quiet_skip | quiet_step (first | with_reducible exact CP.out _ _ | with_reducible exact CQ.out _ _))); (refine wpQuiet_nil ?_); intro _ hw'; obtain ⟨⟨dq, osq⟩, hw''⟩ := hw'; subst hw''
      go_wp2_with fail
      go_ret
      exact ⟨ret_bool (by rw [HE.out, HT.out]; simp [*]), HBW.out.trans ((below_regrown W dq osq).mono HBW.out.size)⟩
    · skip
      cases h3 : (xa == 0)
      · skip
        (refine wp_region_quiet_below (by kernel_rfl) (by kernel_rfl) ?_); (repeat (first | go_big_quiet_skip | quiet_step (first | with_reducible exact CP.out _ _ | with_reducible exact CQ.out _ _))); (refine wpQuiet_nil ?_); intro _ hw'; obtain ⟨⟨dq, osq⟩, hw''⟩ := hw'; subst hw''
        go_wp2_with fail
        go_ret
        exact ⟨ret_bool (by rw [HE.out, HT.out]; simp [*]), HBW.out.trans ((below_regrown W dq osq).mono HBW.out.size)⟩
      · cases h4 : (xb == 0)
        · skip
          (refine wp_region_quiet_below (by kernel_rfl) (by kernel_rfl) ?_); (repeat (first | go_big_quiet_skip | quiet_step (first | with_reducible exact CP.out _ _ | with_reducible exact CQ.out _ _))); (refine wpQuiet_nil ?_); intro _ hw'; obtain ⟨⟨dq, osq⟩, hw''⟩ := hw'; subst hw''
          go_wp2_with fail
          go_ret
          exact ⟨ret_bool (by rw [HE.out, HT.out]; simp [*]), HBW.out.trans ((below_regrown W dq osq).mono HBW.out.size)⟩
        · skip
          (refine wp_region_quiet_below (by kernel_rfl) (by kernel_rfl) ?_); (repeat (first | go_big_quiet_skip | quiet_step (first | with_reducible exact CP.out _ _ | with_reducible exact CQ.out _ _))); (refine wpQuiet_nil ?_); intro _ hw'; obtain ⟨⟨dq, osq⟩, hw''⟩ := hw'; subst hw''
          go_wp2_with fail
          go_ret
          exact ⟨ret_bool (by rw [HE.out, HT.out]; simp [*]), HBW.out.trans ((below_regrown W dq osq).mono HBW.out.size)⟩
end Go.Proofs.YtncknaagbafhhaaGreatDoor
set_option linter.unusedVariables false
set_option linter.unusedSimpArgs false
set_option maxRecDepth 20000
namespace Go.Proofs.YtncknaagbafhhaaGreatDoor
open Go.RowKit Go.Sort
set_option maxRecDepth 100000 in
set_option maxHeartbeats 2000000 in
theorem rOne6_v (x : Wn.Sm) (u : Value) (w : World) (hu : SsP w (fun _ => True) u x.l) (hx : Wn.shQ x) (hk : x.k = 6) :
    Calls Tryz.prog 84 #[smV x u] w fun e w' => e = .returned (.bool (Wn.mayPlain x)) ∧ Below w.heap.size w w' := by
  obtain ⟨uo, uc, rfl, _, hc⟩ := hu.form
  unfold maxLen at hc
  have hn := hx.1
  have hv := hx.2
  have HR : Hid (Wn.mayPlain x = _) := Lib.hid (Wn.one_eq x)
  have hlz : decide (x.l.len = 0) = ((x.l.len : Int) == 0) := by rw [Bool.eq_iff_iff]; simp
  have HF : Hid (Wn.fieldsB x = _) := Lib.hid (by unfold Wn.fieldsB; rfl)
  have HS : Hid (Wn.sameB x (Wn.meantS x) = _) := Lib.hid (by unfold Wn.sameB Wn.meantS; rfl)
  have QN := Lib.hid (fun W => rName_v x.n W hn)
  have QL := Lib.hid (fun W => rLow_v x.n W (by omega))
  have QA := Lib.hid (fun W => rFew_v x.a W)
  have QB := Lib.hid (fun W => rFew_v x.b W)
  have QH : Hid (∀ W, Calls Tryz.prog 125 #[.agg #[.int .i64 4, .string (Wn.str x.n), .int .i64 0]] W fun e w' => e = .returned (.bool (Wn.may (4, x.n, 0))) ∧ Below W.heap.size W w') := Lib.hid (fun W => rMay (4, x.n, 0) W hn (by show _ ≤ (0 : Int); omega) (by show (0 : Int) ≤ _; omega))
  have Q4 : Hid (∀ W, Calls Tryz.prog 125 #[.agg #[.int .i64 6, .string (Wn.str x.v), .int .i64 34]] W fun e w' => e = .returned (.bool (Wn.may (6, x.v, 34))) ∧ Below W.heap.size W w') := Lib.hid (fun W => rMay (6, x.v, 34) W hv (by show _ ≤ (34 : Int); omega) (by show (34 : Int) ≤ _; omega))
  have Q9 : Hid (∀ W, Calls Tryz.prog 125 #[.agg #[.int .i64 6, .string (Wn.str x.v), .int .i64 39]] W fun e w' => e = .returned (.bool (Wn.may (6, x.v, 39))) ∧ Below W.heap.size W w') := Lib.hid (fun W => rMay (6, x.v, 39) W hv (by show _ ≤ (39 : Int); omega) (by show (39 : Int) ≤ _; omega))
  have HLO := Lib.hid (low_eq x.n)
  clear hu hx hn hv
  unfold smV
  rw [HR.out, hlz]
  clear HR hlz
  have hsn := str_list x.n
  have hsv := str_list x.v
  generalize Wn.fieldsB x = F at *
  generalize Wn.sameB x (Wn.meantS x) = S at *
  generalize decide (Wn.low x.n = x.n) = E at *
  generalize Wn.str (Wn.low x.n) = sl at *
  generalize Wn.str x.n = sn at *
  generalize Wn.str x.v = sv at *
  generalize Wn.may (1, x.n, 0) = R1 at *
  generalize Wn.may (4, x.n, 0) = R4 at *
  generalize Wn.may (6, x.v, 34) = R6 at *
  generalize Wn.may (6, x.v, 39) = R9 at *
  generalize Wn.few x.a = RA at *
  generalize Wn.few x.b = RB at *
  generalize x.k = xk at *
  generalize x.a = xa at *
  generalize x.b = xb at *
  generalize x.l.len = ln at *
  generalize x.n = xn at *
  generalize x.v = xv at *
  clear x
  subst hsn hsv
  subst hk
  have HE : Hid (F = (R1 && (R6 || R9))) := Lib.hid (by rw [HF.out]; rfl)
  have HT : Hid (S = ((xa == 0) && (xb == 0))) := Lib.hid (by rw [HS.out]; simp [Wn.sNam, Wn.sBare])
  clear HF HS
  go_enter Tryz.func84, Tryz.ntmps84
  go_wp2_with fail
  refine (QN.out _).mono ?_
  rintro e W ⟨rfl, b1⟩
  obtain ⟨HBW, hX, hY⟩ := two4_after b1
  clear b1
  have b2 := cell_of_block (o := 2) hX
  simp only [List.getElem?_toArray, List.getElem?_cons_zero, List.getElem?_cons_succ] at b2
  clear QN QA QB QH QL
  cases R1
  · go_wp2_with fail
    obtain ⟨c0, c1, c2, c3, c4, c5, f0, f1, f2, f3, f4, f5⟩ := gr_of hX hY
    clear hX hY b2
    have CP := cp_at W 6 sn sv xa xb uo ln uc
    have CQ := cp_at W 6 sn sv 0 0 none 0 0
    (refine wp_region_quiet_below (by kernel_rfl) (by kernel_rfl) ?_); (repeat (first | go_big_quiet_skip | quiet_step (first | with_reducible exact CP.out _ _ | with_reducible exact CQ.out _ _))); (refine wpQuiet_nil ?_); intro _ hw'; obtain ⟨⟨dq, osq⟩, hw''⟩ := hw'; subst hw''
    go_wp2_with fail
    go_ret
    exact ⟨ret_bool (by rw [HE.out]; simp), HBW.out.trans ((below_regrown W dq osq).mono HBW.out.size)⟩
  · go_wp2_with fail
    refine (Q4.out _).mono ?_
    rintro e V ⟨rfl, hb⟩
    have HBV := Lib.hid (HBW.out.trans (hb.mono HBW.out.size))
    have hX2 := block_lat hb hX
    have hY2 := block_lat hb hY
    clear HBW hX hY b2 hb
    have HBW := HBV
    have hX := hX2
    have hY := hY2
    clear HBV hX2 hY2
    have b2 := cell_of_block (o := 2) hX
    simp only [List.getElem?_toArray, List.getElem?_cons_zero, List.getElem?_cons_succ] at b2
    cases R6
    · go_wp2_with fail
      refine (Q9.out _).mono ?_
      rintro e U ⟨rfl, hb⟩
      have HBV := Lib.hid (HBW.out.trans (hb.mono HBW.out.size))
      have hX2 := block_lat hb hX
      have hY2 := block_lat hb hY
      clear HBW hX hY b2 hb
      have HBW := HBV
      have hX := hX2
      have hY := hY2
      clear HBV hX2 hY2
      have b2 := cell_of_block (o := 2) hX
      simp only [List.getElem?_toArray, List.getElem?_cons_zero, List.getElem?_cons_succ] at b2
      go_wp2_with fail
      obtain ⟨c0, c1, c2, c3, c4, c5, f0, f1, f2, f3, f4, f5⟩ := gr_of hX hY
      clear hX hY b2
      have CP := cp_at U 6 sn sv xa xb uo ln uc
      have CQ := cp_at U 6 sn sv 0 0 none 0 0
      cases R9
      · skip
        (refine wp_region_quiet_below (by kernel_rfl) (by kernel_rfl) ?_); (repeat (first | go_big_quiet_skip | quiet_step (first | with_reducible exact CP.out _ _ | with_reducible exact CQ.out _ _))); (refine wpQuiet_nil ?_); intro _ hw'; obtain ⟨⟨dq, osq⟩, hw''⟩ := hw'; subst hw''
        go_wp2_with fail
        go_ret
        exact ⟨ret_bool (by rw [HE.out]; simp), HBW.out.trans ((below_regrown U dq osq).mono HBW.out.size)⟩
      · skip
        cases h3 : (xa == 0)
        · skip
          (refine wp_region_quiet_below (by kernel_rfl) (by kernel_rfl) ?_); (repeat (first | go_big_quiet_skip | quiet_step (first | with_reducible exact CP.out _ _ | with_reducible exact CQ.out _ _))); (refine wpQuiet_nil ?_); intro _ hw'; obtain ⟨⟨dq, osq⟩, hw''⟩ := hw'; subst hw''
          go_wp2_with fail
          go_ret
          exact ⟨ret_bool (by rw [HE.out, HT.out]; simp [*]), HBW.out.trans ((below_regrown U dq osq).mono HBW.out.size)⟩
        · cases h4 : (xb == 0)
          · skip
            (refine wp_region_quiet_below (by kernel_rfl) (by kernel_rfl) ?_); (repeat (first | go_big_quiet_skip | quiet_step (first | with_reducible exact CP.out _ _ | with_reducible exact CQ.out _ _))); (refine wpQuiet_nil ?_); intro _ hw'; obtain ⟨⟨dq, osq⟩, hw''⟩ := hw'; subst hw''
            go_wp2_with fail
            go_ret
            exact ⟨ret_bool (by rw [HE.out, HT.out]; simp [*]), HBW.out.trans ((below_regrown U dq osq).mono HBW.out.size)⟩
          · skip
            (refine wp_region_quiet_below (by kernel_rfl) (by kernel_rfl) ?_); (repeat (first | go_big_quiet_skip | quiet_step (first | with_reducible exact CP.out _ _ | with_reducible exact CQ.out _ _))); (refine wpQuiet_nil ?_); intro _ hw'; obtain ⟨⟨dq, osq⟩, hw''⟩ := hw'; subst hw''
            go_wp2_with fail
            go_ret
            exact ⟨ret_bool (by rw [HE.out, HT.out]; simp [*]), HBW.out.trans ((below_regrown U dq osq).mono HBW.out.size)⟩
    · go_wp2_with fail
      obtain ⟨c0, c1, c2, c3, c4, c5, f0, f1, f2, f3, f4, f5⟩ := gr_of hX hY
      clear hX hY b2
      have CP := cp_at V 6 sn sv xa xb uo ln uc
      have CQ := cp_at V 6 sn sv 0 0 none 0 0
      cases h3 : (xa == 0)
      · skip
        (refine wp_region_quiet_below (by kernel_rfl) (by kernel_rfl) ?_); (repeat (first | go_big_quiet_skip | quiet_step (first | with_reducible exact CP.out _ _ | with_reducible exact CQ.out _ _))); (refine wpQuiet_nil ?_); intro _ hw'; obtain ⟨⟨dq, osq⟩, hw''⟩ := hw'; subst hw''
        go_wp2_with fail
        go_ret
        exact ⟨ret_bool (by rw [HE.out, HT.out]; simp [*]), HBW.out.trans ((below_regrown V dq osq).mono HBW.out.size)⟩
      · cases h4 : (xb == 0)
        · skip
          (refine wp_region_quiet_below (by kernel_rfl) (by kernel_rfl) ?_); (repeat (first | go_big_quiet_skip | quiet_step (first | with_reducible exact CP.out _ _ | with_reducible exact CQ.out _ _))); (refine wpQuiet_nil ?_); intro _ hw'; obtain ⟨⟨dq, osq⟩, hw''⟩ := hw'; subst hw''
          go_wp2_with fail
          go_ret
          exact ⟨ret_bool (by rw [HE.out, HT.out]; simp [*]), HBW.out.trans ((below_regrown V dq osq).mono HBW.out.size)⟩
        · skip
          (refine wp_region_quiet_below (by kernel_rfl) (by kernel_rfl) ?_); (repeat (first | go_big_quiet_skip | quiet_step (first | with_reducible exact CP.out _ _ | with_reducible exact CQ.out _ _))); (refine wpQuiet_nil ?_); intro _ hw'; obtain ⟨⟨dq, osq⟩, hw''⟩ := hw'; subst hw''
          go_wp2_with fail
          go_ret
          exact ⟨ret_bool (by rw [HE.out, HT.out]; simp [*]), HBW.out.trans ((below_regrown V dq osq).mono HBW.out.size)⟩
end Go.Proofs.YtncknaagbafhhaaGreatDoor
