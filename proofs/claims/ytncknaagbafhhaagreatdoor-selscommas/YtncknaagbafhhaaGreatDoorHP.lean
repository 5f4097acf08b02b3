/- The verifier's second writing of selectors: what one answers, of a place. The verifier's second writing of selectors: what one answers, of a state. The verifier's second writing of selectors: what one answers, of no kind. The verifier's second writing of selectors: what one answers. -/
import Derived.Test.YtncknaagbafhhaaGreatDoorHN
import Derived.Test.YtncknaagbafhhaaGreatDoorHO
import Derived.Test.YtncknaagbafhhaaGreatDoorHJ
set_option linter.unusedVariables false
set_option linter.unusedSimpArgs false
set_option maxRecDepth 20000
namespace Go.Proofs.YtncknaagbafhhaaGreatDoor
open Go.RowKit Go.Sort
set_option maxRecDepth 100000 in
set_option maxHeartbeats 2000000 in
theorem rOne8_v (x : Wn.Sm) (u : Value) (w : World) (hu : SsP w (fun _ => True) u x.l) (hx : Wn.shQ x) (hk : x.k = 8) :
    Calls Tryz.prog 84 #[smV x u] w fun e w' => e = .returned (.bool (Wn.mayPlain x)) ∧ Below w.heap.size w w' := by
  obtain ⟨uo, uc, rfl, _, hc⟩ := hu.form
  unfold maxLen at hc
  have hn := hx.1
  have hv := hx.2
  have HR : Hid (Wn.mayPlain x = _) := Lib.hid (Wn.one_eq x)
  have hlz : decide (x.l.len = 0) = ((x.l.len : Int) == 0) := by rw [Bool.eq_iff_iff]; simp
  have HF : Hid (Wn.fieldsB x = _) := Lib.hid (by unfold Wn.fieldsB; rfl)
  have HS : Hid (Wn.sameB x (Wn.meantS x) = _) := Lib.hid (by unfold Wn.sameB Wn.meantS; rfl)
  have QN := Lib.hid (fun W => rName_v x.n W hn)
  have QL := Lib.hid (fun W => rLow_v x.n W (by omega))
  have QA := Lib.hid (fun W => rFew_v x.a W)
  have QB := Lib.hid (fun W => rFew_v x.b W)
  have QH : Hid (∀ W, Calls Tryz.prog 125 #[.agg #[.int .i64 4, .string (Wn.str x.n), .int .i64 0]] W fun e w' => e = .returned (.bool (Wn.may (4, x.n, 0))) ∧ Below W.heap.size W w') := Lib.hid (fun W => rMay (4, x.n, 0) W hn (by show _ ≤ (0 : Int); omega) (by show (0 : Int) ≤ _; omega))
  have Q4 : Hid (∀ W, Calls Tryz.prog 125 #[.agg #[.int .i64 6, .string (Wn.str x.v), .int .i64 34]] W fun e w' => e = .returned (.bool (Wn.may (6, x.v, 34))) ∧ Below W.heap.size W w') := Lib.hid (fun W => rMay (6, x.v, 34) W hv (by show _ ≤ (34 : Int); omega) (by show (34 : Int) ≤ _; omega))
  have Q9 : Hid (∀ W, Calls Tryz.prog 125 #[.agg #[.int .i64 6, .string (Wn.str x.v), .int .i64 39]] W fun e w' => e = .returned (.bool (Wn.may (6, x.v, 39))) ∧ Below W.heap.size W w') := Lib.hid (fun W => rMay (6, x.v, 39) W hv (by show _ ≤ (39 : Int); omega) (by show (39 : Int) ≤ _; omega))
  have HLO := Lib.hid (low_eq x.n)
  clear hu hx hn hv
  unfold smV
  rw [HR.out, hlz]
  clear HR hlz
  have hsn := str_list x.n
  have hsv := str_list x.v
  generalize Wn.fieldsB x = F at *
  generalize Wn.sameB x (Wn.meantS x) = S at *
  generalize decide (Wn.low x.n = x.n) = E at *
  generalize Wn.str (Wn.low x.n) = sl at *
  generalize Wn.str x.n = sn at *
  generalize Wn.str x.v = sv at *
  generalize Wn.may (1, x.n, 0) = R1 at *
  generalize Wn.may (4, x.n, 0) = R4 at *
  generalize Wn.may (6, x.v, 34) = R6 at *
  generalize Wn.may (6, x.v, 39) = R9 at *
  generalize Wn.few x.a = RA at *
  generalize Wn.few x.b = RB at *
  generalize x.k = xk at *
  generalize x.a = xa at *
  generalize x.b = xb at *
  generalize x.l.len = ln at *
  generalize x.n = xn at *
  generalize x.v = xv at *
  clear x
  subst hsn hsv
  subst hk
  have HE : Hid (F = (RA && RB)) := Lib.hid (by rw [HF.out]; rfl)
  have HT : Hid (S = ((sn.toList == []) && (sv.toList == []))) := Lib.hid (by rw [HS.out]; simp [Wn.sNam, Wn.sBare])
  clear HF HS
  go_enter Tryz.func84, Tryz.ntmps84
  go_wp2_with fail
  refine (QA.out _).mono ?_
  rintro e w1 ⟨rfl, rfl⟩
  cases RA
  · go_wp2_with fail
    obtain ⟨W, hW, HBW, HG⟩ := two4_at w (.int .i64 8) (.string sn) (.string sv) (.int .i64 xa) (.int .i64 xb) (.slice uo ln uc) (.int .i64 8) (.string ⟨#[]⟩) (.string ⟨#[]⟩) (.int .i64 xa) (.int .i64 xb) (.slice none 0 0)
    rw [hW]
    clear hW
    obtain ⟨c0, c1, c2, c3, c4, c5, f0, f1, f2, f3, f4, f5⟩ := HG
    have CP := cp_at W 8 sn sv xa xb uo ln uc
    have CQ := cp_at W 8 ⟨#[]⟩ ⟨#[]⟩ xa xb none 0 0
    (refine wp_region_quiet_below (by kernel_rfl) (by kernel_rfl) ?_); (repeat (first | go_big_quiet_skip | quiet_step (first | with_reducible exact CP.out _ _ | with_reducible exact CQ.out _ _))); (refine wpQuiet_nil ?_); intro _ hw'; obtain ⟨⟨dq, osq⟩, hw''⟩ := hw'; subst hw''
    go_wp2_with fail
    go_ret
    exact ⟨ret_bool (by rw [HE.out]; simp), HBW.out.trans ((below_regrown W dq osq).mono HBW.out.size)⟩
  · go_wp2_with fail
    refine (QB.out _).mono ?_
    rintro e w2 ⟨rfl, rfl⟩
    go_wp2_with fail
    clear QN QA QB QH Q4 Q9 QL
    obtain ⟨W, hW, HBW, HG⟩ := two4_at w (.int .i64 8) (.string sn) (.string sv) (.int .i64 xa) (.int .i64 xb) (.slice uo ln uc) (.int .i64 8) (.string ⟨#[]⟩) (.string ⟨#[]⟩) (.int .i64 xa) (.int .i64 xb) (.slice none 0 0)
    rw [hW]
    clear hW
    obtain ⟨c0, c1, c2, c3, c4, c5, f0, f1, f2, f3, f4, f5⟩ := HG
    have CP := cp_at W 8 sn sv xa xb uo ln uc
    have CQ := cp_at W 8 ⟨#[]⟩ ⟨#[]⟩ xa xb none 0 0
    cases RB
    · skip
      (refine wp_region_quiet_below (by kernel_rfl) (by kernel_rfl) ?_); (repeat (first | go_big_quiet_skip | quiet_step (first | with_reducible exact CP.out _ _ | with_reducible exact CQ.out _ _))); (refine wpQuiet_nil ?_); intro _ hw'; obtain ⟨⟨dq, osq⟩, hw''⟩ := hw'; subst hw''
      go_wp2_with fail
      go_ret
      exact ⟨ret_bool (by rw [HE.out]; simp), HBW.out.trans ((below_regrown W dq osq).mono HBW.out.size)⟩
    · cases h1 : (sn.toList == [])
      · skip
        (refine wp_region_quiet_below (by kernel_rfl) (by kernel_rfl) ?_); (repeat (first | go_big_quiet_skip | quiet_step (first | with_reducible exact CP.out _ _ | with_reducible exact CQ.out _ _))); (refine wpQuiet_nil ?_); intro _ hw'; obtain ⟨⟨dq, osq⟩, hw''⟩ := hw'; subst hw''
        go_wp2_with fail
        go_ret
        exact ⟨ret_bool (by rw [HE.out, HT.out]; simp [*]), HBW.out.trans ((below_regrown W dq osq).mono HBW.out.size)⟩
      · cases h2 : (sv.toList == [])
        · skip
          (refine wp_region_quiet_below (by kernel_rfl) (by kernel_rfl) ?_); (repeat (first | go_big_quiet_skip | quiet_step (first | with_reducible exact CP.out _ _ | with_reducible exact CQ.out _ _))); (refine wpQuiet_nil ?_); intro _ hw'; obtain ⟨⟨dq, osq⟩, hw''⟩ := hw'; subst hw''
          go_wp2_with fail
          go_ret
          exact ⟨ret_bool (by rw [HE.out, HT.out]; simp [*]), HBW.out.trans ((below_regrown W dq osq).mono HBW.out.size)⟩
        · skip
          (refine wp_region_quiet_below (by kernel_rfl) (by kernel_rfl) ?_); (repeat (first | go_big_quiet_skip | quiet_step (first | with_reducible exact CP.out _ _ | with_reducible exact CQ.out _ _))); (refine wpQuiet_nil ?_); intro _ hw'; obtain ⟨⟨dq, osq⟩, hw''⟩ := hw'; subst hw''
          go_wp2_with fail
          go_ret
          exact ⟨ret_bool (by rw [HE.out, HT.out]; simp [*]), HBW.out.trans ((below_regrown W dq osq).mono HBW.out.size)⟩
end Go.Proofs.YtncknaagbafhhaaGreatDoor
set_option linter.unusedVariables false
set_option linter.unusedSimpArgs false
set_option maxRecDepth 20000
namespace Go.Proofs.YtncknaagbafhhaaGreatDoor
open Go.RowKit Go.Sort
set_option maxRecDepth 100000 in
set_option maxHeartbeats 2000000 in
theorem rOne7_v (x : Wn.Sm) (u : Value) (w : World) (hu : SsP w (fun _ => True) u x.l) (hx : Wn.shQ x) (hk : x.k = 7) :
    Calls Tryz.prog 84 #[smV x u] w fun e w' => e = .returned (.bool (Wn.mayPlain x)) ∧ Below w.heap.size w w' := by
  obtain ⟨uo, uc, rfl, _, hc⟩ := hu.form
  unfold maxLen at hc
  have hn := hx.1
  have hv := hx.2
  have HR : Hid (Wn.mayPlain x = _) := Lib.hid (Wn.one_eq x)
  have hlz : decide (x.l.len = 0) = ((x.l.len : Int) == 0) := by rw [Bool.eq_iff_iff]; simp
  have HF : Hid (Wn.fieldsB x = _) := Lib.hid (by unfold Wn.fieldsB; rfl)
  have HS : Hid (Wn.sameB x (Wn.meantS x) = _) := Lib.hid (by unfold Wn.sameB Wn.meantS; rfl)
  have QN := Lib.hid (fun W => rName_v x.n W hn)
  have QL := Lib.hid (fun W => rLow_v x.n W (by omega))
  have QA := Lib.hid (fun W => rFew_v x.a W)
  have QB := Lib.hid (fun W => rFew_v x.b W)
  have QH : Hid (∀ W, Calls Tryz.prog 125 #[.agg #[.int .i64 4, .string (Wn.str x.n), .int .i64 0]] W fun e w' => e = .returned (.bool (Wn.may (4, x.n, 0))) ∧ Below W.heap.size W w') := Lib.hid (fun W => rMay (4, x.n, 0) W hn (by show _ ≤ (0 : Int); omega) (by show (0 : Int) ≤ _; omega))
  have Q4 : Hid (∀ W, Calls Tryz.prog 125 #[.agg #[.int .i64 6, .string (Wn.str x.v), .int .i64 34]] W fun e w' => e = .returned (.bool (Wn.may (6, x.v, 34))) ∧ Below W.heap.size W w') := Lib.hid (fun W => rMay (6, x.v, 34) W hv (by show _ ≤ (34 : Int); omega) (by show (34 : Int) ≤ _; omega))
  have Q9 : Hid (∀ W, Calls Tryz.prog 125 #[.agg #[.int .i64 6, .string (Wn.str x.v), .int .i64 39]] W fun e w' => e = .returned (.bool (Wn.may (6, x.v, 39))) ∧ Below W.heap.size W w') := Lib.hid (fun W => rMay (6, x.v, 39) W hv (by show _ ≤ (39 : Int); omega) (by show (39 : Int) ≤ _; omega))
  have HLO := Lib.hid (low_eq x.n)
  clear hu hx hn hv
  unfold smV
  rw [HR.out, hlz]
  clear HR hlz
  have hsn := str_list x.n
  have hsv := str_list x.v
  generalize Wn.fieldsB x = F at *
  generalize Wn.sameB x (Wn.meantS x) = S at *
  generalize decide (Wn.low x.n = x.n) = E at *
  generalize Wn.str (Wn.low x.n) = sl at *
  generalize Wn.str x.n = sn at *
  generalize Wn.str x.v = sv at *
  generalize Wn.may (1, x.n, 0) = R1 at *
  generalize Wn.may (4, x.n, 0) = R4 at *
  generalize Wn.may (6, x.v, 34) = R6 at *
  generalize Wn.may (6, x.v, 39) = R9 at *
  generalize Wn.few x.a = RA at *
  generalize Wn.few x.b = RB at *
  generalize x.k = xk at *
  generalize x.a = xa at *
  generalize x.b = xb at *
  generalize x.l.len = ln at *
  generalize x.n = xn at *
  generalize x.v = xv at *
  clear x
  subst hsn hsv
  subst hk
  have HE : Hid (F = ((sn.toList == [104, 111, 118, 101, 114]) || (sn.toList == [102, 111, 99, 117, 115]) || (sn.toList == [97, 99, 116, 105, 118, 101]) || (sn.toList == [99, 104, 101, 99, 107, 101, 100]))) := Lib.hid (by rw [HF.out]; simp [Wn.isState]; rw [Bool.eq_iff_iff]; simp)
  have HT : Hid (S = ((sv.toList == []) && ((xa == 0) && (xb == 0)))) := Lib.hid (by rw [HS.out]; simp [Wn.sNam, Wn.sBare])
  clear HF HS
  cases g0 : (sn.toList == [104, 111, 118, 101, 114])
  case true =>
    clear QN QA QB QH Q4 Q9 QL
    go_enter Tryz.func84, Tryz.ntmps84
    go_wp2_with fail
    obtain ⟨W, hW, HBW, HG⟩ := two4_at w (.int .i64 7) (.string sn) (.string sv) (.int .i64 xa) (.int .i64 xb) (.slice uo ln uc) (.int .i64 7) (.string sn) (.string ⟨#[]⟩) (.int .i64 0) (.int .i64 0) (.slice none 0 0)
    rw [hW]
    clear hW
    obtain ⟨c0, c1, c2, c3, c4, c5, f0, f1, f2, f3, f4, f5⟩ := HG
    have CP := cp_at W 7 sn sv xa xb uo ln uc
    have CQ := cp_at W 7 sn ⟨#[]⟩ 0 0 none 0 0
    cases h2 : (sv.toList == [])
    · skip
      (refine wp_region_quiet_below (by kernel_rfl) (by kernel_rfl) ?_); (repeat (first | go_big_quiet_skip | quiet_step (first | with_reducible exact CP.out _ _ | with_reducible exact CQ.out _ _))); (refine wpQuiet_nil ?_); intro _ hw'; obtain ⟨⟨dq, osq⟩, hw''⟩ := hw'; subst hw''
      go_wp2_with fail
      go_ret
      exact ⟨ret_bool (by rw [HE.out, HT.out]; simp [*]), HBW.out.trans ((below_regrown W dq osq).mono HBW.out.size)⟩
    · skip
      cases h3 : (xa == 0)
      · skip
        (refine wp_region_quiet_below (by kernel_rfl) (by kernel_rfl) ?_); (repeat (first | go_big_quiet_skip | quiet_step (first | with_reducible exact CP.out _ _ | with_reducible exact CQ.out _ _))); (refine wpQuiet_nil ?_); intro _ hw'; obtain ⟨⟨dq, osq⟩, hw''⟩ := hw'; subst hw''
        go_wp2_with fail
        go_ret
        exact ⟨ret_bool (by rw [HE.out, HT.out]; simp [*]), HBW.out.trans ((below_regrown W dq osq).mono HBW.out.size)⟩
      · cases h4 : (xb == 0)
        · skip
          (refine wp_region_quiet_below (by kernel_rfl) (by kernel_rfl) ?_); (repeat (first | go_big_quiet_skip | quiet_step (first | with_reducible exact CP.out _ _ | with_reducible exact CQ.out _ _))); (refine wpQuiet_nil ?_); intro _ hw'; obtain ⟨⟨dq, osq⟩, hw''⟩ := hw'; subst hw''
          go_wp2_with fail
          go_ret
          exact ⟨ret_bool (by rw [HE.out, HT.out]; simp [*]), HBW.out.trans ((below_regrown W dq osq).mono HBW.out.size)⟩
        · skip
          (refine wp_region_quiet_below (by kernel_rfl) (by kernel_rfl) ?_); (repeat (first | go_big_quiet_skip | quiet_step (first | with_reducible exact CP.out _ _ | with_reducible exact CQ.out _ _))); (refine wpQuiet_nil ?_); intro _ hw'; obtain ⟨⟨dq, osq⟩, hw''⟩ := hw'; subst hw''
          go_wp2_with fail
          go_ret
          exact ⟨ret_bool (by rw [HE.out, HT.out]; simp [*]), HBW.out.trans ((below_regrown W dq osq).mono HBW.out.size)⟩
  cases g1 : (sn.toList == [102, 111, 99, 117, 115])
  case true =>
    clear QN QA QB QH Q4 Q9 QL
    go_enter Tryz.func84, Tryz.ntmps84
    go_wp2_with fail
    obtain ⟨W, hW, HBW, HG⟩ := two4_at w (.int .i64 7) (.string sn) (.string sv) (.int .i64 xa) (.int .i64 xb) (.slice uo ln uc) (.int .i64 7) (.string sn) (.string ⟨#[]⟩) (.int .i64 0) (.int .i64 0) (.slice none 0 0)
    rw [hW]
    clear hW
    obtain ⟨c0, c1, c2, c3, c4, c5, f0, f1, f2, f3, f4, f5⟩ := HG
    have CP := cp_at W 7 sn sv xa xb uo ln uc
    have CQ := cp_at W 7 sn ⟨#[]⟩ 0 0 none 0 0
    cases h2 : (sv.toList == [])
    · skip
      (refine wp_region_quiet_below (by kernel_rfl) (by kernel_rfl) ?_); (repeat (first | go_big_quiet_skip | quiet_step (first | with_reducible exact CP.out _ _ | with_reducible exact CQ.out _ _))); (refine wpQuiet_nil ?_); intro _ hw'; obtain ⟨⟨dq, osq⟩, hw''⟩ := hw'; subst hw''
      go_wp2_with fail
      go_ret
      exact ⟨ret_bool (by rw [HE.out, HT.out]; simp [*]), HBW.out.trans ((below_regrown W dq osq).mono HBW.out.size)⟩
    · skip
      cases h3 : (xa == 0)
      · skip
        (refine wp_region_quiet_below (by kernel_rfl) (by kernel_rfl) ?_); (repeat (first | go_big_quiet_skip | quiet_step (first | with_reducible exact CP.out _ _ | with_reducible exact CQ.out _ _))); (refine wpQuiet_nil ?_); intro _ hw'; obtain ⟨⟨dq, osq⟩, hw''⟩ := hw'; subst hw''
        go_wp2_with fail
        go_ret
        exact ⟨ret_bool (by rw [HE.out, HT.out]; simp [*]), HBW.out.trans ((below_regrown W dq osq).mono HBW.out.size)⟩
      · cases h4 : (xb == 0)
        · skip
          (refine wp_region_quiet_below (by kernel_rfl) (by kernel_rfl) ?_); (repeat (first | go_big_quiet_skip | quiet_step (first | with_reducible exact CP.out _ _ | with_reducible exact CQ.out _ _))); (refine wpQuiet_nil ?_); intro _ hw'; obtain ⟨⟨dq, osq⟩, hw''⟩ := hw'; subst hw''
          go_wp2_with fail
          go_ret
          exact ⟨ret_bool (by rw [HE.out, HT.out]; simp [*]), HBW.out.trans ((below_regrown W dq osq).mono HBW.out.size)⟩
        · skip
          (refine wp_region_quiet_below (by kernel_rfl) (by kernel_rfl) ?_); (repeat (first | go_big_quiet_skip | quiet_step (first | with_reducible exact CP.out _ _ | with_reducible exact CQ.out _ _))); (refine wpQuiet_nil ?_); intro _ hw'; obtain ⟨⟨dq, osq⟩, hw''⟩ := hw'; subst hw''
          go_wp2_with fail
          go_ret
          exact ⟨ret_bool (by rw [HE.out, HT.out]; simp [*]), HBW.out.trans ((below_regrown W dq osq).mono HBW.out.size)⟩
  cases g2 : (sn.toList == [97, 99, 116, 105, 118, 101])
  case true =>
    clear QN QA QB QH Q4 Q9 QL
    go_enter Tryz.func84, Tryz.ntmps84
    go_wp2_with fail
    obtain ⟨W, hW, HBW, HG⟩ := two4_at w (.int .i64 7) (.string sn) (.string sv) (.int .i64 xa) (.int .i64 xb) (.slice uo ln uc) (.int .i64 7) (.string sn) (.string ⟨#[]⟩) (.int .i64 0) (.int .i64 0) (.slice none 0 0)
    rw [hW]
    clear hW
    obtain ⟨c0, c1, c2, c3, c4, c5, f0, f1, f2, f3, f4, f5⟩ := HG
    have CP := cp_at W 7 sn sv xa xb uo ln uc
    have CQ := cp_at W 7 sn ⟨#[]⟩ 0 0 none 0 0
    cases h2 : (sv.toList == [])
    · skip
      (refine wp_region_quiet_below (by kernel_rfl) (by kernel_rfl) ?_); (repeat (first | go_big_quiet_skip | quiet_step (first | with_reducible exact CP.out _ _ | with_reducible exact CQ.out _ _))); (refine wpQuiet_nil ?_); intro _ hw'; obtain ⟨⟨dq, osq⟩, hw''⟩ := hw'; subst hw''
      go_wp2_with fail
      go_ret
      exact ⟨ret_bool (by rw [HE.out, HT.out]; simp [*]), HBW.out.trans ((below_regrown W dq osq).mono HBW.out.size)⟩
    · skip
      cases h3 : (xa == 0)
      · skip
        (refine wp_region_quiet_below (by kernel_rfl) (by kernel_rfl) ?_); (repeat (first | go_big_quiet_skip | quiet_step (first | with_reducible exact CP.out _ _ | with_reducible exact CQ.out _ _))); (refine wpQuiet_nil ?_); intro _ hw'; obtain ⟨⟨dq, osq⟩, hw''⟩ := hw'; subst hw''
        go_wp2_with fail
        go_ret
        exact ⟨ret_bool (by rw [HE.out, HT.out]; simp [*]), HBW.out.trans ((below_regrown W dq osq).mono HBW.out.size)⟩
      · cases h4 : (xb == 0)
        · skip
          (refine wp_region_quiet_below (by kernel_rfl) (by kernel_rfl) ?_); (repeat (first | go_big_quiet_skip | quiet_step (first | with_reducible exact CP.out _ _ | with_reducible exact CQ.out _ _))); (refine wpQuiet_nil ?_); intro _ hw'; obtain ⟨⟨dq, osq⟩, hw''⟩ := hw'; subst hw''
          go_wp2_with fail
          go_ret
          exact ⟨ret_bool (by rw [HE.out, HT.out]; simp [*]), HBW.out.trans ((below_regrown W dq osq).mono HBW.out.size)⟩
        · skip
          (refine wp_region_quiet_below (by kernel_rfl) (by kernel_rfl) ?_); (repeat (first | go_big_quiet_skip | quiet_step (first | with_reducible exact CP.out _ _ | with_reducible exact CQ.out _ _))); (refine wpQuiet_nil ?_); intro _ hw'; obtain ⟨⟨dq, osq⟩, hw''⟩ := hw'; subst hw''
          go_wp2_with fail
          go_ret
          exact ⟨ret_bool (by rw [HE.out, HT.out]; simp [*]), HBW.out.trans ((below_regrown W dq osq).mono HBW.out.size)⟩
  cases g3 : (sn.toList == [99, 104, 101, 99, 107, 101, 100])
  case true =>
    clear QN QA QB QH Q4 Q9 QL
    go_enter Tryz.func84, Tryz.ntmps84
    go_wp2_with fail
    obtain ⟨W, hW, HBW, HG⟩ := two4_at w (.int .i64 7) (.string sn) (.string sv) (.int .i64 xa) (.int .i64 xb) (.slice uo ln uc) (.int .i64 7) (.string sn) (.string ⟨#[]⟩) (.int .i64 0) (.int .i64 0) (.slice none 0 0)
    rw [hW]
    clear hW
    obtain ⟨c0, c1, c2, c3, c4, c5, f0, f1, f2, f3, f4, f5⟩ := HG
    have CP := cp_at W 7 sn sv xa xb uo ln uc
    have CQ := cp_at W 7 sn ⟨#[]⟩ 0 0 none 0 0
    cases h2 : (sv.toList == [])
    · skip
      (refine wp_region_quiet_below (by kernel_rfl) (by kernel_rfl) ?_); (repeat (first | go_big_quiet_skip | quiet_step (first | with_reducible exact CP.out _ _ | with_reducible exact CQ.out _ _))); (refine wpQuiet_nil ?_); intro _ hw'; obtain ⟨⟨dq, osq⟩, hw''⟩ := hw'; subst hw''
      go_wp2_with fail
      go_ret
      exact ⟨ret_bool (by rw [HE.out, HT.out]; simp [*]), HBW.out.trans ((below_regrown W dq osq).mono HBW.out.size)⟩
    · skip
      cases h3 : (xa == 0)
      · skip
        (refine wp_region_quiet_below (by kernel_rfl) (by kernel_rfl) ?_); (repeat (first | go_big_quiet_skip | quiet_step (first | with_reducible exact CP.out _ _ | with_reducible exact CQ.out _ _))); (refine wpQuiet_nil ?_); intro _ hw'; obtain ⟨⟨dq, osq⟩, hw''⟩ := hw'; subst hw''
        go_wp2_with fail
        go_ret
        exact ⟨ret_bool (by rw [HE.out, HT.out]; simp [*]), HBW.out.trans ((below_regrown W dq osq).mono HBW.out.size)⟩
      · cases h4 : (xb == 0)
        · skip
          (refine wp_region_quiet_below (by kernel_rfl) (by kernel_rfl) ?_); (repeat (first | go_big_quiet_skip | quiet_step (first | with_reducible exact CP.out _ _ | with_reducible exact CQ.out _ _))); (refine wpQuiet_nil ?_); intro _ hw'; obtain ⟨⟨dq, osq⟩, hw''⟩ := hw'; subst hw''
          go_wp2_with fail
          go_ret
          exact ⟨ret_bool (by rw [HE.out, HT.out]; simp [*]), HBW.out.trans ((below_regrown W dq osq).mono HBW.out.size)⟩
        · skip
          (refine wp_region_quiet_below (by kernel_rfl) (by kernel_rfl) ?_); (repeat (first | go_big_quiet_skip | quiet_step (first | with_reducible exact CP.out _ _ | with_reducible exact CQ.out _ _))); (refine wpQuiet_nil ?_); intro _ hw'; obtain ⟨⟨dq, osq⟩, hw''⟩ := hw'; subst hw''
          go_wp2_with fail
          go_ret
          exact ⟨ret_bool (by rw [HE.out, HT.out]; simp [*]), HBW.out.trans ((below_regrown W dq osq).mono HBW.out.size)⟩
  clear QN QA QB QH Q4 Q9 QL
  go_enter Tryz.func84, Tryz.ntmps84
  go_wp2_with fail
  obtain ⟨W, hW, HBW, HG⟩ := two4_at w (.int .i64 7) (.string sn) (.string sv) (.int .i64 xa) (.int .i64 xb) (.slice uo ln uc) (.int .i64 7) (.string sn) (.string ⟨#[]⟩) (.int .i64 0) (.int .i64 0) (.slice none 0 0)
  rw [hW]
  clear hW
  obtain ⟨c0, c1, c2, c3, c4, c5, f0, f1, f2, f3, f4, f5⟩ := HG
  have CP := cp_at W 7 sn sv xa xb uo ln uc
  have CQ := cp_at W 7 sn ⟨#[]⟩ 0 0 none 0 0
  (refine wp_region_quiet_below (by kernel_rfl) (by kernel_rfl) ?_); (repeat (first | go_big_quiet_skip | quiet_step (first | with_reducible exact CP.out _ _ | with_reducible exact CQ.out _ _))); (refine wpQuiet_nil ?_); intro _ hw'; obtain ⟨⟨dq, osq⟩, hw''⟩ := hw'; subst hw''
  go_wp2_with fail
  go_ret
  exact ⟨ret_bool (by rw [HE.out]; simp [*]), HBW.out.trans ((below_regrown W dq osq).mono HBW.out.size)⟩
end Go.Proofs.YtncknaagbafhhaaGreatDoor
set_option linter.unusedVariables false
set_option linter.unusedSimpArgs false
set_option maxRecDepth 20000
namespace Go.Proofs.YtncknaagbafhhaaGreatDoor
open Go.RowKit Go.Sort
set_option maxRecDepth 100000 in
set_option maxHeartbeats 2000000 in
theorem rOneNo_v (x : Wn.Sm) (u : Value) (w : World) (hu : SsP w (fun _ => True) u x.l) (hx : Wn.shQ x) (hk : ¬ (1 ≤ x.k ∧ x.k ≤ 11)) :
    Calls Tryz.prog 84 #[smV x u] w fun e w' => e = .returned (.bool (Wn.mayPlain x)) ∧ Below w.heap.size w w' := by
  obtain ⟨uo, uc, rfl, _, hc⟩ := hu.form
  unfold maxLen at hc
  have hn := hx.1
  have hv := hx.2
  have HR : Hid (Wn.mayPlain x = _) := Lib.hid (Wn.one_eq x)
  have hlz : decide (x.l.len = 0) = ((x.l.len : Int) == 0) := by rw [Bool.eq_iff_iff]; simp
  have HF : Hid (Wn.fieldsB x = _) := Lib.hid (by unfold Wn.fieldsB; rfl)
  have HS : Hid (Wn.sameB x (Wn.meantS x) = _) := Lib.hid (by unfold Wn.sameB Wn.meantS; rfl)
  have QN := Lib.hid (fun W => rName_v x.n W hn)
  have QL := Lib.hid (fun W => rLow_v x.n W (by omega))
  have QA := Lib.hid (fun W => rFew_v x.a W)
  have QB := Lib.hid (fun W => rFew_v x.b W)
  have QH : Hid (∀ W, Calls Tryz.prog 125 #[.agg #[.int .i64 4, .string (Wn.str x.n), .int .i64 0]] W fun e w' => e = .returned (.bool (Wn.may (4, x.n, 0))) ∧ Below W.heap.size W w') := Lib.hid (fun W => rMay (4, x.n, 0) W hn (by show _ ≤ (0 : Int); omega) (by show (0 : Int) ≤ _; omega))
  have Q4 : Hid (∀ W, Calls Tryz.prog 125 #[.agg #[.int .i64 6, .string (Wn.str x.v), .int .i64 34]] W fun e w' => e = .returned (.bool (Wn.may (6, x.v, 34))) ∧ Below W.heap.size W w') := Lib.hid (fun W => rMay (6, x.v, 34) W hv (by show _ ≤ (34 : Int); omega) (by show (34 : Int) ≤ _; omega))
  have Q9 : Hid (∀ W, Calls Tryz.prog 125 #[.agg #[.int .i64 6, .string (Wn.str x.v), .int .i64 39]] W fun e w' => e = .returned (.bool (Wn.may (6, x.v, 39))) ∧ Below W.heap.size W w') := Lib.hid (fun W => rMay (6, x.v, 39) W hv (by show _ ≤ (39 : Int); omega) (by show (39 : Int) ≤ _; omega))
  have HLO := Lib.hid (low_eq x.n)
  clear hu hx hn hv
  unfold smV
  rw [HR.out, hlz]
  clear HR hlz
  have hsn := str_list x.n
  have hsv := str_list x.v
  generalize Wn.fieldsB x = F at *
  generalize Wn.sameB x (Wn.meantS x) = S at *
  generalize decide (Wn.low x.n = x.n) = E at *
  generalize Wn.str (Wn.low x.n) = sl at *
  generalize Wn.str x.n = sn at *
  generalize Wn.str x.v = sv at *
  generalize Wn.may (1, x.n, 0) = R1 at *
  generalize Wn.may (4, x.n, 0) = R4 at *
  generalize Wn.may (6, x.v, 34) = R6 at *
  generalize Wn.may (6, x.v, 39) = R9 at *
  generalize Wn.few x.a = RA at *
  generalize Wn.few x.b = RB at *
  generalize x.k = xk at *
  generalize x.a = xa at *
  generalize x.b = xb at *
  generalize x.l.len = ln at *
  generalize x.n = xn at *
  generalize x.v = xv at *
  clear x
  subst hsn hsv
  have h1 : ¬ xk = 1 := by omega
  have h2 : ¬ xk = 2 := by omega
  have h3 : ¬ xk = 3 := by omega
  have h4 : ¬ xk = 4 := by omega
  have h5 : ¬ xk = 5 := by omega
  have h6 : ¬ xk = 6 := by omega
  have h7 : ¬ xk = 7 := by omega
  have h8 : ¬ xk = 8 := by omega
  have h9 : ¬ xk = 9 := by omega
  have h10 : ¬ xk = 10 := by omega
  have h11 : ¬ xk = 11 := by omega
  have HE : Hid (F = false) := Lib.hid (by rw [HF.out]; simp [h1, h2, h3, h4, h5, h6, h7, h8, h9, h10])
  clear HF HS hk QN QA QB QH Q4 Q9 QL
  go_enter Tryz.func84, Tryz.ntmps84
  go_wp2_with fail
  obtain ⟨W, hW, HBW, HG⟩ := two4_at w (.int .i64 xk) (.string sn) (.string sv) (.int .i64 xa) (.int .i64 xb) (.slice uo ln uc) (.int .i64 xk) (.string ⟨#[]⟩) (.string ⟨#[]⟩) (.int .i64 0) (.int .i64 0) (.slice none 0 0)
  rw [hW]
  clear hW
  obtain ⟨c0, c1, c2, c3, c4, c5, f0, f1, f2, f3, f4, f5⟩ := HG
  have CP := cp_at W xk sn sv xa xb uo ln uc
  have CQ := cp_at W xk ⟨#[]⟩ ⟨#[]⟩ 0 0 none 0 0
  (refine wp_region_quiet_below (by kernel_rfl) (by kernel_rfl) ?_); (repeat (first | go_big_quiet_skip | quiet_step (first | with_reducible exact CP.out _ _ | with_reducible exact CQ.out _ _))); (refine wpQuiet_nil ?_); intro _ hw'; obtain ⟨⟨dq, osq⟩, hw''⟩ := hw'; subst hw''
  go_wp2_with fail
  go_ret
  exact ⟨ret_bool (by rw [HE.out]; simp), HBW.out.trans ((below_regrown W dq osq).mono HBW.out.size)⟩
end Go.Proofs.YtncknaagbafhhaaGreatDoor
set_option linter.unusedVariables false
set_option linter.unusedSimpArgs false
set_option maxRecDepth 20000
namespace Go.Proofs.YtncknaagbafhhaaGreatDoor
open Go.RowKit Go.Sort
theorem rOnePlain_v (x : Wn.Sm) (u : Value) (w : World) (hu : SsP w (fun _ => True) u x.l) (hx : Wn.shQ x) (hk : x.k ≠ 11) :
    Calls Tryz.prog 84 #[smV x u] w fun e w' => e = .returned (.bool (Wn.mayPlain x)) ∧ Below w.heap.size w w' := by
  by_cases h : 1 ≤ x.k ∧ x.k ≤ 11
  · have : x.k = 1 ∨ x.k = 2 ∨ x.k = 3 ∨ x.k = 4 ∨ x.k = 5 ∨ x.k = 6 ∨ x.k = 7 ∨ x.k = 8 ∨ x.k = 9 ∨ x.k = 10 := by omega
    rcases this with h | h | h | h | h | h | h | h | h | h
    · exact rOne1_v x u w hu hx h
    · exact rOne2_v x u w hu hx h
    · exact rOne3_v x u w hu hx h
    · exact rOne4_v x u w hu hx h
    · exact rOne5_v x u w hu hx h
    · exact rOne6_v x u w hu hx h
    · exact rOne7_v x u w hu hx h
    · exact rOne8_v x u w hu hx h
    · exact rOne9_v x u w hu hx h
    · exact rOne10_v x u w hu hx h
  · exact rOneNo_v x u w hu hx h
theorem bare11 (x : Wn.Sm) (hk : x.k = 11) : decide (x = ⟨11, [], [], 0, 0, x.l⟩) = ((x.n == []) && ((x.v == []) && ((x.a == 0) && (x.b == 0)))) := by
  obtain ⟨k, n, v, a, b, l⟩ := x
  dsimp only at hk ⊢
  subst hk
  rw [Bool.eq_iff_iff]
  simp
set_option maxRecDepth 100000 in
set_option maxHeartbeats 2000000 in
theorem rOne11_v (x : Wn.Sm) (u : Value) (w : World) (hu : SsP w (fun _ => True) u x.l) (hx : Wn.shD x) (hk : x.k = 11) :
    Calls Tryz.prog 84 #[smV x u] w fun e w' => e = .returned (.bool (Wn.maySm x)) ∧ Below w.heap.size w w' := by
  obtain ⟨uo, uc, rfl, _, hc⟩ := hu.form
  unfold maxLen at hc
  have HBR := Lib.hid (bare11 x hk)
  by_cases hl : x.l.len = 1
  · obtain ⟨y, hy, hyl⟩ := Wn.Ss.one hl
    have HE : Hid (Wn.maySm x = (Wn.mayPlain y && decide (x = ⟨11, [], [], 0, 0, x.l⟩))) := Lib.hid (Wn.maySm_one hk hyl)
    have hys : Wn.shQ y := hx.2 y (by rw [hyl]; exact List.mem_singleton.2 rfl)
    obtain ⟨b, o, cs, rfl, _, hbl, hRy, hLy⟩ := (SsP.k.1 hu).at (i := 0) (x := y) (by rw [hyl]; rfl)
    obtain ⟨yu, rfl, hyu⟩ := hRy
    obtain ⟨yo, yc, rfl, _, _⟩ := hyu.form
    have y0 := hLy 0 _ rfl
    have y1 := hLy 1 _ rfl
    have y2 := hLy 2 _ rfl
    have y3 := hLy 3 _ rfl
    have y4 := hLy 4 _ rfl
    have y5 := hLy 5 _ rfl
    simp only [show smK.sz = 6 from rfl, Nat.zero_mul, Nat.add_zero] at y0 y1 y2 y3 y4 y5
    have QO := Lib.hid (fun W (h : Below w.heap.size w W) (h11 : y.k ≠ 11) => rOnePlain_v y _ W (hyu.below h) hys h11)
    have HN := Lib.hid (fun (h : y.k = 11) => Wn.mayPlain_11 h)
    unfold smV at *
    clear hu hx hy hyl hLy hyu hys
    have hsn := str_list x.n
    have hsv := str_list x.v
    rw [HE.out, HBR.out, hk, hl]
    clear HE HBR
    generalize Wn.mayPlain y = T at *
    generalize y.k = yk at *
    generalize Wn.str y.n = yn at *
    generalize Wn.str y.v = yv at *
    generalize y.a = ya at *
    generalize y.b = yb at *
    generalize y.l.len = yl at *
    generalize Wn.str x.n = sn at *
    generalize Wn.str x.v = sv at *
    generalize x.a = xa at *
    generalize x.b = xb at *
    generalize x.n = xn at *
    generalize x.v = xv at *
    subst hsn hsv
    clear hk hl
    go_enter Tryz.func84, Tryz.ntmps84
    go_wp2_with fail
    obtain ⟨W, hW, HBW, HG⟩ := two4_at w (.int .i64 11) (.string sn) (.string sv) (.int .i64 xa) (.int .i64 xb) (.slice (some ⟨b, o, none⟩) 1 uc) (.int .i64 11) (.string ⟨#[]⟩) (.string ⟨#[]⟩) (.int .i64 0) (.int .i64 0) (.slice none 0 0)
    rw [hW]
    clear hW
    obtain ⟨c0, c1, c2, c3, c4, c5, f0, f1, f2, f3, f4, f5⟩ := HG
    have z0 := (HBW.out.cell (World.block_lt_of_cell? _ _ y0)).trans y0
    have z1 := (HBW.out.cell (World.block_lt_of_cell? _ _ y1)).trans y1
    have z2 := (HBW.out.cell (World.block_lt_of_cell? _ _ y2)).trans y2
    have z3 := (HBW.out.cell (World.block_lt_of_cell? _ _ y3)).trans y3
    have z4 := (HBW.out.cell (World.block_lt_of_cell? _ _ y4)).trans y4
    have z5 := (HBW.out.cell (World.block_lt_of_cell? _ _ y5)).trans y5
    clear y0 y1 y2 y3 y4 y5
    have k0 := cell_regrown z0
    have k1 := cell_regrown z1
    have k2 := cell_regrown z2
    have k3 := cell_regrown z3
    have k4 := cell_regrown z4
    have k5 := cell_regrown z5
    clear z0 z1 z2 z3 z4 z5
    have CP := cp_at W 11 sn sv xa xb (some ⟨b, o, none⟩) 1 uc
    have CQ := cp_at W 11 ⟨#[]⟩ ⟨#[]⟩ 0 0 none 0 0
    cases h1 : (sn.toList == [])
    · skip
      (refine wp_region_quiet_below (by kernel_rfl) (by kernel_rfl) ?_); (repeat (first | go_big_quiet_skip | quiet_step (first | with_reducible exact CP.out _ _ | with_reducible exact CQ.out _ _))); (refine wpQuiet_nil ?_); intro _ hw'; obtain ⟨⟨dq, osq⟩, hw''⟩ := hw'; subst hw''
      go_wp2_with fail
      go_ret
      exact ⟨ret_bool (by simp [*]), HBW.out.trans ((below_regrown W dq osq).mono HBW.out.size)⟩
    cases h2 : (sv.toList == [])
    · skip
      (refine wp_region_quiet_below (by kernel_rfl) (by kernel_rfl) ?_); (repeat (first | go_big_quiet_skip | quiet_step (first | with_reducible exact CP.out _ _ | with_reducible exact CQ.out _ _))); (refine wpQuiet_nil ?_); intro _ hw'; obtain ⟨⟨dq, osq⟩, hw''⟩ := hw'; subst hw''
      go_wp2_with fail
      go_ret
      exact ⟨ret_bool (by simp [*]), HBW.out.trans ((below_regrown W dq osq).mono HBW.out.size)⟩
    cases h3 : (xa == 0)
    · skip
      (refine wp_region_quiet_below (by kernel_rfl) (by kernel_rfl) ?_); (repeat (first | go_big_quiet_skip | quiet_step (first | with_reducible exact CP.out _ _ | with_reducible exact CQ.out _ _))); (refine wpQuiet_nil ?_); intro _ hw'; obtain ⟨⟨dq, osq⟩, hw''⟩ := hw'; subst hw''
      go_wp2_with fail
      go_ret
      exact ⟨ret_bool (by simp [*]), HBW.out.trans ((below_regrown W dq osq).mono HBW.out.size)⟩
    cases h4 : (xb == 0)
    · skip
      (refine wp_region_quiet_below (by kernel_rfl) (by kernel_rfl) ?_); (repeat (first | go_big_quiet_skip | quiet_step (first | with_reducible exact CP.out _ _ | with_reducible exact CQ.out _ _))); (refine wpQuiet_nil ?_); intro _ hw'; obtain ⟨⟨dq, osq⟩, hw''⟩ := hw'; subst hw''
      go_wp2_with fail
      go_ret
      exact ⟨ret_bool (by simp [*]), HBW.out.trans ((below_regrown W dq osq).mono HBW.out.size)⟩
    by_cases h11 : yk = 11
    · have hT := HN.out h11
      subst h11
      subst hT
      (refine wp_region_quiet_below (by kernel_rfl) (by kernel_rfl) ?_); (repeat (first | go_big_quiet_skip | quiet_step (first | with_reducible exact CP.out _ _ | with_reducible exact CQ.out _ _))); (refine wpQuiet_nil ?_); intro _ hw'; obtain ⟨⟨dq, osq⟩, hw''⟩ := hw'; subst hw''
      go_wp2_with fail
      go_ret
      exact ⟨ret_bool (by simp [*]), HBW.out.trans ((below_regrown W dq osq).mono HBW.out.size)⟩
    · have CO : Hid (∀ d os, Calls Tryz.prog 84 #[.agg #[.int .i64 yk, .string yn, .string yv, .int .i64 ya, .int .i64 yb, .slice yo yl yc]] (grow (redrawn W d) os) fun e w'' => e = .returned (.bool T) ∧ ∃ p : Regrown, w'' = grow (redrawn W p.d) p.os) := Lib.hid (fun d os => Calls.regrown_of (QO.out _ (HBW.out.trans ((below_regrown W d os).mono HBW.out.size)) h11))
      (refine wp_region_quiet_below (by kernel_rfl) (by kernel_rfl) ?_); (repeat (first | go_big_quiet_skip | quiet_step (first | with_reducible exact CP.out _ _ | with_reducible exact CQ.out _ _ | with_reducible exact CO.out _ _))); (refine wpQuiet_nil ?_); intro _ hw'; obtain ⟨⟨dq, osq⟩, hw''⟩ := hw'; subst hw''
      go_wp2_with fail
      go_ret
      exact ⟨ret_bool (by simp [*]), HBW.out.trans ((below_regrown W dq osq).mono HBW.out.size)⟩
  · have HE : Hid (Wn.maySm x = false) := Lib.hid (Wn.maySm_len hk hl)
    have hn : ¬ (x.l.len : Int) = 1 := by omega
    unfold smV at *
    have hsn := str_list x.n
    have hsv := str_list x.v
    clear hu hx HBR
    rw [HE.out, hk]
    generalize x.l.len = ln at *
    generalize Wn.str x.n = sn at *
    generalize Wn.str x.v = sv at *
    generalize x.a = xa at *
    generalize x.b = xb at *
    clear HE hk hsn hsv hl
    have hnb : ((ln : Int) == 1) = false := by simpa using hn
    go_enter Tryz.func84, Tryz.ntmps84
    go_wp2_with fail
    obtain ⟨W, hW, HBW, HG⟩ := two4_at w (.int .i64 11) (.string sn) (.string sv) (.int .i64 xa) (.int .i64 xb) (.slice uo ln uc) (.int .i64 11) (.string ⟨#[]⟩) (.string ⟨#[]⟩) (.int .i64 0) (.int .i64 0) (.slice none 0 0)
    rw [hW]
    clear hW
    obtain ⟨c0, c1, c2, c3, c4, c5, f0, f1, f2, f3, f4, f5⟩ := HG
    have CP := cp_at W 11 sn sv xa xb uo ln uc
    have CQ := cp_at W 11 ⟨#[]⟩ ⟨#[]⟩ 0 0 none 0 0
    cases h1 : (sn.toList == [])
    · skip
      (refine wp_region_quiet_below (by kernel_rfl) (by kernel_rfl) ?_); (repeat (first | go_big_quiet_skip | quiet_step (first | with_reducible exact CP.out _ _ | with_reducible exact CQ.out _ _))); (refine wpQuiet_nil ?_); intro _ hw'; obtain ⟨⟨dq, osq⟩, hw''⟩ := hw'; subst hw''
      go_wp2_with fail
      go_ret
      exact ⟨ret_bool (by rfl), HBW.out.trans ((below_regrown W dq osq).mono HBW.out.size)⟩
    cases h2 : (sv.toList == [])
    · skip
      (refine wp_region_quiet_below (by kernel_rfl) (by kernel_rfl) ?_); (repeat (first | go_big_quiet_skip | quiet_step (first | with_reducible exact CP.out _ _ | with_reducible exact CQ.out _ _))); (refine wpQuiet_nil ?_); intro _ hw'; obtain ⟨⟨dq, osq⟩, hw''⟩ := hw'; subst hw''
      go_wp2_with fail
      go_ret
      exact ⟨ret_bool (by rfl), HBW.out.trans ((below_regrown W dq osq).mono HBW.out.size)⟩
    cases h3 : (xa == 0)
    · skip
      (refine wp_region_quiet_below (by kernel_rfl) (by kernel_rfl) ?_); (repeat (first | go_big_quiet_skip | quiet_step (first | with_reducible exact CP.out _ _ | with_reducible exact CQ.out _ _))); (refine wpQuiet_nil ?_); intro _ hw'; obtain ⟨⟨dq, osq⟩, hw''⟩ := hw'; subst hw''
      go_wp2_with fail
      go_ret
      exact ⟨ret_bool (by rfl), HBW.out.trans ((below_regrown W dq osq).mono HBW.out.size)⟩
    cases h4 : (xb == 0)
    · skip
      (refine wp_region_quiet_below (by kernel_rfl) (by kernel_rfl) ?_); (repeat (first | go_big_quiet_skip | quiet_step (first | with_reducible exact CP.out _ _ | with_reducible exact CQ.out _ _))); (refine wpQuiet_nil ?_); intro _ hw'; obtain ⟨⟨dq, osq⟩, hw''⟩ := hw'; subst hw''
      go_wp2_with fail
      go_ret
      exact ⟨ret_bool (by rfl), HBW.out.trans ((below_regrown W dq osq).mono HBW.out.size)⟩
    (refine wp_region_quiet_below (by kernel_rfl) (by kernel_rfl) ?_); (repeat (first | go_big_quiet_skip | quiet_step (first | with_reducible exact CP.out _ _ | with_reducible exact CQ.out _ _))); (refine wpQuiet_nil ?_); intro _ hw'; obtain ⟨⟨dq, osq⟩, hw''⟩ := hw'; subst hw''
    go_wp2_with fail
    go_ret
    exact ⟨ret_bool (by rfl), HBW.out.trans ((below_regrown W dq osq).mono HBW.out.size)⟩
theorem rOne_v (x : Wn.Sm) (u : Value) (w : World) (hu : SsP w (fun _ => True) u x.l) (hx : Wn.shD x) :
    Calls Tryz.prog 84 #[smV x u] w fun e w' => e = .returned (.bool (Wn.maySm x)) ∧ Below w.heap.size w w' := by
  by_cases hk : x.k = 11
  · exact rOne11_v x u w hu hx hk
  · rw [Wn.maySm_not hk]; exact rOnePlain_v x u w hu hx.1 hk
end Go.Proofs.YtncknaagbafhhaaGreatDoor
