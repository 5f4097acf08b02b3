/- The verifier's second writing of nest: what Same answers (where the text of that name is struck: its words bear other names here). The verifier's own: are declarations the same. -/
import Derived.Test.YtjlejiphpbaonaaGreatDoorGS
import Derived.Test.YtjlejiphpbaonaaGreatDoorLE
set_option linter.unusedVariables false
set_option linter.unusedSimpArgs false
set_option maxRecDepth 20000
namespace Go.Proofs.YtjlejiphpbaonaaGreatDoor
open Go.RowKit Go.Sort
def RSSaidD (f : Wn.Fs) : Prop := ∀ (g : Wn.Fs) (v u : Value) (w : World), Vals w v f → Vals w u g → Calls Tryz.prog 14 #[v, u] w fun e w' => e = .returned (.bool (decide (f = g))) ∧ Below w.heap.size w w'
set_option maxRecDepth 100000 in
set_option maxHeartbeats 4000000 in
theorem rSame_stepD (f : Wn.Fs) (IH : ∀ x : Wn.Fs, x.size < f.size → RSSaidD x) : RSSaidD f := by
  intro g v u w hv hu
  have HIH := Lib.hid IH; clear IH
  have HV := Lib.hid hv
  have HU := Lib.hid hu
  obtain ⟨ao, cap, rfl, c1, c2⟩ := hv.form
  obtain ⟨bo, cbp, rfl, d1, d2⟩ := hu.form
  unfold maxLen at c2 d2
  clear hv hu
  by_cases hlen : f.len = g.len
  · generalize hR : decide (f = g) = R
    have HR : Hid (decide (f.drop 0 = g.drop 0) = R) := Lib.hid (by rw [Wn.Fs.drop_zero, Wn.Fs.drop_zero]; exact hR)
    clear hR
    have hnb : ((f.len : Int) != (g.len : Int)) = false := by rw [hlen]; simp
    have HLN := Lib.hid hlen; clear hlen
    go_enter Tryz.func14, Tryz.ntmps14
    go_wp2_with fail
    go_loopw [5] (fun v5 wr => ∃ (i : Nat), i ≤ f.len ∧ v5 = .int .i64 (i : Int) ∧ Hid (Below w.heap.size w wr) ∧ Hid (decide (f.drop i = g.drop i) = R)) (fun v5 _ => f.len - (intOf v5).toNat)
    case atStart => exact ⟨0, by omega, rfl, Lib.hid (Below.refl _ _), HR⟩
    case round =>
      obtain ⟨i, hil, rfl, HB, HE⟩ := hrel
      by_cases hlt : i < f.len
      · have hlt2 : i < g.len := by have := HLN.out; omega
        obtain ⟨k, t, x, hd⟩ := Wn.Fs.drop_cons hlt
        obtain ⟨k', t', x', hd'⟩ := Wn.Fs.drop_cons hlt2
        obtain ⟨b, o, rfl, j0, ⟨j1, j2, j3⟩, u, j4, hu⟩ := (HV.out.below HB.out).at hd
        obtain ⟨b', o', rfl, l0, ⟨l1, l2, l3⟩, u', l4, hu'⟩ := (HU.out.below HB.out).at hd'
        rw [show o + i * 5 + 1 + 1 = o + i * 5 + 2 by omega] at j2
        rw [show o + i * 5 + 1 + 2 = o + i * 5 + 3 by omega] at j3
        rw [show o' + i * 5 + 1 + 1 = o' + i * 5 + 2 by omega] at l2
        rw [show o' + i * 5 + 1 + 2 = o' + i * 5 + 3 by omega] at l3
        have hsz := Wn.Fs.size_drop hd
        obtain ⟨tk, tx, tn⟩ := t
        obtain ⟨sk, sx, sn⟩ := t'
        have HE2 : Hid (((k == k') && ((tk == sk) && (tx == sx) && (tn == sn)) && decide (x = x') && decide (f.drop (i + 1) = g.drop (i + 1))) = R) := Lib.hid (by
          rw [← HE.out, hd, hd']; rw [Bool.eq_iff_iff]; simp [and_assoc])
        have hform : ∃ ao n c, u = .slice ao n c := by obtain ⟨ao, cap, hv, _⟩ := hu.form; exact ⟨_, _, _, hv⟩
        have hform' : ∃ ao n c, u' = .slice ao n c := by obtain ⟨ao, cap, hv, _⟩ := hu'.form; exact ⟨_, _, _, hv⟩
        obtain ⟨uo, un, uc, rfl⟩ := hform
        obtain ⟨vo, vn, vc, rfl⟩ := hform'
        have CS : Hid (∀ d os, Calls Tryz.prog 14 #[.slice uo un uc, .slice vo vn vc] (grow (redrawn wr d) os) fun e w'' => e = .returned (.bool (decide (x = x'))) ∧ ∃ p : Regrown, w'' = grow (redrawn wr p.d) p.os) := Lib.hid (fun d os => Calls.regrown_of (HIH.out x hsz x' _ _ _ (hu.below (below_regrown wr d os)) (hu'.below (below_regrown wr d os))))
        dsimp only at j1 j2 j3 l1 l2 l3
        have hp := str_list tx
        have hq := str_list sx
        generalize Wn.str tx = y at *
        generalize Wn.str sx = z at *
        subst hp hq
        generalize decide (x = x') = c at *
        have a0 := cell_regrown j0
        have a1 := cell_regrown j1
        have a2 := cell_regrown j2
        have a3 := cell_regrown j3
        have a4 := cell_regrown j4
        have e0 := cell_regrown l0
        have e1 := cell_regrown l1
        have e2 := cell_regrown l2
        have e3 := cell_regrown l3
        have e4 := cell_regrown l4
        clear hu hu' hd hd' j0 j1 j2 j3 j4 l0 l1 l2 l3 l4
        have hi1 : (i : Int) < (f.len : Int) := by omega
        have hi2 : (i : Int) < (g.len : Int) := by omega
        cases h0 : (k == k')
        · have hne : (k != k') = true := by simpa using h0
          have HR2 : Hid (R = false) := Lib.hid (by rw [← HE2.out, h0]; simp)
          go_wp2_with fail
          (refine wp_region_quiet_below (by kernel_rfl) (by kernel_rfl) ?_); (repeat (first | go_big_quiet_skip | quiet_step (with_reducible exact CS.out _ _))); (refine wpQuiet_nil ?_); intro _ hw'; obtain ⟨⟨dq, osq⟩, hw''⟩ := hw'; subst hw''
          go_wp2_with fail
          go_ret
          exact ⟨ret_bool HR2.out.symm, HB.out.trans ((below_regrown wr dq osq).mono HB.out.size)⟩
        · have hne : (k != k') = false := by simpa using h0
          cases h1 : (tk == sk)
          · have HR2 : Hid (R = false) := Lib.hid (by rw [← HE2.out, h1]; simp)
            go_wp2_with fail
            (refine wp_region_quiet_below (by kernel_rfl) (by kernel_rfl) ?_); (repeat (first | go_big_quiet_skip | quiet_step (with_reducible exact CS.out _ _))); (refine wpQuiet_nil ?_); intro _ hw'; obtain ⟨⟨dq, osq⟩, hw''⟩ := hw'; subst hw''
            go_wp2_with fail
            go_ret
            exact ⟨ret_bool HR2.out.symm, HB.out.trans ((below_regrown wr dq osq).mono HB.out.size)⟩
          · cases h2 : (y.toList == z.toList)
            · have HR2 : Hid (R = false) := Lib.hid (by rw [← HE2.out, h2]; simp)
              go_wp2_with fail
              (refine wp_region_quiet_below (by kernel_rfl) (by kernel_rfl) ?_); (repeat (first | go_big_quiet_skip | quiet_step (with_reducible exact CS.out _ _))); (refine wpQuiet_nil ?_); intro _ hw'; obtain ⟨⟨dq, osq⟩, hw''⟩ := hw'; subst hw''
              go_wp2_with fail
              go_ret
              exact ⟨ret_bool HR2.out.symm, HB.out.trans ((below_regrown wr dq osq).mono HB.out.size)⟩
            · cases h3 : (tn == sn)
              · have HR2 : Hid (R = false) := Lib.hid (by rw [← HE2.out, h3]; simp)
                go_wp2_with fail
                (refine wp_region_quiet_below (by kernel_rfl) (by kernel_rfl) ?_); (repeat (first | go_big_quiet_skip | quiet_step (with_reducible exact CS.out _ _))); (refine wpQuiet_nil ?_); intro _ hw'; obtain ⟨⟨dq, osq⟩, hw''⟩ := hw'; subst hw''
                go_wp2_with fail
                go_ret
                exact ⟨ret_bool HR2.out.symm, HB.out.trans ((below_regrown wr dq osq).mono HB.out.size)⟩
              · cases c
                · have HR2 : Hid (R = false) := Lib.hid (by rw [← HE2.out]; simp)
                  go_wp2_with fail
                  (refine wp_region_quiet_below (by kernel_rfl) (by kernel_rfl) ?_); (repeat (first | go_big_quiet_skip | quiet_step (with_reducible exact CS.out _ _))); (refine wpQuiet_nil ?_); intro _ hw'; obtain ⟨⟨dq, osq⟩, hw''⟩ := hw'; subst hw''
                  go_wp2_with fail
                  go_ret
                  exact ⟨ret_bool HR2.out.symm, HB.out.trans ((below_regrown wr dq osq).mono HB.out.size)⟩
                · have HE3 : Hid (decide (f.drop (i + 1) = g.drop (i + 1)) = R) := Lib.hid (by rw [← HE2.out, h0, h1, h2, h3]; simp)
                  go_wp2_with fail
                  (refine wp_region_quiet_below (by kernel_rfl) (by kernel_rfl) ?_); (repeat (first | go_big_quiet_skip | quiet_step (with_reducible exact CS.out _ _))); (refine wpQuiet_nil ?_); intro _ hw'; obtain ⟨⟨dq, osq⟩, hw''⟩ := hw'; subst hw''
                  go_wp2_with fail
                  exact ⟨⟨i + 1, by omega, by go_num, Lib.hid (HB.out.trans ((below_regrown wr dq osq).mono HB.out.size)), HE3⟩, by simp [intOf]; omega⟩
      · have HE2 : Hid (R = true) := Lib.hid (by rw [← HE.out, Wn.Fs.drop_len (by omega), Wn.Fs.drop_len (by have := HLN.out; omega)]; simp)
        go_wp2_with fail
        go_ret
        exact ⟨ret_bool HE2.out.symm, HB.out⟩
  · have hR : decide (f = g) = false := by simp; intro h; exact hlen (by rw [h])
    have HR := Lib.hid hR; clear hR
    have hnb : ((f.len : Int) != (g.len : Int)) = true := by rw [bne_iff_ne]; omega
    clear hlen
    go_enter Tryz.func14, Tryz.ntmps14
    go_wp2_with fail
    go_ret
    exact ⟨ret_bool HR.out.symm, Below.refl _ _⟩
theorem rSame_allD : ∀ (n : Nat) (f : Wn.Fs), f.size < n → RSSaidD f
  | 0, f, h => by omega
  | n + 1, f, h => rSame_stepD f fun g hg => rSame_allD n g (by omega)
theorem rSameFD (v u : Value) (f g : Wn.Fs) (w : World) (hv : Vals w v f) (hu : Vals w u g) :
    Calls Tryz.prog 14 #[v, u] w fun e w' => e = .returned (.bool (decide (f = g))) ∧ Below w.heap.size w w' := rSame_allD (f.size + 1) f (Nat.lt_succ_self _) g v u w hv hu
end Go.Proofs.YtjlejiphpbaonaaGreatDoor
set_option linter.unusedVariables false
set_option linter.unusedSimpArgs false
set_option maxRecDepth 20000
namespace Go.Proofs.YtjlejiphpbaonaaGreatDoor
open Go.RowKit Go.Sort
set_option maxRecDepth 100000 in
set_option maxHeartbeats 4000000 in
theorem rSame7_v (l m : List Wn.Dl) (v u : Value) (w : World) (hv : dlK.P w (fun _ => True) v l) (hu : dlK.P w (fun _ => True) u m) :
    Calls Tryz.prog 11 #[v, u] w fun e w' => e = .returned (.bool (decide (l = m))) ∧ Below w.heap.size w w' := by
  have HV := Lib.hid hv
  have HU := Lib.hid hu
  obtain ⟨ao, cap, rfl, c1, c2⟩ := hv.form
  obtain ⟨bo, cbp, rfl, d1, d2⟩ := hu.form
  unfold maxLen at c2 d2
  clear hv hu
  by_cases hlen : l.length = m.length
  · have HLN := Lib.hid hlen
    rw [← hlen] at d1 ⊢
    have HU' : Hid (dlK.P w (fun _ => True) (.slice bo l.length cbp) m) := Lib.hid (by rw [hlen]; exact HU.out)
    clear hlen HU
    generalize hR : decide (l = m) = R
    have HR0 : Hid (R = decide (l.drop 0 = m.drop 0)) := Lib.hid hR.symm
    clear hR
    go_enter Tryz.func11, Tryz.ntmps11
    go_wp2_with fail
    go_loopw [5] (fun v5 wr => ∃ i : Nat, i ≤ l.length ∧ v5 = .int .i64 (i : Int) ∧ Hid (R = decide (l.drop i = m.drop i)) ∧ Hid (Below w.heap.size w wr)) (fun v5 _ => l.length - (intOf v5).toNat)
    case atStart => exact ⟨0, Nat.zero_le _, rfl, HR0, Lib.hid (Below.refl _ _)⟩
    case round =>
      clear HR0
      obtain ⟨i, hi, rfl, HR, HB⟩ := hrel
      by_cases hil : i < l.length
      · have hiv : (i : Int) < (l.length : Int) := by omega
        have hi0 : (0 : Int) ≤ (i : Int) := by omega
        have hit : ((i : Int)).toNat = i := rfl
        have him : i < m.length := by rw [← HLN.out]; exact hil
        have hx : l[i]? = some l[i] := List.getElem?_eq_getElem hil
        have hy : m[i]? = some m[i] := List.getElem?_eq_getElem him
        have hdx : l.drop i = l[i] :: l.drop (i + 1) := List.drop_eq_getElem_cons hil
        have hdy : m.drop i = m[i] :: m.drop (i + 1) := List.drop_eq_getElem_cons him
        generalize l[i] = x at *
        generalize m[i] = y at *
        obtain ⟨b, o, cs, rfl, _, _, hRx, hLx⟩ := (HV.out.below HB.out).at hx
        obtain ⟨b', o', ds, rfl, _, _, hRy, hLy⟩ := (HU'.out.below HB.out).at hy
        obtain ⟨xu, rfl, hxu⟩ := hRx
        obtain ⟨yu, rfl, hyu⟩ := hRy
        obtain ⟨xo, xc, rfl, _, _⟩ := hxu.form
        obtain ⟨yo, yc, rfl, _, _⟩ := hyu.form
        have x0 := hLx 0 _ rfl
        have x1 := hLx 1 _ rfl
        have x2 := hLx 2 _ rfl
        have y0 := hLy 0 _ rfl
        have y1 := hLy 1 _ rfl
        have y2 := hLy 2 _ rfl
        simp only [show dlK.sz = 3 from rfl, Nat.add_zero] at x0 x1 x2 y0 y1 y2
        have HR2 : Hid (R = (((x.1 == y.1) && ((x.2.2 == y.2.2) && decide (x.2.1 = y.2.1))) && decide (l.drop (i + 1) = m.drop (i + 1)))) := Lib.hid (by rw [HR.out, hdx, hdy, ← Wn.dl_eq, Bool.eq_iff_iff]; simp)
        have CQ7 : Hid (∀ d os, Calls Tryz.prog 14 #[.slice xo x.2.1.len xc, .slice yo y.2.1.len yc] (grow (redrawn wr d) os) fun e w'' => e = .returned (.bool (decide (x.2.1 = y.2.1))) ∧ ∃ p : Regrown, w'' = grow (redrawn wr p.d) p.os) := Lib.hid (fun d os => Calls.regrown_of (rSameFD _ _ _ _ _ (ValsP.below hxu (below_regrown wr d os)) (ValsP.below hyu (below_regrown wr d os))))
        have z0 := cell_regrown x0
        have z1 := cell_regrown x1
        have z2 := cell_regrown x2
        have t0 := cell_regrown y0
        have t1 := cell_regrown y1
        have t2 := cell_regrown y2
        have hs1 := Lib.hid (str_list x.1)
        have hs2 := Lib.hid (str_list y.1)
        clear hx hy hdx hdy hLx hLy HR hxu hyu x0 x1 x2 y0 y1 y2 him
        obtain ⟨xn, xf, xb⟩ := x
        obtain ⟨yn, yf, yb⟩ := y
        dsimp only at *
        generalize decide (xf = yf) = q at *
        generalize xf.len = ln at *
        generalize yf.len = lm at *
        generalize Wn.str xn = p1 at *
        generalize Wn.str yn = p2 at *
        have HR3 : Hid (R = (((p1.toList == p2.toList) && ((xb == yb) && q)) && decide (l.drop (i + 1) = m.drop (i + 1)))) := Lib.hid (by rw [HR2.out, hs1.out, hs2.out])
        clear HR2 hs1 hs2
        go_wp2_with fail
        cases h0 : (p1.toList == p2.toList)
        · have HE : Hid (R = false) := Lib.hid (by rw [HR3.out, h0]; rfl)
          (refine wp_region_quiet_below (by kernel_rfl) (by kernel_rfl) ?_); (repeat (first | go_big_quiet_skip | quiet_step (with_reducible exact CQ7.out _ _))); (refine wpQuiet_nil ?_); intro _ hw'; obtain ⟨⟨dq, osq⟩, hw''⟩ := hw'; subst hw''
          go_wp2_with fail
          go_ret
          exact ⟨ret_bool HE.out.symm, HB.out.trans ((below_regrown wr dq osq).mono HB.out.size)⟩
        cases h1 : (xb == yb)
        · have HE : Hid (R = false) := Lib.hid (by rw [HR3.out, h0, h1]; rfl)
          (refine wp_region_quiet_below (by kernel_rfl) (by kernel_rfl) ?_); (repeat (first | go_big_quiet_skip | quiet_step (with_reducible exact CQ7.out _ _))); (refine wpQuiet_nil ?_); intro _ hw'; obtain ⟨⟨dq, osq⟩, hw''⟩ := hw'; subst hw''
          go_wp2_with fail
          go_ret
          exact ⟨ret_bool HE.out.symm, HB.out.trans ((below_regrown wr dq osq).mono HB.out.size)⟩
        cases q
        · have HE : Hid (R = false) := Lib.hid (by rw [HR3.out, h0, h1]; rfl)
          (refine wp_region_quiet_below (by kernel_rfl) (by kernel_rfl) ?_); (repeat (first | go_big_quiet_skip | quiet_step (with_reducible exact CQ7.out _ _))); (refine wpQuiet_nil ?_); intro _ hw'; obtain ⟨⟨dq, osq⟩, hw''⟩ := hw'; subst hw''
          go_wp2_with fail
          go_ret
          exact ⟨ret_bool HE.out.symm, HB.out.trans ((below_regrown wr dq osq).mono HB.out.size)⟩
        · have HE : Hid (R = decide (l.drop (i + 1) = m.drop (i + 1))) := Lib.hid (by rw [HR3.out, h0, h1]; rfl)
          (refine wp_region_quiet_below (by kernel_rfl) (by kernel_rfl) ?_); (repeat (first | go_big_quiet_skip | quiet_step (with_reducible exact CQ7.out _ _))); (refine wpQuiet_nil ?_); intro _ hw'; obtain ⟨⟨dq, osq⟩, hw''⟩ := hw'; subst hw''
          go_wp2_with fail
          exact ⟨⟨i + 1, by omega, by go_num, HE, Lib.hid (HB.out.trans ((below_regrown wr dq osq).mono HB.out.size))⟩, by simp [intOf]; omega⟩
      · have HE : Hid (R = true) := Lib.hid (by rw [HR.out, List.drop_of_length_le (by omega), List.drop_of_length_le (by rw [← HLN.out]; omega)]; simp)
        have hiv : ¬ (i : Int) < (l.length : Int) := by omega
        go_wp2_with fail
        go_ret
        exact ⟨ret_bool HE.out.symm, HB.out⟩
  · have hne : ((l.length : Int) != (m.length : Int)) = true := by simp; omega
    have HE : Hid (decide (l = m) = false) := Lib.hid (decide_eq_false (fun e => hlen (by rw [e])))
    clear hlen
    go_enter Tryz.func11, Tryz.ntmps11
    go_wp2_with fail
    go_ret
    exact ⟨ret_bool HE.out.symm, Below.refl _ _⟩
end Go.Proofs.YtjlejiphpbaonaaGreatDoor
