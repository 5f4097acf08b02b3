/- The verifier's second writing of selectors: what plain, simples, Same answer. The verifier's second writing of selectors: what Same answers. -/
import Derived.Test.YtncknaagbafhhaaGreatDoorHI
import Derived.Test.YtncknaagbafhhaaGreatDoorGS
import Derived.Lib.QuietBelow
import Derived.Test.YtncknaagbafhhaaGreatDoorHL
import Derived.BigQuiet
set_option linter.unusedVariables false
set_option linter.unusedSimpArgs false
set_option maxRecDepth 20000
namespace Wn
theorem Ss.toL_get : ∀ {f : Ss} {i : Nat} {k : Int} {n v : List UInt8} {a b : Int} {x r : Ss}, f.drop i = .cons k n v a b x r → f.toL[i]? = some ⟨k, n, v, a, b, x⟩
  | .nil, 0, k, n, v, a, b, x, r, h => by simp [Ss.drop] at h
  | .nil, i + 1, k, n, v, a, b, x, r, h => by simp [Ss.drop] at h
  | .cons k' n' v' a' b' x' r', 0, k, n, v, a, b, x, r, h => by rw [Ss.drop_zero] at h; cases h; rfl
  | .cons k' n' v' a' b' x' r', i + 1, k, n, v, a, b, x, r, h => by rw [Ss.drop] at h; simpa [Ss.toL] using Ss.toL_get h
theorem Ss.drop_lt {f : Ss} {i : Nat} {k : Int} {n v : List UInt8} {a b : Int} {x r : Ss} (h : f.drop i = .cons k n v a b x r) : x.size < f.size := by
  induction f generalizing i with
  | nil => cases i <;> simp [Ss.drop] at h
  | cons k' n' v' a' b' x' r' ih1 ih2 =>
    cases i with
    | zero => rw [Ss.drop_zero] at h; cases h; simp only [Ss.size]; omega
    | succ i => rw [Ss.drop] at h; have := ih2 h; simp only [Ss.size]; omega
end Wn
namespace Go.Proofs.YtncknaagbafhhaaGreatDoor
open Go.RowKit Go.Sort
theorem SsP.at {w : World} {ok : Nat → Prop} {ao : Option Addr} {n cap : Nat} {f : Wn.Ss} (h : SsP w ok (.slice ao n cap) f) {i : Nat} {k : Int} {nm v : List UInt8} {a b : Int} {x r : Wn.Ss} (hd : f.drop i = .cons k nm v a b x r) :
    ∃ g o u, ao = some ⟨g, o, none⟩ ∧ w.cell? ⟨g, o + i * 6, none⟩ = some (.int .i64 k) ∧ w.cell? ⟨g, o + i * 6 + 1, none⟩ = some (.string (Wn.str nm)) ∧ w.cell? ⟨g, o + i * 6 + 2, none⟩ = some (.string (Wn.str v)) ∧ w.cell? ⟨g, o + i * 6 + 3, none⟩ = some (.int .i64 a) ∧ w.cell? ⟨g, o + i * 6 + 4, none⟩ = some (.int .i64 b) ∧ w.cell? ⟨g, o + i * 6 + 5, none⟩ = some u ∧ SsP w ok u x := by
  obtain ⟨g, o, cs, rfl, _, _, hR, hL⟩ := (SsP.k.1 h).at (Wn.Ss.toL_get hd)
  obtain ⟨u, rfl, hu⟩ := hR
  exact ⟨g, o, u, rfl, hL 0 _ rfl, hL 1 _ rfl, hL 2 _ rfl, hL 3 _ rfl, hL 4 _ rfl, hL 5 _ rfl, hu⟩
set_option maxHeartbeats 1000000 in
theorem plain_v (k : Int) (n v : ByteArray) (a b : Int) (uo : Option Addr) (un uc : Nat) (w : World) :
    Calls Tryz.prog 78 #[.agg #[.int .i64 k, .string n, .string v, .int .i64 a, .int .i64 b, .slice uo un uc]] w fun e w' => e = .returned (.agg #[.int .i64 k, .string n, .string v, .int .i64 a, .int .i64 b]) ∧ Below w.heap.size w w' := by
  go_enter Tryz.func78, Tryz.ntmps78
  go_wp2_with fail
  refine bodyPost_ret (v := .agg #[.int .i64 k, .string n, .string v, .int .i64 a, .int .i64 b]) (by simp [results, Tryz.results78, go_sem]) rfl ⟨rfl, ?_⟩
  (repeat (first | with_reducible exact Below.refl _ _ | (with_reducible refine Below.drew ?_) | (with_reducible refine below_drewN' ?_ _) | ((with_reducible refine Below.alloc ?_ ?_ _); rotate_left; (focus (first | omega | (simp <;> omega)))) | ((with_reducible refine Below.set_new ?_ ?_ _ _); rotate_left; (focus (first | omega | (simp <;> omega))))))
def RSmSaid (f : Wn.Ss) : Prop := ∀ (g : Wn.Ss) (v u : Value) (w : World), SsP w (fun _ => True) v f → SsP w (fun _ => True) u g → Calls Tryz.prog 43 #[v, u] w fun e w' => e = .returned (.bool (decide (f = g))) ∧ Below w.heap.size w w'
set_option maxRecDepth 100000 in
set_option maxHeartbeats 4000000 in
theorem rSimples_step (f : Wn.Ss) (IH : ∀ x : Wn.Ss, x.size < f.size → RSmSaid x) : RSmSaid f := by
  intro g v u w hv hu
  have HIH := Lib.hid IH; clear IH
  have HV := Lib.hid hv
  have HU := Lib.hid hu
  obtain ⟨ao, cap, rfl, c1, c2⟩ := hv.form
  obtain ⟨bo, cbp, rfl, d1, d2⟩ := hu.form
  unfold maxLen at c2 d2
  clear hv hu
  by_cases hlen : f.len = g.len
  · generalize hR : decide (f = g) = R
    have HR : Hid (decide (f.drop 0 = g.drop 0) = R) := Lib.hid (by rw [Wn.Ss.drop_zero, Wn.Ss.drop_zero]; exact hR)
    clear hR
    have hnb : ((f.len : Int) != (g.len : Int)) = false := by rw [hlen]; simp
    have HLN := Lib.hid hlen; clear hlen
    go_enter Tryz.func43, Tryz.ntmps43
    go_wp2_with fail
    go_loopw [5] (fun v5 wr => ∃ (i : Nat), i ≤ f.len ∧ v5 = .int .i64 (i : Int) ∧ Hid (Below w.heap.size w wr) ∧ Hid (decide (f.drop i = g.drop i) = R)) (fun v5 _ => f.len - (intOf v5).toNat)
    case atStart => exact ⟨0, by omega, rfl, Lib.hid (Below.refl _ _), HR⟩
    case round =>
      obtain ⟨i, hil, rfl, HB, HE⟩ := hrel
      by_cases hlt : i < f.len
      · have hlt2 : i < g.len := by have := HLN.out; omega
        obtain ⟨k, n, t, a, b, x, hd⟩ := Wn.Ss.drop_cons hlt
        obtain ⟨k', n', t', a', b', x', hd'⟩ := Wn.Ss.drop_cons hlt2
        obtain ⟨p, o, u, rfl, j0, j1, j2, j3, j4, j5, hu⟩ := (HV.out.below HB.out).at hd
        obtain ⟨p', o', u', rfl, l0, l1, l2, l3, l4, l5, hu'⟩ := (HU.out.below HB.out).at hd'
        have hsz := Wn.Ss.drop_lt hd
        have HE2 : Hid (((k == k') && (n == n') && (t == t') && (a == a') && (b == b') && decide (x = x') && decide (f.drop (i + 1) = g.drop (i + 1))) = R) := Lib.hid (by
          rw [← HE.out, hd, hd']; rw [Bool.eq_iff_iff]; simp [and_assoc])
        obtain ⟨uo, uc, rfl, _, _⟩ := hu.form
        obtain ⟨vo, vc, rfl, _, _⟩ := hu'.form
        have CS : Hid (∀ d os, Calls Tryz.prog 43 #[.slice uo x.len uc, .slice vo x'.len vc] (grow (redrawn wr d) os) fun e w'' => e = .returned (.bool (decide (x = x'))) ∧ ∃ p : Regrown, w'' = grow (redrawn wr p.d) p.os) := Lib.hid (fun d os => Calls.regrown_of (HIH.out x hsz x' _ _ _ (hu.below (below_regrown wr d os)) (hu'.below (below_regrown wr d os))))
        have CP : Hid (∀ d os, Calls Tryz.prog 78 #[.agg #[.int .i64 k, .string (Wn.str n), .string (Wn.str t), .int .i64 a, .int .i64 b, .slice uo x.len uc]] (grow (redrawn wr d) os) fun e w'' => e = .returned (.agg #[.int .i64 k, .string (Wn.str n), .string (Wn.str t), .int .i64 a, .int .i64 b]) ∧ ∃ p : Regrown, w'' = grow (redrawn wr p.d) p.os) := Lib.hid (fun d os => Calls.regrown_of (plain_v _ _ _ _ _ _ _ _ _))
        have CQ : Hid (∀ d os, Calls Tryz.prog 78 #[.agg #[.int .i64 k', .string (Wn.str n'), .string (Wn.str t'), .int .i64 a', .int .i64 b', .slice vo x'.len vc]] (grow (redrawn wr d) os) fun e w'' => e = .returned (.agg #[.int .i64 k', .string (Wn.str n'), .string (Wn.str t'), .int .i64 a', .int .i64 b']) ∧ ∃ p : Regrown, w'' = grow (redrawn wr p.d) p.os) := Lib.hid (fun d os => Calls.regrown_of (plain_v _ _ _ _ _ _ _ _ _))
        have hp := str_list n
        have hq := str_list n'
        have hr := str_list t
        have hs := str_list t'
        generalize Wn.str n = y at *
        generalize Wn.str n' = y' at *
        generalize Wn.str t = z at *
        generalize Wn.str t' = z' at *
        subst hp hq hr hs
        generalize decide (x = x') = c at *
        generalize x.len = xl at *
        generalize x'.len = xl' at *
        have a0 := cell_regrown j0
        have a1 := cell_regrown j1
        have a2 := cell_regrown j2
        have a3 := cell_regrown j3
        have a4 := cell_regrown j4
        have a5 := cell_regrown j5
        have e0 := cell_regrown l0
        have e1 := cell_regrown l1
        have e2 := cell_regrown l2
        have e3 := cell_regrown l3
        have e4 := cell_regrown l4
        have e5 := cell_regrown l5
        clear hu hu' hd hd' j0 j1 j2 j3 j4 j5 l0 l1 l2 l3 l4 l5 hsz
        have hi1 : (i : Int) < (f.len : Int) := by omega
        have hi2 : (i : Int) < (g.len : Int) := by omega
        cases h0 : (k == k')
        · have HR2 : Hid (R = false) := Lib.hid (by rw [← HE2.out, h0]; simp)
          go_wp2_with fail
          (refine wp_region_quiet_below (by kernel_rfl) (by kernel_rfl) ?_); (repeat (first | go_big_quiet_skip | quiet_step (first | with_reducible exact CP.out _ _ | with_reducible exact CQ.out _ _ | with_reducible exact CS.out _ _))); (refine wpQuiet_nil ?_); intro _ hw'; obtain ⟨⟨dq, osq⟩, hw''⟩ := hw'; subst hw''
          go_wp2_with fail
          go_ret
          exact ⟨ret_bool HR2.out.symm, HB.out.trans ((below_regrown wr dq osq).mono HB.out.size)⟩
        · cases h1 : (y.toList == y'.toList)
          · have HR2 : Hid (R = false) := Lib.hid (by rw [← HE2.out, h1]; simp)
            go_wp2_with fail
            (refine wp_region_quiet_below (by kernel_rfl) (by kernel_rfl) ?_); (repeat (first | go_big_quiet_skip | quiet_step (first | with_reducible exact CP.out _ _ | with_reducible exact CQ.out _ _ | with_reducible exact CS.out _ _))); (refine wpQuiet_nil ?_); intro _ hw'; obtain ⟨⟨dq, osq⟩, hw''⟩ := hw'; subst hw''
            go_wp2_with fail
            go_ret
            exact ⟨ret_bool HR2.out.symm, HB.out.trans ((below_regrown wr dq osq).mono HB.out.size)⟩
          · cases h2 : (z.toList == z'.toList)
            · have HR2 : Hid (R = false) := Lib.hid (by rw [← HE2.out, h2]; simp)
              go_wp2_with fail
              (refine wp_region_quiet_below (by kernel_rfl) (by kernel_rfl) ?_); (repeat (first | go_big_quiet_skip | quiet_step (first | with_reducible exact CP.out _ _ | with_reducible exact CQ.out _ _ | with_reducible exact CS.out _ _))); (refine wpQuiet_nil ?_); intro _ hw'; obtain ⟨⟨dq, osq⟩, hw''⟩ := hw'; subst hw''
              go_wp2_with fail
              go_ret
              exact ⟨ret_bool HR2.out.symm, HB.out.trans ((below_regrown wr dq osq).mono HB.out.size)⟩
            · cases h3 : (a == a')
              · have HR2 : Hid (R = false) := Lib.hid (by rw [← HE2.out, h3]; simp)
                go_wp2_with fail
                (refine wp_region_quiet_below (by kernel_rfl) (by kernel_rfl) ?_); (repeat (first | go_big_quiet_skip | quiet_step (first | with_reducible exact CP.out _ _ | with_reducible exact CQ.out _ _ | with_reducible exact CS.out _ _))); (refine wpQuiet_nil ?_); intro _ hw'; obtain ⟨⟨dq, osq⟩, hw''⟩ := hw'; subst hw''
                go_wp2_with fail
                go_ret
                exact ⟨ret_bool HR2.out.symm, HB.out.trans ((below_regrown wr dq osq).mono HB.out.size)⟩
              · cases h4 : (b == b')
                · have HR2 : Hid (R = false) := Lib.hid (by rw [← HE2.out, h4]; simp)
                  go_wp2_with fail
                  (refine wp_region_quiet_below (by kernel_rfl) (by kernel_rfl) ?_); (repeat (first | go_big_quiet_skip | quiet_step (first | with_reducible exact CP.out _ _ | with_reducible exact CQ.out _ _ | with_reducible exact CS.out _ _))); (refine wpQuiet_nil ?_); intro _ hw'; obtain ⟨⟨dq, osq⟩, hw''⟩ := hw'; subst hw''
                  go_wp2_with fail
                  go_ret
                  exact ⟨ret_bool HR2.out.symm, HB.out.trans ((below_regrown wr dq osq).mono HB.out.size)⟩
                · cases c
                  · have HR2 : Hid (R = false) := Lib.hid (by rw [← HE2.out]; simp)
                    go_wp2_with fail
                    (refine wp_region_quiet_below (by kernel_rfl) (by kernel_rfl) ?_); (repeat (first | go_big_quiet_skip | quiet_step (first | with_reducible exact CP.out _ _ | with_reducible exact CQ.out _ _ | with_reducible exact CS.out _ _))); (refine wpQuiet_nil ?_); intro _ hw'; obtain ⟨⟨dq, osq⟩, hw''⟩ := hw'; subst hw''
                    go_wp2_with fail
                    go_ret
                    exact ⟨ret_bool HR2.out.symm, HB.out.trans ((below_regrown wr dq osq).mono HB.out.size)⟩
                  · have HE3 : Hid (decide (f.drop (i + 1) = g.drop (i + 1)) = R) := Lib.hid (by rw [← HE2.out, h0, h1, h2, h3, h4]; simp)
                    go_wp2_with fail
                    (refine wp_region_quiet_below (by kernel_rfl) (by kernel_rfl) ?_); (repeat (first | go_big_quiet_skip | quiet_step (first | with_reducible exact CP.out _ _ | with_reducible exact CQ.out _ _ | with_reducible exact CS.out _ _))); (refine wpQuiet_nil ?_); intro _ hw'; obtain ⟨⟨dq, osq⟩, hw''⟩ := hw'; subst hw''
                    go_wp2_with fail
                    exact ⟨⟨i + 1, by omega, by go_num, Lib.hid (HB.out.trans ((below_regrown wr dq osq).mono HB.out.size)), HE3⟩, by simp [intOf]; omega⟩
      · have HE2 : Hid (R = true) := Lib.hid (by rw [← HE.out, Wn.Ss.drop_len (by omega), Wn.Ss.drop_len (by have := HLN.out; omega)]; simp)
        have hni : ¬ (i : Int) < (f.len : Int) := by omega
        go_wp2_with fail
        go_ret
        exact ⟨ret_bool HE2.out.symm, HB.out⟩
  · have hR : decide (f = g) = false := by simp; intro h; exact hlen (by rw [h])
    have HR := Lib.hid hR; clear hR
    have hnb : ((f.len : Int) != (g.len : Int)) = true := by rw [bne_iff_ne]; omega
    clear hlen
    go_enter Tryz.func43, Tryz.ntmps43
    go_wp2_with fail
    go_ret
    exact ⟨ret_bool HR.out.symm, Below.refl _ _⟩
theorem rSimples_all : ∀ (n : Nat) (f : Wn.Ss), f.size < n → RSmSaid f
  | 0, f, h => by omega
  | n + 1, f, h => rSimples_step f fun g hg => rSimples_all n g (by omega)
theorem rSimples_v (l m : List Wn.Sm) (v u : Value) (w : World) (hv : smK.P w (fun _ => True) v l) (hu : smK.P w (fun _ => True) u m) :
    Calls Tryz.prog 43 #[v, u] w fun e w' => e = .returned (.bool (decide (l = m))) ∧ Below w.heap.size w w' := by
  have e : decide (l = m) = decide (Wn.Ss.ofL l = Wn.Ss.ofL m) := by rw [Bool.eq_iff_iff]; simp [← Wn.Ss.toL_inj, Wn.Ss.toL_ofL]
  rw [e]
  exact rSimples_all ((Wn.Ss.ofL l).size + 1) _ (Nat.lt_succ_self _) _ v u w (SsP.k.2 (by rw [Wn.Ss.toL_ofL]; exact hv)) (SsP.k.2 (by rw [Wn.Ss.toL_ofL]; exact hu))
end Go.Proofs.YtncknaagbafhhaaGreatDoor
set_option linter.unusedVariables false
set_option linter.unusedSimpArgs false
set_option maxRecDepth 20000
namespace Wn
theorem drop_at {α : Type} {l : List α} {i : Nat} {x : α} (h : l[i]? = some x) : l.drop i = x :: l.drop (i + 1) := by
  obtain ⟨h1, rfl⟩ := List.getElem?_eq_some_iff.1 h
  exact List.drop_eq_getElem_cons h1
theorem get_lt {α : Type} {l : List α} {i : Nat} (h : i < l.length) : ∃ x, l[i]? = some x := ⟨_, List.getElem?_eq_getElem h⟩
end Wn
namespace Go.Proofs.YtncknaagbafhhaaGreatDoor
open Go.RowKit Go.Sort
set_option maxRecDepth 100000 in
set_option maxHeartbeats 4000000 in
theorem rSame4_v (l m : List Wn.Cx) (v u : Value) (w : World) (hv : cxK.P w (fun _ => True) v l) (hu : cxK.P w (fun _ => True) u m) :
    Calls Tryz.prog 19 #[v, u] w fun e w' => e = .returned (.bool (decide (l = m))) ∧ Below w.heap.size w w' := by
  have HV := Lib.hid hv
  have HU := Lib.hid hu
  obtain ⟨ao, cap, rfl, c1, c2⟩ := hv.form
  obtain ⟨bo, cbp, rfl, d1, d2⟩ := hu.form
  unfold maxLen at c2 d2
  clear hv hu
  by_cases hlen : l.length = m.length
  · generalize hR : decide (l = m) = R
    have HR : Hid (decide (l.drop 0 = m.drop 0) = R) := Lib.hid (by rw [List.drop_zero, List.drop_zero]; exact hR)
    clear hR
    have hnb : ((l.length : Int) != (m.length : Int)) = false := by rw [hlen]; simp
    have HLN := Lib.hid hlen; clear hlen
    go_enter Tryz.func19, Tryz.ntmps19
    go_wp2_with fail
    go_loopw [5] (fun v5 wr => ∃ (i : Nat), i ≤ l.length ∧ v5 = .int .i64 (i : Int) ∧ Hid (Below w.heap.size w wr) ∧ Hid (decide (l.drop i = m.drop i) = R)) (fun v5 _ => l.length - (intOf v5).toNat)
    case atStart => exact ⟨0, by omega, rfl, Lib.hid (Below.refl _ _), HR⟩
    case round =>
      obtain ⟨i, hil, rfl, HB, HE⟩ := hrel
      clear HR
      by_cases hlt : i < l.length
      · obtain ⟨x, hx⟩ := Wn.get_lt hlt
        obtain ⟨y, hy⟩ := Wn.get_lt (show i < m.length by have := HLN.out; omega)
        obtain ⟨xs, xp⟩ := x
        obtain ⟨ys, yp⟩ := y
        obtain ⟨b, o, xo, xc, rfl, hxs, j0, j1⟩ := cx_at (HV.out.below HB.out) hx
        obtain ⟨b', o', yo, yc, rfl, hys, l0, l1⟩ := cx_at (HU.out.below HB.out) hy
        have HE2 : Hid (((xp == yp) && decide (xs.drop 0 = ys.drop 0) && decide (l.drop (i + 1) = m.drop (i + 1))) = R) := Lib.hid (by
          rw [← HE.out, Wn.drop_at hx, Wn.drop_at hy]; rw [Bool.eq_iff_iff]; simp; exact fun _ => And.comm)
        have HXS := Lib.hid hxs
        have HYS := Lib.hid hys
        have HJ : Hid (∀ W, Below wr.heap.size wr W → W.cell? ⟨b, o + i * 2, none⟩ = some (.slice xo xs.length xc) ∧ W.cell? ⟨b', o' + i * 2, none⟩ = some (.slice yo ys.length yc)) := Lib.hid (fun W h => ⟨(h.cell (World.block_lt_of_cell? _ _ j0)).trans j0, (h.cell (World.block_lt_of_cell? _ _ l0)).trans l0⟩)
        obtain ⟨_, _, hxe, hxc1, hxc2⟩ := hxs.form
        obtain ⟨_, _, hye, hyc1, hyc2⟩ := hys.form
        simp only [Value.slice.injEq, true_and] at hxe hye
        obtain ⟨rfl, rfl⟩ := hxe
        obtain ⟨rfl, rfl⟩ := hye
        unfold maxLen at hxc2 hyc2
        have hp := str_list xp
        have hq := str_list yp
        dsimp only at j0 j1 l0 l1
        generalize Wn.str xp = p at *
        generalize Wn.str yp = q at *
        subst hp hq
        have hi1 : (i : Int) < (l.length : Int) := by omega
        have hi2 : (i : Int) < (m.length : Int) := by have := HLN.out; omega
        clear hxs hys hx hy HE
        cases h0 : (p.toList == q.toList)
        · have HR2 : Hid (R = false) := Lib.hid (by rw [← HE2.out, h0]; rfl)
          go_wp2_with fail
          go_quiet (fail)
          go_wp2_with fail
          go_ret
          exact ⟨ret_bool HR2.out.symm, below_drewN' HB.out _⟩
        · by_cases hle : xs.length = ys.length
          · have hnb2 : ((xs.length : Int) != (ys.length : Int)) = false := by rw [hle]; simp
            have HLE := Lib.hid hle; clear hle
            have HE3 : Hid ((decide (xs.drop 0 = ys.drop 0) && decide (l.drop (i + 1) = m.drop (i + 1))) = R) := Lib.hid (by rw [← HE2.out, h0, Bool.true_and])
            clear HE2
            go_wp2_with fail
            go_quiet (fail)
            go_wp2_with fail
            clear j0 j1 l0 l1
            have hq : Below wr.heap.size wr (wr.drewN nq) := below_drewN' (Below.refl _ _) _
            have HB := Lib.hid (HB.out.trans (hq.mono HB.out.size))
            have HXS := Lib.hid (HXS.out.below hq)
            have HYS := Lib.hid (HYS.out.below hq)
            have HJ := Lib.hid (fun W (h : Below (wr.drewN nq).heap.size (wr.drewN nq) W) => HJ.out W (hq.trans (h.mono hq.size)))
            clear hq
            generalize wr.drewN nq = Wa at *
            go_loopw [6] (fun v6 wr => ∃ (k : Nat), k ≤ xs.length ∧ v6 = .int .i64 (k : Int) ∧ Hid (Below Wa.heap.size Wa wr) ∧ Hid ((decide (xs.drop k = ys.drop k) && decide (l.drop (i + 1) = m.drop (i + 1))) = R)) (fun v6 _ => xs.length - (intOf v6).toNat)
            case atStart => exact ⟨0, by omega, rfl, Lib.hid (Below.refl _ _), HE3⟩
            case round =>
              obtain ⟨k, hkl, rfl, HBk, HEk⟩ := hrel
              clear HE3
              obtain ⟨j0, l0⟩ := HJ.out _ HBk.out
              by_cases hklt : k < xs.length
              · obtain ⟨x, hx⟩ := Wn.get_lt hklt
                obtain ⟨y, hy⟩ := Wn.get_lt (show k < ys.length by have := HLE.out; omega)
                obtain ⟨xc0, xl⟩ := x
                obtain ⟨yc0, yl⟩ := y
                obtain ⟨c, d, so, sc, rfl, hsm, t0, t1⟩ := pt_at (HXS.out.below HBk.out) hx
                obtain ⟨c', d', so', sc', rfl, hsm', r0, r1⟩ := pt_at (HYS.out.below HBk.out) hy
                have HEn : Hid (((xc0 == yc0) && decide (xl = yl) && (decide (xs.drop (k + 1) = ys.drop (k + 1)) && decide (l.drop (i + 1) = m.drop (i + 1)))) = R) := Lib.hid (by
                  rw [← HEk.out, Wn.drop_at hx, Wn.drop_at hy]; rw [Bool.eq_iff_iff]; simp [and_assoc])
                have QE : Hid (∀ W, Below wr.heap.size wr W → Calls Tryz.prog 43 #[.slice so xl.length sc, .slice so' yl.length sc'] W fun e w' => e = .returned (.bool (decide (xl = yl))) ∧ Below wr.heap.size wr w') := Lib.hid (fun W h => (rSimples_v xl yl (.slice so xl.length sc) (.slice so' yl.length sc') W (hsm.below h) (hsm'.below h)).mono fun e w' ⟨he, hb⟩ => ⟨he, h.trans (hb.mono h.size)⟩)
                have hc1 := World.block_lt_of_cell? _ _ t0
                have hc2 := World.block_lt_of_cell? _ _ r0
                have hc3 := World.block_lt_of_cell? _ _ j0
                have hc4 := World.block_lt_of_cell? _ _ l0
                dsimp only at t0 t1 r0 r1 hc1 hc2 hc3 hc4
                have hd1 : ¬ c = wr.heap.size := by omega
                have hd2 : ¬ c' = wr.heap.size := by omega
                have hd3 : ¬ b = wr.heap.size := by omega
                have hd4 : ¬ b' = wr.heap.size := by omega
                have hk1 : (k : Int) < (xs.length : Int) := by omega
                have hk2 : (k : Int) < (ys.length : Int) := by have := HLE.out; omega
                clear hsm hsm' hx hy HEk
                generalize decide (xl = yl) = E at *
                generalize xl.length = xn at *
                generalize yl.length = yn at *
                have fin : ∀ W, Below wr.heap.size wr W → Below w.heap.size w W := fun W h => HB.out.trans ((HBk.out.trans (h.mono HBk.out.size)).mono HB.out.size)
                have HFIN := Lib.hid fin; clear fin
                by_cases h1 : xc0 = yc0
                case neg =>
                  have h1b : (xc0 == yc0) = false := by simpa using h1
                  have HR2 : Hid (R = false) := Lib.hid (by rw [← HEn.out, h1b]; rfl)
                  go_wp2_with fail
                  go_region
                  all_goals go_wp2_with fail
                  all_goals go_ret
                  all_goals exact ⟨ret_bool HR2.out.symm, HFIN.out _ (by (repeat (first | with_reducible exact Below.refl _ _ | (with_reducible refine Below.drew ?_) | (with_reducible refine below_drewN' ?_ _) | ((with_reducible refine Below.alloc ?_ ?_ _); rotate_left; (focus (first | omega | (simp <;> omega)))) | ((with_reducible refine Below.set_new ?_ ?_ _ _); rotate_left; (focus (first | omega | (simp <;> omega)))))))⟩
                case pos =>
                  subst h1
                  have HEm : Hid ((E && (decide (xs.drop (k + 1) = ys.drop (k + 1)) && decide (l.drop (i + 1) = m.drop (i + 1)))) = R) := Lib.hid (by rw [← HEn.out]; simp)
                  clear HEn
                  go_wp2_with fail
                  go_region
                  all_goals
                    go_wp2_with fail
                    refine (QE.out _ (by (repeat (first | with_reducible exact Below.refl _ _ | (with_reducible refine Below.drew ?_) | (with_reducible refine below_drewN' ?_ _) | ((with_reducible refine Below.alloc ?_ ?_ _); rotate_left; (focus (first | omega | (simp <;> omega)))) | ((with_reducible refine Below.set_new ?_ ?_ _ _); rotate_left; (focus (first | omega | (simp <;> omega)))))))).mono ?_
                    rintro e w2 ⟨rfl, b2⟩
                    have HB2 : Hid (Below wr.heap.size wr w2) := Lib.hid b2
                    clear b2
                    cases E
                    · have HR2 : Hid (R = false) := Lib.hid (by rw [← HEm.out]; rfl)
                      go_wp2_with fail
                      go_ret
                      exact ⟨ret_bool HR2.out.symm, HFIN.out _ HB2.out⟩
                    · have HE5 : Hid ((decide (xs.drop (k + 1) = ys.drop (k + 1)) && decide (l.drop (i + 1) = m.drop (i + 1))) = R) := Lib.hid (by rw [← HEm.out, Bool.true_and])
                      go_wp2_with fail
                      exact ⟨⟨k + 1, by omega, by go_num, Lib.hid (HBk.out.trans (HB2.out.mono HBk.out.size)), HE5⟩, by simp [intOf]; omega⟩
              · have HE6 : Hid (decide (l.drop (i + 1) = m.drop (i + 1)) = R) := Lib.hid (by rw [← HEk.out, List.drop_of_length_le (l := xs) (by omega), List.drop_of_length_le (l := ys) (by have := HLE.out; omega)]; simp)
                have hni : ¬ (k : Int) < (xs.length : Int) := by omega
                go_wp2_with fail
                exact ⟨⟨i + 1, by omega, by go_num, Lib.hid (HB.out.trans (HBk.out.mono HB.out.size)), HE6⟩, by simp [intOf]; omega⟩
          · have hnb2 : ((xs.length : Int) != (ys.length : Int)) = true := by rw [bne_iff_ne]; omega
            have HR2 : Hid (R = false) := Lib.hid (by rw [← HE2.out, decide_eq_false (show ¬ xs.drop 0 = ys.drop 0 from fun h => hle (by rw [List.drop_zero, List.drop_zero] at h; rw [h]))]; simp)
            clear hle
            go_wp2_with fail
            go_quiet (fail)
            go_wp2_with fail
            go_ret
            exact ⟨ret_bool HR2.out.symm, below_drewN' HB.out _⟩
      · have HE2 : Hid (R = true) := Lib.hid (by rw [← HE.out, List.drop_of_length_le (by omega), List.drop_of_length_le (by have := HLN.out; omega)]; simp)
        have hni : ¬ (i : Int) < (l.length : Int) := by omega
        go_wp2_with fail
        go_ret
        exact ⟨ret_bool HE2.out.symm, HB.out⟩
  · have hR : decide (l = m) = false := by simp; intro h; exact hlen (by rw [h])
    have HR := Lib.hid hR; clear hR
    have hnb : ((l.length : Int) != (m.length : Int)) = true := by rw [bne_iff_ne]; omega
    clear hlen
    go_enter Tryz.func19, Tryz.ntmps19
    go_wp2_with fail
    go_ret
    exact ⟨ret_bool HR.out.symm, Below.refl _ _⟩
end Go.Proofs.YtncknaagbafhhaaGreatDoor
