/- What validPlain answers. What validSimple and validLater answer. What all answers: every member of a list holds. What validComb and validCompound answer. What validComplex answers. What sels.May answers. -/
import Derived.Test.YtncknaagbafhhaaGreatDoorHI
set_option linter.unusedVariables false
set_option linter.unusedSimpArgs false
set_option maxRecDepth 20000
namespace Wn
theorem meantS_l (x : Sm) : (meantS x).l = .nil := by
  unfold meantS
  split
  · rfl
  · split
    · rfl
    · split <;> rfl
end Wn
namespace Go.Proofs.YtncknaagbafhhaaGreatDoor
open Go.RowKit Go.Sort
set_option maxRecDepth 100000 in
set_option maxHeartbeats 1000000 in
theorem validPlain_v (x : Wn.Sm) (u : Value) (w : World) (hu : SsP w (fun _ => True) u x.l) (ht : Tab w) (hn : x.n.length ≤ 1048576) (hv : x.v.length ≤ 1048576) :
    Calls Tryz.prog 167 #[smV x u] w fun e w' => e = .returned (.bool (Wn.mayPlain x)) ∧ Below w.heap.size w w' := by
  obtain ⟨uo, uc, rfl, _, _⟩ := hu.form
  have hB : Below w.heap.size w (w.alloc (.cells #[.int .i64 x.k, .string (Wn.str x.n), .string (Wn.str x.v), .int .i64 x.a, .int .i64 x.b, .slice uo x.l.len uc] 51)) := (Below.refl _ _).alloc (Nat.le_refl _) _
  have hT := ht.below hB
  have hU := hu.below hB
  have hbk := heap_alloc_new w (Obj.cells #[.int .i64 x.k, .string (Wn.str x.n), .string (Wn.str x.v), .int .i64 x.a, .int .i64 x.b, .slice uo x.l.len uc] 51)
  have HBK := Lib.hid hbk
  clear hbk hu ht
  rw [Wn.mayPlain_eq]
  have QM := Lib.hid (fun W => meantOf_v x (.slice uo x.l.len uc) W ⟨_, _, _, rfl⟩)
  have QS := Lib.hid (fun W (h : SsP W (fun _ => True) (.slice uo x.l.len uc) x.l) => sameSimple_v x (Wn.meantS x) (.slice uo x.l.len uc) (.slice none 0 0) W h (by rw [Wn.meantS_l]; exact SsP.nil _ _))
  have QF := Lib.hid (fun W (h : Tab W) => validFields_v x (.slice uo x.l.len uc) W ⟨_, _, _, rfl⟩ h hn hv)
  have HT := Lib.hid hT
  have HU := Lib.hid hU
  have HB := Lib.hid hB
  clear hT hU hB
  generalize decide (x = Wn.meantS x) = R at *
  generalize Wn.fieldsB x = F at *
  unfold smV at *
  generalize hM : (Value.agg #[.int .i64 (Wn.meantS x).k, .string (Wn.str (Wn.meantS x).n), .string (Wn.str (Wn.meantS x).v), .int .i64 (Wn.meantS x).a, .int .i64 (Wn.meantS x).b, .slice none 0 0]) = M at *
  clear hM
  go_enter Tryz.func167, Tryz.ntmps167
  go_wp2_with fail
  have hbk := HBK.out
  (have q0a := cell_of_block (o := 0) hbk; have q1a := cell_of_block (o := 1) hbk; have q2a := cell_of_block (o := 2) hbk; have q3a := cell_of_block (o := 3) hbk; have q4a := cell_of_block (o := 4) hbk; have q5a := cell_of_block (o := 5) hbk; have z0a := frozen_blk hbk 0; have z1a := frozen_blk hbk 1; have z2a := frozen_blk hbk 2; have z3a := frozen_blk hbk 3; have z4a := frozen_blk hbk 4; have z5a := frozen_blk hbk 5; simp only [List.getElem?_toArray, List.getElem?_cons_zero, List.getElem?_cons_succ] at q0a q1a q2a q3a q4a q5a)
  clear hbk HBK
  generalize (w.alloc (Obj.cells #[.int .i64 x.k, .string (Wn.str x.n), .string (Wn.str x.v), .int .i64 x.a, .int .i64 x.b, .slice uo x.l.len uc] 51)) = W at *
  have c0 := cell_regrown q0a
  have c1 := cell_regrown q1a
  have c2 := cell_regrown q2a
  have c3 := cell_regrown q3a
  have c4 := cell_regrown q4a
  have c5 := cell_regrown q5a
  clear q0a q1a q2a q3a q4a q5a z0a z1a z2a z3a z4a z5a
  have CM : Hid (∀ d os, Calls Tryz.prog 195 _ (grow (redrawn W d) os) fun e w'' => e = .returned M ∧ ∃ p : Regrown, w'' = grow (redrawn W p.d) p.os) := Lib.hid (fun d os => Calls.regrown_of (QM.out _))
  have CS : Hid (∀ d os, Calls Tryz.prog 143 _ (grow (redrawn W d) os) fun e w'' => e = .returned (.bool R) ∧ ∃ p : Regrown, w'' = grow (redrawn W p.d) p.os) := Lib.hid (fun d os => Calls.regrown_of (QS.out _ (HU.out.below (below_regrown W d os))))
  have CF : Hid (∀ d os, Calls Tryz.prog 196 _ (grow (redrawn W d) os) fun e w'' => e = .returned (.bool F) ∧ ∃ p : Regrown, w'' = grow (redrawn W p.d) p.os) := Lib.hid (fun d os => Calls.regrown_of (QF.out _ (HT.out.below (below_regrown W d os))))
  clear QM QS QF
  cases R
  · (refine wp_region_quiet_below (by kernel_rfl) (by kernel_rfl) ?_); (repeat (first | go_big_quiet_skip | quiet_step (first | with_reducible exact CM.out _ _ | with_reducible exact CS.out _ _ | with_reducible exact CF.out _ _))); (refine wpQuiet_nil ?_); intro _ hw'; obtain ⟨⟨dq, osq⟩, hw''⟩ := hw'; subst hw''
    go_wp2_with fail
    go_ret
    exact ⟨ret_bool rfl, HB.out.trans ((below_regrown W dq osq).mono HB.out.size)⟩
  · (refine wp_region_quiet_below (by kernel_rfl) (by kernel_rfl) ?_); (repeat (first | go_big_quiet_skip | quiet_step (first | with_reducible exact CM.out _ _ | with_reducible exact CS.out _ _ | with_reducible exact CF.out _ _))); (refine wpQuiet_nil ?_); intro _ hw'; obtain ⟨⟨dq, osq⟩, hw''⟩ := hw'; subst hw''
    go_wp2_with fail
    go_ret
    exact ⟨ret_bool (by rw [Bool.true_and]), HB.out.trans ((below_regrown W dq osq).mono HB.out.size)⟩
end Go.Proofs.YtncknaagbafhhaaGreatDoor
set_option linter.unusedVariables false
set_option linter.unusedSimpArgs false
set_option maxRecDepth 20000
namespace Wn
theorem maySm_not {x : Sm} (h : x.k ≠ 11) : maySm x = mayPlain x := by
  unfold maySm
  split
  · rw [if_neg h]
  · rfl
theorem mayPlain_11 {x : Sm} (h : x.k = 11) : mayPlain x = false := by
  unfold mayPlain
  simp [h]
theorem maySm_len {x : Sm} (h : x.k = 11) (hl : x.l.len ≠ 1) : maySm x = false := by
  unfold maySm
  split
  · rename_i y hy
    exact absurd (by rw [← Ss.toL_length, hy]; rfl) hl
  · exact mayPlain_11 h
theorem Ss.one : ∀ {f : Ss}, f.len = 1 → ∃ y : Sm, f = y.on .nil ∧ f.toL = [y]
  | .nil, h => by simp [len] at h
  | .cons k n v a b x .nil, _ => ⟨⟨k, n, v, a, b, x⟩, rfl, rfl⟩
  | .cons k n v a b x (.cons _ _ _ _ _ _ _), h => by simp only [len] at h; omega
theorem maySm_one {x y : Sm} (h : x.k = 11) (hl : x.l.toL = [y]) : maySm x = (mayPlain y && decide (x = ⟨11, [], [], 0, 0, x.l⟩)) := by
  have e : x.l = y.on .nil := by rw [← Ss.ofL_toL x.l, hl]; rfl
  unfold maySm
  rw [hl]
  dsimp only
  rw [if_pos h]
  rw [e]
end Wn
namespace Go.Proofs.YtncknaagbafhhaaGreatDoor
open Go.RowKit Go.Sort
set_option maxRecDepth 100000 in
set_option maxHeartbeats 1000000 in
theorem validSimple_v (x : Wn.Sm) (u : Value) (w : World) (hu : SsP w (fun _ => True) u x.l) (ht : Tab w) (hx : x.short) :
    Calls Tryz.prog 121 #[smV x u] w fun e w' => e = .returned (.bool (Wn.maySm x)) ∧ Below w.heap.size w w' := by
  obtain ⟨uo, uc, rfl, _, hc⟩ := hu.form
  unfold maxLen at hc
  have hB : Below w.heap.size w (w.alloc (.cells #[.int .i64 x.k, .string (Wn.str x.n), .string (Wn.str x.v), .int .i64 x.a, .int .i64 x.b, .slice uo x.l.len uc] 51)) := (Below.refl _ _).alloc (Nat.le_refl _) _
  have hT := ht.below hB
  have hU := hu.below hB
  have hbk := heap_alloc_new w (Obj.cells #[.int .i64 x.k, .string (Wn.str x.n), .string (Wn.str x.v), .int .i64 x.a, .int .i64 x.b, .slice uo x.l.len uc] 51)
  have HBK := Lib.hid hbk
  have HT := Lib.hid hT
  have HU := Lib.hid hU
  have HB := Lib.hid hB
  have HX := Lib.hid hx
  clear hbk hu ht hT hU hB hx
  by_cases hk : x.k = 11
  · by_cases hl : x.l.len = 1
    · obtain ⟨y, hy, hyl⟩ := Wn.Ss.one hl
      have HE := Lib.hid (Wn.maySm_one hk hyl)
      have hys : y.short := Wn.Ss.short_mem HX.out.2.2 (by rw [hyl]; exact List.mem_singleton.2 rfl)
      have hP := SsP.k.1 HU.out
      obtain ⟨b, o, cs, rfl, _, hbl, hRy, hLy⟩ := hP.at (i := 0) (x := y) (by rw [hyl]; rfl)
      obtain ⟨yu, rfl, hyu⟩ := id hRy
      obtain ⟨yo, yc, rfl, _, _⟩ := hyu.form
      have y0 := hLy 0 _ rfl
      have y1 := hLy 1 _ rfl
      have y2 := hLy 2 _ rfl
      have y3 := hLy 3 _ rfl
      have y4 := hLy 4 _ rfl
      have y5 := hLy 5 _ rfl
      have QP := Lib.hid (validPlain_v y _ _ hyu HT.out hys.1 hys.2.1)
      have QS := Lib.hid (fun W (h : SsP W (fun _ => True) (.slice (some ⟨b, o, none⟩) x.l.len uc) x.l) => sameSimple_v x ⟨11, [], [], 0, 0, x.l⟩ _ _ W h h)
      clear hP hRy hLy hyu hys hy hyl HX
      simp only [show smK.sz = 6 from rfl, Nat.zero_mul, Nat.add_zero] at y0 y1 y2 y3 y4 y5
      unfold smV at *
      generalize Wn.maySm x = R at *
      generalize decide (x = ⟨11, [], [], 0, 0, x.l⟩) = S at *
      generalize Wn.mayPlain y = T at *
      rw [hk, hl] at *
      have hbk := HBK.out
      (have q0a := cell_of_block (o := 0) hbk; have q1a := cell_of_block (o := 1) hbk; have q2a := cell_of_block (o := 2) hbk; have q3a := cell_of_block (o := 3) hbk; have q4a := cell_of_block (o := 4) hbk; have q5a := cell_of_block (o := 5) hbk; have z0a := frozen_blk hbk 0; have z1a := frozen_blk hbk 1; have z2a := frozen_blk hbk 2; have z3a := frozen_blk hbk 3; have z4a := frozen_blk hbk 4; have z5a := frozen_blk hbk 5; simp only [List.getElem?_toArray, List.getElem?_cons_zero, List.getElem?_cons_succ] at q0a q1a q2a q3a q4a q5a)
      clear hbk HBK hk hl
      go_enter Tryz.func121, Tryz.ntmps121
      go_wp2_with fail
      refine QP.out.mono ?_
      rintro e w1 ⟨rfl, b1⟩
      have HU1 := Lib.hid (HU.out.below b1)
      have p0 := (b1.cell (block_lt_of_cell q0a)).trans q0a
      have p1 := (b1.cell (block_lt_of_cell q1a)).trans q1a
      have p2 := (b1.cell (block_lt_of_cell q2a)).trans q2a
      have p3 := (b1.cell (block_lt_of_cell q3a)).trans q3a
      have p4 := (b1.cell (block_lt_of_cell q4a)).trans q4a
      have p5 := (b1.cell (block_lt_of_cell q5a)).trans q5a
      have HB1 := Lib.hid (HB.out.trans (b1.mono HB.out.size)); clear b1 QP
      clear q0a q1a q2a q3a q4a q5a z0a z1a z2a z3a z4a z5a y0 y1 y2 y3 y4 y5
      cases T
      · go_wp2_with fail
        go_ret
        exact ⟨ret_bool (by rw [HE.out]; rfl), HB1.out⟩
      · go_wp2_with fail
        refine (QS.out _ HU1.out).mono ?_
        rintro e w2 ⟨rfl, b2⟩
        have HB2 := Lib.hid (HB1.out.trans (b2.mono HB1.out.size)); clear b2
        go_wp2_with fail
        go_ret
        exact ⟨ret_bool (by rw [HE.out, Bool.true_and]), HB2.out⟩
    · have HE := Lib.hid (Wn.maySm_len hk hl)
      have hn : ¬ (x.l.len : Int) = 1 := by omega
      clear hl HX HU HT HBK
      unfold smV
      generalize Wn.maySm x = R at *
      generalize x.l.len = n at *
      rw [hk] at *
      clear hk
      go_enter Tryz.func121, Tryz.ntmps121
      go_wp2_with fail
      go_ret
      exact ⟨ret_bool HE.out.symm, HB.out⟩
  · have QP := Lib.hid (validPlain_v x _ _ HU.out HT.out HX.out.1 HX.out.2.1)
    have HE := Lib.hid (Wn.maySm_not hk)
    clear HX HU HT HBK
    unfold smV at *
    generalize Wn.maySm x = R at *
    generalize Wn.mayPlain x = T at *
    generalize x.k = xk at *
    go_enter Tryz.func121, Tryz.ntmps121
    go_wp2_with fail
    refine QP.out.mono ?_
    rintro e w1 ⟨rfl, b1⟩
    have HB1 := Lib.hid (HB.out.trans (b1.mono HB.out.size)); clear b1
    go_wp2_with fail
    go_ret
    exact ⟨ret_bool HE.out.symm, HB1.out⟩
set_option maxRecDepth 100000 in
set_option maxHeartbeats 1000000 in
theorem validLater_v (x : Wn.Sm) (u : Value) (w : World) (hu : SsP w (fun _ => True) u x.l) (ht : Tab w) (hx : x.short) :
    Calls Tryz.prog 123 #[smV x u] w fun e w' => e = .returned (.bool (Wn.mayLater x)) ∧ Below w.heap.size w w' := by
  obtain ⟨uo, uc, rfl, _, _⟩ := hu.form
  have hB : Below w.heap.size w (w.alloc (.cells #[.int .i64 x.k, .string (Wn.str x.n), .string (Wn.str x.v), .int .i64 x.a, .int .i64 x.b, .slice uo x.l.len uc] 51)) := (Below.refl _ _).alloc (Nat.le_refl _) _
  have QV := Lib.hid (validSimple_v x _ _ (hu.below hB) (ht.below hB) hx)
  have HB := Lib.hid hB
  clear hB hu ht hx
  unfold Wn.mayLater
  unfold smV at *
  generalize Wn.maySm x = R at *
  generalize x.l.len = n at *
  generalize x.k = xk at *
  by_cases h1 : xk = 1
  · subst h1
    go_enter Tryz.func123, Tryz.ntmps123
    go_wp2_with fail
    go_ret
    exact ⟨ret_bool (by simp), HB.out⟩
  · by_cases h2 : xk = 2
    · subst h2
      go_enter Tryz.func123, Tryz.ntmps123
      go_wp2_with fail
      go_ret
      exact ⟨ret_bool (by simp), HB.out⟩
    · go_enter Tryz.func123, Tryz.ntmps123
      go_wp2_with fail
      refine QV.out.mono ?_
      rintro e w1 ⟨rfl, b1⟩
      have HB1 := Lib.hid (HB.out.trans (b1.mono HB.out.size)); clear b1
      go_wp2_with fail
      go_ret
      exact ⟨ret_bool (by simp [h1, h2]), HB1.out⟩
end Go.Proofs.YtncknaagbafhhaaGreatDoor
set_option linter.unusedVariables false
set_option linter.unusedSimpArgs false
set_option maxRecDepth 20000
namespace Go.Proofs.YtncknaagbafhhaaGreatDoor
open Go.RowKit Go.Sort
set_option maxRecDepth 100000 in
set_option maxHeartbeats 1000000 in
theorem IndexSm (F : Nat) (hE : Enters F) (p : Wn.Sm → Bool) (c : Value) (l : List (Wn.Sm)) (v : Value) (w : World) (hv : smK.P w (fun _ => True) v l)
    (hc : ∀ x ∈ l, ∀ cs W, Below w.heap.size w W → smK.R W (fun _ => True) cs x → Calls Tryz.prog F #[.agg cs.toArray, c] W fun e w' => e = .returned (.bool (!p x)) ∧ Below W.heap.size W w') :
    Calls Tryz.prog 197 #[v, .func (.func F) #[] #[c]] w fun e w' => ∃ n : Int, e = .returned (.int .i64 n) ∧ decide (0 ≤ n) = (!l.all p) ∧ Below w.heap.size w w' := by
  have HV := Lib.hid hv
  obtain ⟨ao, cap, rfl, c1, c2⟩ := hv.form
  unfold maxLen at c2
  have HC := Lib.hid hc
  clear hv hc
  have HR0 : Hid (l.all p = (l.drop 0).all p) := Lib.hid rfl
  generalize l.all p = R at *
  go_enter Tryz.func197, Tryz.ntmps197
  go_wp2_with fail
  go_loopw [8] (fun v8 wr => ∃ i : Nat, i ≤ l.length ∧ v8 = .int .i64 (i : Int) ∧ Hid (R = (l.drop i).all p) ∧ Hid (Below w.heap.size w wr)) (fun v8 _ => l.length - (intOf v8).toNat)
  case atStart => exact ⟨0, Nat.zero_le _, rfl, HR0, Lib.hid (Below.refl _ _)⟩
  case round =>
    clear HR0
    obtain ⟨i, hi, rfl, HR, HB⟩ := hrel
    by_cases hil : i < l.length
    · have hiv : (i : Int) < (l.length : Int) := by omega
      have hx : l[i]? = some l[i] := List.getElem?_eq_getElem hil
      have hdx : l.drop i = l[i] :: l.drop (i + 1) := List.drop_eq_getElem_cons hil
      have hmem : l[i] ∈ l := List.getElem_mem hil
      generalize l[i] = x at *
      obtain ⟨b, o, cs, rfl, _, _, hRx, hLx⟩ := (HV.out.below HB.out).at hx
      (obtain ⟨xu, rfl, hxu⟩ := id hRx; obtain ⟨xo, xc, rfl, _, _⟩ := hxu.form; have x0 := hLx 0 _ rfl; have x1 := hLx 1 _ rfl; have x2 := hLx 2 _ rfl; have x3 := hLx 3 _ rfl; have x4 := hLx 4 _ rfl; have x5 := hLx 5 _ rfl; clear hxu; simp only [show smK.sz = 6 from rfl, Nat.add_zero] at x0 x1 x2 x3 x4 x5)
      have HR2 : Hid (R = (p x && (l.drop (i + 1)).all p)) := Lib.hid (by rw [HR.out, hdx]; rfl)
      have QC := Lib.hid (HC.out x hmem _ wr HB.out hRx)
      clear hx hdx hmem hRx hLx HR
      go_wp2_with fail
      rw [hE, Oper.upon_enter]
      refine QC.out.mono ?_
      rintro e w5 ⟨rfl, b5⟩
      have HB5 : Hid (Below w.heap.size w w5) := Lib.hid (HB.out.trans (b5.mono HB.out.size))
      clear b5 QC HB
      cases hd : p x
      · have HE : Hid (R = false) := Lib.hid (by rw [HR2.out, hd]; rfl)
        go_wp2_with fail
        go_ret
        exact ⟨_, rfl, by rw [HE.out]; simp, HB5.out⟩
      · have HE : Hid (R = (l.drop (i + 1)).all p) := Lib.hid (by rw [HR2.out, hd]; rfl)
        go_wp2_with fail
        exact ⟨⟨i + 1, by omega, by go_num, HE, HB5⟩, by simp [intOf]; omega⟩
    · have HE : Hid (R = true) := Lib.hid (by rw [HR.out, List.drop_of_length_le (by omega)]; rfl)
      have hiv : ¬ (i : Int) < (l.length : Int) := by omega
      go_wp2_with fail
      go_ret
      exact ⟨_, rfl, by rw [HE.out]; simp, HB.out⟩
theorem ContainsSm (F : Nat) (hE : Enters F) (p : Wn.Sm → Bool) (c : Value) (l : List (Wn.Sm)) (v : Value) (w : World) (hv : smK.P w (fun _ => True) v l)
    (hc : ∀ x ∈ l, ∀ cs W, Below w.heap.size w W → smK.R W (fun _ => True) cs x → Calls Tryz.prog F #[.agg cs.toArray, c] W fun e w' => e = .returned (.bool (!p x)) ∧ Below W.heap.size W w') :
    Calls Tryz.prog 168 #[v, .func (.func F) #[] #[c]] w fun e w' => e = .returned (.bool (!l.all p)) ∧ Below w.heap.size w w' := by
  have Q := Lib.hid (IndexSm F hE p c l v w hv hc)
  obtain ⟨ao, cap, rfl, _, _⟩ := hv.form
  clear hv hc
  go_enter Tryz.func168, Tryz.ntmps168
  go_wp2_with fail
  refine Q.out.mono ?_
  rintro e w1 ⟨n, rfl, hn, b1⟩
  have HN := Lib.hid hn
  have HB := Lib.hid b1
  clear hn b1 Q
  go_wp2_with fail
  go_ret
  exact ⟨ret_bool (by rw [← HN.out]; try rfl), HB.out⟩
set_option maxRecDepth 100000 in
theorem all1Sm (F : Nat) (hE : Enters F) (r : Bool) (x : Wn.Sm) (cs : List Value) (B : Nat) (w : World) (hx : smK.R w (fun _ => True) cs x)
    (hB : w.heap[B]? = some (.cells #[.func (.func F) #[] #[]] 115))
    (hc : ∀ W, Below w.heap.size w W → Calls Tryz.prog F #[.agg cs.toArray] W fun e w' => e = .returned (.bool r) ∧ Below W.heap.size W w') :
    Calls Tryz.prog 169 #[.agg cs.toArray, .pointer (some ⟨B, 0, none⟩)] w fun e w' => e = .returned (.bool (!r)) ∧ Below w.heap.size w w' := by
  have q0 := cell_of_block (o := 0) hB
  simp only [List.getElem?_toArray, List.getElem?_cons_zero] at q0
  have hlt : B < w.heap.size := by
    rcases Nat.lt_or_ge B w.heap.size with h | h
    · exact h
    · rw [Array.getElem?_eq_none h] at hB; cases hB
  have hne : ¬ B = w.heap.size := by omega
  obtain ⟨u, rfl, hu⟩ := hx
  obtain ⟨uo, uc, rfl, _, _⟩ := hu.form
  have hB0 : Below w.heap.size w (w.alloc (.cells #[.int .i64 x.k, .string (Wn.str x.n), .string (Wn.str x.v), .int .i64 x.a, .int .i64 x.b, .slice uo x.l.len uc] 51)) := (Below.refl _ _).alloc (Nat.le_refl _) _
  have Q := Lib.hid (hc _ hB0)
  have HB := Lib.hid hB0
  clear hc hB hu hB0
  try unfold smCells at Q
  try unfold smCells
  go_enter Tryz.func169, Tryz.ntmps169
  go_wp2_with fail
  rw [hE, Oper.upon_enter]
  refine Q.out.mono ?_
  rintro e w1 ⟨rfl, b1⟩
  have HB1 := Lib.hid (HB.out.trans (b1.mono HB.out.size)); clear b1
  go_wp2_with fail
  go_ret
  exact ⟨rfl, HB1.out⟩
theorem allSm (F : Nat) (hE : Enters F) (p : Wn.Sm → Bool) (l : List (Wn.Sm)) (v : Value) (w : World) (hv : smK.P w (fun _ => True) v l)
    (hc : ∀ x ∈ l, ∀ cs W, Below w.heap.size w W → smK.R W (fun _ => True) cs x → Calls Tryz.prog F #[.agg cs.toArray] W fun e w' => e = .returned (.bool (p x)) ∧ Below W.heap.size W w') :
    Calls Tryz.prog 122 #[v, .func (.func F) #[] #[]] w fun e w' => e = .returned (.bool (l.all p)) ∧ Below w.heap.size w w' := by
  have hB : Below w.heap.size w (w.alloc (.cells #[.func (.func F) #[] #[]] 115)) := (Below.refl _ _).alloc (Nat.le_refl _) _
  have hblk := heap_alloc_new w (Obj.cells #[.func (.func F) #[] #[]] 115)
  have hsz : w.heap.size < (w.alloc (Obj.cells #[.func (.func F) #[] #[]] 115)).heap.size := by simp
  have Q := Lib.hid (ContainsSm 169 (enters_of Tryz.func169 (by kernel_rfl) rfl) p (.pointer (some ⟨w.heap.size, 0, none⟩)) l v _ (hv.below hB)
    (fun x hm cs W hW hR => all1Sm F hE (p x) x cs w.heap.size W hR ((hW.block _ hsz).trans hblk) (fun W' hW' => hc x hm cs W' ((hB.trans (hW.mono hB.size)).trans (hW'.mono (hB.trans (hW.mono hB.size)).size)) (smK.same (fun b _ hl => hW'.block b hl) (fun _ h _ => h) hR))))
  have HB := Lib.hid hB
  obtain ⟨ao, cap, rfl, _, _⟩ := hv.form
  clear hB hblk hsz hc hv
  go_enter Tryz.func122, Tryz.ntmps122
  go_wp2_with fail
  refine Q.out.mono ?_
  rintro e w1 ⟨rfl, b1⟩
  have HB1 := Lib.hid (HB.out.trans (b1.mono HB.out.size)); clear b1
  go_wp2_with fail
  go_ret
  exact ⟨ret_bool (by simp), HB1.out⟩
set_option maxRecDepth 100000 in
set_option maxHeartbeats 1000000 in
theorem IndexCx (F : Nat) (hE : Enters F) (p : Wn.Cx → Bool) (c : Value) (l : List (Wn.Cx)) (v : Value) (w : World) (hv : cxK.P w (fun _ => True) v l)
    (hc : ∀ x ∈ l, ∀ cs W, Below w.heap.size w W → cxK.R W (fun _ => True) cs x → Calls Tryz.prog F #[.agg cs.toArray, c] W fun e w' => e = .returned (.bool (!p x)) ∧ Below W.heap.size W w') :
    Calls Tryz.prog 120 #[v, .func (.func F) #[] #[c]] w fun e w' => ∃ n : Int, e = .returned (.int .i64 n) ∧ decide (0 ≤ n) = (!l.all p) ∧ Below w.heap.size w w' := by
  have HV := Lib.hid hv
  obtain ⟨ao, cap, rfl, c1, c2⟩ := hv.form
  unfold maxLen at c2
  have HC := Lib.hid hc
  clear hv hc
  have HR0 : Hid (l.all p = (l.drop 0).all p) := Lib.hid rfl
  generalize l.all p = R at *
  go_enter Tryz.func120, Tryz.ntmps120
  go_wp2_with fail
  go_loopw [8] (fun v8 wr => ∃ i : Nat, i ≤ l.length ∧ v8 = .int .i64 (i : Int) ∧ Hid (R = (l.drop i).all p) ∧ Hid (Below w.heap.size w wr)) (fun v8 _ => l.length - (intOf v8).toNat)
  case atStart => exact ⟨0, Nat.zero_le _, rfl, HR0, Lib.hid (Below.refl _ _)⟩
  case round =>
    clear HR0
    obtain ⟨i, hi, rfl, HR, HB⟩ := hrel
    by_cases hil : i < l.length
    · have hiv : (i : Int) < (l.length : Int) := by omega
      have hx : l[i]? = some l[i] := List.getElem?_eq_getElem hil
      have hdx : l.drop i = l[i] :: l.drop (i + 1) := List.drop_eq_getElem_cons hil
      have hmem : l[i] ∈ l := List.getElem_mem hil
      generalize l[i] = x at *
      obtain ⟨b, o, cs, rfl, _, _, hRx, hLx⟩ := (HV.out.below HB.out).at hx
      (obtain ⟨xu, rfl, hxu⟩ := id hRx; obtain ⟨xo, xc, rfl, _, _⟩ := hxu.form; have x0 := hLx 0 _ rfl; have x1 := hLx 1 _ rfl; clear hxu; simp only [show cxK.sz = 2 from rfl, Nat.add_zero] at x0 x1)
      have HR2 : Hid (R = (p x && (l.drop (i + 1)).all p)) := Lib.hid (by rw [HR.out, hdx]; rfl)
      have QC := Lib.hid (HC.out x hmem _ wr HB.out hRx)
      clear hx hdx hmem hRx hLx HR
      go_wp2_with fail
      rw [hE, Oper.upon_enter]
      refine QC.out.mono ?_
      rintro e w5 ⟨rfl, b5⟩
      have HB5 : Hid (Below w.heap.size w w5) := Lib.hid (HB.out.trans (b5.mono HB.out.size))
      clear b5 QC HB
      cases hd : p x
      · have HE : Hid (R = false) := Lib.hid (by rw [HR2.out, hd]; rfl)
        go_wp2_with fail
        go_ret
        exact ⟨_, rfl, by rw [HE.out]; simp, HB5.out⟩
      · have HE : Hid (R = (l.drop (i + 1)).all p) := Lib.hid (by rw [HR2.out, hd]; rfl)
        go_wp2_with fail
        exact ⟨⟨i + 1, by omega, by go_num, HE, HB5⟩, by simp [intOf]; omega⟩
    · have HE : Hid (R = true) := Lib.hid (by rw [HR.out, List.drop_of_length_le (by omega)]; rfl)
      have hiv : ¬ (i : Int) < (l.length : Int) := by omega
      go_wp2_with fail
      go_ret
      exact ⟨_, rfl, by rw [HE.out]; simp, HB.out⟩
theorem ContainsCx (F : Nat) (hE : Enters F) (p : Wn.Cx → Bool) (c : Value) (l : List (Wn.Cx)) (v : Value) (w : World) (hv : cxK.P w (fun _ => True) v l)
    (hc : ∀ x ∈ l, ∀ cs W, Below w.heap.size w W → cxK.R W (fun _ => True) cs x → Calls Tryz.prog F #[.agg cs.toArray, c] W fun e w' => e = .returned (.bool (!p x)) ∧ Below W.heap.size W w') :
    Calls Tryz.prog 79 #[v, .func (.func F) #[] #[c]] w fun e w' => e = .returned (.bool (!l.all p)) ∧ Below w.heap.size w w' := by
  have Q := Lib.hid (IndexCx F hE p c l v w hv hc)
  obtain ⟨ao, cap, rfl, _, _⟩ := hv.form
  clear hv hc
  go_enter Tryz.func79, Tryz.ntmps79
  go_wp2_with fail
  refine Q.out.mono ?_
  rintro e w1 ⟨n, rfl, hn, b1⟩
  have HN := Lib.hid hn
  have HB := Lib.hid b1
  clear hn b1 Q
  go_wp2_with fail
  go_ret
  exact ⟨ret_bool (by rw [← HN.out]; try rfl), HB.out⟩
set_option maxRecDepth 100000 in
theorem all1Cx (F : Nat) (hE : Enters F) (r : Bool) (x : Wn.Cx) (cs : List Value) (B : Nat) (w : World) (hx : cxK.R w (fun _ => True) cs x)
    (hB : w.heap[B]? = some (.cells #[.func (.func F) #[] #[]] 72))
    (hc : ∀ W, Below w.heap.size w W → Calls Tryz.prog F #[.agg cs.toArray] W fun e w' => e = .returned (.bool r) ∧ Below W.heap.size W w') :
    Calls Tryz.prog 80 #[.agg cs.toArray, .pointer (some ⟨B, 0, none⟩)] w fun e w' => e = .returned (.bool (!r)) ∧ Below w.heap.size w w' := by
  have q0 := cell_of_block (o := 0) hB
  simp only [List.getElem?_toArray, List.getElem?_cons_zero] at q0
  have hlt : B < w.heap.size := by
    rcases Nat.lt_or_ge B w.heap.size with h | h
    · exact h
    · rw [Array.getElem?_eq_none h] at hB; cases hB
  have hne : ¬ B = w.heap.size := by omega
  obtain ⟨u, rfl, hu⟩ := hx
  obtain ⟨uo, uc, rfl, _, _⟩ := hu.form
  have hB0 : Below w.heap.size w (w.alloc (.cells #[.slice uo x.1.length uc, .string (Wn.str x.2)] 46)) := (Below.refl _ _).alloc (Nat.le_refl _) _
  have Q := Lib.hid (hc _ hB0)
  have HB := Lib.hid hB0
  clear hc hB hu hB0
  try unfold smCells at Q
  try unfold smCells
  go_enter Tryz.func80, Tryz.ntmps80
  go_wp2_with fail
  rw [hE, Oper.upon_enter]
  refine Q.out.mono ?_
  rintro e w1 ⟨rfl, b1⟩
  have HB1 := Lib.hid (HB.out.trans (b1.mono HB.out.size)); clear b1
  go_wp2_with fail
  go_ret
  exact ⟨rfl, HB1.out⟩
theorem allCx (F : Nat) (hE : Enters F) (p : Wn.Cx → Bool) (l : List (Wn.Cx)) (v : Value) (w : World) (hv : cxK.P w (fun _ => True) v l)
    (hc : ∀ x ∈ l, ∀ cs W, Below w.heap.size w W → cxK.R W (fun _ => True) cs x → Calls Tryz.prog F #[.agg cs.toArray] W fun e w' => e = .returned (.bool (p x)) ∧ Below W.heap.size W w') :
    Calls Tryz.prog 44 #[v, .func (.func F) #[] #[]] w fun e w' => e = .returned (.bool (l.all p)) ∧ Below w.heap.size w w' := by
  have hB : Below w.heap.size w (w.alloc (.cells #[.func (.func F) #[] #[]] 72)) := (Below.refl _ _).alloc (Nat.le_refl _) _
  have hblk := heap_alloc_new w (Obj.cells #[.func (.func F) #[] #[]] 72)
  have hsz : w.heap.size < (w.alloc (Obj.cells #[.func (.func F) #[] #[]] 72)).heap.size := by simp
  have Q := Lib.hid (ContainsCx 80 (enters_of Tryz.func80 (by kernel_rfl) rfl) p (.pointer (some ⟨w.heap.size, 0, none⟩)) l v _ (hv.below hB)
    (fun x hm cs W hW hR => all1Cx F hE (p x) x cs w.heap.size W hR ((hW.block _ hsz).trans hblk) (fun W' hW' => hc x hm cs W' ((hB.trans (hW.mono hB.size)).trans (hW'.mono (hB.trans (hW.mono hB.size)).size)) (cxK.same (fun b _ hl => hW'.block b hl) (fun _ h _ => h) hR))))
  have HB := Lib.hid hB
  obtain ⟨ao, cap, rfl, _, _⟩ := hv.form
  clear hB hblk hsz hc hv
  go_enter Tryz.func44, Tryz.ntmps44
  go_wp2_with fail
  refine Q.out.mono ?_
  rintro e w1 ⟨rfl, b1⟩
  have HB1 := Lib.hid (HB.out.trans (b1.mono HB.out.size)); clear b1
  go_wp2_with fail
  go_ret
  exact ⟨ret_bool (by simp), HB1.out⟩
end Go.Proofs.YtncknaagbafhhaaGreatDoor
set_option linter.unusedVariables false
set_option linter.unusedSimpArgs false
set_option maxRecDepth 20000
namespace Go.Proofs.YtncknaagbafhhaaGreatDoor
open Go.RowKit Go.Sort
theorem validComb_v (c : Int) (first : Bool) (w : World) :
    Calls Tryz.prog 82 #[.int .i64 c, .bool first] w fun e w' => e = .returned (.bool (if first = true then decide (c = 0) else decide (1 ≤ c ∧ c ≤ 4))) ∧ w = w' := by
  cases first
  · by_cases h1 : 1 ≤ c
    · go_enter Tryz.func82, Tryz.ntmps82
      go_wp2_with fail
      go_ret
      exact ⟨ret_bool (by simp [h1]), rfl⟩
    · go_enter Tryz.func82, Tryz.ntmps82
      go_wp2_with fail
      go_ret
      exact ⟨ret_bool (by rw [Bool.eq_iff_iff]; simp; omega), rfl⟩
  · go_enter Tryz.func82, Tryz.ntmps82
    go_wp2_with fail
    go_ret
    exact ⟨ret_bool (by rw [Bool.eq_iff_iff]; simp), rfl⟩
theorem RK.P.tail {α : Type} {K : RK α} {w : World} {ok : Nat → Prop} {b o n cap : Nat} {x : α} {r : List α} (h : K.P w ok (.slice (some ⟨b, o, none⟩) n cap) (x :: r)) :
    K.P w ok (.slice (some ⟨b, o + K.sz, none⟩) r.length (cap - 1)) r := by
  obtain ⟨ao', cap', hv, h1, h2, h3, h4⟩ := h
  simp only [Value.slice.injEq] at hv
  obtain ⟨rfl, _, rfl⟩ := hv
  rw [List.length_cons] at h1
  obtain ⟨b', o', ha, hb, hlt, hx⟩ := h4 (by simp)
  simp only [Option.some.injEq, Addr.mk.injEq, and_true] at ha
  obtain ⟨rfl, rfl⟩ := ha
  refine ⟨_, _, rfl, by omega, by omega, fun h => (by cases h), fun _ => ⟨b, o + K.sz, rfl, hb, hlt, fun i y hi => ?_⟩⟩
  obtain ⟨cs, hr, hl⟩ := hx (i + 1) y (by rw [List.getElem?_cons_succ]; exact hi)
  refine ⟨cs, hr, ?_⟩
  rw [Nat.add_assoc, show K.sz + i * K.sz = (i + 1) * K.sz from by rw [Nat.add_mul]; omega]
  exact hl
theorem RK.P.none {α : Type} {K : RK α} {w : World} {ok : Nat → Prop} {ad : Addr} {l : List α} (h : l.length = 0) : K.P w ok (.slice (some ad) l.length 0) l :=
  ⟨_, _, rfl, by omega, by unfold maxLen; omega, fun h => (by cases h), fun h' => absurd (List.length_eq_zero_iff.1 h) h'⟩
set_option maxRecDepth 100000 in
set_option maxHeartbeats 1000000 in
theorem validCompound_v (l : List Wn.Sm) (empty : Bool) (v : Value) (w : World) (hv : smK.P w (fun _ => True) v l) (ht : Tab w) (hs : ∀ x ∈ l, x.short) :
    Calls Tryz.prog 83 #[v, .bool empty] w fun e w' => e = .returned (.bool (Wn.mayPart l empty)) ∧ Below w.heap.size w w' := by
  obtain ⟨ao, cap, rfl, c1, c2⟩ := hv.form
  unfold maxLen at c2
  have HT := Lib.hid ht
  have HV := Lib.hid hv
  have HS := Lib.hid hs
  clear hv ht hs
  cases l with
  | nil =>
    go_enter Tryz.func83, Tryz.ntmps83
    go_wp2_with fail
    go_ret
    exact ⟨rfl, Below.refl _ _⟩
  | cons x r =>
    have HE : Hid (Wn.mayPart (x :: r) empty = (decide (r.length + 1 ≤ 8) && Wn.maySm x && r.all Wn.mayLater)) := Lib.hid rfl
    obtain ⟨b, o, cs, rfl, _, hbl, hRx, hLx⟩ := HV.out.at (i := 0) (x := x) rfl
    obtain ⟨xu, rfl, hxu⟩ := id hRx
    obtain ⟨xo, xc, rfl, _, _⟩ := hxu.form
    have x0 := hLx 0 _ rfl
    have x1 := hLx 1 _ rfl
    have x2 := hLx 2 _ rfl
    have x3 := hLx 3 _ rfl
    have x4 := hLx 4 _ rfl
    have x5 := hLx 5 _ rfl
    simp only [show smK.sz = 6 from rfl, Nat.zero_mul, Nat.add_zero] at x0 x1 x2 x3 x4 x5
    have QV := Lib.hid (validSimple_v x _ w hxu HT.out (HS.out x (by simp)))
    have QA := Lib.hid (fun W (hW : Below w.heap.size w W) V (hV : smK.P W (fun _ => True) V r) => allSm 123 (enters_of Tryz.func123 (by kernel_rfl) rfl) Wn.mayLater r V W hV (fun z hz cs W' hW' hR => by
      obtain ⟨zu, rfl, hzu⟩ := hR
      exact validLater_v z zu W' hzu ((HT.out.below hW).below hW') (HS.out z (List.mem_cons_of_mem _ hz))))
    rw [List.length_cons] at c1 ⊢
    clear hRx hLx hxu HS HT
    generalize Wn.mayPart (x :: r) empty = R at *
    generalize Wn.maySm x = T at *
    by_cases h8 : r.length + 1 ≤ 8
    · have h8' : ((r.length : Int) + 1) ≤ 8 := by omega
      have HE2 : Hid (R = (T && r.all Wn.mayLater)) := Lib.hid (by rw [HE.out]; simp [h8])
      clear HE
      go_enter Tryz.func83, Tryz.ntmps83
      go_wp2_with fail
      refine QV.out.mono ?_
      rintro e w1 ⟨rfl, b1⟩
      have HB1 := Lib.hid b1
      clear b1 QV x0 x1 x2 x3 x4 x5
      cases T
      · go_wp2_with fail
        go_ret
        exact ⟨ret_bool (by rw [HE2.out]; rfl), HB1.out⟩
      · go_wp2_with fail
        · refine (QA.out w1 HB1.out _ (RK.P.none (by omega))).mono ?_
          rintro e w2 ⟨rfl, b2⟩
          have HB2 := Lib.hid (HB1.out.trans (b2.mono HB1.out.size)); clear b2
          go_wp2_with fail
          go_ret
          exact ⟨ret_bool (by rw [HE2.out, Bool.true_and]), HB2.out⟩
        · refine (QA.out w1 HB1.out _ (HV.out.below HB1.out).tail).mono ?_
          rintro e w2 ⟨rfl, b2⟩
          have HB2 := Lib.hid (HB1.out.trans (b2.mono HB1.out.size)); clear b2
          go_wp2_with fail
          go_ret
          exact ⟨ret_bool (by rw [HE2.out, Bool.true_and]), HB2.out⟩
    · have h8' : ¬ ((r.length : Int) + 1) ≤ 8 := by omega
      have HE2 : Hid (R = false) := Lib.hid (by rw [HE.out]; simp [h8])
      clear HE
      go_enter Tryz.func83, Tryz.ntmps83
      go_wp2_with fail
      go_ret
      exact ⟨ret_bool HE2.out.symm, Below.refl _ _⟩
end Go.Proofs.YtncknaagbafhhaaGreatDoor
set_option linter.unusedVariables false
set_option linter.unusedSimpArgs false
set_option maxRecDepth 20000
namespace Go.Proofs.YtncknaagbafhhaaGreatDoor
open Go.RowKit Go.Sort
set_option maxRecDepth 100000 in
set_option maxHeartbeats 1000000 in
theorem validComplex_v (c : Wn.Cx) (u : Value) (w : World) (hu : ptK.P w (fun _ => True) u c.1) (ht : Tab w) (hs : ∀ p ∈ c.1, ∀ x ∈ p.2, Wn.Sm.short x) :
    Calls Tryz.prog 45 #[.agg #[u, .string (Wn.str c.2)]] w fun e w' => e = .returned (.bool (Wn.mayCx c)) ∧ Below w.heap.size w w' := by
  obtain ⟨l, s⟩ := c
  dsimp only at *
  obtain ⟨ao, cap, rfl, c1, c2⟩ := hu.form
  unfold maxLen at c2
  have hB : Below w.heap.size w (w.alloc (.cells #[.slice ao l.length cap, .string (Wn.str s)] 46)) := (Below.refl _ _).alloc (Nat.le_refl _) _
  have HV := Lib.hid (hu.below hB)
  have HT := Lib.hid (ht.below hB)
  have hbk := heap_alloc_new w (Obj.cells #[.slice ao l.length cap, .string (Wn.str s)] 46)
  have HBK := Lib.hid hbk
  have HB := Lib.hid hB
  have HS := Lib.hid hs
  have QP := Lib.hid (fun W => isPseudo_v s W)
  have HE : Hid (Wn.mayCx (l, s) = (decide (1 ≤ l.length) && decide (l.length ≤ 16) && (decide (s = []) || Wn.isPseudo s) && Wn.mayParts (decide (s ≠ [])) true l)) := Lib.hid rfl
  clear hu ht hs hbk hB
  generalize Wn.mayCx (l, s) = R at *
  generalize Wn.isPseudo s = P at *
  have hsl := str_list s
  generalize Wn.str s = x at *
  subst hsl
  by_cases h1 : l.length < 1
  · have HE2 : Hid (R = false) := Lib.hid (by rw [HE.out]; simp; omega)
    have h1' : (l.length : Int) < 1 := by omega
    clear HE
    go_enter Tryz.func45, Tryz.ntmps45
    go_wp2_with fail
    go_ret
    exact ⟨ret_bool HE2.out.symm, HB.out⟩
  by_cases h16 : 16 < l.length
  · have HE2 : Hid (R = false) := Lib.hid (by rw [HE.out]; simp; omega)
    have h1' : ¬ (l.length : Int) < 1 := by omega
    have h16' : (16 : Int) < (l.length : Int) := by omega
    clear HE
    go_enter Tryz.func45, Tryz.ntmps45
    go_wp2_with fail
    go_ret
    exact ⟨ret_bool HE2.out.symm, HB.out⟩
  have h1' : ¬ (l.length : Int) < 1 := by omega
  have h16' : ¬ (16 : Int) < (l.length : Int) := by omega
  by_cases hx : x.toList = []
  · have hxb : (x.toList == []) = true := by simpa using hx
    have HR0 : Hid (R = Wn.mayParts false (((0 : Nat) : Int) == 0) (l.drop 0)) := Lib.hid (by rw [HE.out, decide_eq_true (show 1 ≤ l.length by omega), decide_eq_true (show l.length ≤ 16 by omega), decide_eq_true hx, decide_eq_false (show ¬ x.toList ≠ [] from fun h => h hx)]; rfl)
    clear HE hx h1 h16
    go_enter Tryz.func45, Tryz.ntmps45
    go_wp2_with fail
    have hbk := HBK.out
    have q1 := cell_of_block (o := 1) hbk
    simp only [List.getElem?_toArray, List.getElem?_cons_zero, List.getElem?_cons_succ] at q1
    have HQ1 := Lib.hid q1
    clear hbk q1 HBK
    generalize hW : (w.alloc (Obj.cells #[.slice ao l.length cap, .string x] 46)) = W at *
    clear hW
    go_loopw [35] (fun v35 wr => ∃ i : Nat, i ≤ l.length ∧ v35 = .int .i64 (i : Int) ∧ Hid (R = Wn.mayParts false ((i : Int) == 0) (l.drop i)) ∧ Hid (Below W.heap.size W wr)) (fun v35 _ => l.length - (intOf v35).toNat)
    case atStart => exact ⟨0, Nat.zero_le _, rfl, HR0, Lib.hid (Below.refl _ _)⟩
    case round =>
      clear HR0
      obtain ⟨i, hi, rfl, HR, HBr⟩ := hrel
      by_cases hil : i < l.length
      · have hiv : (i : Int) < (l.length : Int) := by omega
        have hp : l[i]? = some l[i] := List.getElem?_eq_getElem hil
        have hdx : l.drop i = l[i] :: l.drop (i + 1) := List.drop_eq_getElem_cons hil
        have hmem : l[i] ∈ l := List.getElem_mem hil
        generalize l[i] = p at *
        obtain ⟨b, o, cs, rfl, _, hbl, hRp, hLp⟩ := (HV.out.below HBr.out).at hp
        obtain ⟨pu, rfl, hpu⟩ := id hRp
        obtain ⟨po, pc, rfl, _, _⟩ := hpu.form
        have y0 := hLp 0 _ rfl
        have y1 := hLp 1 _ rfl
        simp only [show ptK.sz = 2 from rfl, Nat.add_zero] at y0 y1
        have k1 := (HBr.out.cell (block_lt_of_cell HQ1.out)).trans HQ1.out
        have hbr : w.heap.size < wr.heap.size := block_lt_of_cell k1
        have hbn : ¬ w.heap.size = wr.heap.size := by omega
        have hB2 : Below wr.heap.size wr (wr.alloc (Obj.cells #[.int .i64 p.1, .slice po p.2.length pc] 49)) := (Below.refl _ _).alloc (Nat.le_refl _) _
        have QC := Lib.hid (fun W' => validComb_v p.1 ((i : Int) == 0) W')
        have QV := Lib.hid (fun em => validCompound_v p.2 em _ _ (hpu.below hB2) ((HT.out.below HBr.out).below hB2) (HS.out p hmem))
        have HR2 : Hid (R = ((if ((i : Int) == 0) = true then decide (p.1 = 0) else decide (1 ≤ p.1 ∧ p.1 ≤ 4)) && Wn.mayPart p.2 (decide (l.drop (i + 1) = []) && false) && Wn.mayParts false false (l.drop (i + 1)))) := Lib.hid (by rw [HR.out, hdx]; rfl)
        have HB2 := Lib.hid (HBr.out.trans (hB2.mono HBr.out.size))
        clear hp hdx hmem hRp hLp hpu HR hB2
        generalize hC : (if ((i : Int) == 0) = true then decide (p.1 = 0) else decide (1 ≤ p.1 ∧ p.1 ≤ 4)) = C at *
        clear hC
        have hEm : decide (l.drop (i + 1) = []) = ((i : Int) == (l.length : Int) - 1) := by
          rw [Bool.eq_iff_iff]; simp; omega
        rw [hEm] at HR2
        clear hEm
        cases hl : ((i : Int) == (l.length : Int) - 1)
        case' false =>
          have HR3 : Hid (R = (C && Wn.mayPart p.2 false && Wn.mayParts false false (l.drop (i + 1)))) := Lib.hid (by rw [HR2.out, hl]; rfl)
          have QV2 := Lib.hid (QV.out false)
          clear HR2 QV
          generalize Wn.mayPart p.2 false = M at *
        case' true =>
          have HR3 : Hid (R = (C && Wn.mayPart p.2 false && Wn.mayParts false false (l.drop (i + 1)))) := Lib.hid (by rw [HR2.out, hl]; rfl)
          have QV2 := Lib.hid (QV.out false)
          clear HR2 QV
          generalize Wn.mayPart p.2 false = M at *
        all_goals
          go_wp2_with fail
          refine (QC.out _).mono ?_
          rintro e w1 ⟨rfl, rfl⟩
          cases C
          · have HE : Hid (R = false) := Lib.hid (by rw [HR3.out]; rfl)
            go_wp2_with fail
            go_ret
            exact ⟨ret_bool HE.out.symm, HB.out.trans (HB2.out.mono HB.out.size)⟩
          · go_wp2_with fail
            refine QV2.out.mono ?_
            rintro e w2 ⟨rfl, b2⟩
            have HB3 := Lib.hid (HB2.out.trans (b2.mono HB2.out.size)); clear b2
            cases M
            · have HE : Hid (R = false) := Lib.hid (by rw [HR3.out]; rfl)
              go_wp2_with fail
              go_ret
              exact ⟨ret_bool HE.out.symm, HB.out.trans (HB3.out.mono HB.out.size)⟩
            · have HE : Hid (R = Wn.mayParts false (((i + 1 : Nat) : Int) == 0) (l.drop (i + 1))) := Lib.hid (by
                rw [HR3.out, show ((((i + 1 : Nat) : Int) == 0)) = false from by rw [beq_eq_false_iff_ne]; omega]; rfl)
              go_wp2_with fail
              exact ⟨⟨i + 1, by omega, by go_num, HE, HB3⟩, by simp [intOf]; omega⟩
      · have HE : Hid (R = true) := Lib.hid (by rw [HR.out, List.drop_of_length_le (by omega)]; rfl)
        have hiv : ¬ (i : Int) < (l.length : Int) := by omega
        go_wp2_with fail
        go_ret
        exact ⟨ret_bool HE.out.symm, HB.out.trans (HBr.out.mono HB.out.size)⟩
  · have hxb : (x.toList == []) = false := by simpa using hx
    cases P
    · have HE2 : Hid (R = false) := Lib.hid (by rw [HE.out]; simp [hx])
      clear HE
      go_enter Tryz.func45, Tryz.ntmps45
      go_wp2_with fail
      refine (QP.out _).mono ?_
      rintro e w1 ⟨rfl, rfl⟩
      go_wp2_with fail
      go_ret
      exact ⟨ret_bool HE2.out.symm, HB.out⟩
    · have HR0 : Hid (R = Wn.mayParts true (((0 : Nat) : Int) == 0) (l.drop 0)) := Lib.hid (by rw [HE.out, decide_eq_true (show 1 ≤ l.length by omega), decide_eq_true (show l.length ≤ 16 by omega), decide_eq_false hx, decide_eq_true (show x.toList ≠ [] from hx)]; rfl)
      clear HE hx h1 h16
      go_enter Tryz.func45, Tryz.ntmps45
      go_wp2_with fail
      refine (QP.out _).mono ?_
      rintro e w1 ⟨rfl, rfl⟩
      clear QP
      go_wp2_with fail
      have hbk := HBK.out
      have q1 := cell_of_block (o := 1) hbk
      simp only [List.getElem?_toArray, List.getElem?_cons_zero, List.getElem?_cons_succ] at q1
      have HQ1 := Lib.hid q1
      clear hbk q1 HBK
      generalize hW : (w.alloc (Obj.cells #[.slice ao l.length cap, .string x] 46)) = W at *
      clear hW
      go_loopw [35] (fun v35 wr => ∃ i : Nat, i ≤ l.length ∧ v35 = .int .i64 (i : Int) ∧ Hid (R = Wn.mayParts true ((i : Int) == 0) (l.drop i)) ∧ Hid (Below W.heap.size W wr)) (fun v35 _ => l.length - (intOf v35).toNat)
      case atStart => exact ⟨0, Nat.zero_le _, rfl, HR0, Lib.hid (Below.refl _ _)⟩
      case round =>
        clear HR0
        obtain ⟨i, hi, rfl, HR, HBr⟩ := hrel
        by_cases hil : i < l.length
        · have hiv : (i : Int) < (l.length : Int) := by omega
          have hp : l[i]? = some l[i] := List.getElem?_eq_getElem hil
          have hdx : l.drop i = l[i] :: l.drop (i + 1) := List.drop_eq_getElem_cons hil
          have hmem : l[i] ∈ l := List.getElem_mem hil
          generalize l[i] = p at *
          obtain ⟨b, o, cs, rfl, _, hbl, hRp, hLp⟩ := (HV.out.below HBr.out).at hp
          obtain ⟨pu, rfl, hpu⟩ := id hRp
          obtain ⟨po, pc, rfl, _, _⟩ := hpu.form
          have y0 := hLp 0 _ rfl
          have y1 := hLp 1 _ rfl
          simp only [show ptK.sz = 2 from rfl, Nat.add_zero] at y0 y1
          have k1 := (HBr.out.cell (block_lt_of_cell HQ1.out)).trans HQ1.out
          have hbr : w.heap.size < wr.heap.size := block_lt_of_cell k1
          have hbn : ¬ w.heap.size = wr.heap.size := by omega
          have hB2 : Below wr.heap.size wr (wr.alloc (Obj.cells #[.int .i64 p.1, .slice po p.2.length pc] 49)) := (Below.refl _ _).alloc (Nat.le_refl _) _
          have QC := Lib.hid (fun W' => validComb_v p.1 ((i : Int) == 0) W')
          have QV := Lib.hid (fun em => validCompound_v p.2 em _ _ (hpu.below hB2) ((HT.out.below HBr.out).below hB2) (HS.out p hmem))
          have HR2 : Hid (R = ((if ((i : Int) == 0) = true then decide (p.1 = 0) else decide (1 ≤ p.1 ∧ p.1 ≤ 4)) && Wn.mayPart p.2 (decide (l.drop (i + 1) = []) && true) && Wn.mayParts true false (l.drop (i + 1)))) := Lib.hid (by rw [HR.out, hdx]; rfl)
          have HB2 := Lib.hid (HBr.out.trans (hB2.mono HBr.out.size))
          clear hp hdx hmem hRp hLp hpu HR hB2
          generalize hC : (if ((i : Int) == 0) = true then decide (p.1 = 0) else decide (1 ≤ p.1 ∧ p.1 ≤ 4)) = C at *
          clear hC
          have hEm : decide (l.drop (i + 1) = []) = ((i : Int) == (l.length : Int) - 1) := by
            rw [Bool.eq_iff_iff]; simp; omega
          rw [hEm] at HR2
          clear hEm
          cases hl : ((i : Int) == (l.length : Int) - 1)
          case' false =>
            have HR3 : Hid (R = (C && Wn.mayPart p.2 false && Wn.mayParts true false (l.drop (i + 1)))) := Lib.hid (by rw [HR2.out, hl]; rfl)
            have QV2 := Lib.hid (QV.out false)
            clear HR2 QV
            generalize Wn.mayPart p.2 false = M at *
          case' true =>
            have HR3 : Hid (R = (C && Wn.mayPart p.2 true && Wn.mayParts true false (l.drop (i + 1)))) := Lib.hid (by rw [HR2.out, hl]; rfl)
            have QV2 := Lib.hid (QV.out true)
            clear HR2 QV
            generalize Wn.mayPart p.2 true = M at *
          all_goals
            go_wp2_with fail
            refine (QC.out _).mono ?_
            rintro e w1 ⟨rfl, rfl⟩
            cases C
            · have HE : Hid (R = false) := Lib.hid (by rw [HR3.out]; rfl)
              go_wp2_with fail
              go_ret
              exact ⟨ret_bool HE.out.symm, HB.out.trans (HB2.out.mono HB.out.size)⟩
            · go_wp2_with fail
              refine QV2.out.mono ?_
              rintro e w2 ⟨rfl, b2⟩
              have HB3 := Lib.hid (HB2.out.trans (b2.mono HB2.out.size)); clear b2
              cases M
              · have HE : Hid (R = false) := Lib.hid (by rw [HR3.out]; rfl)
                go_wp2_with fail
                go_ret
                exact ⟨ret_bool HE.out.symm, HB.out.trans (HB3.out.mono HB.out.size)⟩
              · have HE : Hid (R = Wn.mayParts true (((i + 1 : Nat) : Int) == 0) (l.drop (i + 1))) := Lib.hid (by
                  rw [HR3.out, show ((((i + 1 : Nat) : Int) == 0)) = false from by rw [beq_eq_false_iff_ne]; omega]; rfl)
                go_wp2_with fail
                exact ⟨⟨i + 1, by omega, by go_num, HE, HB3⟩, by simp [intOf]; omega⟩
        · have HE : Hid (R = true) := Lib.hid (by rw [HR.out, List.drop_of_length_le (by omega)]; rfl)
          have hiv : ¬ (i : Int) < (l.length : Int) := by omega
          go_wp2_with fail
          go_ret
          exact ⟨ret_bool HE.out.symm, HB.out.trans (HBr.out.mono HB.out.size)⟩
end Go.Proofs.YtncknaagbafhhaaGreatDoor
set_option linter.unusedVariables false
set_option linter.unusedSimpArgs false
set_option maxRecDepth 20000
namespace Wn
/-- no text in it is too long -/
def Cx.short (c : Cx) : Prop := ∀ p ∈ c.1, ∀ x ∈ p.2, Sm.short x
end Wn
namespace Go.Proofs.YtncknaagbafhhaaGreatDoor
open Go.RowKit Go.Sort
set_option maxRecDepth 100000 in
set_option maxHeartbeats 1000000 in
theorem SMay_v (l : List Wn.Cx) (v : Value) (w : World) (hv : cxK.P w (fun _ => True) v l) (ht : Tab w) (hs : ∀ c ∈ l, Wn.Cx.short c) :
    Calls Tryz.prog 20 #[v] w fun e w' => e = .returned (.bool (Wn.maySels l)) ∧ Below w.heap.size w w' := by
  have QA := Lib.hid (allCx 45 (enters_of Tryz.func45 (by kernel_rfl) rfl) Wn.mayCx l v w hv (fun z hz cs W hW hR => by
    obtain ⟨zu, rfl, hzu⟩ := hR
    exact validComplex_v z zu W hzu (ht.below hW) (hs z hz)))
  obtain ⟨ao, cap, rfl, c1, c2⟩ := hv.form
  unfold maxLen at c2
  clear hv ht hs
  have HE : Hid (Wn.maySels l = (decide (1 ≤ l.length) && decide (l.length ≤ 32) && l.all Wn.mayCx)) := Lib.hid rfl
  generalize Wn.maySels l = R at *
  generalize l.all Wn.mayCx = T at *
  by_cases h1 : 1 ≤ l.length
  · have h1' : (1 : Int) ≤ (l.length : Int) := by omega
    by_cases h2 : l.length ≤ 32
    · have h2' : (l.length : Int) ≤ 32 := by omega
      have HE2 : Hid (R = T) := Lib.hid (by rw [HE.out]; simp [h1, h2])
      clear HE h1 h2
      go_enter Tryz.func20, Tryz.ntmps20
      go_wp2_with fail
      refine QA.out.mono ?_
      rintro e w1 ⟨rfl, b1⟩
      have HB := Lib.hid b1; clear b1
      go_wp2_with fail
      go_ret
      exact ⟨ret_bool HE2.out.symm, HB.out⟩
    · have h2' : ¬ (l.length : Int) ≤ 32 := by omega
      have HE2 : Hid (R = false) := Lib.hid (by rw [HE.out]; simp [h2])
      clear HE h1 h2
      go_enter Tryz.func20, Tryz.ntmps20
      go_wp2_with fail
      go_ret
      exact ⟨ret_bool HE2.out.symm, Below.refl _ _⟩
  · have h1' : ¬ (1 : Int) ≤ (l.length : Int) := by omega
    have HE2 : Hid (R = false) := Lib.hid (by rw [HE.out]; simp; omega)
    clear HE h1
    go_enter Tryz.func20, Tryz.ntmps20
    go_wp2_with fail
    go_ret
    exact ⟨ret_bool HE2.out.symm, Below.refl _ _⟩
end Go.Proofs.YtncknaagbafhhaaGreatDoor
