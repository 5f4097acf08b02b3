/- May declarations be; are they the same. Are declarations the same. -/
import Derived.Test.YtjlejiphpbaonaaGreatDoorLB
import Derived.Test.YtjlejiphpbaonaaGreatDoorGQ
import Derived.Test.YtjlejiphpbaonaaGreatDoorGF
set_option linter.unusedVariables false
set_option linter.unusedSimpArgs false
set_option maxRecDepth 20000
namespace Wn
theorem dl_eq (x y : Dl) : decide (x = y) = ((x.1 == y.1) && ((x.2.2 == y.2.2) && decide (x.2.1 = y.2.1))) := by
  obtain ⟨a, b, c⟩ := x
  obtain ⟨a', b', c'⟩ := y
  rw [Bool.eq_iff_iff]
  simp
  intro _
  exact and_comm
end Wn
namespace Go.Proofs.YtjlejiphpbaonaaGreatDoor
open Go.RowKit Go.Sort
theorem vfield1 (y : ByteArray) (w : World) : (Instr.field 49 (.agg #[.int .i64 1, .int .i64 1, .string y, .int .i64 0, .slice none 0 0]) 1).run Tryz.prog w = .ok (.agg #[.int .i64 1, .string y, .int .i64 0]) w := by
  simp [Instr.field, run_underlying Tryz.underlying49, asAgg, go_sem]
/-- declarations whose checks stay in bounds -/
def DFit (d : Wn.Dl) : Prop := d.1.length ≤ 1048576 ∧ d.2.1.size ≤ 1000000 ∧ (Wn.flat d.2.1).length < 1000000 ∧ ∀ t ∈ Wn.flat d.2.1, Fine t
set_option maxRecDepth 100000 in
set_option maxHeartbeats 4000000 in
theorem validD_v (d : Wn.Dl) (u : Value) (w : World) (ht : Tab w) (hu : Vals w u d.2.1) (hd : DFit d) :
    Calls Tryz.prog 39 #[.agg #[.string (Wn.str d.1), u, .bool d.2.2]] w fun e w' => e = .returned (.bool (Wn.mayOne d)) ∧ Below w.heap.size w w' := by
  obtain ⟨nm, f, bb⟩ := d
  obtain ⟨q1, q2, q3, q4⟩ := hd
  dsimp only at hu q1 q2 q3 q4 ⊢
  obtain ⟨uo, uc, rfl, c1, c2⟩ := hu.form
  have hB0 : Below w.heap.size w (w.alloc (.cells #[.string (Wn.str nm), .slice uo f.len uc, .bool bb] 44)) := (Below.refl _ _).alloc (Nat.le_refl _) _
  have hN0 := heap_alloc_new w (.cells #[.string (Wn.str nm), .slice uo f.len uc, .bool bb] 44)
  have HU0 := Lib.hid (ValsP.below hu hB0)
  have HT0 := Lib.hid (ht.below hB0)
  have HR : Hid (Wn.mayOne (nm, f, bb) = (Wn.may (1, nm, 0) && (decide (nm = Wn.proper nm) && (Wn.isValF f && Wn.mayF f)))) := Lib.hid (by unfold Wn.mayOne; simp [Bool.and_assoc])
  have hs1 := str_list nm
  have hs2 := str_list (Wn.proper nm)
  have hE : ((Wn.str nm).toList == (Wn.str (Wn.proper nm)).toList) = decide (nm = Wn.proper nm) := by rw [hs1, hs2, Bool.eq_iff_iff]; simp
  clear hs1 hs2
  generalize Wn.mayOne (nm, f, bb) = R at *
  go_enter Tryz.func39, Tryz.ntmps39
  go_wp2_with fail
  generalize w.alloc (.cells #[.string (Wn.str nm), .slice uo f.len uc, .bool bb] 44) = W at *
  have HB0 := Lib.hid hB0
  have x0 := cell_regrown (cell_of_block (o := 0) hN0 : W.cell? ⟨w.heap.size, 0, Option.none⟩ = some (.string (Wn.str nm)))
  have x1 := cell_regrown (cell_of_block (o := 1) hN0 : W.cell? ⟨w.heap.size, 1, Option.none⟩ = some (.slice uo f.len uc))
  have C1 : Hid (∀ d os, Calls Tryz.prog 65 #[.string (Wn.str nm)] (grow (redrawn W d) os) fun e w'' => e = .returned (.agg #[.int .i64 1, .int .i64 1, .string (Wn.str nm), .int .i64 0, .slice none 0 0]) ∧ ∃ p : Regrown, w'' = grow (redrawn W p.d) p.os) := Lib.hid (fun d os => Calls.regrown_of (nameD_v _ _))
  have C2 : Hid (∀ d os, Calls Tryz.prog 68 #[.agg #[.int .i64 1, .string (Wn.str nm), .int .i64 0]] (grow (redrawn W d) os) fun e w'' => e = .returned (.bool (Wn.may (1, nm, 0))) ∧ ∃ p : Regrown, w'' = grow (redrawn W p.d) p.os) := Lib.hid (fun d os => Calls.regrown_of (May_any (1, nm, 0) _ (HT0.out.below (below_regrown W d os)) (by show nm.length ≤ _; omega) (by show (_ : Int) ≤ 0; omega) (by show (0 : Int) ≤ _; omega)))
  have C3 : Hid (∀ d os, Calls Tryz.prog 61 #[.string (Wn.str nm)] (grow (redrawn W d) os) fun e w'' => e = .returned (.string (Wn.str (Wn.proper nm))) ∧ ∃ p : Regrown, w'' = grow (redrawn W p.d) p.os) := Lib.hid (fun d os => Calls.regrown_of (proper_v nm _ q1))
  have C4 : Hid (∀ d os, Calls Tryz.prog 60 #[.slice uo f.len uc] (grow (redrawn W d) os) fun e w'' => e = .returned (.bool (Wn.isValF f)) ∧ ∃ p : Regrown, w'' = grow (redrawn W p.d) p.os) := Lib.hid (fun d os => Calls.regrown_of (isValue_v _ f _ (HU0.out.below (below_regrown W d os)) q2))
  have C5 : Hid (∀ d os, Calls Tryz.prog 69 #[.slice uo f.len uc] (grow (redrawn W d) os) fun e w'' => e = .returned (.bool (Wn.mayF f)) ∧ ∃ p : Regrown, w'' = grow (redrawn W p.d) p.os) := Lib.hid (fun d os => Calls.regrown_of (NMay_any _ f _ (HT0.out.below (below_regrown W d os)) (HU0.out.below (below_regrown W d os)) q3 q4))
  clear hB0 hN0 HU0 HT0 hu ht q1 q2 q3 q4
  generalize Wn.may (1, nm, 0) = r1 at *
  generalize Wn.isValF f = r3 at *
  generalize Wn.mayF f = r4 at *
  generalize decide (nm = Wn.proper nm) = r2 at *
  generalize Wn.str (Wn.proper nm) = z at *
  generalize Wn.str nm = y at *
  have F1 := vfield1 y
  cases r1
  · (refine wp_region_quiet_below (by kernel_rfl) (by kernel_rfl) ?_); (repeat (first | go_big_quiet_skip | quiet_step (first | with_reducible exact C1.out _ _ | with_reducible exact C2.out _ _ | with_reducible exact C3.out _ _ | with_reducible exact C4.out _ _ | with_reducible exact C5.out _ _))); (refine wpQuiet_nil ?_); intro _ hw'; obtain ⟨⟨dq, osq⟩, hw''⟩ := hw'; subst hw''
    go_wp2_with fail
    go_ret
    exact ⟨ret_bool (by rw [HR.out]; rfl), HB0.out.trans ((below_regrown W dq osq).mono HB0.out.size)⟩
  cases r2
  · (refine wp_region_quiet_below (by kernel_rfl) (by kernel_rfl) ?_); (repeat (first | go_big_quiet_skip | quiet_step (first | with_reducible exact C1.out _ _ | with_reducible exact C2.out _ _ | with_reducible exact C3.out _ _ | with_reducible exact C4.out _ _ | with_reducible exact C5.out _ _))); (refine wpQuiet_nil ?_); intro _ hw'; obtain ⟨⟨dq, osq⟩, hw''⟩ := hw'; subst hw''
    go_wp2_with fail
    go_ret
    exact ⟨ret_bool (by rw [HR.out]; rfl), HB0.out.trans ((below_regrown W dq osq).mono HB0.out.size)⟩
  cases r3
  · (refine wp_region_quiet_below (by kernel_rfl) (by kernel_rfl) ?_); (repeat (first | go_big_quiet_skip | quiet_step (first | with_reducible exact C1.out _ _ | with_reducible exact C2.out _ _ | with_reducible exact C3.out _ _ | with_reducible exact C4.out _ _ | with_reducible exact C5.out _ _))); (refine wpQuiet_nil ?_); intro _ hw'; obtain ⟨⟨dq, osq⟩, hw''⟩ := hw'; subst hw''
    go_wp2_with fail
    go_ret
    exact ⟨ret_bool (by rw [HR.out]; rfl), HB0.out.trans ((below_regrown W dq osq).mono HB0.out.size)⟩
  · (refine wp_region_quiet_below (by kernel_rfl) (by kernel_rfl) ?_); (repeat (first | go_big_quiet_skip | quiet_step (first | with_reducible exact C1.out _ _ | with_reducible exact C2.out _ _ | with_reducible exact C3.out _ _ | with_reducible exact C4.out _ _ | with_reducible exact C5.out _ _))); (refine wpQuiet_nil ?_); intro _ hw'; obtain ⟨⟨dq, osq⟩, hw''⟩ := hw'; subst hw''
    go_wp2_with fail
    go_ret
    exact ⟨ret_bool (by rw [HR.out]; simp), HB0.out.trans ((below_regrown W dq osq).mono HB0.out.size)⟩
theorem enters_May1 : EntersD 38 := enters_ofD Tryz.func38 (by kernel_rfl) rfl
set_option maxHeartbeats 400000 in
theorem May1_v (d : Wn.Dl) (u : Value) (w : World) (ht : Tab w) (hu : Vals w u d.2.1) (hd : DFit d) :
    Calls Tryz.prog 38 #[.agg #[.string (Wn.str d.1), u, .bool d.2.2]] w fun e w' => e = .returned (.bool (!Wn.mayOne d)) ∧ Below w.heap.size w w' := by
  have hB0 : Below w.heap.size w (w.alloc (.cells #[.string (Wn.str d.1), u, .bool d.2.2] 44)) := (Below.refl _ _).alloc (Nat.le_refl _) _
  have Q := Lib.hid (validD_v d u _ (ht.below hB0) (ValsP.below hu hB0) hd)
  obtain ⟨uo, uc, rfl, c1, c2⟩ := hu.form
  have HB0 := Lib.hid hB0
  clear hB0 hu ht hd
  generalize Wn.mayOne d = R at *
  go_enter Tryz.func38, Tryz.ntmps38
  go_wp2_with fail
  refine Q.out.mono ?_
  rintro e w1 ⟨rfl, b1⟩
  have HB1 := Lib.hid (HB0.out.trans (b1.mono HB0.out.size))
  clear b1 Q
  go_wp2_with fail
  go_ret
  exact ⟨rfl, HB1.out⟩
set_option maxRecDepth 100000 in
set_option maxHeartbeats 1000000 in
theorem IndexDl (F : Nat) (hE : EntersD F) (p : Wn.Dl → Bool) (l : List Wn.Dl) (v : Value) (w : World) (hv : dlK.P w (fun _ => True) v l)
    (hc : ∀ x ∈ l, ∀ cs W, Below w.heap.size w W → dlK.R W (fun _ => True) cs x → Calls Tryz.prog F #[.agg cs.toArray] W fun e w' => e = .returned (.bool (!p x)) ∧ Below W.heap.size W w') :
    Calls Tryz.prog 67 #[v, .func (.func F) #[] #[]] w fun e w' => ∃ n : Int, e = .returned (.int .i64 n) ∧ decide (0 ≤ n) = (!l.all p) ∧ Below w.heap.size w w' := by
  have HV := Lib.hid hv
  obtain ⟨ao, cap, rfl, c1, c2⟩ := hv.form
  unfold maxLen at c2
  have HC := Lib.hid hc
  clear hv hc
  have HR0 : Hid (l.all p = (l.drop 0).all p) := Lib.hid rfl
  generalize l.all p = R at *
  go_enter Tryz.func67, Tryz.ntmps67
  go_wp2_with fail
  go_loopw [8] (fun v8 wr => ∃ i : Nat, i ≤ l.length ∧ v8 = .int .i64 (i : Int) ∧ Hid (R = (l.drop i).all p) ∧ Hid (Below w.heap.size w wr)) (fun v8 _ => l.length - (intOf v8).toNat)
  case atStart => exact ⟨0, Nat.zero_le _, rfl, HR0, Lib.hid (Below.refl _ _)⟩
  case round =>
    clear HR0
    obtain ⟨i, hi, rfl, HR, HB⟩ := hrel
    by_cases hil : i < l.length
    · have hiv : (i : Int) < (l.length : Int) := by omega
      have hx : l[i]? = some l[i] := List.getElem?_eq_getElem hil
      have hdx : l.drop i = l[i] :: l.drop (i + 1) := List.drop_eq_getElem_cons hil
      have hmem : l[i] ∈ l := List.getElem_mem hil
      generalize l[i] = x at *
      obtain ⟨b, o, cs, rfl, _, _, hRx, hLx⟩ := (HV.out.below HB.out).at hx
      (obtain ⟨xu, rfl, hxu⟩ := id hRx; obtain ⟨xo, xc, rfl, _, _⟩ := hxu.form; have x0 := hLx 0 _ rfl; have x1 := hLx 1 _ rfl; have x2 := hLx 2 _ rfl; clear hxu; simp only [show dlK.sz = 3 from rfl, Nat.add_zero] at x0 x1 x2)
      have HR2 : Hid (R = (p x && (l.drop (i + 1)).all p)) := Lib.hid (by rw [HR.out, hdx]; rfl)
      have QC := Lib.hid (HC.out x hmem _ wr HB.out hRx)
      clear hx hdx hmem hRx hLx HR
      go_wp2_with fail
      rw [hE, Oper.upon_enter]
      refine QC.out.mono ?_
      rintro e w5 ⟨rfl, b5⟩
      have HB5 : Hid (Below w.heap.size w w5) := Lib.hid (HB.out.trans (b5.mono HB.out.size))
      clear b5 QC HB
      cases hd : p x
      · have HE : Hid (R = false) := Lib.hid (by rw [HR2.out, hd]; rfl)
        go_wp2_with fail
        go_ret
        exact ⟨_, rfl, by rw [HE.out]; simp, HB5.out⟩
      · have HE : Hid (R = (l.drop (i + 1)).all p) := Lib.hid (by rw [HR2.out, hd]; rfl)
        go_wp2_with fail
        exact ⟨⟨i + 1, by omega, by go_num, HE, HB5⟩, by simp [intOf]; omega⟩
    · have HE : Hid (R = true) := Lib.hid (by rw [HR.out, List.drop_of_length_le (by omega)]; rfl)
      have hiv : ¬ (i : Int) < (l.length : Int) := by omega
      go_wp2_with fail
      go_ret
      exact ⟨_, rfl, by rw [HE.out]; simp, HB.out⟩
set_option maxHeartbeats 400000 in
theorem ContainsDl (F : Nat) (hE : EntersD F) (p : Wn.Dl → Bool) (l : List Wn.Dl) (v : Value) (w : World) (hv : dlK.P w (fun _ => True) v l)
    (hc : ∀ x ∈ l, ∀ cs W, Below w.heap.size w W → dlK.R W (fun _ => True) cs x → Calls Tryz.prog F #[.agg cs.toArray] W fun e w' => e = .returned (.bool (!p x)) ∧ Below W.heap.size W w') :
    Calls Tryz.prog 37 #[v, .func (.func F) #[] #[]] w fun e w' => e = .returned (.bool (!l.all p)) ∧ Below w.heap.size w w' := by
  have Q := Lib.hid (IndexDl F hE p l v w hv hc)
  obtain ⟨ao, cap, rfl, _, _⟩ := hv.form
  clear hv hc
  go_enter Tryz.func37, Tryz.ntmps37
  go_wp2_with fail
  refine Q.out.mono ?_
  rintro e w1 ⟨n, rfl, hn, b1⟩
  have HN := Lib.hid hn
  have HB := Lib.hid b1
  clear hn b1 Q
  go_wp2_with fail
  go_ret
  exact ⟨ret_bool (by rw [← HN.out]; try rfl), HB.out⟩
set_option maxHeartbeats 400000 in
theorem DMay_v (l : List Wn.Dl) (v : Value) (w : World) (ht : Tab w) (hv : dlK.P w (fun _ => True) v l) (hd : ∀ d ∈ l, DFit d) :
    Calls Tryz.prog 17 #[v] w fun e w' => e = .returned (.bool (Wn.mayD l)) ∧ Below w.heap.size w w' := by
  have Q := Lib.hid (ContainsDl 38 enters_May1 Wn.mayOne l v w hv (fun x hm cs W hW hR => by
    obtain ⟨u, rfl, hu⟩ := hR
    exact May1_v x u W (ht.below hW) hu (hd x hm)))
  obtain ⟨ao, cap, rfl, _, _⟩ := hv.form
  clear hv hd ht
  unfold Wn.mayD
  generalize l.all Wn.mayOne = R at *
  go_enter Tryz.func17, Tryz.ntmps17
  go_wp2_with fail
  refine Q.out.mono ?_
  rintro e w1 ⟨rfl, b1⟩
  have HB1 := Lib.hid b1
  clear b1 Q
  go_wp2_with fail
  go_ret
  exact ⟨ret_bool (by simp), HB1.out⟩
end Go.Proofs.YtjlejiphpbaonaaGreatDoor
set_option linter.unusedVariables false
set_option linter.unusedSimpArgs false
set_option maxRecDepth 20000
namespace Go.Proofs.YtjlejiphpbaonaaGreatDoor
open Go.RowKit Go.Sort
set_option maxRecDepth 100000 in
set_option maxHeartbeats 1000000 in
theorem sameDecl_v (x y : Wn.Dl) (u u' : Value) (w : World) (hu : Vals w u x.2.1) (hu' : Vals w u' y.2.1) :
    Calls Tryz.prog 46 #[.agg #[.string (Wn.str x.1), u, .bool x.2.2], .agg #[.string (Wn.str y.1), u', .bool y.2.2]] w fun e w' => e = .returned (.bool (decide (x = y))) ∧ Below w.heap.size w w' := by
  obtain ⟨uo, uc, rfl, _, _⟩ := hu.form
  obtain ⟨vo, vc, rfl, _, _⟩ := hu'.form
  have e := Wn.dl_eq x y
  rw [e]
  clear e
  have HB : Hid (Below w.heap.size w ((w.alloc (.cells #[.string (Wn.str x.1), .slice uo x.2.1.len uc, .bool x.2.2] 44)).alloc (.cells #[.string (Wn.str y.1), .slice vo y.2.1.len vc, .bool y.2.2] 44))) := Lib.hid (((Below.refl _ _).alloc (Nat.le_refl _) _).alloc (by simp) _)
  have QE := Lib.hid (NSame_any _ _ x.2.1 y.2.1 _ (ValsP.below hu HB.out) (ValsP.below hu' HB.out))
  have hs1 := str_list x.1
  have hs2 := str_list y.1
  clear hu hu'
  generalize decide (x.2.1 = y.2.1) = R at *
  generalize x.2.1.len = ln at *
  generalize y.2.1.len = lm at *
  obtain ⟨xn, xf, xb⟩ := x
  obtain ⟨yn, yf, yb⟩ := y
  dsimp only at *
  generalize Wn.str xn = p1 at *
  generalize Wn.str yn = p2 at *
  subst hs1 hs2
  cases h0 : (p1.toList == p2.toList)
  · go_enter Tryz.func46, Tryz.ntmps46
    go_wp2_with fail
    go_ret
    exact ⟨ret_bool (by simp), HB.out⟩
  · cases h1 : (xb == yb)
    · go_enter Tryz.func46, Tryz.ntmps46
      go_wp2_with fail
      go_ret
      exact ⟨ret_bool (by simp), HB.out⟩
    · go_enter Tryz.func46, Tryz.ntmps46
      go_wp2_with fail
      refine QE.out.mono ?_
      rintro e w2 ⟨rfl, b2⟩
      have HB2 := Lib.hid (HB.out.trans (b2.mono HB.out.size)); clear b2
      go_wp2_with fail
      go_ret
      exact ⟨ret_bool (by simp), HB2.out⟩
set_option maxRecDepth 100000 in
set_option maxHeartbeats 2000000 in
theorem EqualDl (F : Nat) (hE : EntersD F) (l m : List Wn.Dl) (v u : Value) (w : World) (hv : dlK.P w (fun _ => True) v l) (hu : dlK.P w (fun _ => True) u m)
    (hc : ∀ x ∈ l, ∀ y cs ds W, dlK.R W (fun _ => True) cs x → dlK.R W (fun _ => True) ds y → Calls Tryz.prog F #[.agg cs.toArray, .agg ds.toArray] W fun e w' => e = .returned (.bool (decide (x = y))) ∧ Below W.heap.size W w') :
    Calls Tryz.prog 45 #[v, u, .func (.func F) #[] #[]] w fun e w' => e = .returned (.bool (decide (l = m))) ∧ Below w.heap.size w w' := by
  have HV := Lib.hid hv
  have HU := Lib.hid hu
  obtain ⟨ao, cap, rfl, c1, c2⟩ := hv.form
  obtain ⟨bo, cbp, rfl, d1, d2⟩ := hu.form
  unfold maxLen at c2 d2
  have HC := Lib.hid hc
  clear hv hu hc
  by_cases hlen : l.length = m.length
  · have HLN := Lib.hid hlen
    rw [← hlen] at d1 ⊢
    have HU' : Hid ((dlK).P w (fun _ => True) (.slice bo l.length cbp) m) := Lib.hid (by rw [hlen]; exact HU.out)
    clear hlen HU
    generalize hR : decide (l = m) = R
    have HR0 : Hid (R = decide (l.drop 0 = m.drop 0)) := Lib.hid hR.symm
    clear hR
    go_enter Tryz.func45, Tryz.ntmps45
    go_wp2_with fail
    go_loopw [17] (fun v17 wr => ∃ i : Nat, i ≤ l.length ∧ v17 = .int .i64 (i : Int) ∧ Hid (R = decide (l.drop i = m.drop i)) ∧ Hid (Below w.heap.size w wr)) (fun v17 _ => l.length - (intOf v17).toNat)
    case atStart => exact ⟨0, Nat.zero_le _, rfl, HR0, Lib.hid (Below.refl _ _)⟩
    case round =>
      clear HR0
      obtain ⟨i, hi, rfl, HR, HB⟩ := hrel
      by_cases hil : i < l.length
      · have hiv : (i : Int) < (l.length : Int) := by omega
        have him : i < m.length := by rw [← HLN.out]; exact hil
        have hx : l[i]? = some l[i] := List.getElem?_eq_getElem hil
        have hy : m[i]? = some m[i] := List.getElem?_eq_getElem him
        have hdx : l.drop i = l[i] :: l.drop (i + 1) := List.drop_eq_getElem_cons hil
        have hdy : m.drop i = m[i] :: m.drop (i + 1) := List.drop_eq_getElem_cons him
        have hmem : l[i] ∈ l := List.getElem_mem hil
        generalize l[i] = x at *
        generalize m[i] = y at *
        obtain ⟨b, o, cs, rfl, _, _, hRx, hLx⟩ := (HV.out.below HB.out).at hx
        obtain ⟨b', o', ds, rfl, _, _, hRy, hLy⟩ := (HU'.out.below HB.out).at hy
        (obtain ⟨xu, rfl, hxu⟩ := id hRx; obtain ⟨yu, rfl, hyu⟩ := id hRy; obtain ⟨xo, xc, rfl, _, _⟩ := hxu.form; obtain ⟨yo, yc, rfl, _, _⟩ := hyu.form; have x0 := hLx 0 _ rfl; have x1 := hLx 1 _ rfl; have x2 := hLx 2 _ rfl; have y0 := hLy 0 _ rfl; have y1 := hLy 1 _ rfl; have y2 := hLy 2 _ rfl; clear hxu hyu; simp only [show dlK.sz = 3 from rfl, Nat.add_zero] at x0 x1 x2 y0 y1 y2)
        have HR2 : Hid (R = (decide (x = y) && decide (l.drop (i + 1) = m.drop (i + 1)))) := Lib.hid (by rw [HR.out, hdx, hdy, Bool.eq_iff_iff]; simp)
        have QC := Lib.hid (fun W (hb : Below wr.heap.size wr W) => HC.out x hmem y _ _ W ((dlK).same (fun b _ hl => hb.block b hl) (fun _ h _ => h) hRx) ((dlK).same (fun b _ hl => hb.block b hl) (fun _ h _ => h) hRy))
        clear hx hy hdx hdy hmem hRx hRy hLx hLy HR
        go_wp2_with fail
        rw [hE, Oper.upon_enter]
        refine (QC.out _ (((Below.refl _ _).alloc (Nat.le_refl _) _).alloc (by simp) _)).mono ?_
        rintro e w5 ⟨rfl, b5⟩
        have HB5 : Hid (Below w.heap.size w w5) := Lib.hid (HB.out.trans (((((Below.refl wr.heap.size wr).alloc (Nat.le_refl _) _).alloc (by simp) _).trans (b5.mono (by simp; omega))).mono HB.out.size))
        clear b5 QC HB
        cases hd : decide (x = y)
        · have HE : Hid (R = false) := Lib.hid (by rw [HR2.out, hd]; rfl)
          go_wp2_with fail
          go_ret
          exact ⟨ret_bool HE.out.symm, HB5.out⟩
        · have HE : Hid (R = decide (l.drop (i + 1) = m.drop (i + 1))) := Lib.hid (by rw [HR2.out, hd]; rfl)
          go_wp2_with fail
          exact ⟨⟨i + 1, by omega, by go_num, HE, HB5⟩, by simp [intOf]; omega⟩
      · have HE : Hid (R = true) := Lib.hid (by rw [HR.out, List.drop_of_length_le (by omega), List.drop_of_length_le (by rw [← HLN.out]; omega)]; simp)
        have hiv : ¬ (i : Int) < (l.length : Int) := by omega
        go_wp2_with fail
        go_ret
        exact ⟨ret_bool HE.out.symm, HB.out⟩
  · have hne : ((l.length : Int) != (m.length : Int)) = true := by simp; omega
    have HE : Hid (decide (l = m) = false) := Lib.hid (decide_eq_false (fun e => hlen (by rw [e])))
    clear hlen
    go_enter Tryz.func45, Tryz.ntmps45
    go_wp2_with fail
    go_ret
    exact ⟨ret_bool HE.out.symm, Below.refl _ _⟩
set_option maxHeartbeats 400000 in
theorem DSame_v (l m : List Wn.Dl) (v u : Value) (w : World) (hv : dlK.P w (fun _ => True) v l) (hu : dlK.P w (fun _ => True) u m) :
    Calls Tryz.prog 21 #[v, u] w fun e w' => e = .returned (.bool (decide (l = m))) ∧ Below w.heap.size w w' := by
  have Q := Lib.hid (EqualDl 46 (enters_ofD Tryz.func46 (by kernel_rfl) rfl) l m v u w hv hu (fun z hz z' cs ds W hcs hds => by
    obtain ⟨a, rfl, ha⟩ := hcs
    obtain ⟨b, rfl, hb⟩ := hds
    exact sameDecl_v z z' a b W ha hb))
  obtain ⟨ao, cap, rfl, _, _⟩ := hv.form
  obtain ⟨bo, cbp, rfl, _, _⟩ := hu.form
  clear hv hu
  generalize decide (l = m) = R at *
  go_enter Tryz.func21, Tryz.ntmps21
  go_wp2_with fail
  refine Q.out.mono ?_
  rintro e w1 ⟨rfl, b1⟩
  have HB1 := Lib.hid b1
  clear b1 Q
  go_wp2_with fail
  go_ret
  exact ⟨rfl, HB1.out⟩
end Go.Proofs.YtjlejiphpbaonaaGreatDoor
