/- What sels.Same answers. What validFields and meantOf answer. What validFields answers. -/
import Derived.Test.YtncknaagbafhhaaGreatDoorHH
import Derived.Test.YtncknaagbafhhaaGreatDoorGF
import Derived.Lib.QuietBelow
set_option linter.unusedVariables false
set_option linter.unusedSimpArgs false
set_option maxRecDepth 20000
namespace Go.Proofs.YtncknaagbafhhaaGreatDoor
open Go.RowKit Go.Sort
set_option maxRecDepth 100000 in
set_option maxHeartbeats 2000000 in
theorem EqualSm (F : Nat) (hE : Enters F) (l m : List Wn.Sm) (v u : Value) (w : World) (hv : smK.P w (fun _ => True) v l) (hu : smK.P w (fun _ => True) u m)
    (hc : ∀ x ∈ l, ∀ y cs ds W, smK.R W (fun _ => True) cs x → smK.R W (fun _ => True) ds y → Calls Tryz.prog F #[.agg cs.toArray, .agg ds.toArray] W fun e w' => e = .returned (.bool (decide (x = y))) ∧ Below W.heap.size W w') :
    Calls Tryz.prog 142 #[v, u, .func (.func F) #[] #[]] w fun e w' => e = .returned (.bool (decide (l = m))) ∧ Below w.heap.size w w' := by
  have HV := Lib.hid hv
  have HU := Lib.hid hu
  obtain ⟨ao, cap, rfl, c1, c2⟩ := hv.form
  obtain ⟨bo, cbp, rfl, d1, d2⟩ := hu.form
  unfold maxLen at c2 d2
  have HC := Lib.hid hc
  clear hv hu hc
  by_cases hlen : l.length = m.length
  · have HLN := Lib.hid hlen
    rw [← hlen] at d1 ⊢
    have HU' : Hid ((smK).P w (fun _ => True) (.slice bo l.length cbp) m) := Lib.hid (by rw [hlen]; exact HU.out)
    clear hlen HU
    generalize hR : decide (l = m) = R
    have HR0 : Hid (R = decide (l.drop 0 = m.drop 0)) := Lib.hid hR.symm
    clear hR
    go_enter Tryz.func142, Tryz.ntmps142
    go_wp2_with fail
    go_loopw [17] (fun v17 wr => ∃ i : Nat, i ≤ l.length ∧ v17 = .int .i64 (i : Int) ∧ Hid (R = decide (l.drop i = m.drop i)) ∧ Hid (Below w.heap.size w wr)) (fun v17 _ => l.length - (intOf v17).toNat)
    case atStart => exact ⟨0, Nat.zero_le _, rfl, HR0, Lib.hid (Below.refl _ _)⟩
    case round =>
      clear HR0
      obtain ⟨i, hi, rfl, HR, HB⟩ := hrel
      by_cases hil : i < l.length
      · have hiv : (i : Int) < (l.length : Int) := by omega
        have him : i < m.length := by rw [← HLN.out]; exact hil
        have hx : l[i]? = some l[i] := List.getElem?_eq_getElem hil
        have hy : m[i]? = some m[i] := List.getElem?_eq_getElem him
        have hdx : l.drop i = l[i] :: l.drop (i + 1) := List.drop_eq_getElem_cons hil
        have hdy : m.drop i = m[i] :: m.drop (i + 1) := List.drop_eq_getElem_cons him
        have hmem : l[i] ∈ l := List.getElem_mem hil
        generalize l[i] = x at *
        generalize m[i] = y at *
        obtain ⟨b, o, cs, rfl, _, _, hRx, hLx⟩ := (HV.out.below HB.out).at hx
        obtain ⟨b', o', ds, rfl, _, _, hRy, hLy⟩ := (HU'.out.below HB.out).at hy
        (obtain ⟨xu, rfl, hxu⟩ := id hRx; obtain ⟨yu, rfl, hyu⟩ := id hRy; obtain ⟨xo, xc, rfl, _, _⟩ := hxu.form; obtain ⟨yo, yc, rfl, _, _⟩ := hyu.form; have x0 := hLx 0 _ rfl; have x1 := hLx 1 _ rfl; have x2 := hLx 2 _ rfl; have x3 := hLx 3 _ rfl; have x4 := hLx 4 _ rfl; have x5 := hLx 5 _ rfl; have y0 := hLy 0 _ rfl; have y1 := hLy 1 _ rfl; have y2 := hLy 2 _ rfl; have y3 := hLy 3 _ rfl; have y4 := hLy 4 _ rfl; have y5 := hLy 5 _ rfl; clear hxu hyu; simp only [show smK.sz = 6 from rfl, Nat.add_zero] at x0 x1 x2 x3 x4 x5 y0 y1 y2 y3 y4 y5)
        have HR2 : Hid (R = (decide (x = y) && decide (l.drop (i + 1) = m.drop (i + 1)))) := Lib.hid (by rw [HR.out, hdx, hdy, Bool.eq_iff_iff]; simp)
        have QC := Lib.hid (fun W (hb : Below wr.heap.size wr W) => HC.out x hmem y _ _ W ((smK).same (fun b _ hl => hb.block b hl) (fun _ h _ => h) hRx) ((smK).same (fun b _ hl => hb.block b hl) (fun _ h _ => h) hRy))
        clear hx hy hdx hdy hmem hRx hRy hLx hLy HR
        go_wp2_with fail
        rw [hE, Oper.upon_enter]
        refine (QC.out _ (((Below.refl _ _).alloc (Nat.le_refl _) _).alloc (by simp) _)).mono ?_
        rintro e w5 ⟨rfl, b5⟩
        have HB5 : Hid (Below w.heap.size w w5) := Lib.hid (HB.out.trans (((((Below.refl wr.heap.size wr).alloc (Nat.le_refl _) _).alloc (by simp) _).trans (b5.mono (by simp; omega))).mono HB.out.size))
        clear b5 QC HB
        cases hd : decide (x = y)
        · have HE : Hid (R = false) := Lib.hid (by rw [HR2.out, hd]; rfl)
          go_wp2_with fail
          go_ret
          exact ⟨ret_bool HE.out.symm, HB5.out⟩
        · have HE : Hid (R = decide (l.drop (i + 1) = m.drop (i + 1))) := Lib.hid (by rw [HR2.out, hd]; rfl)
          go_wp2_with fail
          exact ⟨⟨i + 1, by omega, by go_num, HE, HB5⟩, by simp [intOf]; omega⟩
      · have HE : Hid (R = true) := Lib.hid (by rw [HR.out, List.drop_of_length_le (by omega), List.drop_of_length_le (by rw [← HLN.out]; omega)]; simp)
        have hiv : ¬ (i : Int) < (l.length : Int) := by omega
        go_wp2_with fail
        go_ret
        exact ⟨ret_bool HE.out.symm, HB.out⟩
  · have hne : ((l.length : Int) != (m.length : Int)) = true := by simp; omega
    have HE : Hid (decide (l = m) = false) := Lib.hid (decide_eq_false (fun e => hlen (by rw [e])))
    clear hlen
    go_enter Tryz.func142, Tryz.ntmps142
    go_wp2_with fail
    go_ret
    exact ⟨ret_bool HE.out.symm, Below.refl _ _⟩
/-- what sameSimple answers -/
def SmSaid (x : Wn.Sm) : Prop := ∀ (y : Wn.Sm) (u u' : Value) (w : World), SsP w (fun _ => True) u x.l → SsP w (fun _ => True) u' y.l → Calls Tryz.prog 143 #[smV x u, smV y u'] w fun e w' => e = .returned (.bool (decide (x = y))) ∧ Below w.heap.size w w'
theorem SsP.below {w w' : World} {ok : Nat → Prop} {v : Value} {f : Wn.Ss} (h : SsP w ok v f) (hb : Below w.heap.size w w') : SsP w' ok v f := h.same (fun b _ hl => hb.block b hl) (fun _ h _ => h)
theorem sm_eq (x y : Wn.Sm) : decide (x = y) = ((x.k == y.k) && ((x.n == y.n) && ((x.v == y.v) && ((x.a == y.a) && ((x.b == y.b) && decide (x.l.toL = y.l.toL)))))) := by
  cases x; cases y
  rw [Bool.eq_iff_iff]
  simp [Wn.Ss.toL_inj]
set_option maxRecDepth 100000 in
set_option maxHeartbeats 2000000 in
theorem sameSimple_step (x : Wn.Sm) (IH : ∀ z ∈ x.l.toL, SmSaid z) : SmSaid x := by
  intro y u u' w hu hu'
  have hE : Enters 143 := enters_of Tryz.func143 (by kernel_rfl) rfl
  obtain ⟨uo, uc, rfl, _, _⟩ := hu.form
  obtain ⟨vo, vc, rfl, _, _⟩ := hu'.form
  have e := sm_eq x y
  rw [e]
  clear e
  unfold smV
  have HB : Hid (Below w.heap.size w ((w.alloc (.cells #[.int .i64 x.k, .string (Wn.str x.n), .string (Wn.str x.v), .int .i64 x.a, .int .i64 x.b, .slice uo x.l.len uc] 51)).alloc (.cells #[.int .i64 y.k, .string (Wn.str y.n), .string (Wn.str y.v), .int .i64 y.a, .int .i64 y.b, .slice vo y.l.len vc] 51))) := Lib.hid (((Below.refl _ _).alloc (Nat.le_refl _) _).alloc (by simp) _)
  have QE := Lib.hid (EqualSm 143 hE x.l.toL y.l.toL (.slice uo x.l.len uc) (.slice vo y.l.len vc) _ (SsP.k.1 (hu.below HB.out)) (SsP.k.1 (hu'.below HB.out)) (fun z hz z' cs ds W hcs hds => by
    obtain ⟨a, rfl, ha⟩ := hcs
    obtain ⟨b, rfl, hb⟩ := hds
    exact IH z hz z' a b W ha hb))
  have hs1 := str_list x.n
  have hs2 := str_list y.n
  have hs3 := str_list x.v
  have hs4 := str_list y.v
  clear hu hu' IH
  generalize decide (x.l.toL = y.l.toL) = R at *
  generalize x.l.len = ln at *
  generalize y.l.len = lm at *
  obtain ⟨xk, xn, xv, xa, xb, xl⟩ := x
  obtain ⟨yk, yn, yv, ya, yb, yl⟩ := y
  dsimp only at *
  generalize Wn.str xn = p1 at *
  generalize Wn.str yn = p2 at *
  generalize Wn.str xv = p3 at *
  generalize Wn.str yv = p4 at *
  subst hs1 hs2 hs3 hs4
  cases h0 : (xk == yk)
  · go_enter Tryz.func143, Tryz.ntmps143
    go_wp2_with fail
    go_ret
    exact ⟨ret_bool (by simp), HB.out⟩
  · cases h1 : (p1.toList == p2.toList)
    · go_enter Tryz.func143, Tryz.ntmps143
      go_wp2_with fail
      go_ret
      exact ⟨ret_bool (by simp), HB.out⟩
    · cases h2 : (p3.toList == p4.toList)
      · go_enter Tryz.func143, Tryz.ntmps143
        go_wp2_with fail
        go_ret
        exact ⟨ret_bool (by simp), HB.out⟩
      · cases h3 : (xa == ya)
        · go_enter Tryz.func143, Tryz.ntmps143
          go_wp2_with fail
          go_ret
          exact ⟨ret_bool (by simp), HB.out⟩
        · cases h4 : (xb == yb)
          · go_enter Tryz.func143, Tryz.ntmps143
            go_wp2_with fail
            go_ret
            exact ⟨ret_bool (by simp), HB.out⟩
          · go_enter Tryz.func143, Tryz.ntmps143
            go_wp2_with fail
            refine QE.out.mono ?_
            rintro e w2 ⟨rfl, b2⟩
            have HB2 := Lib.hid (HB.out.trans (b2.mono HB.out.size)); clear b2
            go_wp2_with fail
            go_ret
            exact ⟨ret_bool (by simp), HB2.out⟩
theorem toL_size : ∀ {f : Wn.Ss} {z : Wn.Sm}, z ∈ f.toL → z.l.size < f.size
  | .nil, z, h => by simp [Wn.Ss.toL] at h
  | .cons k n v a b x r, z, h => by
    simp only [Wn.Ss.toL, List.mem_cons] at h
    simp only [Wn.Ss.size]
    rcases h with rfl | h
    · simp only; omega
    · have := toL_size h; omega
theorem sameSimple_all : ∀ (n : Nat) (x : Wn.Sm), x.l.size < n → SmSaid x
  | 0, x, h => by omega
  | n + 1, x, h => sameSimple_step x (fun z hz => sameSimple_all n z (by have := toL_size hz; omega))
theorem sameSimple_v (x : Wn.Sm) : SmSaid x := sameSimple_all (x.l.size + 1) x (Nat.lt_succ_self _)
theorem EqualSm_v (l m : List Wn.Sm) (v u : Value) (w : World) (hv : smK.P w (fun _ => True) v l) (hu : smK.P w (fun _ => True) u m) :
    Calls Tryz.prog 142 #[v, u, .func (.func 143) #[] #[]] w fun e w' => e = .returned (.bool (decide (l = m))) ∧ Below w.heap.size w w' :=
  EqualSm 143 (enters_of Tryz.func143 (by kernel_rfl) rfl) l m v u w hv hu (fun z hz z' cs ds W hcs hds => by
    obtain ⟨a, rfl, ha⟩ := hcs
    obtain ⟨b, rfl, hb⟩ := hds
    exact sameSimple_v z z' a b W ha hb)
set_option maxRecDepth 100000 in
set_option maxHeartbeats 1000000 in
theorem samePart_v (x y : Int × List Wn.Sm) (u u' : Value) (w : World) (hu : smK.P w (fun _ => True) u x.2) (hu' : smK.P w (fun _ => True) u' y.2) :
    Calls Tryz.prog 93 #[.agg #[.int .i64 x.1, u], .agg #[.int .i64 y.1, u']] w fun e w' => e = .returned (.bool (decide (x = y))) ∧ Below w.heap.size w w' := by
  obtain ⟨uo, uc, rfl, _, _⟩ := hu.form
  obtain ⟨vo, vc, rfl, _, _⟩ := hu'.form
  have e : decide (x = y) = ((x.1 == y.1) && decide (x.2 = y.2)) := by cases x; cases y; rw [Bool.eq_iff_iff]; simp
  rw [e]
  clear e
  have HB : Hid (Below w.heap.size w ((w.alloc (.cells #[.int .i64 x.1, .slice uo x.2.length uc] 49)).alloc (.cells #[.int .i64 y.1, .slice vo y.2.length vc] 49))) := Lib.hid (((Below.refl _ _).alloc (Nat.le_refl _) _).alloc (by simp) _)
  have QE := Lib.hid (EqualSm_v x.2 y.2 (.slice uo x.2.length uc) (.slice vo y.2.length vc) _ (hu.below HB.out) (hu'.below HB.out))
  clear hu hu'
  generalize decide (x.2 = y.2) = R at *
  generalize x.2.length = ln at *
  generalize y.2.length = lm at *
  generalize x.1 = xk at *
  generalize y.1 = yk at *
  cases h0 : (xk == yk)
  · go_enter Tryz.func93, Tryz.ntmps93
    go_wp2_with fail
    go_ret
    exact ⟨ret_bool (by simp), HB.out⟩
  · go_enter Tryz.func93, Tryz.ntmps93
    go_wp2_with fail
    refine QE.out.mono ?_
    rintro e w2 ⟨rfl, b2⟩
    have HB2 := Lib.hid (HB.out.trans (b2.mono HB.out.size)); clear b2
    go_wp2_with fail
    go_ret
    exact ⟨ret_bool (by simp), HB2.out⟩
set_option maxRecDepth 100000 in
set_option maxHeartbeats 2000000 in
theorem EqualPt (F : Nat) (hE : Enters F) (l m : List (Int × List Wn.Sm)) (v u : Value) (w : World) (hv : ptK.P w (fun _ => True) v l) (hu : ptK.P w (fun _ => True) u m)
    (hc : ∀ x ∈ l, ∀ y cs ds W, ptK.R W (fun _ => True) cs x → ptK.R W (fun _ => True) ds y → Calls Tryz.prog F #[.agg cs.toArray, .agg ds.toArray] W fun e w' => e = .returned (.bool (decide (x = y))) ∧ Below W.heap.size W w') :
    Calls Tryz.prog 92 #[v, u, .func (.func F) #[] #[]] w fun e w' => e = .returned (.bool (decide (l = m))) ∧ Below w.heap.size w w' := by
  have HV := Lib.hid hv
  have HU := Lib.hid hu
  obtain ⟨ao, cap, rfl, c1, c2⟩ := hv.form
  obtain ⟨bo, cbp, rfl, d1, d2⟩ := hu.form
  unfold maxLen at c2 d2
  have HC := Lib.hid hc
  clear hv hu hc
  by_cases hlen : l.length = m.length
  · have HLN := Lib.hid hlen
    rw [← hlen] at d1 ⊢
    have HU' : Hid ((ptK).P w (fun _ => True) (.slice bo l.length cbp) m) := Lib.hid (by rw [hlen]; exact HU.out)
    clear hlen HU
    generalize hR : decide (l = m) = R
    have HR0 : Hid (R = decide (l.drop 0 = m.drop 0)) := Lib.hid hR.symm
    clear hR
    go_enter Tryz.func92, Tryz.ntmps92
    go_wp2_with fail
    go_loopw [17] (fun v17 wr => ∃ i : Nat, i ≤ l.length ∧ v17 = .int .i64 (i : Int) ∧ Hid (R = decide (l.drop i = m.drop i)) ∧ Hid (Below w.heap.size w wr)) (fun v17 _ => l.length - (intOf v17).toNat)
    case atStart => exact ⟨0, Nat.zero_le _, rfl, HR0, Lib.hid (Below.refl _ _)⟩
    case round =>
      clear HR0
      obtain ⟨i, hi, rfl, HR, HB⟩ := hrel
      by_cases hil : i < l.length
      · have hiv : (i : Int) < (l.length : Int) := by omega
        have him : i < m.length := by rw [← HLN.out]; exact hil
        have hx : l[i]? = some l[i] := List.getElem?_eq_getElem hil
        have hy : m[i]? = some m[i] := List.getElem?_eq_getElem him
        have hdx : l.drop i = l[i] :: l.drop (i + 1) := List.drop_eq_getElem_cons hil
        have hdy : m.drop i = m[i] :: m.drop (i + 1) := List.drop_eq_getElem_cons him
        have hmem : l[i] ∈ l := List.getElem_mem hil
        generalize l[i] = x at *
        generalize m[i] = y at *
        obtain ⟨b, o, cs, rfl, _, _, hRx, hLx⟩ := (HV.out.below HB.out).at hx
        obtain ⟨b', o', ds, rfl, _, _, hRy, hLy⟩ := (HU'.out.below HB.out).at hy
        (obtain ⟨xu, rfl, hxu⟩ := id hRx; obtain ⟨yu, rfl, hyu⟩ := id hRy; obtain ⟨xo, xc, rfl, _, _⟩ := hxu.form; obtain ⟨yo, yc, rfl, _, _⟩ := hyu.form; have x0 := hLx 0 _ rfl; have x1 := hLx 1 _ rfl; have y0 := hLy 0 _ rfl; have y1 := hLy 1 _ rfl; clear hxu hyu; simp only [show ptK.sz = 2 from rfl, Nat.add_zero] at x0 x1 y0 y1)
        have HR2 : Hid (R = (decide (x = y) && decide (l.drop (i + 1) = m.drop (i + 1)))) := Lib.hid (by rw [HR.out, hdx, hdy, Bool.eq_iff_iff]; simp)
        have QC := Lib.hid (fun W (hb : Below wr.heap.size wr W) => HC.out x hmem y _ _ W ((ptK).same (fun b _ hl => hb.block b hl) (fun _ h _ => h) hRx) ((ptK).same (fun b _ hl => hb.block b hl) (fun _ h _ => h) hRy))
        clear hx hy hdx hdy hmem hRx hRy hLx hLy HR
        go_wp2_with fail
        rw [hE, Oper.upon_enter]
        refine (QC.out _ (((Below.refl _ _).alloc (Nat.le_refl _) _).alloc (by simp) _)).mono ?_
        rintro e w5 ⟨rfl, b5⟩
        have HB5 : Hid (Below w.heap.size w w5) := Lib.hid (HB.out.trans (((((Below.refl wr.heap.size wr).alloc (Nat.le_refl _) _).alloc (by simp) _).trans (b5.mono (by simp; omega))).mono HB.out.size))
        clear b5 QC HB
        cases hd : decide (x = y)
        · have HE : Hid (R = false) := Lib.hid (by rw [HR2.out, hd]; rfl)
          go_wp2_with fail
          go_ret
          exact ⟨ret_bool HE.out.symm, HB5.out⟩
        · have HE : Hid (R = decide (l.drop (i + 1) = m.drop (i + 1))) := Lib.hid (by rw [HR2.out, hd]; rfl)
          go_wp2_with fail
          exact ⟨⟨i + 1, by omega, by go_num, HE, HB5⟩, by simp [intOf]; omega⟩
      · have HE : Hid (R = true) := Lib.hid (by rw [HR.out, List.drop_of_length_le (by omega), List.drop_of_length_le (by rw [← HLN.out]; omega)]; simp)
        have hiv : ¬ (i : Int) < (l.length : Int) := by omega
        go_wp2_with fail
        go_ret
        exact ⟨ret_bool HE.out.symm, HB.out⟩
  · have hne : ((l.length : Int) != (m.length : Int)) = true := by simp; omega
    have HE : Hid (decide (l = m) = false) := Lib.hid (decide_eq_false (fun e => hlen (by rw [e])))
    clear hlen
    go_enter Tryz.func92, Tryz.ntmps92
    go_wp2_with fail
    go_ret
    exact ⟨ret_bool HE.out.symm, Below.refl _ _⟩
set_option maxRecDepth 100000 in
set_option maxHeartbeats 2000000 in
theorem EqualCx (F : Nat) (hE : Enters F) (l m : List Wn.Cx) (v u : Value) (w : World) (hv : cxK.P w (fun _ => True) v l) (hu : cxK.P w (fun _ => True) u m)
    (hc : ∀ x ∈ l, ∀ y cs ds W, cxK.R W (fun _ => True) cs x → cxK.R W (fun _ => True) ds y → Calls Tryz.prog F #[.agg cs.toArray, .agg ds.toArray] W fun e w' => e = .returned (.bool (decide (x = y))) ∧ Below W.heap.size W w') :
    Calls Tryz.prog 55 #[v, u, .func (.func F) #[] #[]] w fun e w' => e = .returned (.bool (decide (l = m))) ∧ Below w.heap.size w w' := by
  have HV := Lib.hid hv
  have HU := Lib.hid hu
  obtain ⟨ao, cap, rfl, c1, c2⟩ := hv.form
  obtain ⟨bo, cbp, rfl, d1, d2⟩ := hu.form
  unfold maxLen at c2 d2
  have HC := Lib.hid hc
  clear hv hu hc
  by_cases hlen : l.length = m.length
  · have HLN := Lib.hid hlen
    rw [← hlen] at d1 ⊢
    have HU' : Hid ((cxK).P w (fun _ => True) (.slice bo l.length cbp) m) := Lib.hid (by rw [hlen]; exact HU.out)
    clear hlen HU
    generalize hR : decide (l = m) = R
    have HR0 : Hid (R = decide (l.drop 0 = m.drop 0)) := Lib.hid hR.symm
    clear hR
    go_enter Tryz.func55, Tryz.ntmps55
    go_wp2_with fail
    go_loopw [17] (fun v17 wr => ∃ i : Nat, i ≤ l.length ∧ v17 = .int .i64 (i : Int) ∧ Hid (R = decide (l.drop i = m.drop i)) ∧ Hid (Below w.heap.size w wr)) (fun v17 _ => l.length - (intOf v17).toNat)
    case atStart => exact ⟨0, Nat.zero_le _, rfl, HR0, Lib.hid (Below.refl _ _)⟩
    case round =>
      clear HR0
      obtain ⟨i, hi, rfl, HR, HB⟩ := hrel
      by_cases hil : i < l.length
      · have hiv : (i : Int) < (l.length : Int) := by omega
        have him : i < m.length := by rw [← HLN.out]; exact hil
        have hx : l[i]? = some l[i] := List.getElem?_eq_getElem hil
        have hy : m[i]? = some m[i] := List.getElem?_eq_getElem him
        have hdx : l.drop i = l[i] :: l.drop (i + 1) := List.drop_eq_getElem_cons hil
        have hdy : m.drop i = m[i] :: m.drop (i + 1) := List.drop_eq_getElem_cons him
        have hmem : l[i] ∈ l := List.getElem_mem hil
        generalize l[i] = x at *
        generalize m[i] = y at *
        obtain ⟨b, o, cs, rfl, _, _, hRx, hLx⟩ := (HV.out.below HB.out).at hx
        obtain ⟨b', o', ds, rfl, _, _, hRy, hLy⟩ := (HU'.out.below HB.out).at hy
        (obtain ⟨xu, rfl, hxu⟩ := id hRx; obtain ⟨yu, rfl, hyu⟩ := id hRy; obtain ⟨xo, xc, rfl, _, _⟩ := hxu.form; obtain ⟨yo, yc, rfl, _, _⟩ := hyu.form; have x0 := hLx 0 _ rfl; have x1 := hLx 1 _ rfl; have y0 := hLy 0 _ rfl; have y1 := hLy 1 _ rfl; clear hxu hyu; simp only [show cxK.sz = 2 from rfl, Nat.add_zero] at x0 x1 y0 y1)
        have HR2 : Hid (R = (decide (x = y) && decide (l.drop (i + 1) = m.drop (i + 1)))) := Lib.hid (by rw [HR.out, hdx, hdy, Bool.eq_iff_iff]; simp)
        have QC := Lib.hid (fun W (hb : Below wr.heap.size wr W) => HC.out x hmem y _ _ W ((cxK).same (fun b _ hl => hb.block b hl) (fun _ h _ => h) hRx) ((cxK).same (fun b _ hl => hb.block b hl) (fun _ h _ => h) hRy))
        clear hx hy hdx hdy hmem hRx hRy hLx hLy HR
        go_wp2_with fail
        rw [hE, Oper.upon_enter]
        refine (QC.out _ (((Below.refl _ _).alloc (Nat.le_refl _) _).alloc (by simp) _)).mono ?_
        rintro e w5 ⟨rfl, b5⟩
        have HB5 : Hid (Below w.heap.size w w5) := Lib.hid (HB.out.trans (((((Below.refl wr.heap.size wr).alloc (Nat.le_refl _) _).alloc (by simp) _).trans (b5.mono (by simp; omega))).mono HB.out.size))
        clear b5 QC HB
        cases hd : decide (x = y)
        · have HE : Hid (R = false) := Lib.hid (by rw [HR2.out, hd]; rfl)
          go_wp2_with fail
          go_ret
          exact ⟨ret_bool HE.out.symm, HB5.out⟩
        · have HE : Hid (R = decide (l.drop (i + 1) = m.drop (i + 1))) := Lib.hid (by rw [HR2.out, hd]; rfl)
          go_wp2_with fail
          exact ⟨⟨i + 1, by omega, by go_num, HE, HB5⟩, by simp [intOf]; omega⟩
      · have HE : Hid (R = true) := Lib.hid (by rw [HR.out, List.drop_of_length_le (by omega), List.drop_of_length_le (by rw [← HLN.out]; omega)]; simp)
        have hiv : ¬ (i : Int) < (l.length : Int) := by omega
        go_wp2_with fail
        go_ret
        exact ⟨ret_bool HE.out.symm, HB.out⟩
  · have hne : ((l.length : Int) != (m.length : Int)) = true := by simp; omega
    have HE : Hid (decide (l = m) = false) := Lib.hid (decide_eq_false (fun e => hlen (by rw [e])))
    clear hlen
    go_enter Tryz.func55, Tryz.ntmps55
    go_wp2_with fail
    go_ret
    exact ⟨ret_bool HE.out.symm, Below.refl _ _⟩
theorem EqualPt_v (l m : List (Int × List Wn.Sm)) (v u : Value) (w : World) (hv : ptK.P w (fun _ => True) v l) (hu : ptK.P w (fun _ => True) u m) :
    Calls Tryz.prog 92 #[v, u, .func (.func 93) #[] #[]] w fun e w' => e = .returned (.bool (decide (l = m))) ∧ Below w.heap.size w w' :=
  EqualPt 93 (enters_of Tryz.func93 (by kernel_rfl) rfl) l m v u w hv hu (fun z hz z' cs ds W hcs hds => by
    obtain ⟨a, rfl, ha⟩ := hcs
    obtain ⟨b, rfl, hb⟩ := hds
    exact samePart_v z z' a b W ha hb)
set_option maxRecDepth 100000 in
set_option maxHeartbeats 1000000 in
theorem sameComplex_v (x y : Wn.Cx) (u u' : Value) (w : World) (hu : ptK.P w (fun _ => True) u x.1) (hu' : ptK.P w (fun _ => True) u' y.1) :
    Calls Tryz.prog 56 #[.agg #[u, .string (Wn.str x.2)], .agg #[u', .string (Wn.str y.2)]] w fun e w' => e = .returned (.bool (decide (x = y))) ∧ Below w.heap.size w w' := by
  obtain ⟨uo, uc, rfl, _, _⟩ := hu.form
  obtain ⟨vo, vc, rfl, _, _⟩ := hu'.form
  have e : decide (x = y) = ((x.2 == y.2) && decide (x.1 = y.1)) := by cases x; cases y; rw [Bool.eq_iff_iff]; simp [and_comm]
  rw [e]
  clear e
  have HB : Hid (Below w.heap.size w ((w.alloc (.cells #[.slice uo x.1.length uc, .string (Wn.str x.2)] 46)).alloc (.cells #[.slice vo y.1.length vc, .string (Wn.str y.2)] 46))) := Lib.hid (((Below.refl _ _).alloc (Nat.le_refl _) _).alloc (by simp) _)
  have QE := Lib.hid (EqualPt_v x.1 y.1 (.slice uo x.1.length uc) (.slice vo y.1.length vc) _ (hu.below HB.out) (hu'.below HB.out))
  have hs1 := str_list x.2
  have hs2 := str_list y.2
  clear hu hu'
  generalize decide (x.1 = y.1) = R at *
  generalize x.1.length = ln at *
  generalize y.1.length = lm at *
  generalize x.2 = xk at *
  generalize y.2 = yk at *
  generalize Wn.str xk = p1 at *
  generalize Wn.str yk = p2 at *
  subst hs1 hs2
  cases h0 : (p1.toList == p2.toList)
  · go_enter Tryz.func56, Tryz.ntmps56
    go_wp2_with fail
    go_ret
    exact ⟨ret_bool (by simp), HB.out⟩
  · go_enter Tryz.func56, Tryz.ntmps56
    go_wp2_with fail
    refine QE.out.mono ?_
    rintro e w2 ⟨rfl, b2⟩
    have HB2 := Lib.hid (HB.out.trans (b2.mono HB.out.size)); clear b2
    go_wp2_with fail
    go_ret
    exact ⟨ret_bool (by simp), HB2.out⟩
theorem SSame_v (l m : List Wn.Cx) (v u : Value) (w : World) (hv : cxK.P w (fun _ => True) v l) (hu : cxK.P w (fun _ => True) u m) :
    Calls Tryz.prog 32 #[v, u] w fun e w' => e = .returned (.bool (decide (l = m))) ∧ Below w.heap.size w w' := by
  have QE := Lib.hid (EqualCx 56 (enters_of Tryz.func56 (by kernel_rfl) rfl) l m v u w hv hu (fun z hz z' cs ds W hcs hds => by
    obtain ⟨a, rfl, ha⟩ := hcs
    obtain ⟨b, rfl, hb⟩ := hds
    exact sameComplex_v z z' a b W ha hb))
  obtain ⟨uo, uc, rfl, _, _⟩ := hv.form
  obtain ⟨vo, vc, rfl, _, _⟩ := hu.form
  clear hv hu
  go_enter Tryz.func32, Tryz.ntmps32
  go_wp2_with fail
  refine QE.out.mono ?_
  rintro e w2 ⟨rfl, b2⟩
  have HB2 := Lib.hid b2; clear b2
  go_wp2_with fail
  go_ret
  exact ⟨rfl, HB2.out⟩
end Go.Proofs.YtncknaagbafhhaaGreatDoor
set_option linter.unusedVariables false
set_option linter.unusedSimpArgs false
set_option maxRecDepth 20000
namespace Wn
def meantS (x : Sm) : Sm :=
  if x.k = 2 ∨ x.k = 3 ∨ x.k = 4 ∨ x.k = 5 ∨ x.k = 7 then sNam x.k x.n
  else if x.k = 6 then ⟨6, x.n, x.v, 0, 0, .nil⟩ else if x.k = 8 then ⟨8, [], [], x.a, x.b, .nil⟩ else sBare x.k
def fieldsB (x : Sm) : Bool :=
  if x.k = 1 ∨ x.k = 9 ∨ x.k = 10 then true
  else if x.k = 2 then may (1, x.n, 0) && decide (low x.n = x.n)
  else if x.k = 3 then may (4, x.n, 0)
  else if x.k = 4 ∨ x.k = 5 then may (1, x.n, 0)
  else if x.k = 6 then may (1, x.n, 0) && (may (6, x.v, 34) || may (6, x.v, 39))
  else if x.k = 7 then isState x.n
  else if x.k = 8 then few x.a && few x.b
  else false
theorem mayPlain_eq (x : Sm) : mayPlain x = (decide (x = meantS x) && fieldsB x) := by
  unfold mayPlain meantS fieldsB
  by_cases h1 : x.k = 1
  · simp [h1]
  · by_cases h2 : x.k = 2
    · simp [h2, Bool.and_comm]
    · by_cases h3 : x.k = 3
      · simp [h3, Bool.and_comm]
      · by_cases h4 : x.k = 4
        · simp [h4, Bool.and_comm]
        · by_cases h5 : x.k = 5
          · simp [h5, Bool.and_comm]
          · by_cases h6 : x.k = 6
            · simp [h6, Bool.and_comm]
            · by_cases h7 : x.k = 7
              · simp [h7, Bool.and_comm]
              · by_cases h8 : x.k = 8
                · simp [h8, Bool.and_comm]
                · by_cases h9 : x.k = 9
                  · simp [h9]
                  · by_cases h10 : x.k = 10
                    · simp [h10]
                    · simp [h1, h2, h3, h4, h5, h6, h7, h8, h9, h10]
/-- no text is too long -/
def Ss.short : Ss → Prop
  | .nil => True
  | .cons _ n v _ _ x r => n.length ≤ 1048576 ∧ v.length ≤ 1048576 ∧ x.short ∧ r.short
def Sm.short (x : Sm) : Prop := x.n.length ≤ 1048576 ∧ x.v.length ≤ 1048576 ∧ x.l.short
theorem Ss.short_mem : ∀ {f : Ss} {z : Sm}, f.short → z ∈ f.toL → z.short
  | .nil, z, _, h => by simp [toL] at h
  | .cons k n v a b x r, z, hs, h => by
    simp only [toL, List.mem_cons] at h
    rcases h with rfl | h
    · exact ⟨hs.1, hs.2.1, hs.2.2.1⟩
    · exact short_mem hs.2.2.2 h
end Wn
namespace Go.Proofs.YtncknaagbafhhaaGreatDoor
open Go.RowKit Go.Sort
theorem isName_v (s : List UInt8) (w : World) (ht : Tab w) (hs : s.length ≤ 1048576) :
    Calls Tryz.prog 207 #[.string (Wn.str s)] w fun e w' => e = .returned (.bool (Wn.may (1, s, 0))) ∧ Below w.heap.size w w' := by
  have QM : Hid (Calls Tryz.prog 208 #[.agg #[.int .i64 1, .string (Wn.str s), .int .i64 0]] w fun e w' => e = .returned (.bool (Wn.may (1, s, 0))) ∧ Below w.heap.size w w') :=
    Lib.hid (May_any (1, s, 0) w ht (by show s.length ≤ _; omega) (by show _ ≤ (0 : Int); omega) (by show (0 : Int) ≤ _; omega))
  generalize Wn.str s = x at *
  generalize Wn.may (1, s, 0) = R at *
  go_enter Tryz.func207, Tryz.ntmps207
  go_wp2_with fail
  refine QM.out.mono ?_
  rintro e w1 ⟨rfl, b1⟩
  have HB := Lib.hid b1
  clear b1 QM
  go_wp2_with fail
  go_ret
  exact ⟨rfl, HB.out⟩
theorem isQuoted_v (s : List UInt8) (q : Int) (w : World) (ht : Tab w) (hs : s.length ≤ 1048576) (h1 : 0 ≤ q) (h2 : q ≤ 255) :
    Calls Tryz.prog 217 #[.string (Wn.str s), .int .i64 q] w fun e w' => e = .returned (.bool (Wn.may (6, s, q))) ∧ Below w.heap.size w w' := by
  have QM : Hid (Calls Tryz.prog 208 #[.agg #[.int .i64 6, .string (Wn.str s), .int .i64 q]] w fun e w' => e = .returned (.bool (Wn.may (6, s, q))) ∧ Below w.heap.size w w') :=
    Lib.hid (May_any (6, s, q) w ht (by show s.length ≤ _; omega) (by show _ ≤ (q : Int); omega) (by show (q : Int) ≤ _; omega))
  generalize Wn.str s = x at *
  generalize Wn.may (6, s, q) = R at *
  go_enter Tryz.func217, Tryz.ntmps217
  go_wp2_with fail
  refine QM.out.mono ?_
  rintro e w1 ⟨rfl, b1⟩
  have HB := Lib.hid b1
  clear b1 QM
  go_wp2_with fail
  go_ret
  exact ⟨rfl, HB.out⟩
theorem isStringText_v (s : List UInt8) (w : World) (ht : Tab w) (hs : s.length ≤ 1048576) :
    Calls Tryz.prog 209 #[.string (Wn.str s)] w fun e w' => e = .returned (.bool (Wn.may (6, s, 34) || Wn.may (6, s, 39))) ∧ Below w.heap.size w w' := by
  have HT := Lib.hid ht
  have Q1 := Lib.hid (isQuoted_v s 34 w ht hs (by omega) (by omega))
  have Q2 := Lib.hid (fun w ht => isQuoted_v s 39 w ht hs (by omega) (by omega))
  clear ht
  generalize Wn.str s = x at *
  generalize Wn.may (6, s, 34) = R1 at *
  generalize Wn.may (6, s, 39) = R2 at *
  go_enter Tryz.func209, Tryz.ntmps209
  go_wp2_with fail
  refine Q1.out.mono ?_
  rintro e w1 ⟨rfl, b1⟩
  have HB := Lib.hid b1
  clear b1 Q1
  cases R1
  · go_wp2_with fail
    refine (Q2.out _ (HT.out.below HB.out)).mono ?_
    rintro e w2 ⟨rfl, b2⟩
    have HB2 := Lib.hid (HB.out.trans (b2.mono HB.out.size))
    clear b2 Q2
    go_wp2_with fail
    go_ret
    exact ⟨by rw [Bool.false_or]; rfl, HB2.out⟩
  · go_wp2_with fail
    go_ret
    exact ⟨by rw [Bool.true_or]; rfl, HB.out⟩
set_option maxRecDepth 100000 in
set_option maxHeartbeats 1000000 in
theorem meantOf_v (x : Wn.Sm) (u : Value) (w : World) (hu : ∃ ao n c, u = .slice ao n c) :
    Calls Tryz.prog 195 #[smV x u] w fun e w' => e = .returned (smV (Wn.meantS x) (.slice none 0 0)) ∧ Below w.heap.size w w' := by
  obtain ⟨uo, un, uc, rfl⟩ := hu
  unfold smV
  obtain ⟨xk, xn, xv, xa, xb, xl⟩ := x
  dsimp only
  generalize hm : Wn.meantS ⟨xk, xn, xv, xa, xb, xl⟩ = M
  have HM := Lib.hid hm
  clear hm
  by_cases h2 : xk = 2
  · subst h2
    have HE : Hid (M = Wn.sNam 2 xn) := Lib.hid (by rw [← HM.out]; rfl)
    clear HM
    go_enter Tryz.func195, Tryz.ntmps195
    go_wp2_with fail
    refine bodyPost_ret (v := .agg #[.int .i64 2, .string (Wn.str xn), .string ⟨#[]⟩, .int .i64 0, .int .i64 0, .slice none 0 0]) (by simp [results, Tryz.results195, go_sem]) rfl ⟨by rw [HE.out] <;> rfl, ?_⟩
    repeat (first | with_reducible exact Below.refl _ _ | with_reducible refine Below.drew ?_ | with_reducible refine Below.alloc ?_ (by first | (simp; done) | (simp; omega)) _)
  by_cases h3 : xk = 3
  · subst h3
    have HE : Hid (M = Wn.sNam 3 xn) := Lib.hid (by rw [← HM.out]; rfl)
    clear HM
    go_enter Tryz.func195, Tryz.ntmps195
    go_wp2_with fail
    refine bodyPost_ret (v := .agg #[.int .i64 3, .string (Wn.str xn), .string ⟨#[]⟩, .int .i64 0, .int .i64 0, .slice none 0 0]) (by simp [results, Tryz.results195, go_sem]) rfl ⟨by rw [HE.out] <;> rfl, ?_⟩
    repeat (first | with_reducible exact Below.refl _ _ | with_reducible refine Below.drew ?_ | with_reducible refine Below.alloc ?_ (by first | (simp; done) | (simp; omega)) _)
  by_cases h4 : xk = 4
  · subst h4
    have HE : Hid (M = Wn.sNam 4 xn) := Lib.hid (by rw [← HM.out]; rfl)
    clear HM
    go_enter Tryz.func195, Tryz.ntmps195
    go_wp2_with fail
    refine bodyPost_ret (v := .agg #[.int .i64 4, .string (Wn.str xn), .string ⟨#[]⟩, .int .i64 0, .int .i64 0, .slice none 0 0]) (by simp [results, Tryz.results195, go_sem]) rfl ⟨by rw [HE.out] <;> rfl, ?_⟩
    repeat (first | with_reducible exact Below.refl _ _ | with_reducible refine Below.drew ?_ | with_reducible refine Below.alloc ?_ (by first | (simp; done) | (simp; omega)) _)
  by_cases h5 : xk = 5
  · subst h5
    have HE : Hid (M = Wn.sNam 5 xn) := Lib.hid (by rw [← HM.out]; rfl)
    clear HM
    go_enter Tryz.func195, Tryz.ntmps195
    go_wp2_with fail
    refine bodyPost_ret (v := .agg #[.int .i64 5, .string (Wn.str xn), .string ⟨#[]⟩, .int .i64 0, .int .i64 0, .slice none 0 0]) (by simp [results, Tryz.results195, go_sem]) rfl ⟨by rw [HE.out] <;> rfl, ?_⟩
    repeat (first | with_reducible exact Below.refl _ _ | with_reducible refine Below.drew ?_ | with_reducible refine Below.alloc ?_ (by first | (simp; done) | (simp; omega)) _)
  by_cases h7 : xk = 7
  · subst h7
    have HE : Hid (M = Wn.sNam 7 xn) := Lib.hid (by rw [← HM.out]; rfl)
    clear HM
    go_enter Tryz.func195, Tryz.ntmps195
    go_wp2_with fail
    refine bodyPost_ret (v := .agg #[.int .i64 7, .string (Wn.str xn), .string ⟨#[]⟩, .int .i64 0, .int .i64 0, .slice none 0 0]) (by simp [results, Tryz.results195, go_sem]) rfl ⟨by rw [HE.out] <;> rfl, ?_⟩
    repeat (first | with_reducible exact Below.refl _ _ | with_reducible refine Below.drew ?_ | with_reducible refine Below.alloc ?_ (by first | (simp; done) | (simp; omega)) _)
  by_cases h6 : xk = 6
  · subst h6
    have HE : Hid (M = ⟨6, xn, xv, 0, 0, .nil⟩) := Lib.hid (by rw [← HM.out]; rfl)
    clear HM
    go_enter Tryz.func195, Tryz.ntmps195
    go_wp2_with fail
    go_region
    all_goals go_wp2_with fail
    refine bodyPost_ret (v := .agg #[.int .i64 6, .string (Wn.str xn), .string (Wn.str xv), .int .i64 0, .int .i64 0, .slice none 0 0]) (by simp [results, Tryz.results195, go_sem]) rfl ⟨by rw [HE.out] <;> rfl, ?_⟩
    repeat (first | with_reducible exact Below.refl _ _ | with_reducible refine Below.drew ?_ | with_reducible refine Below.alloc ?_ (by first | (simp; done) | (simp; omega)) _)
  by_cases h8 : xk = 8
  · subst h8
    have HE : Hid (M = ⟨8, [], [], xa, xb, .nil⟩) := Lib.hid (by rw [← HM.out]; rfl)
    clear HM
    go_enter Tryz.func195, Tryz.ntmps195
    go_wp2_with fail
    go_region
    all_goals go_wp2_with fail
    refine bodyPost_ret (v := .agg #[.int .i64 8, .string ⟨#[]⟩, .string ⟨#[]⟩, .int .i64 xa, .int .i64 xb, .slice none 0 0]) (by simp [results, Tryz.results195, go_sem]) rfl ⟨by rw [HE.out] <;> rfl, ?_⟩
    repeat (first | with_reducible exact Below.refl _ _ | with_reducible refine Below.drew ?_ | with_reducible refine Below.alloc ?_ (by first | (simp; done) | (simp; omega)) _)
  · have HE : Hid (M = Wn.sBare xk) := Lib.hid (by rw [← HM.out]; simp [Wn.meantS, h2, h3, h4, h5, h6, h7, h8])
    clear HM
    go_enter Tryz.func195, Tryz.ntmps195
    go_wp2_with fail
    refine bodyPost_ret (v := .agg #[.int .i64 xk, .string ⟨#[]⟩, .string ⟨#[]⟩, .int .i64 0, .int .i64 0, .slice none 0 0]) (by simp [results, Tryz.results195, go_sem]) rfl ⟨by rw [HE.out] <;> rfl, ?_⟩
    repeat (first | with_reducible exact Below.refl _ _ | with_reducible refine Below.drew ?_ | with_reducible refine Below.alloc ?_ (by first | (simp; done) | (simp; omega)) _)
end Go.Proofs.YtncknaagbafhhaaGreatDoor
set_option linter.unusedVariables false
set_option linter.unusedSimpArgs false
set_option maxRecDepth 20000
namespace Go.Proofs.YtncknaagbafhhaaGreatDoor
open Go.RowKit Go.Sort
theorem low_eq (n : List UInt8) : ((Wn.str (Wn.low n)).toList == (Wn.str n).toList) = decide (Wn.low n = n) := by
  rw [str_list, str_list, Bool.eq_iff_iff]; simp
set_option maxRecDepth 100000 in
set_option maxHeartbeats 1000000 in
theorem validFields_v (x : Wn.Sm) (u : Value) (w : World) (hu : ∃ ao n c, u = .slice ao n c) (ht : Tab w) (hn : x.n.length ≤ 1048576) (hv : x.v.length ≤ 1048576) :
    Calls Tryz.prog 196 #[smV x u] w fun e w' => e = .returned (.bool (Wn.fieldsB x)) ∧ Below w.heap.size w w' := by
  obtain ⟨uo, un, uc, rfl⟩ := hu
  have hB : Below w.heap.size w (w.alloc (.cells #[.int .i64 x.k, .string (Wn.str x.n), .string (Wn.str x.v), .int .i64 x.a, .int .i64 x.b, .slice uo un uc] 51)) := (Below.refl _ _).alloc (Nat.le_refl _) _
  have hT := ht.below hB
  have QN := Lib.hid (fun W (h : Tab W) => isName_v x.n W h hn)
  have QS := Lib.hid (fun W (h : Tab W) => isStringText_v x.v W h hv)
  have Q7 := Lib.hid (fun W => isState_v x.n W)
  have QA := Lib.hid (fun W => inNthLimit_v x.a W)
  have QB := Lib.hid (fun W => inNthLimit_v x.b W)
  have QL := Lib.hid (fun W => lower_v x.n W hn)
  have QM : Hid (∀ W, Tab W → Calls Tryz.prog 208 #[.agg #[.int .i64 4, .string (Wn.str x.n), .int .i64 0]] W fun e w' => e = .returned (.bool (Wn.may (4, x.n, 0))) ∧ Below W.heap.size W w') :=
    Lib.hid (fun W h => May_any (4, x.n, 0) W h (by show x.n.length ≤ _; omega) (by show _ ≤ (0 : Int); omega) (by show (0 : Int) ≤ _; omega))
  have HF : Hid (Wn.fieldsB x = _) := Lib.hid (by unfold Wn.fieldsB; rfl)
  have HL := Lib.hid (low_eq x.n)
  have HT := Lib.hid hT
  have HB := Lib.hid hB
  clear hT hB ht hn hv
  unfold smV
  generalize Wn.fieldsB x = F at *
  generalize decide (Wn.low x.n = x.n) = E at *
  generalize Wn.str (Wn.low x.n) = sl at *
  generalize Wn.str x.n = sn at *
  generalize Wn.str x.v = sv at *
  generalize Wn.may (1, x.n, 0) = R1 at *
  generalize Wn.may (4, x.n, 0) = R4 at *
  generalize (Wn.may (6, x.v, 34) || Wn.may (6, x.v, 39)) = R6 at *
  generalize Wn.isState x.n = R7 at *
  generalize Wn.few x.a = RA at *
  generalize Wn.few x.b = RB at *
  generalize x.k = xk at *
  generalize x.a = xa at *
  generalize x.b = xb at *
  clear x
  by_cases h2 : xk = 2
  · subst h2
    have HE : Hid (F = (R1 && E)) := Lib.hid (by rw [HF.out]; rfl)
    clear HF
    go_enter Tryz.func196, Tryz.ntmps196
    go_wp2_with fail
    have hn := heap_alloc_new w (Obj.cells #[.int .i64 2, .string sn, .string sv, .int .i64 xa, .int .i64 xb, .slice uo un uc] 51)
    have a1 := cell_of_block (o := 1) hn
    simp only [List.getElem?_toArray, List.getElem?_cons_zero, List.getElem?_cons_succ] at a1
    clear hn
    generalize (w.alloc (Obj.cells #[.int .i64 2, .string sn, .string sv, .int .i64 xa, .int .i64 xb, .slice uo un uc] 51)) = W at *
    have c1 := cell_regrown a1
    clear a1
    have CN : Hid (∀ d os, Calls Tryz.prog 207 #[.string sn] (grow (redrawn W d) os) fun e w'' => e = .returned (.bool R1) ∧ ∃ p : Regrown, w'' = grow (redrawn W p.d) p.os) := Lib.hid (fun d os => Calls.regrown_of (QN.out _ (HT.out.below (below_regrown W d os))))
    have CL : Hid (∀ d os, Calls Tryz.prog 201 #[.string sn] (grow (redrawn W d) os) fun e w'' => e = .returned (.string sl) ∧ ∃ p : Regrown, w'' = grow (redrawn W p.d) p.os) := Lib.hid (fun d os => Calls.regrown_of (QL.out _))
    clear QN QS Q7 QA QB QL QM
    cases R1
    · (refine wp_region_quiet_below (by kernel_rfl) (by kernel_rfl) ?_); (repeat (first | go_big_quiet_skip | quiet_step (first | with_reducible exact CN.out _ _ | with_reducible exact CL.out _ _))); (refine wpQuiet_nil ?_); intro _ hw'; obtain ⟨⟨dq, osq⟩, hw''⟩ := hw'; subst hw''
      go_wp2_with fail
      go_ret
      exact ⟨ret_bool (by rw [HE.out]; rfl), HB.out.trans ((below_regrown W dq osq).mono HB.out.size)⟩
    · (refine wp_region_quiet_below (by kernel_rfl) (by kernel_rfl) ?_); (repeat (first | go_big_quiet_skip | quiet_step (first | with_reducible exact CN.out _ _ | with_reducible exact CL.out _ _))); (refine wpQuiet_nil ?_); intro _ hw'; obtain ⟨⟨dq, osq⟩, hw''⟩ := hw'; subst hw''
      go_wp2_with fail
      go_ret
      exact ⟨ret_bool (by rw [HE.out, Bool.true_and, ← HL.out]), HB.out.trans ((below_regrown W dq osq).mono HB.out.size)⟩
  by_cases h3 : xk = 3
  · subst h3
    have HE : Hid (F = R4) := Lib.hid (by rw [HF.out]; rfl)
    clear HF
    go_enter Tryz.func196, Tryz.ntmps196
    go_wp2_with fail
    refine (QM.out _ HT.out).mono ?_
    rintro e w1 ⟨rfl, b1⟩
    have HB1 := Lib.hid (HB.out.trans (b1.mono HB.out.size)); clear b1
    go_wp2_with fail
    go_ret
    exact ⟨ret_bool HE.out.symm, HB1.out⟩
  by_cases h4 : xk = 4
  · subst h4
    have HE : Hid (F = R1) := Lib.hid (by rw [HF.out]; rfl)
    clear HF
    go_enter Tryz.func196, Tryz.ntmps196
    go_wp2_with fail
    refine (QN.out _ HT.out).mono ?_
    rintro e w1 ⟨rfl, b1⟩
    have HB1 := Lib.hid (HB.out.trans (b1.mono HB.out.size)); clear b1
    go_wp2_with fail
    go_ret
    exact ⟨ret_bool HE.out.symm, HB1.out⟩
  by_cases h5 : xk = 5
  · subst h5
    have HE : Hid (F = R1) := Lib.hid (by rw [HF.out]; rfl)
    clear HF
    go_enter Tryz.func196, Tryz.ntmps196
    go_wp2_with fail
    refine (QN.out _ HT.out).mono ?_
    rintro e w1 ⟨rfl, b1⟩
    have HB1 := Lib.hid (HB.out.trans (b1.mono HB.out.size)); clear b1
    go_wp2_with fail
    go_ret
    exact ⟨ret_bool HE.out.symm, HB1.out⟩
  by_cases h6 : xk = 6
  · subst h6
    have HE : Hid (F = (R1 && R6)) := Lib.hid (by rw [HF.out]; rfl)
    clear HF
    have hn := heap_alloc_new w (Obj.cells #[.int .i64 6, .string sn, .string sv, .int .i64 xa, .int .i64 xb, .slice uo un uc] 51)
    have a2 := cell_of_block (o := 2) hn
    simp only [List.getElem?_toArray, List.getElem?_cons_zero, List.getElem?_cons_succ] at a2
    have A2 := Lib.hid a2
    clear hn a2
    go_enter Tryz.func196, Tryz.ntmps196
    go_wp2_with fail
    refine (QN.out _ HT.out).mono ?_
    rintro e w1 ⟨rfl, b1⟩
    have HT1 := Lib.hid (HT.out.below b1)
    have a2 : w1.cell? ⟨w.heap.size, 2, none⟩ = some (.string sv) := by rw [b1.cell (block_lt_of_cell A2.out)]; exact A2.out
    have HB1 := Lib.hid (HB.out.trans (b1.mono HB.out.size)); clear b1
    cases R1
    · go_wp2_with fail
      go_ret
      exact ⟨ret_bool (by rw [HE.out]; rfl), HB1.out⟩
    · go_wp2_with fail
      refine (QS.out _ HT1.out).mono ?_
      rintro e w2 ⟨rfl, b2⟩
      have HB2 := Lib.hid (HB1.out.trans (b2.mono HB1.out.size)); clear b2
      go_wp2_with fail
      go_ret
      exact ⟨ret_bool (by rw [HE.out, Bool.true_and]), HB2.out⟩
  by_cases h7 : xk = 7
  · subst h7
    have HE : Hid (F = R7) := Lib.hid (by rw [HF.out]; rfl)
    clear HF
    go_enter Tryz.func196, Tryz.ntmps196
    go_wp2_with fail
    refine (Q7.out _).mono ?_
    rintro e w1 ⟨rfl, rfl⟩
    go_wp2_with fail
    go_ret
    exact ⟨ret_bool HE.out.symm, HB.out⟩
  by_cases h8 : xk = 8
  · subst h8
    have HE : Hid (F = (RA && RB)) := Lib.hid (by rw [HF.out]; rfl)
    clear HF
    go_enter Tryz.func196, Tryz.ntmps196
    go_wp2_with fail
    refine (QA.out _).mono ?_
    rintro e w1 ⟨rfl, rfl⟩
    cases RA
    · go_wp2_with fail
      go_ret
      exact ⟨ret_bool (by rw [HE.out]; rfl), HB.out⟩
    · go_wp2_with fail
      refine (QB.out _).mono ?_
      rintro e w2 ⟨rfl, rfl⟩
      go_wp2_with fail
      go_ret
      exact ⟨ret_bool (by rw [HE.out, Bool.true_and]), HB.out⟩
  by_cases h1 : xk = 1 ∨ xk = 9 ∨ xk = 10
  · have HE : Hid (F = true) := Lib.hid (by rw [HF.out]; simp [h1])
    clear HF
    rcases h1 with h1 | h1 | h1
    all_goals
      subst h1
      go_enter Tryz.func196, Tryz.ntmps196
      go_wp2_with fail
      go_ret
      exact ⟨ret_bool HE.out.symm, HB.out⟩
  · have HE : Hid (F = false) := Lib.hid (by rw [HF.out]; simp [h1, h2, h3, h4, h5, h6, h7, h8])
    clear HF
    rw [not_or, not_or] at h1
    obtain ⟨h1, h9, h10⟩ := h1
    go_enter Tryz.func196, Tryz.ntmps196
    go_wp2_with fail
    go_ret
    exact ⟨ret_bool HE.out.symm, HB.out⟩
end Go.Proofs.YtncknaagbafhhaaGreatDoor
