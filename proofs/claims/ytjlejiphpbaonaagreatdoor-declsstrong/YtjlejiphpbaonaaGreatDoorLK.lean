/- DeclsBack: whatever the declarations and the text, the law answers true, and nothing that was there has turned. DeclsBack holds for all declarations and texts: the call returns true, and each argument reads afterwards as it read before. The three listed tables of the library are tied to the program's text. -/
import Derived.Test.YtjlejiphpbaonaaGreatDoorLI
import Derived.Test.YtjlejiphpbaonaaGreatDoorLN
import Derived.Test.YtjlejiphpbaonaaGreatDoorGG
import Derived.Test.YtjlejiphpbaonaaGreatDoorGH
set_option linter.unusedVariables false
set_option linter.unusedSimpArgs false
set_option maxRecDepth 20000
namespace Go.Proofs.YtjlejiphpbaonaaGreatDoor
open Go.RowKit Go.Sort
/-- what is told of declarations that may be, and its text -/
theorem told_back {l : List Wn.Dl} (hm : Wn.mayD l = true) (hl : l.length ≤ 20) (h : ∀ d ∈ l, d.1.length ≤ 100 ∧ d.2.1.size ≤ 60 ∧ d.2.1.all (QD 100)) :
    (Wn.str (Wn.textF (Wn.valsD l))).size ≤ 1000000 ∧ (Wn.lex (Wn.str (Wn.textF (Wn.valsD l))).data.toList).length ≤ 100000 ∧ Wn.readF (Wn.str (Wn.textF (Wn.valsD l))).data.toList = some (Wn.valsD l) := by
  obtain ⟨h1, h2⟩ := vals_QD hl h
  have h3 := flat_QD (by omega) h2
  have h4 := Wn.flat_len (Wn.valsD l)
  have h5 := Wn.joinF_size [59] (l.map Wn.valsOne)
  have h5' : (Wn.valsD l).size ≤ 1300 := Nat.le_trans h5 h1
  have hv := Wn.may_vals hm
  have hx := Wn.texts_len 120 (Wn.flat (Wn.valsD l)) Option.none (fun t ht => by have := Wn.oneText_len t (h3 t ht).2.1 (h3 t ht).2.2; have := (h3 t ht).1; omega)
  have hsz : (Wn.textF (Wn.valsD l)).length ≤ (Wn.flat (Wn.valsD l)).length * (120 + 4) := hx
  have hd : (Wn.str (Wn.textF (Wn.valsD l))).data.toList = Wn.textF (Wn.valsD l) := str_data _
  rw [hd, Wn.str_size]
  refine ⟨by omega, ?_, Wn.read_text hv⟩
  have := Wn.lex_text _ (Wn.all_valid (Wn.mayF_all hv))
  unfold Wn.textF
  rw [this]
  omega
set_option maxRecDepth 100000 in
set_option maxHeartbeats 8000000 in
theorem ldBack_any (va : Value) (l : List Wn.Dl) (s : ByteArray) (w : World) (ht : Tab w) (ha : dlK.P w (fun _ => True) va l) (hn : ∀ d ∈ l, DNums d) (hs0 : s.size ≤ maxLen) :
    Calls Tryz.prog 4 #[va, .string s] w fun e w' => e = .returned (.bool true) ∧ Below w.heap.size w w' := by
  unfold maxLen at hs0
  have HT := Lib.hid ht
  have HA := Lib.hid ha
  have HN := Lib.hid hn
  obtain ⟨ao, ac, rfl, c1, c2⟩ := ha.form
  unfold maxLen at c2
  clear ht ha hn
  go_enter Tryz.func4, Tryz.ntmps4
  go_wp2_with fail
  refine (fixed07 _ HT.out).mono ?_
  rintro e w1 ⟨rfl, b1⟩
  have HW1 := Lib.hid b1
  have HA1 := Lib.hid (HA.out.below b1)
  have QA := Lib.hid (rSmall7_v l _ 60 w1 HA1.out (by decide) (by decide))
  clear b1 HA
  go_wp2_with fail
  refine QA.out.mono ?_
  rintro e w2 ⟨c, rfl, hc, b2⟩
  have HW2 := Lib.hid (HW1.out.trans (b2.mono HW1.out.size))
  have HA2 := Lib.hid (HA1.out.below b2)
  clear QA b2 HA1 HW1
  cases c
  · go_wp2_with fail
    refine (fixed07 _ (HT.out.below HW2.out)).mono ?_
    rintro e w3 ⟨rfl, b3⟩
    go_wp2_with fail
    go_ret
    exact ⟨rfl, HW2.out.trans (b3.mono HW2.out.size)⟩
  obtain ⟨hl20, hsm⟩ := hc rfl
  have HSM : Hid (∀ d ∈ l, d.1.length ≤ 100 ∧ d.2.1.size ≤ 60 ∧ d.2.1.all (QD 100)) := Lib.hid (fun d hd => small_QD (hsm d hd) (HN.out d hd))
  clear hc hsm HN
  by_cases hs : s.size ≤ 1000
  case neg =>
    have hsv : (1000 : Int) < (s.size : Int) := by omega
    go_wp2_with fail
    refine (fixed07 _ (HT.out.below HW2.out)).mono ?_
    rintro e w3 ⟨rfl, b3⟩
    go_wp2_with fail
    go_ret
    exact ⟨rfl, HW2.out.trans (b3.mono HW2.out.size)⟩
  have hsv : ¬ (1000 : Int) < (s.size : Int) := by omega
  have QR := Lib.hid (rRead_any s w2 (by omega))
  go_wp2_with fail
  refine QR.out.mono ?_
  rintro e w3 ⟨r, k, rfl, b3, hr⟩
  have HW3 := Lib.hid (HW2.out.trans (b3.mono HW2.out.size))
  have HA3 := Lib.hid (HA2.out.below b3)
  clear QR b3 HW2 HA2
  rcases hr with ⟨rfl, rfl, _⟩ | ⟨rfl, f, hf, hv⟩
  case' inl =>
    go_wp2_with fail
    obtain ⟨Wz, hWz⟩ : ∃ Wz, Wz = w3 := ⟨_, rfl⟩
    subst hWz
    have HWz := HW3
    have HAz := HA3
    clear HW3 HA3
  case' inr =>
    have hsl : s.data.toList.length ≤ 1000 := by simpa using hs
    have HQ := Lib.hid (read_QD (n := 1000) (by omega) hf hsl)
    have hps := Wn.parse_size hf
    have hll := Wn.lex_length s.data.toList
    have htz := Wn.trim_size f
    have HZ : Hid ((Wn.trimF f).size ≤ 1000) := Lib.hid (by omega)
    have HMP := Lib.hid (Wn.parsed_may (Wn.read_may7 hf))
    obtain ⟨xo, xc, rfl, x1, x2⟩ := hv.form
    have HV := Lib.hid hv
    clear hf hps hll htz hv
    generalize Wn.trimF f = g at *
    have HF : Hid (∀ d ∈ Wn.parseD g, RFit d ∧ DFit d) := Lib.hid (fun d hd => by
      obtain ⟨a1, a2, u, a3, a4⟩ := Wn.parse_memP hd HQ.out
      exact fits_of (n := 1000) (by omega) (by omega) (by have := a3.1; omega) (Nat.le_trans a1 HZ.out) a2)
    have QP := Lib.hid (fun (W : World) (h : Below w3.heap.size w3 W) => DParse_v _ g W (HV.out.below h) (by have := HZ.out; omega) (Wn.all_imp (fun t ht => by have := ht.1; omega) HQ.out))
    clear HQ HZ
    generalize Wn.parseD g = P at *
    go_wp2_with fail
    refine (QP.out _ (Below.refl _ _)).mono ?_
    rintro e w4 ⟨r4, rfl, hr4, b4⟩
    have HR4 := Lib.hid (RK.P.mono hr4 (fun _ _ _ => trivial) (ok' := fun _ => True))
    have HB4 := Lib.hid b4
    obtain ⟨yo, yc, rfl, y1, y2⟩ := hr4.form
    clear hr4 b4
    have QM := Lib.hid (DMay_v P _ w4 (HT.out.below (HW3.out.trans (HB4.out.mono HW3.out.size))) HR4.out (fun d hd => (HF.out d hd).2))
    rw [HMP.out] at QM
    go_wp2_with fail
    refine QM.out.mono ?_
    rintro e w5 ⟨rfl, b5⟩
    have HB5 := Lib.hid (HB4.out.trans (b5.mono HB4.out.size))
    clear b5 QM HR4 HB4
    go_wp2_with fail
    refine (QP.out _ HB5.out).mono ?_
    rintro e w6 ⟨r6, rfl, hr6, b6⟩
    have HR6 := Lib.hid (RK.P.mono hr6 (fun _ _ _ => trivial) (ok' := fun _ => True))
    have HB6 := Lib.hid (HB5.out.trans (b6.mono HB5.out.size))
    obtain ⟨zo, zc, rfl, z1, z2⟩ := hr6.form
    clear hr6 b6 HB5 QP
    have QM := Lib.hid (rMay7_v P _ w6 HR6.out (fun d hd => (HF.out d hd).1))
    rw [HMP.out] at QM
    go_wp2_with fail
    refine QM.out.mono ?_
    rintro e w7 ⟨rfl, b7⟩
    have HB7 := Lib.hid (HB6.out.trans (b7.mono HB6.out.size))
    clear b7 QM HR6 HB6 HF HMP HV
    go_wp2_with fail
    obtain ⟨Wz, hWz⟩ : ∃ Wz, Wz = w7 := ⟨_, rfl⟩
    subst hWz
    have HWz := Lib.hid (HW3.out.trans (HB7.out.mono HW3.out.size))
    have HAz := Lib.hid (HA3.out.below HB7.out)
    clear HW3 HA3 HB7
  all_goals (
    have QM := Lib.hid (rMay7_v l _ Wz HAz.out (fun d hd => by
      obtain ⟨a1, a2, a3⟩ := HSM.out d hd
      exact (fits_of (n := 100) (by omega) (by omega) a1 (by omega) a3).1))
    have HM : Hid (Wn.mayD l = true → Wn.mayD l = true) := Lib.hid id
    generalize hml : Wn.mayD l = ml at *
    refine QM.out.mono ?_
    rintro e w8 ⟨rfl, b8⟩
    have HW8 := Lib.hid (HWz.out.trans (b8.mono HWz.out.size))
    have HA8 := Lib.hid (HAz.out.below b8)
    clear b8 QM HWz HAz
    cases ml
    · go_wp2_with fail
      go_ret
      exact ⟨rfl, HW8.out⟩
    obtain ⟨e1, e2, e3⟩ := told_back hml hl20 HSM.out
    obtain ⟨v1, v2⟩ := vals_QD hl20 HSM.out
    have v3 : (Wn.valsD l).size ≤ 1300 := Nat.le_trans (Wn.joinF_size [59] (l.map Wn.valsOne)) v1
    have v4 := flat_QD (by omega) v2
    have v5 := Wn.flat_len (Wn.valsD l)
    have HBK := Lib.hid (Wn.back hml)
    have HTR := Lib.hid (Wn.vals_trim hml)
    have QV := Lib.hid (DVals_v l _ w8 HA8.out (by omega))
    have QT := Lib.hid (fun v W (h : Vals W v (Wn.valsD l)) => rSText v (Wn.valsD l) W h (by omega) (fun t ht => ⟨by have := (v4 t ht).1; omega, (v4 t ht).2⟩))
    have QR := Lib.hid (fun W => rRead_g7 _ W e1 e2)
    have HRD := Lib.hid e3
    have QP := Lib.hid (fun v W (h : Vals W v (Wn.valsD l)) => DParse_v v (Wn.valsD l) W h (by omega) (Wn.all_imp (fun t ht => by have := ht.1; omega) v2))
    rw [HBK.out] at QP
    clear e1 e2 e3 v1 v2 v3 v4 v5 hml HM HSM HBK
    go_wp2_with fail
    refine QV.out.mono ?_
    rintro e w9 ⟨rx, rfl, hx, b9⟩
    have HW9 := Lib.hid (HW8.out.trans (b9.mono HW8.out.size))
    have HA9 := Lib.hid (HA8.out.below b9)
    have HX9 := Lib.hid hx.any
    obtain ⟨xo', xc', rfl, _, _⟩ := hx.form
    clear b9 QV HW8 HA8 hx
    generalize Wn.valsD l = F at *
    generalize hTX : Wn.str (Wn.textF F) = TX at *
    clear hTX
    go_wp2_with fail
    refine (QT.out _ _ HX9.out).mono ?_
    rintro e w10 ⟨rfl, b10⟩
    have HW10 := Lib.hid (HW9.out.trans (b10.mono HW9.out.size))
    have HA10 := Lib.hid (HA9.out.below b10)
    have HX10 := Lib.hid (ValsP.below HX9.out b10)
    clear b10 QT HW9 HA9 HX9
    go_wp2_with fail
    refine (QR.out _).mono ?_
    rintro e w11 ⟨ry, k, rfl, b11, hy⟩
    have hkv : k = 0 ∧ Vals w11 ry F := by
      rcases hy with ⟨_, _, hno⟩ | ⟨rfl, f', hf', hv'⟩
      · rw [HRD.out] at hno; cases hno
      · rw [HRD.out] at hf'; cases hf'; rw [HTR.out] at hv'; exact ⟨rfl, hv'⟩
    clear hy
    obtain ⟨rfl, hy⟩ := hkv
    have HW11 := Lib.hid (HW10.out.trans (b11.mono HW10.out.size))
    have HA11 := Lib.hid (HA10.out.below b11)
    have HX11 := Lib.hid (ValsP.below HX10.out b11)
    have HY11 := Lib.hid hy
    obtain ⟨yo', yc', rfl, _, _⟩ := hy.form
    clear b11 hy QR HW10 HA10 HX10 HRD HTR
    go_wp2_with fail
    refine (QP.out _ _ HX11.out).mono ?_
    rintro e w12 ⟨rp, rfl, hp, b12⟩
    have HW12 := Lib.hid (HW11.out.trans (b12.mono HW11.out.size))
    have HA12 := Lib.hid (HA11.out.below b12)
    have HX12 := Lib.hid (ValsP.below HX11.out b12)
    have HY12 := Lib.hid (ValsP.below HY11.out b12)
    have HP12 := Lib.hid (RK.P.mono hp (fun _ _ _ => trivial) (ok' := fun _ => True))
    obtain ⟨po', pc', rfl, _, _⟩ := hp.form
    clear b12 hp HW11 HA11 HX11 HY11
    have QS := Lib.hid (rSame7_v l l _ _ w12 HP12.out HA12.out)
    rw [decide_eq_true rfl] at QS
    go_wp2_with fail
    refine QS.out.mono ?_
    rintro e w13 ⟨rfl, b13⟩
    have HW13 := Lib.hid (HW12.out.trans (b13.mono HW12.out.size))
    have HA13 := Lib.hid (HA12.out.below b13)
    have HX13 := Lib.hid (ValsP.below HX12.out b13)
    have HY13 := Lib.hid (ValsP.below HY12.out b13)
    clear b13 HP12 HW12 HA12 HX12 HY12 QS
    have QS := Lib.hid (rSameFD _ _ F F w13 HY13.out HX13.out)
    rw [decide_eq_true rfl] at QS
    go_wp2_with fail
    refine QS.out.mono ?_
    rintro e w14 ⟨rfl, b14⟩
    have HW14 := Lib.hid (HW13.out.trans (b14.mono HW13.out.size))
    have HA14 := Lib.hid (HA13.out.below b14)
    have HY14 := Lib.hid (ValsP.below HY13.out b14)
    clear b14 HW13 HA13 HX13 HY13 QS
    go_wp2_with fail
    refine (QP.out _ _ HY14.out).mono ?_
    rintro e w15 ⟨rp, rfl, hp, b15⟩
    have HW15 := Lib.hid (HW14.out.trans (b15.mono HW14.out.size))
    have HA15 := Lib.hid (HA14.out.below b15)
    have HP15 := Lib.hid (RK.P.mono hp (fun _ _ _ => trivial) (ok' := fun _ => True))
    obtain ⟨po2, pc2, rfl, _, _⟩ := hp.form
    clear b15 hp HW14 HA14 HY14 QP
    have QS := Lib.hid (rSame7_v l l _ _ w15 HP15.out HA15.out)
    rw [decide_eq_true rfl] at QS
    go_wp2_with fail
    refine QS.out.mono ?_
    rintro e w16 ⟨rfl, b16⟩
    have HW16 := Lib.hid (HW15.out.trans (b16.mono HW15.out.size))
    clear b16 HW15 HA15 HP15 QS
    go_wp2_with fail
    go_ret
    exact ⟨rfl, HW16.out⟩)
end Go.Proofs.YtjlejiphpbaonaaGreatDoor
set_option maxRecDepth 20000
namespace Go.Proofs.YtjlejiphpbaonaaGreatDoor.DBack
open Go.ChangeShapes Go.WideShapes Go.ChangeAt Go.RowKit
open Go.ChangeMaps (open_string shut_string)
theorem contract (H : Type) (enc : TypeId × Value → H) (W : World) (base : Nat) (args : Array Value) (ds gs : List (DataW H)) (before : List MemPlace)
    (hval : ∀ (j : Nat) t v, Tryz.f4.params[j]? = some t → args[j]? = some v → Value.okWide Tryz.prog W .any base t v)
    (hW : DataW.Whole enc Tryz.prog Tryz.f4.params.toList Rows.declsBackSpec.vars false W args.toList ds gs before) (hL : laidMetH Tryz.prog Rows.declsBackRow.laid W) :
    Calls Tryz.prog 4 args W fun e W' => ∃ v, e = .returned v ∧ Rows.declsBackSpec.post enc Tryz.prog Tryz.f4 false true false false W args v W' := by
  have hW' := hW
  obtain ⟨p, q, hA0, hV, rfl, hfz, hnd⟩ := hW
  have hA : DataW.TrodAll enc Tryz.prog W 0 (fun _ => true) true Tryz.f4.params.toList args.toList ds p := hA0
  rw [Tryz.params4] at hA hval
  obtain ⟨v0, vs0, d0, ds0, p0, q0, hargs, rfl, rfl, h0, r0⟩ := trodAll_cons hA
  obtain ⟨v1, vs1, d1, ds1, p1, q1, rfl, rfl, rfl, h1, r1⟩ := trodAll_cons r0
  obtain ⟨rfl, rfl, rfl⟩ := trodAll_nil r1
  obtain rfl : args = #[v0, v1] := by cases args; simp_all
  obtain ⟨rfl, rfl⟩ := trodVars_none hV
  obtain ⟨l0, hl0, hn0⟩ := open_dls (hval 0 23 v0 rfl rfl) h0
  obtain ⟨s1, hv1, _, _, hs1⟩ := open_string Tryz.underlying9 (hval 1 9 v1 rfl rfl) h1
  subst hv1
  clear hA0
  simp only [List.append_nil] at hW'
  have hlt : ∀ x ∈ (p0 ++ p1), x.block < W.heap.size := fun x hx => hW'.lt x hx
  refine (ldBack_any v0 l0 s1 W (table hL) hl0 hn0 hs1).mono fun e W' ⟨he, hb⟩ => ?_
  subst he
  exact ⟨_, rfl, post_of_below (pa := (p0 ++ (p1 ++ []))) (pv := []) hW' (fun _ _ _ => trodAll_cons_mk (shut_bool Tryz.underlying4 _) trodAll_mk0)
    (fun sp hsp => (trodAll_cons_mk (again (t := 23) (by kernel_rfl) (by decide) h0 hb (fun x hx => hlt x (by simp [hx])) (fun x hx => hsp x (by simp [hx])))
      (trodAll_cons_mk (again (t := 9) (by kernel_rfl) (by decide) h1 hb (fun x hx => hlt x (by simp [hx])) (fun x hx => hsp x (by simp [hx])))
      trodAll_mk0))) (fun _ _ => rfl) (by simp) hb
    (ok_one (by kernel_rfl) rfl (okWide_bool_mk Tryz.underlying4 _))⟩
theorem laid_met (os : Os) : laidMet Tryz.prog Rows.declsBackRow.laid ((laidWorld os).forCall (fun _ _ => 0) ⟨#[], #[.slice none 0 0, .string ⟨#[]⟩], []⟩).memory :=
  laidMet_of_run' 8 (by kernel_rfl) (by kernel_rfl)
theorem reads (os : Os) {H : Type} (enc : TypeId × Value → H) : ∃ places, DataW.whole enc Tryz.prog ((laidWorld os).forCall (fun _ _ => 0) ⟨#[], #[.slice none 0 0, .string ⟨#[]⟩], []⟩).memory Tryz.f4.params.toList Rows.declsBackSpec.vars false #[Value.slice none 0 0, Value.string ⟨#[]⟩].toList 8 = some ([.nil, .lit (.string [])], [], places) :=
  ⟨[], by kernel_rfl⟩
set_option maxRecDepth 100000 in
theorem lifted (os : Os) (started : os.Started) (H : Type) (enc : TypeId × Value → H) (F : Stop.Interp) :
    ReturnsInHanded {} Tryz.checked os 4 .any ((OpenSpec.ofChange Rows.declsBackSpec).preRow enc Tryz.prog Tryz.f4 Rows.declsBackRow.domain false Rows.declsBackRow.laid) (((OpenSpec.ofChange Rows.declsBackSpec).at F).post enc Tryz.prog Tryz.f4 false true false false) := by
  obtain ⟨places, hx⟩ := reads os enc
  refine returnsInHanded_of_row (C := Tryz.checked) (s := OpenSpec.ofChange Rows.declsBackSpec) own started (by kernel_rfl) Tryz.func4
    (witness_row_at (enc := enc) (C := Tryz.checked) false (laidWorld os) #[.slice none 0 0, .string ⟨#[]⟩] rfl (by kernel_rfl) (by kernel_rfl) (by kernel_rfl)
      (OpenSpec.preRow_of_cond 8 hx (by kernel_rfl) (fun k hk => by cases hk) (by kernel_rfl) (laid_met os))) ?_
  intro W base args ds gs before hval hW _ _ _ hL _ _
  exact contract H enc W base args ds gs before hval hW hL
theorem said : Rows.DeclsBackSaid :=
  OpenClaim.holds_of_cond 4 Tryz.f4 rfl rfl rfl rfl rfl rfl rfl ⟨rfl, rfl, rfl, rfl, rfl⟩ rfl rfl rfl rfl rfl (by kernel_rfl) Tryz.func4 (by kernel_rfl)
    (of_decide_eq_true (by kernel_rfl)) (by unfold Func.isWrapper; first | (rw [if_pos (by decide +kernel)]; kernel_rfl) | (rw [if_neg (by decide +kernel)]; exact ⟨rfl, rfl⟩))
    (fun os started H enc _ F => by rw [OpenClaim.pre_eq_preRow]; exact lifted os started H enc F)
theorem plain (f : FuncId) (fn : Func) (hf : Tryz.pinned.checked.prog.funcNamed "winnowing/winnowinglaw07.DeclsBack" = some f) (hfn : Tryz.pinned.checked.prog.funcs[f]? = some fn) :
    true = Tryz.pinned.checked.prog.looks [] ∧ ∀ (j : Nat) t, fn.params[j]? = some t → Tryz.pinned.checked.prog.wantsStandIn t = false := by
  obtain rfl : f = 4 := Option.some.inj ((show Tryz.prog.funcNamed "winnowing/winnowinglaw07.DeclsBack" = some 4 by kernel_rfl).symm.trans hf) |>.symm
  obtain rfl : fn = Tryz.f4 := (Option.some.inj (Tryz.func4.symm.trans hfn)).symm
  refine ⟨by kernel_rfl, fun j t ht => ?_⟩
  rw [Tryz.params4] at ht
  have hm : t ∈ [23, 9] := by simpa using Array.mem_of_getElem? ht
  have hall : ([23, 9].all fun u => !Tryz.prog.wantsStandIn u) = true := by kernel_rfl
  exact (show Tryz.prog.wantsStandIn t = false by simpa using List.all_eq_true.1 hall t hm)
end Go.Proofs.YtjlejiphpbaonaaGreatDoor.DBack
namespace Go.Proofs.YtjlejiphpbaonaaGreatDoor
open Go
theorem declsBack_card : Rows.DeclsBackCardSaid :=
  Claim7.holds_tied_plain_at .later [] _ _ _ _ DBack.said (fun _ h => by cases h) (by kernel_rfl) (fun _ h => by cases h) declsBack_row_tie rfl ⟨rfl, rfl⟩ (by kernel_rfl) rfl DBack.plain (by kernel_rfl)
end Go.Proofs.YtjlejiphpbaonaaGreatDoor
