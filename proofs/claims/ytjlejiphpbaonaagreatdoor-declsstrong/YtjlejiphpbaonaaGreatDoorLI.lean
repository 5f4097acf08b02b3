/- DeclsApart: whatever the values, the law answers true, and nothing that was there has turned. DeclsApart holds for all values: the call returns true, and each argument reads afterwards as it read before. The three listed tables of the library are tied to the program's text. -/
import Derived.Test.YtjlejiphpbaonaaGreatDoorLF
import Derived.Test.YtjlejiphpbaonaaGreatDoorLG
import Derived.Test.YtjlejiphpbaonaaGreatDoorGU
import Derived.Test.YtjlejiphpbaonaaGreatDoorGS
import Derived.Test.YtjlejiphpbaonaaGreatDoorGG
import Derived.Test.YtjlejiphpbaonaaGreatDoorGH
set_option linter.unusedVariables false
set_option linter.unusedSimpArgs false
set_option maxRecDepth 20000
namespace Go.Proofs.YtjlejiphpbaonaaGreatDoor
open Go.RowKit Go.Sort
theorem two_listD {W : World} {b : Nat} {T : TypeId} {u u' : Value} {f g : Wn.Fs} (hb : W.heap[b]? = some (.cells #[u, u'] T)) (hu : Vals W u f) (hu' : Vals W u' g) : ListP W (fun b => b < W.heap.size) (.slice (some ⟨b, 0, none⟩) 2 2) [f, g] := by
  refine ⟨_, 2, [u, u'], rfl, by simp, by unfold maxLen; omega, ⟨hu.old, hu'.old, trivial⟩, fun i x hi => ⟨b, 0, rfl, lt_of_block hb, ?_⟩⟩
  match i, hi with
  | 0, hi => simp at hi; subst hi; exact cell_of_block (o := 0) hb
  | 1, hi => simp at hi; subst hi; exact cell_of_block (o := 1) hb
theorem short_mono {n : Nat} (hn : 100 ≤ n) : ∀ {f : Wn.Fs}, Short100 f → f.all fun t => t.2.1.length ≤ n
  | .nil, _ => trivial
  | .cons k t x r, h => ⟨Nat.le_trans h.1 hn, short_mono hn h.2.1, short_mono hn h.2.2⟩
theorem short_app : ∀ {f g : Wn.Fs}, Short100 f → Short100 g → Short100 (f.app g)
  | .nil, _, _, h => h
  | .cons k t x r, _, h, h' => ⟨h.1, h.2.1, short_app h.2.2 h'⟩
set_option maxRecDepth 100000 in
set_option maxHeartbeats 4000000 in
theorem ldApart_any (va vb : Value) (fa fb : Wn.Fs) (w : World) (ht : Tab w) (ha : Vals w va fa) (hb : Vals w vb fb) :
    Calls Tryz.prog 5 #[va, vb] w fun e w' => e = .returned (.bool true) ∧ Below w.heap.size w w' := by
  have HT := Lib.hid ht
  have HA := Lib.hid ha
  have HB := Lib.hid hb
  obtain ⟨ao, ac, rfl, c1, c2⟩ := ha.form
  obtain ⟨bo, bc, rfl, d1, d2⟩ := hb.form
  unfold maxLen at c2 d2
  clear ht ha hb
  go_enter Tryz.func5, Tryz.ntmps5
  go_wp2_with fail
  refine (fixed07 _ HT.out).mono ?_
  rintro e w1 ⟨rfl, b1⟩
  have HW1 := Lib.hid b1
  have HA1 := Lib.hid (ValsP.below HA.out b1)
  have HB1 := Lib.hid (ValsP.below HB.out b1)
  have QA := Lib.hid (rSmall_any _ fa 100 w1 HA1.out (by decide) (by decide))
  have QB := Lib.hid (rSmall_any _ fb 100 w1 HB1.out (by decide) (by decide))
  clear b1 HA HB
  go_wp2_with fail
  refine QA.out.mono ?_
  rintro e w2 ⟨c, rfl, hc, rfl⟩
  cases c
  · go_wp2_with fail
    refine (fixed07 _ (HT.out.below HW1.out)).mono ?_
    rintro e w3 ⟨rfl, b3⟩
    go_wp2_with fail
    go_ret
    exact ⟨rfl, HW1.out.trans (b3.mono HW1.out.size)⟩
  obtain ⟨hsa, hsa2⟩ := hc rfl
  clear hc QA
  go_wp2_with fail
  refine QB.out.mono ?_
  rintro e w2 ⟨c, rfl, hc, rfl⟩
  cases c
  · go_wp2_with fail
    refine (fixed07 _ (HT.out.below HW1.out)).mono ?_
    rintro e w3 ⟨rfl, b3⟩
    go_wp2_with fail
    go_ret
    exact ⟨rfl, HW1.out.trans (b3.mono HW1.out.size)⟩
  obtain ⟨hsb, hsb2⟩ := hc rfl
  clear hc QB
  have hla := Wn.Fs.len_le_size fa
  have hlb := Wn.Fs.len_le_size fb
  have QPA := Lib.hid (DParse_v _ fa w1 HA1.out (by omega) (short_mono (by omega) hsa2))
  go_wp2_with fail
  refine QPA.out.mono ?_
  rintro e w3 ⟨rx, rfl, hx, b3⟩
  have HW3 := Lib.hid (HW1.out.trans (b3.mono HW1.out.size))
  have HA3 := Lib.hid (ValsP.below HA1.out b3)
  have HB3 := Lib.hid (ValsP.below HB1.out b3)
  have HX3 := Lib.hid (RK.P.mono hx (fun _ _ _ => trivial) (ok' := fun _ => True))
  have QPB := Lib.hid (DParse_v _ fb w3 HB3.out (by omega) (short_mono (by omega) hsb2))
  obtain ⟨xo, xc, rfl, x1, x2⟩ := hx.form
  unfold maxLen at x2
  clear b3 QPA HW1 HA1 HB1 hx
  go_wp2_with fail
  refine QPB.out.mono ?_
  rintro e w4 ⟨ry, rfl, hy, b4⟩
  have HW4 := Lib.hid (HW3.out.trans (b4.mono HW3.out.size))
  have HA4 := Lib.hid (ValsP.below HA3.out b4)
  have HB4 := Lib.hid (ValsP.below HB3.out b4)
  have HX4 := Lib.hid (HX3.out.below b4)
  have HY4 := Lib.hid (RK.P.mono hy (fun _ _ _ => trivial) (ok' := fun _ => True))
  obtain ⟨yo, yc, rfl, y1, y2⟩ := hy.form
  unfold maxLen at y2
  have hal : Below w4.heap.size w4 (w4.alloc (.cells #[.slice ao fa.len ac, .slice bo fb.len bc] 22)) := (Below.refl _ _).alloc (Nat.le_refl _) _
  have QJ := Lib.hid (rJoin_any [59] _ _ _ (two_listD (heap_alloc_new w4 (.cells #[.slice ao fa.len ac, .slice bo fb.len bc] 22)) (ValsP.below HA4.out hal) (ValsP.below HB4.out hal)) (by simp only [Wn.sizes]; omega))
  have HP : Hid (Wn.str [59] = ⟨#[59]⟩) := Lib.hid rfl
  rw [HP.out] at QJ
  have HAL := Lib.hid hal
  clear b4 QPB HW3 HA3 HB3 hy HX3 hal
  go_wp2_with fail
  refine QJ.out.mono ?_
  rintro e w5 ⟨rj, rfl, hj, b5⟩
  have hB45 := HAL.out.trans (b5.mono HAL.out.size)
  have HW5 := Lib.hid (HW4.out.trans (hB45.mono HW4.out.size))
  have HA5 := Lib.hid (ValsP.below HA4.out hB45)
  have HX5 := Lib.hid (HX4.out.below hB45)
  have HY5 := Lib.hid (HY4.out.below hB45)
  have hjs : (Wn.joinF [59] [fa, fb]).size ≤ 100000 := by have := Wn.joinF_size [59] [fa, fb]; simp only [Wn.sizes] at this; omega
  have hjh : Short100 (Wn.joinF [59] [fa, fb]) := by
    rw [show Wn.joinF [59] [fa, fb] = fa.app (.cons 1 (Wn.dlm [59]) .nil fb) from rfl]
    exact short_app hsa2 ⟨by show [(59 : UInt8)].length ≤ 100; simp, trivial, hsb2⟩
  have QPJ := Lib.hid (DParse_v rj _ w5 hj hjs (short_mono (by omega) hjh))
  rw [Wn.parse_app] at QPJ
  obtain ⟨jo, jc, rfl, _, _⟩ := hj.form
  clear hB45 b5 QJ HW4 HA4 HB4 HX4 HY4 HAL hj hjs hjh HP
  go_wp2_with fail
  refine QPJ.out.mono ?_
  rintro e w6 ⟨rz, rfl, hz, b6⟩
  have HW6 := Lib.hid (HW5.out.trans (b6.mono HW5.out.size))
  have HA6 := Lib.hid (ValsP.below HA5.out b6)
  have HX6 := Lib.hid (HX5.out.below b6)
  have HY6 := Lib.hid (HY5.out.below b6)
  have HZ6 := Lib.hid (RK.P.mono hz (fun _ _ _ => trivial) (ok' := fun _ => True))
  obtain ⟨zo, zc, rfl, z1, z2⟩ := hz.form
  have hpx : (Wn.parseD fa).length ≤ 1000 := by have := Wn.parse_len fa; have := Wn.cuts_len (Wn.signV [59]) fa; omega
  have hpy : (Wn.parseD fb).length ≤ 1000 := by have := Wn.parse_len fb; have := Wn.cuts_len (Wn.signV [59]) fb; omega
  have hcut := Wn.parse_len fa
  clear b6 QPJ HW5 HA5 HX5 HY5 hz
  generalize hX : Wn.parseD fa = X at *
  generalize hY : Wn.parseD fb = Y at *
  -- the new list
  have hb7 : Below w6.heap.size w6 (w6.alloc (.cells #[] 44)) := (Below.refl _ _).alloc (Nat.le_refl _) _
  have HOV : Hid (dlK.Own w6.heap.size (fun _ => True) (w6.alloc (.cells #[] 44)) (.slice (some ⟨w6.heap.size, 0, none⟩) 0 0) [] []) := Lib.hid ⟨World.ownsRow_made w6 #[] 0 (Nat.le_refl _) (by unfold maxLen; omega) rfl, trivial⟩
  have hs7 : w6.heap.size ≤ (w6.alloc (.cells #[] 44)).heap.size := hb7.size
  obtain ⟨xs, hxs, hxr⟩ := RK.P.src (RK.P.below HX6.out.old hb7)
  have hxl := hxr.length
  have HB7 := Lib.hid hb7
  have HXS := Lib.hid hxs
  have HXR := Lib.hid hxr
  have HYL : Hid (Y.length ≤ 1000) := Lib.hid hpy
  have hlen1 : ([] : List (List Value)).length + xs.length ≤ 1048576 := by simp; omega
  have hzf : dlK.P w6 (fun _ => True) (.slice zo (X.length + Y.length) zc) (X ++ Y) := by rw [← List.length_append]; exact HZ6.out
  have HZF := Lib.hid hzf
  have HTR : Hid (∀ (v9 : Value) (w9 : World), dlK.P w9 (fun _ => True) v9 (X ++ Y) → Below w6.heap.size w6 w9 → Calls Tryz.prog 11 #[.slice zo (X.length + Y.length) zc, v9] w9 fun e w' => e = .returned (.bool true) ∧ Below w9.heap.size w9 w') := Lib.hid (fun v9 w9 h1 h2 => by
    have := rSame7_v (X ++ Y) (X ++ Y) _ v9 w9 (HZF.out.below h2) h1
    rwa [decide_eq_true rfl] at this)
  have HXL : Hid (xs.length = X.length) := Lib.hid hxl
  clear hb7 hxs hxr hzf HZ6 hxl
  go_wp2_with (first
    | (at_builtin; refine RK.append (K := dlK) rfl _ _ rfl rfl rfl HOV.out.own HXS.out hlen1 hs7 ?_; intro v8 w8 hown8 hgr8 hat8; (have hB8 : Below w6.heap.size w6 w8 := Below.grown HB7.out hgr8 hs7 (fun c hc => (HOV.out.own.lt c hc).1)); (obtain ⟨ys, hys, hyr⟩ := RK.P.src (RK.P.below HY6.out.old hB8)); (have hlen2 : (([] : List (List Value)) ++ xs).length + ys.length ≤ 1048576 := by (have h1 := hyr.length; have h2 := HYL.out; have h3 := HXL.out; simp; omega)); (have HYS := Lib.hid hys); (have HYR := Lib.hid hyr); (have HO8 := Lib.hid hown8); (have HB8 := Lib.hid hB8); clear hys hyr hown8 hgr8 hat8 hB8)
    | (at_builtin; refine RK.append (K := dlK) rfl _ _ rfl rfl rfl HO8.out HYS.out hlen2 HB8.out.size ?_; intro v9 w9 hown9 hgr9 hat9; (have hB9 : Below w6.heap.size w6 w9 := Below.grown HB8.out hgr9 HB8.out.size (fun c hc => (HO8.out.lt c hc).1)); (have hP9 : dlK.P w9 (fun _ => True) v9 (X ++ Y) := RK.P.ofRow hown9 ((HXR.out.same (fun b hb _ => (hB9.block b hb).trans (HB7.out.block b hb).symm) (fun _ _ _ => trivial)).app (HYR.out.same (fun b hb _ => (hB9.block b hb).trans (HB8.out.block b hb).symm) (fun _ _ _ => trivial))) (fun _ _ _ => trivial)); (have HB9 := Lib.hid hB9); (have HQ9 := Lib.hid (HTR.out v9 w9 hP9 hB9)); clear hown9 hgr9 hat9 hB9 hP9))
  refine HQ9.out.mono ?_
  rintro e w10 ⟨rfl, b10⟩
  have hB10 := HB9.out.trans (b10.mono HB9.out.size)
  have HB10 := Lib.hid hB10
  have QA := Lib.hid (rAt_any [59] _ fa w10 (ValsP.below HA6.out hB10) (by omega))
  rw [show Wn.str [59] = ⟨#[59]⟩ from rfl] at QA
  clear hB10 b10
  go_wp2_with fail
  refine QA.out.mono ?_
  rintro e w11 ⟨ra, rfl, hra, b11⟩
  obtain ⟨qo, qc, rfl, _, _⟩ := hra.form
  have HB11 := Lib.hid (HB10.out.trans (b11.mono HB10.out.size))
  have hfin : (X.length : Int) ≤ ((Wn.cuts (Wn.signV [59]) fa).length : Int) := by omega
  clear hra b11 QA
  go_wp2_with fail
  go_ret
  exact ⟨rfl, HW6.out.trans (HB11.out.mono HW6.out.size)⟩
end Go.Proofs.YtjlejiphpbaonaaGreatDoor
set_option maxRecDepth 20000
namespace Go.Proofs.YtjlejiphpbaonaaGreatDoor.DApart
open Go.ChangeShapes Go.WideShapes Go.ChangeAt Go.RowKit
open Go.ChangeMaps (open_string shut_string)
theorem contract (H : Type) (enc : TypeId × Value → H) (W : World) (base : Nat) (args : Array Value) (ds gs : List (DataW H)) (before : List MemPlace)
    (hval : ∀ (j : Nat) t v, Tryz.f5.params[j]? = some t → args[j]? = some v → Value.okWide Tryz.prog W .any base t v)
    (hW : DataW.Whole enc Tryz.prog Tryz.f5.params.toList Rows.declsApartSpec.vars false W args.toList ds gs before) (hL : laidMetH Tryz.prog Rows.declsApartRow.laid W) :
    Calls Tryz.prog 5 args W fun e W' => ∃ v, e = .returned v ∧ Rows.declsApartSpec.post enc Tryz.prog Tryz.f5 false true false false W args v W' := by
  have hW' := hW
  obtain ⟨p, q, hA0, hV, rfl, hfz, hnd⟩ := hW
  have hA : DataW.TrodAll enc Tryz.prog W 0 (fun _ => true) true Tryz.f5.params.toList args.toList ds p := hA0
  rw [Tryz.params5] at hA hval
  obtain ⟨v0, vs0, d0, ds0, p0, q0, hargs, rfl, rfl, h0, r0⟩ := trodAll_cons hA
  obtain ⟨v1, vs1, d1, ds1, p1, q1, rfl, rfl, rfl, h1, r1⟩ := trodAll_cons r0
  obtain ⟨rfl, rfl, rfl⟩ := trodAll_nil r1
  obtain rfl : args = #[v0, v1] := by cases args; simp_all
  obtain ⟨rfl, rfl⟩ := trodVars_none hV
  obtain ⟨l0, hl0, hn0⟩ := open_vals (hval 0 22 v0 rfl rfl) h0
  obtain ⟨l1, hl1, hn1⟩ := open_vals (hval 1 22 v1 rfl rfl) h1
  clear hA0
  simp only [List.append_nil] at hW'
  have hlt : ∀ x ∈ (p0 ++ p1), x.block < W.heap.size := fun x hx => hW'.lt x hx
  refine (ldApart_any v0 v1 l0 l1 W (table hL) hl0 hl1).mono fun e W' ⟨he, hb⟩ => ?_
  subst he
  exact ⟨_, rfl, post_of_below (pa := (p0 ++ (p1 ++ []))) (pv := []) hW' (fun _ _ _ => trodAll_cons_mk (shut_bool Tryz.underlying4 _) trodAll_mk0)
    (fun sp hsp => (trodAll_cons_mk (again (t := 22) (by kernel_rfl) (by decide) h0 hb (fun x hx => hlt x (by simp [hx])) (fun x hx => hsp x (by simp [hx])))
      (trodAll_cons_mk (again (t := 22) (by kernel_rfl) (by decide) h1 hb (fun x hx => hlt x (by simp [hx])) (fun x hx => hsp x (by simp [hx])))
      trodAll_mk0))) (fun _ _ => rfl) (by simp) hb
    (ok_one (by kernel_rfl) rfl (okWide_bool_mk Tryz.underlying4 _))⟩
theorem laid_met (os : Os) : laidMet Tryz.prog Rows.declsApartRow.laid ((laidWorld os).forCall (fun _ _ => 0) ⟨#[], #[.slice none 0 0, .slice none 0 0], []⟩).memory :=
  laidMet_of_run' 8 (by kernel_rfl) (by kernel_rfl)
theorem reads (os : Os) {H : Type} (enc : TypeId × Value → H) : ∃ places, DataW.whole enc Tryz.prog ((laidWorld os).forCall (fun _ _ => 0) ⟨#[], #[.slice none 0 0, .slice none 0 0], []⟩).memory Tryz.f5.params.toList Rows.declsApartSpec.vars false #[Value.slice none 0 0, Value.slice none 0 0].toList 8 = some ([.nil, .nil], [], places) :=
  ⟨[], by kernel_rfl⟩
set_option maxRecDepth 100000 in
theorem lifted (os : Os) (started : os.Started) (H : Type) (enc : TypeId × Value → H) (F : Stop.Interp) :
    ReturnsInHanded {} Tryz.checked os 5 .any ((OpenSpec.ofChange Rows.declsApartSpec).preRow enc Tryz.prog Tryz.f5 Rows.declsApartRow.domain false Rows.declsApartRow.laid) (((OpenSpec.ofChange Rows.declsApartSpec).at F).post enc Tryz.prog Tryz.f5 false true false false) := by
  obtain ⟨places, hx⟩ := reads os enc
  refine returnsInHanded_of_row (C := Tryz.checked) (s := OpenSpec.ofChange Rows.declsApartSpec) own started (by kernel_rfl) Tryz.func5
    (witness_row_at (enc := enc) (C := Tryz.checked) false (laidWorld os) #[.slice none 0 0, .slice none 0 0] rfl (by kernel_rfl) (by kernel_rfl) (by kernel_rfl)
      (OpenSpec.preRow_of_cond 8 hx (by kernel_rfl) (fun k hk => by cases hk) (by kernel_rfl) (laid_met os))) ?_
  intro W base args ds gs before hval hW _ _ _ hL _ _
  exact contract H enc W base args ds gs before hval hW hL
theorem said : Rows.DeclsApartSaid :=
  OpenClaim.holds_of_cond 5 Tryz.f5 rfl rfl rfl rfl rfl rfl rfl ⟨rfl, rfl, rfl, rfl, rfl⟩ rfl rfl rfl rfl rfl (by kernel_rfl) Tryz.func5 (by kernel_rfl)
    (of_decide_eq_true (by kernel_rfl)) (by unfold Func.isWrapper; first | (rw [if_pos (by decide +kernel)]; kernel_rfl) | (rw [if_neg (by decide +kernel)]; exact ⟨rfl, rfl⟩))
    (fun os started H enc _ F => by rw [OpenClaim.pre_eq_preRow]; exact lifted os started H enc F)
theorem plain (f : FuncId) (fn : Func) (hf : Tryz.pinned.checked.prog.funcNamed "winnowing/winnowinglaw07.DeclsApart" = some f) (hfn : Tryz.pinned.checked.prog.funcs[f]? = some fn) :
    true = Tryz.pinned.checked.prog.looks [] ∧ ∀ (j : Nat) t, fn.params[j]? = some t → Tryz.pinned.checked.prog.wantsStandIn t = false := by
  obtain rfl : f = 5 := Option.some.inj ((show Tryz.prog.funcNamed "winnowing/winnowinglaw07.DeclsApart" = some 5 by kernel_rfl).symm.trans hf) |>.symm
  obtain rfl : fn = Tryz.f5 := (Option.some.inj (Tryz.func5.symm.trans hfn)).symm
  refine ⟨by kernel_rfl, fun j t ht => ?_⟩
  rw [Tryz.params5] at ht
  have hm : t ∈ [22, 22] := by simpa using Array.mem_of_getElem? ht
  have hall : ([22, 22].all fun u => !Tryz.prog.wantsStandIn u) = true := by kernel_rfl
  exact (show Tryz.prog.wantsStandIn t = false by simpa using List.all_eq_true.1 hall t hm)
end Go.Proofs.YtjlejiphpbaonaaGreatDoor.DApart
namespace Go.Proofs.YtjlejiphpbaonaaGreatDoor
open Go
theorem declsApart_card : Rows.DeclsApartCardSaid :=
  Claim7.holds_tied_plain_at .later [] _ _ _ _ DApart.said (fun _ h => by cases h) (by kernel_rfl) (fun _ h => by cases h) declsApart_row_tie rfl ⟨rfl, rfl⟩ (by kernel_rfl) rfl DApart.plain (by kernel_rfl)
end Go.Proofs.YtjlejiphpbaonaaGreatDoor
