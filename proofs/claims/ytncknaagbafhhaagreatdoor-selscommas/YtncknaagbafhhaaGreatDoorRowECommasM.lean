/- for all texts: the call returns true, and each argument reads afterwards as it read before. The three listed tables of the library are tied to the program's text. -/
import Derived.Test.YtncknaagbafhhaaGreatDoorHQ
import Derived.Test.YtncknaagbafhhaaGreatDoorGH
set_option linter.unusedVariables false
set_option linter.unusedSimpArgs false
set_option maxRecDepth 20000
namespace Go.Proofs.YtncknaagbafhhaaGreatDoor
open Go.RowKit Go.Sort
set_option maxRecDepth 100000 in
set_option maxHeartbeats 4000000 in
theorem lcommas_any (s t : ByteArray) (w : World) (ht : Tab w) :
    Calls Tryz.prog 4 #[.string s, .string t] w fun e w' => e = .returned (.bool true) ∧ Below w.heap.size w w' := by
  have HT := Lib.hid ht; clear ht
  by_cases hs : 500 < s.size
  · have hs' : (500 : Int) < (s.size : Int) := by omega
    go_enter Tryz.func4, Tryz.ntmps4
    go_wp2_with fail
    refine (fixed04 _ HT.out).mono ?_
    rintro e w1 ⟨rfl, b1⟩
    have HB1 := Lib.hid b1; clear b1
    go_wp2_with fail
    refine (fixed04 _ (HT.out.below HB1.out)).mono ?_
    rintro e w2 ⟨rfl, b2⟩
    have HB2 := Lib.hid (HB1.out.trans (b2.mono HB1.out.size)); clear b2 HB1
    go_wp2_with fail
    go_ret
    exact ⟨rfl, HB2.out⟩
  have hs' : ¬ (500 : Int) < (s.size : Int) := by omega
  by_cases ht : 500 < t.size
  · have ht' : (500 : Int) < (t.size : Int) := by omega
    go_enter Tryz.func4, Tryz.ntmps4
    go_wp2_with fail
    refine (fixed04 _ HT.out).mono ?_
    rintro e w1 ⟨rfl, b1⟩
    have HB1 := Lib.hid b1; clear b1
    go_wp2_with fail
    refine (fixed04 _ (HT.out.below HB1.out)).mono ?_
    rintro e w2 ⟨rfl, b2⟩
    have HB2 := Lib.hid (HB1.out.trans (b2.mono HB1.out.size)); clear b2 HB1
    go_wp2_with fail
    go_ret
    exact ⟨rfl, HB2.out⟩
  have ht' : ¬ (500 : Int) < (t.size : Int) := by omega
  go_enter Tryz.func4, Tryz.ntmps4
  go_wp2_with fail
  refine (fixed04 _ HT.out).mono ?_
  rintro e w1 ⟨rfl, b1⟩
  have HB1 := Lib.hid b1; clear b1
  go_wp2_with fail
  refine (rRead_w s _ (by omega)).mono ?_
  rintro e w2 ⟨ro, rn, rc, d, f, rfl, b2, hv, hsz, htl, hd⟩
  have HB2 := Lib.hid (HB1.out.trans (b2.mono HB1.out.size))
  have HV2 := Lib.hid hv
  have HD := Lib.hid hd
  clear b2 HB1 hv hd
  go_wp2_with fail
  refine (rRead_w t _ (by omega)).mono ?_
  rintro e w3 ⟨qo, qn, qc, g, f', rfl, b3, hv', hsz', htl', hg⟩
  have HB3 := Lib.hid (HB2.out.trans (b3.mono HB2.out.size))
  have HV3 := Lib.hid (HV2.out.below b3)
  have HW3 := Lib.hid hv'
  have HG := Lib.hid hg
  clear b3 HB2 HV2 hv' hg
  go_wp2_with fail
  refine (SParse_u _ f w3 HV3.out htl (by omega)).mono ?_
  rintro e w4 ⟨ao, ac, ek, la, rfl, b4, hpa, hea⟩
  have HB4 := Lib.hid (HB3.out.trans (b4.mono HB3.out.size))
  have HV4 := Lib.hid (HV3.out.below b4)
  have HW4 := Lib.hid (HW3.out.below b4)
  have HPA := Lib.hid hpa
  have HEA := Lib.hid hea
  clear b4 HB3 HV3 HW3 hpa hea
  go_wp2_with fail
  refine (SParse_u _ f' w4 HW4.out htl' (by omega)).mono ?_
  rintro e w5 ⟨bo, bc, fk, lb, rfl, b5, hpb, heb⟩
  have HB5 := Lib.hid (HB4.out.trans (b5.mono HB4.out.size))
  have HV5 := Lib.hid (HV4.out.below b5)
  have HW5 := Lib.hid (HW4.out.below b5)
  have HPA5 := Lib.hid (HPA.out.below b5)
  have HPB5 := Lib.hid hpb
  have HEB := Lib.hid heb
  clear b5 HB4 HV4 HW4 HPA hpb heb
  have HJS := Lib.hid (join_size hsz hsz')
  have HTJ := Lib.hid (htl.join htl')
  have HSZ := Lib.hid hsz
  have HTL := Lib.hid htl
  clear htl htl'
  rcases HD.out with ⟨rfl, hm, hlt⟩ | rfl
  case inr =>
    go_wp2_with fail
    go_ret
    exact ⟨rfl, HB5.out⟩
  rcases HG.out with ⟨rfl, hm', hlt'⟩ | rfl
  case inr =>
    go_wp2_with fail
    go_ret
    exact ⟨rfl, HB5.out⟩
  have HMA := Lib.hid (fun h => Wn.sels_may (l := la) h hm hlt)
  clear hm' hlt' hm hlt HD HG
  rcases HEA.out with ⟨rfl, ha⟩ | ⟨rfl, ha, rfl⟩
  case inr =>
    clear HMA HEA
    go_wp2_with fail
    have hBA : Below w5.heap.size w5 (w5.alloc (.cells #[.slice ro rn rc, .slice qo qn qc] 22)) := (Below.refl _ _).alloc (Nat.le_refl _) _
    have QJ : Hid (Calls Tryz.prog 23 #[.slice (some ⟨w5.heap.size, 0, none⟩) 2 2, .string ⟨#[44]⟩] (w5.alloc (.cells #[.slice ro rn rc, .slice qo qn qc] 22)) fun e w' => ∃ r, e = .returned r ∧ Vals w' r (Wn.joinF [44] [f, f']) ∧ Below (w5.alloc (.cells #[.slice ro rn rc, .slice qo qn qc] 22)).heap.size (w5.alloc (.cells #[.slice ro rn rc, .slice qo qn qc] 22)) w') := Lib.hid (rJoin_any [44] _ [f, f'] _ (two_list (heap_alloc_new w5 _) (HV5.out.below hBA) (HW5.out.below hBA)) HJS.out.2)
    have HBJ := Lib.hid (HB5.out.trans (hBA.mono HB5.out.size))
    have HVJ := Lib.hid (HV5.out.below hBA)
    have HPAJ := Lib.hid (HPA5.out.below hBA)
    have HPBJ := Lib.hid (HPB5.out.below hBA)
    clear hBA HB5 HV5 HW5 HPA5 HPB5
    go_wp2_with fail
    refine QJ.out.mono ?_
    rintro e wj ⟨jr, rfl, hvj, bj⟩
    have HBK := Lib.hid (HBJ.out.trans (bj.mono HBJ.out.size))
    have HVK := Lib.hid (HVJ.out.below bj)
    have HPAK := Lib.hid (HPAJ.out.below bj)
    have HPBK := Lib.hid (HPBJ.out.below bj)
    have hform : ∃ ao n c, jr = .slice ao n c := by obtain ⟨ao, cap, hv, _⟩ := hvj.form; exact ⟨_, _, _, hv⟩
    obtain ⟨jo, jn, jc, rfl⟩ := hform
    have QP := Lib.hid (SParse_u _ _ wj hvj HTJ.out HJS.out.1)
    clear hvj bj HBJ HVJ HPAJ HPBJ QJ
    go_wp2_with fail
    refine QP.out.mono ?_
    rintro e wc ⟨co, cc, hk, lc, rfl, bcw, hpc, hec⟩
    have HBC := Lib.hid (HBK.out.trans (bcw.mono HBK.out.size))
    have HVC := Lib.hid (HVK.out.below bcw)
    have HPAC := Lib.hid (HPAK.out.below bcw)
    have HPBC := Lib.hid (HPBK.out.below bcw)
    have HPC := Lib.hid hpc
    have HEC := Lib.hid hec
    clear bcw hpc hec QP HBK HVK HPAK HPBK
    have HEC2 := HEC.out
    rw [Wn.sels_join_none (.inl ha)] at HEC2
    rcases HEC2 with ⟨_, h⟩ | ⟨rfl, _, rfl⟩
    · cases h
    · simp only [List.length_nil] at *
      go_wp2_with fail
      go_ret
      exact ⟨rfl, HBC.out⟩
  obtain ⟨hmay, hsh⟩ := HMA.out ha
  have QM4 : Hid (∀ W, cxK.P W (fun _ => True) (.slice ao la.length ac) la → Calls Tryz.prog 21 #[.slice ao la.length ac] W fun e w' => e = .returned (.bool true) ∧ Below W.heap.size W w') := Lib.hid (fun W h => by have := rMay4_v la _ W h hsh; rw [hmay] at this; exact this)
  have QMS : Hid (∀ W, Tab W → cxK.P W (fun _ => True) (.slice ao la.length ac) la → Calls Tryz.prog 20 #[.slice ao la.length ac] W fun e w' => e = .returned (.bool true) ∧ Below W.heap.size W w') := Lib.hid (fun W hT h => by have := SMay_v la _ W h hT (fun c hc q hq x hx => Wn.shD_short (hsh c hc q hq x hx) (Wn.may_mem hmay c hc q hq x hx)); rw [hmay] at this; exact this)
  have HA := Lib.hid ha
  clear HMA HEA ha hmay hsh
  go_wp2_with fail
  refine (QM4.out w5 HPA5.out).mono ?_
  rintro e w6 ⟨rfl, b6⟩
  have HB6 := Lib.hid (HB5.out.trans (b6.mono HB5.out.size))
  have HV6 := Lib.hid (HV5.out.below b6)
  have HW6 := Lib.hid (HW5.out.below b6)
  have HPA6 := Lib.hid (HPA5.out.below b6)
  have HPB6 := Lib.hid (HPB5.out.below b6)
  clear b6 HB5 HV5 HW5 HPA5 HPB5 QM4
  go_wp2_with fail
  refine (QMS.out w6 (HT.out.below HB6.out) HPA6.out).mono ?_
  rintro e w7 ⟨rfl, b7⟩
  have HB7 := Lib.hid (HB6.out.trans (b7.mono HB6.out.size))
  have HV7 := Lib.hid (HV6.out.below b7)
  have HW7 := Lib.hid (HW6.out.below b7)
  have HPA7 := Lib.hid (HPA6.out.below b7)
  have HPB7 := Lib.hid (HPB6.out.below b7)
  clear b7 HB6 HV6 HW6 HPA6 HPB6 QMS
  go_wp2_with fail
  have hBA : Below w7.heap.size w7 (w7.alloc (.cells #[.slice ro rn rc, .slice qo qn qc] 22)) := (Below.refl _ _).alloc (Nat.le_refl _) _
  have QJ : Hid (Calls Tryz.prog 23 #[.slice (some ⟨w7.heap.size, 0, none⟩) 2 2, .string ⟨#[44]⟩] (w7.alloc (.cells #[.slice ro rn rc, .slice qo qn qc] 22)) fun e w' => ∃ r, e = .returned r ∧ Vals w' r (Wn.joinF [44] [f, f']) ∧ Below (w7.alloc (.cells #[.slice ro rn rc, .slice qo qn qc] 22)).heap.size (w7.alloc (.cells #[.slice ro rn rc, .slice qo qn qc] 22)) w') := Lib.hid (rJoin_any [44] _ [f, f'] _ (two_list (heap_alloc_new w7 _) (HV7.out.below hBA) (HW7.out.below hBA)) HJS.out.2)
  have HBJ := Lib.hid (HB7.out.trans (hBA.mono HB7.out.size))
  have HVJ := Lib.hid (HV7.out.below hBA)
  have HPAJ := Lib.hid (HPA7.out.below hBA)
  have HPBJ := Lib.hid (HPB7.out.below hBA)
  clear hBA HB7 HV7 HW7 HPA7 HPB7
  go_wp2_with fail
  refine QJ.out.mono ?_
  rintro e wj ⟨jr, rfl, hvj, bj⟩
  have HBK := Lib.hid (HBJ.out.trans (bj.mono HBJ.out.size))
  have HVK := Lib.hid (HVJ.out.below bj)
  have HPAK := Lib.hid (HPAJ.out.below bj)
  have HPBK := Lib.hid (HPBJ.out.below bj)
  have hform : ∃ ao n c, jr = .slice ao n c := by obtain ⟨ao, cap, hv, _⟩ := hvj.form; exact ⟨_, _, _, hv⟩
  obtain ⟨jo, jn, jc, rfl⟩ := hform
  have QP := Lib.hid (SParse_u _ _ wj hvj HTJ.out HJS.out.1)
  clear hvj bj HBJ HVJ HPAJ HPBJ QJ
  go_wp2_with fail
  refine QP.out.mono ?_
  rintro e wc ⟨co, cc, hk, lc, rfl, bcw, hpc, hec⟩
  have HBC := Lib.hid (HBK.out.trans (bcw.mono HBK.out.size))
  have HVC := Lib.hid (HVK.out.below bcw)
  have HPAC := Lib.hid (HPAK.out.below bcw)
  have HPBC := Lib.hid (HPBK.out.below bcw)
  have HPC := Lib.hid hpc
  have HEC := Lib.hid hec
  clear bcw hpc hec QP HBK HVK HPAK HPBK
  rcases HEB.out with ⟨rfl, hb⟩ | ⟨rfl, hb, rfl⟩
  case inr =>
    have HEC2 := HEC.out
    rw [Wn.sels_join_none (.inr hb)] at HEC2
    rcases HEC2 with ⟨_, h⟩ | ⟨rfl, _, rfl⟩
    · cases h
    · clear HEB HEC
      simp only [List.length_nil] at *
      go_wp2_with fail
      go_ret
      exact ⟨rfl, HBC.out⟩
  have HEC2 := HEC.out
  rw [Wn.sels_join_some HA.out hb] at HEC2
  have h32a := (Wn.sels_some HA.out).2.2
  have h32b := (Wn.sels_some hb).2.2
  clear HEB HEC
  by_cases h32 : la.length + lb.length ≤ 32
  case neg =>
    rw [if_neg h32] at HEC2
    rcases HEC2 with ⟨_, h⟩ | ⟨rfl, _, rfl⟩
    · cases h
    · have h32' : (32 : Int) < (la.length : Int) + (lb.length : Int) := by omega
      simp only [List.length_nil] at *
      go_wp2_with fail
      go_ret
      exact ⟨rfl, HBC.out⟩
  rw [if_pos h32] at HEC2
  rcases HEC2 with ⟨rfl, h⟩ | ⟨_, h, _⟩
  case inr => cases h
  cases h
  have h32' : ¬ (32 : Int) < (la.length : Int) + (lb.length : Int) := by omega
  have QA : Hid (Calls Tryz.prog 24 #[.slice ro rn rc, .string ⟨#[44]⟩] wc fun e w' => ∃ r, e = .returned r ∧ ListP w' (fun _ => True) r (Wn.cuts (Wn.signV [44]) f) ∧ Below wc.heap.size wc w') := Lib.hid (rAt_any [44] _ f wc HVC.out (by have := HSZ.out; omega))
  go_wp2_with fail
  refine QA.out.mono ?_
  rintro e wd ⟨r, rfl, hlp, bd⟩
  have HBD := Lib.hid (HBC.out.trans (bd.mono HBC.out.size))
  have HPAD := Lib.hid (HPAC.out.below bd)
  have HPBD := Lib.hid (HPBC.out.below bd)
  have HPD := Lib.hid (HPC.out.below bd)
  obtain ⟨po, pc, rfl, hpc1, hpc2⟩ := hlp.form
  rw [(Wn.sels_some HA.out).2.1] at hpc1 ⊢
  have HLP := Lib.hid hlp
  have hac := HPAD.out.form
  obtain ⟨_, _, hae, hac1, hac2⟩ := hac
  simp only [Value.slice.injEq, true_and] at hae
  obtain ⟨rfl, rfl⟩ := hae
  obtain ⟨_, _, hbe, hbc1, hbc2⟩ := HPBD.out.form
  simp only [Value.slice.injEq, true_and] at hbe
  obtain ⟨rfl, rfl⟩ := hbe
  obtain ⟨_, _, hce, hcc1, hcc2⟩ := HPD.out.form
  simp only [Value.slice.injEq, true_and] at hce
  obtain ⟨rfl, rfl⟩ := hce
  unfold maxLen at hpc2 hac2 hbc2 hcc2
  clear bd hlp QA HBC HVC HPAC HPBC HPC
  have HTF := HTL
  go_wp2_with fail
  go_loopw [16] (fun v16 wr => ∃ (i : Nat), i ≤ la.length ∧ v16 = .int .i64 (i : Int) ∧ Hid (Below wd.heap.size wd wr)) (fun v16 _ => la.length - (intOf v16).toNat)
  case atStart => exact ⟨0, by omega, rfl, Lib.hid (Below.refl _ _)⟩
  case round =>
    obtain ⟨i, hil, rfl, HB⟩ := hrel
    by_cases hlt : i < la.length
    · obtain ⟨g, hg⟩ := Wn.get_lt (show i < (Wn.cuts (Wn.signV [44]) f).length by rw [(Wn.sels_some HA.out).2.1]; exact hlt)
      obtain ⟨c, hc, hsel⟩ := Wn.sels_each HA.out hg
      obtain ⟨b, o, u, rfl, jw, hu⟩ := (HLP.out.below HB.out).at hg
      obtain ⟨uo, uc, rfl, _, _⟩ := hu.form
      have QP := Lib.hid (SParse_u _ g wr hu (Tl.cuts HTF.out g (List.mem_of_getElem? hg)) (by have := cuts_size (List.mem_of_getElem? hg); have := HSZ.out; omega))
      obtain ⟨pb, pp, rfl⟩ := HPAD.out.place (by rintro rfl; simp at hlt)
      have hi1 : (i : Int) < (la.length : Int) := by omega
      have HC := Lib.hid hc
      clear hu hg
      go_wp2_with fail
      refine QP.out.mono ?_
      rintro e wx ⟨xo, xc, kx, lx, rfl, bx, hpx, hex⟩
      rw [hsel] at hex
      rcases hex with ⟨rfl, h⟩ | ⟨_, h, _⟩
      case inr => cases h
      cases h
      have HBX := Lib.hid (HB.out.trans (bx.mono HB.out.size))
      have HSUB : Hid (cxK.P wx (fun _ => True) (.slice (some ⟨pb, pp + i * 2, none⟩) 1 (ac - i)) [c]) := Lib.hid (by
        have := (HPAD.out.below HBX.out).sub i (i + 1) (by omega) (by omega)
        rw [take_one HC.out, show i + 1 - i = 1 by omega] at this
        exact this)
      have QS : Hid (Calls Tryz.prog 19 #[.slice xo 1 xc, .slice (some ⟨pb, pp + i * 2, none⟩) 1 (ac - i)] wx fun e w' => e = .returned (.bool true) ∧ Below wx.heap.size wx w') := Lib.hid (by have := rSame4_v _ _ _ _ wx hpx HSUB.out; rw [decide_eq_true rfl] at this; exact this)
      have hai : i < ac := by omega
      have hai' : (i : Int) < (ac : Int) := by omega
      have hi2 : (i : Int) + 1 ≤ (la.length : Int) := by omega
      clear bx hpx HB QP hsel HSUB
      simp only [List.length_cons, List.length_nil, Nat.zero_add]
      go_wp2_with fail
      refine QS.out.mono ?_
      rintro e wy ⟨rfl, bY⟩
      have HBY := Lib.hid (HBX.out.trans (bY.mono HBX.out.size))
      clear bY QS HBX
      go_wp2_with fail
      exact ⟨⟨i + 1, by omega, by go_num, HBY⟩, by simp [intOf]; omega⟩
    · have hni : ¬ (i : Int) < (la.length : Int) := by omega
      obtain ⟨esa, hsa, hra⟩ := (HPAD.out.below HB.out).src
      obtain ⟨esb, hsb, hrb⟩ := (HPBD.out.below HB.out).src
      have hla := hra.length
      have hlb := hrb.length
      have HBA : Hid (Below wr.heap.size wr (wr.alloc (.cells #[] 46))) := Lib.hid ((Below.refl _ _).alloc (Nat.le_refl _) _)
      have HO : Hid ((wr.alloc (.cells #[] 46)).ownsRow wr.heap.size cxK.e cxK.sz (.slice (some ⟨wr.heap.size, 0, none⟩) 0 0) ([] : List (List Value)).length ([] : List (List Value)).flatten) := Lib.hid (World.ownsRow_made wr #[] 0 (Nat.le_refl _) (by unfold maxLen; omega) rfl)
      have HSA := Lib.hid (hsa.later (Nat.le_refl _) HBA.out)
      have HSB := Lib.hid hsb
      have HZ : Hid (wr.heap.size ≤ (wr.alloc (.cells #[] 46)).heap.size) := Lib.hid (by simp)
      have HRA := Lib.hid hra
      have HRB := Lib.hid hrb
      have HFIN := Lib.hid (fun W (h : Below wr.heap.size wr W) => HBD.out.trans ((HB.out.trans (h.mono HB.out.size)).mono HBD.out.size))
      have HPW := Lib.hid (HPD.out.below HB.out)
      have HLA := Lib.hid hla
      have HLB := Lib.hid hlb
      have hesa : esa.length ≤ 32 := by omega
      have hesb : esb.length ≤ 32 := by omega
      clear hsa hsb hra hrb hla hlb hlt
      have HN8 : Hid ((([] : List (List Value)) ++ esa).length = la.length) := Lib.hid (by rw [List.nil_append]; exact HLA.out)
      have HN9 : Hid ((esa ++ esb).length = la.length + lb.length) := Lib.hid (by rw [List.length_append, HLA.out, HLB.out])
      go_wp2_with (first
        | (at_builtin; refine RK.append_g (K := cxK) (by first | rfl | simp [Region.wanted, yielded]) _ _ rfl wr.heap.size _ _ _ _ rfl rfl HO8.out HSB8.out (by omega) HZ8.out ?_; intro v9 w9 hown9 hgr9; (have HO9 := Lib.hid hown9); (have HB9 : Hid (Below wr.heap.size wr w9) := Lib.hid (Below.grown HB8.out hgr9 HZ8.out (fun k hk => (HO8.out.lt k hk).1))); obtain ⟨a9, c9, rfl, h91, h92⟩ := own_shape hown9; clear hown9 hgr9; rw [HN9.out] at h91 ⊢; unfold maxLen at h92)
        | (at_builtin; refine RK.append_g (K := cxK) (by first | rfl | simp [Region.wanted, yielded]) _ _ rfl wr.heap.size _ _ _ _ rfl rfl HO.out HSA.out (by simp; omega) HZ.out ?_; intro v8 w8 hown8 hgr8; (have HO8 := Lib.hid hown8); (have HB8 : Hid (Below wr.heap.size wr w8) := Lib.hid (Below.grown HBA.out hgr8 HZ.out (fun k hk => (HO.out.lt k hk).1))); (have HZ8 := Lib.hid HB8.out.size); (have HSB8 := Lib.hid (HSB.out.later (Nat.le_refl _) HB8.out)); obtain ⟨a8, c8, rfl, h81, h82⟩ := own_shape hown8; (have HO8 : Hid (w8.ownsRow wr.heap.size cxK.e cxK.sz (.slice a8 la.length c8) esa.length esa.flatten) := Lib.hid (by have h := hown8; rw [List.nil_append, HLA.out] at h; rw [HLA.out]; exact h)); clear hown8 hgr8; rw [HN8.out] at h81 ⊢; unfold maxLen at h82))
      have hrow : cxK.Row w9 (fun _ => True) (esa ++ esb) (la ++ lb) := (HRA.out.same (fun b _ hl => HB9.out.block b hl) (fun _ h _ => h)).app (HRB.out.same (fun b _ hl => HB9.out.block b hl) (fun _ h _ => h))
      have hp9 := RK.P.ofRow (K := cxK) HO9.out hrow (fun _ _ _ => trivial)
      rw [HN9.out] at hp9
      have hpc := HPW.out.below HB9.out
      rw [List.length_append] at hpc
      have qs := rSame4_v _ _ _ _ _ hpc hp9
      rw [decide_eq_true rfl] at qs
      have QS := Lib.hid qs
      have HBZ := Lib.hid (HFIN.out _ HB9.out)
      clear qs hpc hp9 hrow
      refine QS.out.mono ?_
      rintro e wz ⟨rfl, bz⟩
      have HBF := Lib.hid (HBZ.out.trans (bz.mono HBZ.out.size))
      clear bz QS HBZ
      go_wp2_with fail
      go_ret
      exact ⟨rfl, HBF.out⟩
end Go.Proofs.YtncknaagbafhhaaGreatDoor
namespace Go.Proofs.YtncknaagbafhhaaGreatDoor.ECommas
open Go.ChangeShapes Go.WideShapes Go.ChangeAt Go.RowKit
open Go.ChangeMaps (open_string shut_string)
/-- a world that holds the listed tables as their initialisers lay them, where the variables are four: the second one is no table -/
noncomputable def laidWorld (os : Os) : World :=
  { World.holding Tryz.prog os ⟨#[], #[], []⟩ with heap := (((World.holding Tryz.prog os ⟨#[], #[], []⟩).heap.modify 0 (filled .u64 Lib.pow10Tab)).modify 2 (filled .u8 tab32)).modify 3 (filled .u8 tab64) }
theorem contract (H : Type) (enc : TypeId × Value → H) (W : World) (base : Nat) (args : Array Value) (ds gs : List (DataW H)) (before : List MemPlace)
    (hval : ∀ (j : Nat) t v, Tryz.f4.params[j]? = some t → args[j]? = some v → Value.okWide Tryz.prog W .any base t v)
    (hW : DataW.Whole enc Tryz.prog Tryz.f4.params.toList Rows.selsCommasSpec.vars false W args.toList ds gs before) (hL : laidMetH Tryz.prog Rows.selsCommasRow.laid W) :
    Calls Tryz.prog 4 args W fun e W' => ∃ v, e = .returned v ∧ Rows.selsCommasSpec.post enc Tryz.prog Tryz.f4 false true false false W args v W' := by
  have hW' := hW
  obtain ⟨p, q, hA0, hV, rfl, hfz, hnd⟩ := hW
  have hA : DataW.TrodAll enc Tryz.prog W 0 (fun _ => true) true Tryz.f4.params.toList args.toList ds p := hA0
  rw [Tryz.params4] at hA hval
  obtain ⟨v0, vs0, d0, ds0, p0, q0, hargs, rfl, rfl, h0, r0⟩ := trodAll_cons hA
  obtain ⟨v1, vs1, d1, ds1, p1, q1, rfl, rfl, rfl, h1, r1⟩ := trodAll_cons r0
  obtain ⟨rfl, rfl, rfl⟩ := trodAll_nil r1
  obtain rfl : args = #[v0, v1] := by cases args; simp_all
  obtain ⟨rfl, rfl⟩ := trodVars_none hV
  obtain ⟨s0, hv0, _, _, hs0⟩ := open_string Tryz.underlying9 (hval 0 9 v0 rfl rfl) h0
  subst hv0
  obtain ⟨s1, hv1, _, _, hs1⟩ := open_string Tryz.underlying9 (hval 1 9 v1 rfl rfl) h1
  subst hv1
  clear hA0
  simp only [List.append_nil] at hW'
  have hlt : ∀ x ∈ (p0 ++ p1), x.block < W.heap.size := fun x hx => hW'.lt x hx
  refine (lcommas_any s0 s1 W (table hL)).mono fun e W' ⟨he, hb⟩ => ?_
  subst he
  exact ⟨_, rfl, post_of_below (pa := (p0 ++ (p1 ++ []))) (pv := []) hW' (fun _ _ _ => trodAll_cons_mk (shut_bool Tryz.underlying4 _) trodAll_mk0)
    (fun sp hsp => (trodAll_cons_mk (again (t := 9) (by kernel_rfl) (by decide) h0 hb (fun x hx => hlt x (by simp [hx])) (fun x hx => hsp x (by simp [hx])))
      (trodAll_cons_mk (again (t := 9) (by kernel_rfl) (by decide) h1 hb (fun x hx => hlt x (by simp [hx])) (fun x hx => hsp x (by simp [hx])))
      trodAll_mk0))) (fun _ _ => rfl) (by simp) hb
    (ok_one (by kernel_rfl) rfl (okWide_bool_mk Tryz.underlying4 _))⟩
theorem laid_met (os : Os) : laidMet Tryz.prog Rows.selsCommasRow.laid ((laidWorld os).forCall (fun _ _ => 0) ⟨#[], #[.string ⟨#[]⟩, .string ⟨#[]⟩], []⟩).memory :=
  laidMet_of_run' 8 (by kernel_rfl) (by kernel_rfl)
theorem reads (os : Os) {H : Type} (enc : TypeId × Value → H) : ∃ places, DataW.whole enc Tryz.prog ((laidWorld os).forCall (fun _ _ => 0) ⟨#[], #[.string ⟨#[]⟩, .string ⟨#[]⟩], []⟩).memory Tryz.f4.params.toList Rows.selsCommasSpec.vars false #[Value.string ⟨#[]⟩, Value.string ⟨#[]⟩].toList 8 = some ([.lit (.string []), .lit (.string [])], [], places) :=
  ⟨[], by kernel_rfl⟩
set_option maxRecDepth 100000 in
theorem lifted (os : Os) (started : os.Started) (H : Type) (enc : TypeId × Value → H) (F : Stop.Interp) :
    ReturnsInHanded {} Tryz.checked os 4 .any ((OpenSpec.ofChange Rows.selsCommasSpec).preRow enc Tryz.prog Tryz.f4 Rows.selsCommasRow.domain false Rows.selsCommasRow.laid) (((OpenSpec.ofChange Rows.selsCommasSpec).at F).post enc Tryz.prog Tryz.f4 false true false false) := by
  obtain ⟨places, hx⟩ := reads os enc
  refine returnsInHanded_of_row (C := Tryz.checked) (s := OpenSpec.ofChange Rows.selsCommasSpec) own started (by kernel_rfl) Tryz.func4
    (witness_row_at (enc := enc) (C := Tryz.checked) false (laidWorld os) #[.string ⟨#[]⟩, .string ⟨#[]⟩] rfl (by kernel_rfl) (by kernel_rfl) (by kernel_rfl)
      (OpenSpec.preRow_of_cond 8 hx (by kernel_rfl) (fun k hk => by cases hk) (by kernel_rfl) (laid_met os))) ?_
  intro W base args ds gs before hval hW _ _ _ hL _ _
  exact contract H enc W base args ds gs before hval hW hL
theorem said : Rows.SelsCommasSaid :=
  OpenClaim.holds_of_cond 4 Tryz.f4 rfl rfl rfl rfl rfl rfl rfl ⟨rfl, rfl, rfl, rfl, rfl⟩ rfl rfl rfl rfl rfl (by kernel_rfl) Tryz.func4 (by kernel_rfl)
    (of_decide_eq_true (by kernel_rfl)) (by unfold Func.isWrapper; first | (rw [if_pos (by decide +kernel)]; kernel_rfl) | (rw [if_neg (by decide +kernel)]; exact ⟨rfl, rfl⟩))
    (fun os started H enc _ F => by rw [OpenClaim.pre_eq_preRow]; exact lifted os started H enc F)
theorem plain (f : FuncId) (fn : Func) (hf : Tryz.pinned.checked.prog.funcNamed "winnowing/winnowinglaw04.SelsCommas" = some f) (hfn : Tryz.pinned.checked.prog.funcs[f]? = some fn) :
    true = Tryz.pinned.checked.prog.looks [] ∧ ∀ (j : Nat) t, fn.params[j]? = some t → Tryz.pinned.checked.prog.wantsStandIn t = false := by
  obtain rfl : f = 4 := Option.some.inj ((show Tryz.prog.funcNamed "winnowing/winnowinglaw04.SelsCommas" = some 4 by kernel_rfl).symm.trans hf) |>.symm
  obtain rfl : fn = Tryz.f4 := (Option.some.inj (Tryz.func4.symm.trans hfn)).symm
  refine ⟨by kernel_rfl, fun j t ht => ?_⟩
  rw [Tryz.params4] at ht
  have hm : t ∈ [9, 9] := by simpa using Array.mem_of_getElem? ht
  have hall : ([9, 9].all fun u => !Tryz.prog.wantsStandIn u) = true := by kernel_rfl
  exact (show Tryz.prog.wantsStandIn t = false by simpa using List.all_eq_true.1 hall t hm)
end Go.Proofs.YtncknaagbafhhaaGreatDoor.ECommas
namespace Go.Proofs.YtncknaagbafhhaaGreatDoor
open Go
theorem selsCommas_card : Rows.SelsCommasCardSaid :=
  Claim7.holds_tied_plain_at .later [] _ _ _ _ ECommas.said (fun _ h => by cases h) (by kernel_rfl) (fun _ h => by cases h) selsCommas_row_tie rfl ⟨rfl, rfl⟩ (by kernel_rfl) rfl ECommas.plain (by kernel_rfl)
end Go.Proofs.YtncknaagbafhhaaGreatDoor
