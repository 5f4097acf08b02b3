/- SplitBoth: whatever the values, the law answers true, and nothing that was there has turned. -/
import Derived.Test.YtjmocdoimiomdaaGreatDoorGZ
import Derived.Test.YtjmocdoimiomdaaGreatDoorSplPM
import Derived.Test.YtjmocdoimiomdaaGreatDoorGS
import Derived.Test.YtjmocdoimiomdaaGreatDoorGV
import Derived.Test.YtjmocdoimiomdaaGreatDoorSplRM
set_option linter.unusedVariables false
set_option linter.unusedSimpArgs false
set_option maxRecDepth 20000
namespace Go.Proofs.YtjmocdoimiomdaaGreatDoor
open Go.RowKit Go.Sort
theorem cat_both (a b : List UInt8) : Wn.str a ++ ⟨#[47, 42, 42, 47]⟩ ++ Wn.str b = Wn.str (a ++ (Wn.cmtB ++ b)) := by
  rw [show (⟨#[47, 42, 42, 47]⟩ : ByteArray) = Wn.str Wn.cmtB from rfl, Wn.str_append, Wn.str_append, List.append_assoc]
theorem Read_both {f g : Wn.Fs} (w : World) (hf : Wn.mayF f = true) (hg : Wn.mayF g = true) (hff : ∀ t ∈ Wn.flat f, Fine t) (hfg : ∀ t ∈ Wn.flat g, Fine t) (hl : (Wn.flat f).length + (Wn.flat g).length ≤ 10000) :
    Calls Tryz.prog 8 #[.string (Wn.str (Wn.textF f) ++ ⟨#[47, 42, 42, 47]⟩ ++ Wn.str (Wn.textF g))] w fun e w' => ∃ r, e = .returned (.tuple #[r, .int .i64 0]) ∧ ValsP w' (fun b => w.heap.size ≤ b) r (Wn.trimF (f.app g)) ∧ Below w.heap.size w w' := by
  rw [cat_both]
  refine Read_some _ (f.app g) w ?_ (by rw [str_data, lex_both hf hg, List.length_append]; omega) (by rw [str_data]; exact Wn.read_both hf hg)
  have h1 := fine_text hff
  have h2 := fine_text hfg
  have e1 : (Wn.flat f).length * 1048600 ≤ 10000 * 1048600 := Nat.mul_le_mul_right _ (by omega)
  have e2 : (Wn.flat g).length * 1048600 ≤ 10000 * 1048600 := Nat.mul_le_mul_right _ (by omega)
  rw [Wn.str_size, List.length_append, List.length_append, show Wn.cmtB.length = 4 from rfl]
  unfold Wn.textF
  omega
set_option maxRecDepth 100000 in
set_option maxHeartbeats 2000000 in
theorem sboth_any (v u : Value) (f g : Wn.Fs) (w : World) (ht : Tab w) (hv : Vals w v f) (hu : Vals w u g) (hnf : FNums f) (hng : FNums g) :
    Calls Tryz.prog 5 #[v, u] w fun e w' => e = .returned (.bool true) ∧ Below w.heap.size w w' := by
  have HT := Lib.hid ht; clear ht
  have HV := Lib.hid hv
  have HU := Lib.hid hu
  have HNF := Lib.hid hnf; clear hnf
  have HNG := Lib.hid hng; clear hng
  obtain ⟨vo, vc, rfl, hvc1, hvc2⟩ := hv.form
  obtain ⟨uo, uc, rfl, huc1, huc2⟩ := hu.form
  clear hv hu
  unfold maxLen at hvc2 huc2
  go_enter Tryz.func5, Tryz.ntmps5
  go_wp2_with fail
  refine (sfixed_any _ HT.out).mono ?_
  rintro e w1 ⟨rfl, b1⟩
  have HB1 := Lib.hid b1; clear b1
  go_wp2_with fail
  refine (rSmall_any _ f 100 _ (HV.out.below HB1.out) (by omega) (by omega)).mono ?_
  rintro e w' ⟨c1, rfl, hc1, rfl⟩
  have HC1 := Lib.hid hc1; clear hc1
  cases c1
  · skip
    go_wp2_with fail
    refine (sfixed_any _ (HT.out.below HB1.out)).mono ?_
    rintro e w9 ⟨rfl, b9⟩
    have HB9 := Lib.hid (HB1.out.trans (b9.mono HB1.out.size)); clear b9
    go_wp2_with fail
    go_ret
    exact ⟨rfl, HB9.out⟩
  · go_wp2_with fail
    refine (rSmall_any _ g 100 _ (HU.out.below HB1.out) (by omega) (by omega)).mono ?_
    rintro e w' ⟨c2, rfl, hc2, rfl⟩
    have HC2 := Lib.hid hc2; clear hc2
    cases c2
    · skip
      go_wp2_with fail
      refine (sfixed_any _ (HT.out.below HB1.out)).mono ?_
      rintro e w9 ⟨rfl, b9⟩
      have HB9 := Lib.hid (HB1.out.trans (b9.mono HB1.out.size)); clear b9
      go_wp2_with fail
      go_ret
      exact ⟨rfl, HB9.out⟩
    · obtain ⟨hsf, htf⟩ := HC1.out (by simp)
      obtain ⟨hsg, htg⟩ := HC2.out (by simp)
      have hff := flat_fine htf HNF.out
      have hfg := flat_fine htg HNG.out
      have hlf := Wn.flat_len f
      have hlg := Wn.flat_len g
      have QMF := Lib.hid (fun w hv => rMayF (.slice vo f.len vc) f w hv (by omega) hff.2)
      have QMG := Lib.hid (fun w hv => rMayF (.slice uo g.len uc) g w hv (by omega) hfg.2)
      have QTF := Lib.hid (fun w ht hv => SText_any (.slice vo f.len vc) f w ht hv (by omega) hff.1)
      have QTG := Lib.hid (fun w ht hv => SText_any (.slice uo g.len uc) g w ht hv (by omega) hfg.1)
      have QR := Lib.hid (fun w hmf hmg => Read_both (f := f) (g := g) w hmf hmg hff.1 hfg.1 (by omega))
      have hsa := Wn.Fs.size_app f g
      have QTR := Lib.hid (fun v w hv => Trim_any v (f.app g) w hv (by omega))
      have h1 : f.len ≤ 1000 := by have := Wn.Fs.len_le_size f; omega
      have h2 : g.len ≤ 1000 := by have := Wn.Fs.len_le_size g; omega
      have hzf : (Wn.str (Wn.textF f)).size ≤ 1000000000000 := by
        have a := fine_text hff.1
        have : (Wn.flat f).length * 1048600 ≤ 1000 * 1048600 := Nat.mul_le_mul_right _ (by omega)
        rw [Wn.str_size]; unfold Wn.textF; omega
      have hzg : (Wn.str (Wn.textF g)).size ≤ 1000000000000 := by
        have a := fine_text hfg.1
        have : (Wn.flat g).length * 1048600 ≤ 1000 * 1048600 := Nat.mul_le_mul_right _ (by omega)
        rw [Wn.str_size]; unfold Wn.textF; omega
      clear hsf htf hsg htg hff hfg hlf hlg hsa HC1 HC2
      generalize Wn.str (Wn.textF f) = X at *
      generalize Wn.str (Wn.textF g) = Y at *
      go_wp2_with fail
      refine (QMF.out _ (HV.out.below HB1.out)).mono ?_
      rintro e w2 ⟨rfl, b2⟩
      have HB2 := Lib.hid (HB1.out.trans (b2.mono HB1.out.size))
      clear b2 HB1 QMF
      cases hmf : Wn.mayF f
      · skip
        go_wp2_with fail
        refine (sfixed_any _ (HT.out.below HB2.out)).mono ?_
        rintro e w9 ⟨rfl, b9⟩
        have HB9 := Lib.hid (HB2.out.trans (b9.mono HB2.out.size)); clear b9
        go_wp2_with fail
        go_ret
        exact ⟨rfl, HB9.out⟩
      · have HMF := Lib.hid hmf; clear hmf
        go_wp2_with fail
        refine (QMG.out _ (HU.out.below HB2.out)).mono ?_
        rintro e w3 ⟨rfl, b3⟩
        have HB3 := Lib.hid (HB2.out.trans (b3.mono HB2.out.size))
        clear b3 HB2 QMG
        cases hmg : Wn.mayF g
        · skip
          go_wp2_with fail
          refine (sfixed_any _ (HT.out.below HB3.out)).mono ?_
          rintro e w9 ⟨rfl, b9⟩
          have HB9 := Lib.hid (HB3.out.trans (b9.mono HB3.out.size)); clear b9
          go_wp2_with fail
          go_ret
          exact ⟨rfl, HB9.out⟩
        · have QRD := Lib.hid (fun w => QR.out w HMF.out hmg)
          clear hmg HMF QR
          go_wp2_with fail
          refine (QTF.out _ (HT.out.below HB3.out) (HV.out.below HB3.out)).mono ?_
          rintro e w4 ⟨rfl, b4⟩
          have HB4 := Lib.hid (HB3.out.trans (b4.mono HB3.out.size))
          clear b4 HB3 QTF
          go_wp2_with fail
          refine (QTG.out _ (HT.out.below HB4.out) (HU.out.below HB4.out)).mono ?_
          rintro e w5 ⟨rfl, b5⟩
          have HB5 := Lib.hid (HB4.out.trans (b5.mono HB4.out.size))
          clear b5 HB4 QTG
          go_wp2_with fail
          refine (QRD.out _).mono ?_
          rintro e w7 ⟨r7, rfl, hv7, b7⟩
          have HB7 := Lib.hid (HB5.out.trans (b7.mono HB5.out.size))
          have HV7 := Lib.hid hv7.any
          clear b7 hv7 HB5 QRD
          have HX1 := Lib.hid (HV.out.below HB7.out)
          have HX2 := Lib.hid (HU.out.below HB7.out)
          obtain ⟨es1, hs1, hw1⟩ := HX1.out.old.vsrc
          obtain ⟨es2, hs2, hw2⟩ := HX2.out.old.vsrc
          have hl1 := hw1.len
          have hl2 := hw2.len
          have hle : es1.length + es2.length ≤ 10000 := by omega
          have HBC : Hid (Below w7.heap.size w7 (w7.alloc (.cells #[] 47))) := Lib.hid ((Below.refl _ _).alloc (Nat.le_refl _) _)
          have HOV : Hid ((w7.alloc (.cells #[] 47)).ownsRow w7.heap.size 47 5 (.slice (some ⟨w7.heap.size, 0, none⟩) 0 0) ([] : List (Int × Wn.Tok × Value)).length (valsCells [])) := Lib.hid (World.ownsRow_made w7 #[] 0 (Nat.le_refl _) (by unfold maxLen; omega) rfl)
          have HS1 := Lib.hid (hs1.later (Nat.le_refl _) HBC.out)
          have HS2 := Lib.hid hs2
          have HW1 := Lib.hid hw1
          have HW2 := Lib.hid hw2
          have hzc : w7.heap.size ≤ (w7.alloc (.cells #[] 47)).heap.size := HBC.out.size
          have HZC := Lib.hid hzc
          clear hs1 hs2 hw1 hw2 hl1 hl2 hzc
          go_wp2_with (first
            | (at_builtin; refine append_vg (by first | rfl | simp [Region.wanted, yielded]) _ _ rfl w7.heap.size v8 _ es1 es2 rfl rfl HO8.out HS8.out (by omega) hz8 ?_; intro v9 w9 hown9 hgr9; (have HO9 := Lib.hid hown9); (have HB9 : Hid (Below w7.heap.size w7 w9) := Lib.hid (Below.grown HB8.out hgr9 hz8 (fun k hk => (HO8.out.lt k hk).1))); clear hown9 hgr9)
            | (at_builtin; refine append_vg (by first | rfl | simp [Region.wanted, yielded]) _ _ rfl w7.heap.size (.slice (some ⟨w7.heap.size, 0, none⟩) 0 0) _ [] es1 rfl rfl HOV.out HS1.out (by simp; omega) HZC.out ?_; intro v8 w8 hown8 hgr8; (have HO8 : Hid (w8.ownsRow w7.heap.size 47 5 v8 es1.length (valsCells es1)) := Lib.hid hown8); (have HB8 : Hid (Below w7.heap.size w7 w8) := Lib.hid (Below.grown HBC.out hgr8 HZC.out (fun k hk => (HOV.out.lt k hk).1))); (have hz8 : w7.heap.size ≤ w8.heap.size := HB8.out.size); (have HS8 := Lib.hid (HS2.out.later (Nat.le_refl _) HB8.out)); clear hown8 hgr8))
          have hall : Vals w9 v9 (f.app g) := ValsP.ofRow HO9.out ((HW1.out.app HW2.out).same (fun b hb _ => HB9.out.block b hb) (fun _ _ _ => trivial)) (fun _ _ => trivial)
          have HA9 := Lib.hid hall
          have HV9 := Lib.hid (HV7.out.below HB9.out)
          have HC9 := Lib.hid (HB7.out.trans (HB9.out.mono HB7.out.size))
          clear hall HO9 HB9 HO8 HB8 HS8 HOV HBC HS1 HS2 HW1 HW2 HV7 HX1 HX2 HB7
          refine (QTR.out _ _ HA9.out).mono ?_
          rintro e w10 ⟨r10, rfl, hv10, b10⟩
          have HC10 := Lib.hid (HC9.out.trans (b10.mono HC9.out.size))
          have HV10 := Lib.hid (HV9.out.below b10)
          have HR10 := Lib.hid hv10.any
          clear b10 hv10 HC9 HV9 HA9 QTR
          go_wp2_with fail
          refine (rSameF _ _ (Wn.trimF (f.app g)) (Wn.trimF (f.app g)) _ HV10.out HR10.out).mono ?_
          rintro e w11 ⟨rfl, b11⟩
          rw [show decide (Wn.trimF (f.app g) = Wn.trimF (f.app g)) = true by simp]
          have HC11 := Lib.hid (HC10.out.trans (b11.mono HC10.out.size))
          clear b11 HC10 HV10 HR10
          go_wp2_with fail
          go_ret
          exact ⟨rfl, HC11.out⟩
end Go.Proofs.YtjmocdoimiomdaaGreatDoor
