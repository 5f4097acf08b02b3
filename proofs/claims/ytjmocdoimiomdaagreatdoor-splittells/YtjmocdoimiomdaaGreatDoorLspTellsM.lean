/- SplitTells: whatever the values and the texts, the law answers true, and nothing that was there has turned. -/
import Derived.Test.YtjmocdoimiomdaaGreatDoorGZ
import Derived.Test.YtjmocdoimiomdaaGreatDoorGU
import Derived.Test.YtjmocdoimiomdaaGreatDoorGY
import Derived.Test.YtjmocdoimiomdaaGreatDoorSplPM
import Derived.Test.YtjmocdoimiomdaaGreatDoorGS
import Derived.Test.YtjmocdoimiomdaaGreatDoorGV
set_option linter.unusedVariables false
set_option linter.unusedSimpArgs false
set_option maxRecDepth 20000
namespace Go.Proofs.YtjmocdoimiomdaaGreatDoor
open Go.RowKit Go.Sort
theorem cuts_sizes (p : Int → Wn.Tok → Bool) : ∀ f : Wn.Fs, Wn.sizes (Wn.cuts p f) ≤ f.size + 1
  | .nil => by simp [Wn.cuts, Wn.sizes, Wn.Fs.size]
  | .cons k t x r => by
    have ih := cuts_sizes p r
    cases h : p k t
    · rw [Wn.cuts_no h]
      cases hc : Wn.cuts p r with
      | nil => exact absurd hc (Wn.cuts_ne _ _)
      | cons a l => rw [hc] at ih; simp only [Wn.addHead, Wn.sizes, Wn.Fs.size_app, Wn.Fs.size] at ih ⊢; omega
    · rw [Wn.cuts_yes h]; simp only [Wn.sizes, Wn.Fs.size] at ih ⊢; omega
theorem str_back (d : ByteArray) : Wn.str d.data.toList = d := by cases d; simp [Wn.str]
set_option maxRecDepth 100000 in
set_option maxHeartbeats 2000000 in
theorem stells_any (v : Value) (f : Wn.Fs) (d s : ByteArray) (w : World) (ht : Tab w) (hv : Vals w v f) (hn : FNums f) (hd : d.size ≤ maxLen) (hs : s.size ≤ maxLen) :
    Calls Tryz.prog 3 #[v, .string d, .string s] w fun e w' => e = .returned (.bool true) ∧ Below w.heap.size w w' := by
  have HT := Lib.hid ht; clear ht
  have HV := Lib.hid hv
  have HN := Lib.hid hn; clear hn
  obtain ⟨vo, vc, rfl, hvc1, hvc2⟩ := hv.form
  clear hv
  unfold maxLen at hvc2 hs hd
  have HB0 : Hid (Below w.heap.size w w) := Lib.hid (Below.refl _ _)
  go_enter Tryz.func3, Tryz.ntmps3
  go_wp2_with fail
  refine (rSmall_any _ f 200 _ HV.out (by omega) (by omega)).mono ?_
  rintro e w' ⟨c1, rfl, hc1, rfl⟩
  have HC1 := Lib.hid hc1; clear hc1
  cases c1
  · skip
    go_wp2_with fail
    refine (sfixed_any _ (HT.out.below HB0.out)).mono ?_
    rintro e w9 ⟨rfl, b9⟩
    have HB9 := Lib.hid (HB0.out.trans (b9.mono HB0.out.size)); clear b9
    go_wp2_with fail
    go_ret
    exact ⟨rfl, HB9.out⟩
  · by_cases hlen : 100 < d.size
    · have hi1 : (100 : Int) < (d.size : Int) := by omega
      skip
      go_wp2_with fail
      refine (sfixed_any _ (HT.out.below HB0.out)).mono ?_
      rintro e w9 ⟨rfl, b9⟩
      have HB9 := Lib.hid (HB0.out.trans (b9.mono HB0.out.size)); clear b9
      go_wp2_with fail
      go_ret
      exact ⟨rfl, HB9.out⟩
    · have hi1 : ¬ (100 : Int) < (d.size : Int) := by omega
      by_cases hlen2 : 1000 < s.size
      · have hi2 : (1000 : Int) < (s.size : Int) := by omega
        skip
        go_wp2_with fail
        refine (sfixed_any _ (HT.out.below HB0.out)).mono ?_
        rintro e w9 ⟨rfl, b9⟩
        have HB9 := Lib.hid (HB0.out.trans (b9.mono HB0.out.size)); clear b9
        go_wp2_with fail
        go_ret
        exact ⟨rfl, HB9.out⟩
      · have hi2 : ¬ (1000 : Int) < (s.size : Int) := by omega
        obtain ⟨hsa, hta⟩ := HC1.out (by simp)
        have hfa := Wn.flat_len f
        have hfin := flat_fine hta HN.out
        have hsz := cuts_sizes (Wn.signV d.data.toList) f
        have QR := Lib.hid (fun w => Read_any s w (by omega))
        have QRR := Lib.hid (fun w => rRead_any s w (by omega))
        have QRA := Lib.hid (fun w hv => rAt_any d.data.toList (.slice vo f.len vc) f w hv (by omega))
        have QT := Lib.hid (fun w hv => Trim_any (.slice vo f.len vc) f w hv (by omega))
        have QRT := Lib.hid (fun w hv => rTrim_any (.slice vo f.len vc) f w hv (by omega))
        have QA := Lib.hid (fun w hv => At_list d.data.toList (.slice vo f.len vc) f w hv (by omega))
        have QJ := Lib.hid (fun v w hv => Join_any d.data.toList v (Wn.cuts (Wn.signV d.data.toList) f) w hv (by omega))
        have QRJ := Lib.hid (fun v w hv => rJoin_any d.data.toList v (Wn.cuts (Wn.signV d.data.toList) f) w hv (by omega))
        have QW := Lib.hid (fun w hv => Words_list (.slice vo f.len vc) f w hv (by omega))
        have QRW := Lib.hid (fun w hv => rWords_any (.slice vo f.len vc) f w hv (by omega))
        have QX := Lib.hid (fun w ht hv => SText_any (.slice vo f.len vc) f w ht hv (by omega) hfin.1)
        have QRX := Lib.hid (fun w hv => rSText (.slice vo f.len vc) f w hv (by omega) hfin.2)
        rw [str_back] at QRA QA QJ QRJ
        generalize Wn.cuts (Wn.signV d.data.toList) f = ps at *
        generalize Wn.joinF d.data.toList ps = js at *
        generalize Wn.str (Wn.textF f) = X at *
        clear hsz hfin hfa hta HC1 hlen hlen2
        go_wp2_with fail
        refine (QR.out _).mono ?_
        rintro e w2 ⟨r2, c2, rfl, b2, h2⟩
        have HB2 := Lib.hid b2
        have H2 := Lib.hid h2
        have hform2 : ∃ ao n c, r2 = .slice ao n c := by
          rcases h2 with ⟨_, rfl, _⟩ | ⟨_, _, _, hv2⟩
          · exact ⟨_, _, _, rfl⟩
          · obtain ⟨ao, cap, hv, _⟩ := hv2.form; exact ⟨_, _, _, hv⟩
        obtain ⟨ao, an, ac, rfl⟩ := hform2
        clear b2 h2 QR HB0
        go_wp2_with fail
        refine (QRR.out _).mono ?_
        rintro e w3 ⟨r3, c3, rfl, b3, h3⟩
        have HB3 := Lib.hid (HB2.out.trans (b3.mono HB2.out.size))
        obtain ⟨g, HAG3, HBG3, rfl⟩ : ∃ g, Hid (Vals w3 (.slice ao an ac) g) ∧ Hid (Vals w3 r3 g) ∧ c3 = c2 := by
          rcases H2.out with ⟨rfl, hr, hp⟩ | ⟨rfl, q, hp, hq⟩ <;> rcases h3 with ⟨rfl, rfl, hp'⟩ | ⟨rfl, q', hp', hq'⟩
          · rw [hr]; exact ⟨.nil, Lib.hid (Vals.nil _), Lib.hid (Vals.nil _), rfl⟩
          · rw [hp] at hp'; cases hp'
          · rw [hp] at hp'; cases hp'
          · rw [hp] at hp'; cases hp'; exact ⟨_, Lib.hid (hq.any.below b3), Lib.hid hq', rfl⟩
        obtain ⟨bo, bc, rfl, _, _⟩ := HBG3.out.form
        clear b3 h3 H2 HB2 QRR
        go_wp2_with fail
        refine (QRA.out _ (HV.out.below HB3.out)).mono ?_
        rintro e w4 ⟨r4, rfl, hl4, b4⟩
        have HB4 := Lib.hid (HB3.out.trans (b4.mono HB3.out.size))
        have HAG4 := Lib.hid (HAG3.out.below b4)
        have HBG4 := Lib.hid (HBG3.out.below b4)
        clear HB3 HAG3 HBG3
        have HP4 := Lib.hid hl4
        obtain ⟨lo, lc, rfl, _, _⟩ := hl4.form
        clear b4 hl4 QRA
        go_wp2_with fail
        refine (sfixed_any _ (HT.out.below HB4.out)).mono ?_
        rintro e w5 ⟨rfl, b5⟩
        have HB5 := Lib.hid (HB4.out.trans (b5.mono HB4.out.size))
        have HAG5 := Lib.hid (HAG4.out.below b5)
        have HBG5 := Lib.hid (HBG4.out.below b5)
        clear HB4 HAG4 HBG4
        have HP5 := Lib.hid (HP4.out.below b5)
        clear b5 HP4
        go_wp2_with fail
        refine (QT.out _ (HV.out.below HB5.out)).mono ?_
        rintro e w6 ⟨r6, rfl, hv6, b6⟩
        have HB6 := Lib.hid (HB5.out.trans (b6.mono HB5.out.size))
        have HAG6 := Lib.hid (HAG5.out.below b6)
        have HBG6 := Lib.hid (HBG5.out.below b6)
        clear HB5 HAG5 HBG5
        have HP6 := Lib.hid (HP5.out.below b6)
        have HX6 := Lib.hid hv6.any
        clear b6 HP5 hv6 QT
        go_wp2_with fail
        refine (QRT.out _ (HV.out.below HB6.out)).mono ?_
        rintro e w7 ⟨r7, rfl, hv7, b7⟩
        have HB7 := Lib.hid (HB6.out.trans (b7.mono HB6.out.size))
        have HAG7 := Lib.hid (HAG6.out.below b7)
        have HBG7 := Lib.hid (HBG6.out.below b7)
        clear HB6 HAG6 HBG6
        have HP7 := Lib.hid (HP6.out.below b7)
        have HX7 := Lib.hid (HX6.out.below b7)
        have HY7 := Lib.hid hv7
        clear b7 HP6 HX6 hv7 QRT
        go_wp2_with fail
        refine (rSameF _ _ (Wn.trimF f) (Wn.trimF f) _ HX7.out HY7.out).mono ?_
        rintro e w8 ⟨rfl, b8⟩
        rw [show decide (Wn.trimF f = Wn.trimF f) = true by simp]
        have HB8 := Lib.hid (HB7.out.trans (b8.mono HB7.out.size))
        have HAG8 := Lib.hid (HAG7.out.below b8)
        have HBG8 := Lib.hid (HBG7.out.below b8)
        clear HB7 HAG7 HBG7
        have HP8 := Lib.hid (HP7.out.below b8)
        clear b8 HP7 HX7 HY7
        go_wp2_with fail
        refine (QA.out _ (HV.out.below HB8.out)).mono ?_
        rintro e w9 ⟨r9, rfl, hl9, b9⟩
        have HB9 := Lib.hid (HB8.out.trans (b9.mono HB8.out.size))
        have HAG9 := Lib.hid (HAG8.out.below b9)
        have HBG9 := Lib.hid (HBG8.out.below b9)
        clear HB8 HAG8 HBG8
        have HP9 := Lib.hid (HP8.out.below b9)
        have HX9 := Lib.hid hl9.any
        clear b9 HP8 hl9 QA
        go_wp2_with fail
        refine (rLists_any _ _ ps ps _ HX9.out HP9.out).mono ?_
        rintro e w10 ⟨rfl, b10⟩
        rw [show decide (ps = ps) = true by simp]
        have HB10 := Lib.hid (HB9.out.trans (b10.mono HB9.out.size))
        have HAG10 := Lib.hid (HAG9.out.below b10)
        have HBG10 := Lib.hid (HBG9.out.below b10)
        clear HB9 HAG9 HBG9
        have HP10 := Lib.hid (HP9.out.below b10)
        clear b10 HP9 HX9
        go_wp2_with fail
        refine (QJ.out _ _ HP10.out.old).mono ?_
        rintro e w11 ⟨r11, rfl, hv11, b11⟩
        have HB11 := Lib.hid (HB10.out.trans (b11.mono HB10.out.size))
        have HAG11 := Lib.hid (HAG10.out.below b11)
        have HBG11 := Lib.hid (HBG10.out.below b11)
        clear HB10 HAG10 HBG10
        have HP11 := Lib.hid (HP10.out.below b11)
        have HX11 := Lib.hid hv11.any
        clear b11 HP10 hv11 QJ
        go_wp2_with fail
        refine (QRJ.out _ _ HP11.out.old).mono ?_
        rintro e w12 ⟨r12, rfl, hv12, b12⟩
        have HB12 := Lib.hid (HB11.out.trans (b12.mono HB11.out.size))
        have HAG12 := Lib.hid (HAG11.out.below b12)
        have HBG12 := Lib.hid (HBG11.out.below b12)
        clear HB11 HAG11 HBG11
        have HX12 := Lib.hid (HX11.out.below b12)
        have HY12 := Lib.hid hv12
        clear b12 HP11 HX11 hv12 QRJ
        go_wp2_with fail
        refine (rSameF _ _ js js _ HX12.out HY12.out).mono ?_
        rintro e w13 ⟨rfl, b13⟩
        rw [show decide (js = js) = true by simp]
        have HB13 := Lib.hid (HB12.out.trans (b13.mono HB12.out.size))
        have HAG13 := Lib.hid (HAG12.out.below b13)
        have HBG13 := Lib.hid (HBG12.out.below b13)
        clear HB12 HAG12 HBG12
        clear b13 HX12 HY12
        go_wp2_with fail
        refine (QW.out _ (HV.out.below HB13.out)).mono ?_
        rintro e w14 ⟨r14, rfl, hl14, b14⟩
        have HB14 := Lib.hid (HB13.out.trans (b14.mono HB13.out.size))
        have HAG14 := Lib.hid (HAG13.out.below b14)
        have HBG14 := Lib.hid (HBG13.out.below b14)
        clear HB13 HAG13 HBG13
        have HX14 := Lib.hid hl14.any
        clear b14 hl14 QW
        go_wp2_with fail
        refine (QRW.out _ (HV.out.below HB14.out)).mono ?_
        rintro e w15 ⟨r15, rfl, hl15, b15⟩
        have HB15 := Lib.hid (HB14.out.trans (b15.mono HB14.out.size))
        have HAG15 := Lib.hid (HAG14.out.below b15)
        have HBG15 := Lib.hid (HBG14.out.below b15)
        clear HB14 HAG14 HBG14
        have HX15 := Lib.hid (HX14.out.below b15)
        have HY15 := Lib.hid hl15
        clear b15 hl15 QRW HX14
        go_wp2_with fail
        refine (rLists_any _ _ (words f) (words f) _ HX15.out HY15.out).mono ?_
        rintro e w16 ⟨rfl, b16⟩
        rw [show decide (words f = words f) = true by simp]
        have HB16 := Lib.hid (HB15.out.trans (b16.mono HB15.out.size))
        have HAG16 := Lib.hid (HAG15.out.below b16)
        have HBG16 := Lib.hid (HBG15.out.below b16)
        clear HB15 HAG15 HBG15
        clear b16 HX15 HY15
        go_wp2_with fail
        refine (QX.out _ (HT.out.below HB16.out) (HV.out.below HB16.out)).mono ?_
        rintro e w17 ⟨rfl, b17⟩
        have HB17 := Lib.hid (HB16.out.trans (b17.mono HB16.out.size))
        have HAG17 := Lib.hid (HAG16.out.below b17)
        have HBG17 := Lib.hid (HBG16.out.below b17)
        clear HB16 HAG16 HBG16
        clear b17 QX
        go_wp2_with fail
        refine (QRX.out _ (HV.out.below HB17.out)).mono ?_
        rintro e w18 ⟨rfl, b18⟩
        have HB18 := Lib.hid (HB17.out.trans (b18.mono HB17.out.size))
        have HAG18 := Lib.hid (HAG17.out.below b18)
        have HBG18 := Lib.hid (HBG17.out.below b18)
        clear HB17 HAG17 HBG17
        clear b18 QRX
        have hxx : (X.toList == X.toList) = true := by simp
        go_wp2_with fail
        refine (rSameF _ _ g g _ HAG18.out HBG18.out).mono ?_
        rintro e w19 ⟨rfl, b19⟩
        rw [show decide (g = g) = true by simp]
        have HB19 := Lib.hid (HB18.out.trans (b19.mono HB18.out.size))
        clear b19 HB18 HAG18 HBG18
        have hcc : (c3 == c3) = true := by simp
        go_wp2_with fail
        go_ret
        exact ⟨ret_bool (by simp), HB19.out⟩
end Go.Proofs.YtjmocdoimiomdaaGreatDoor
