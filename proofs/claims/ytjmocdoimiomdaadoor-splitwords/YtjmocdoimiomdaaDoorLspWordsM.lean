/- SplitWords: whatever the values, the law answers true, and nothing that was there has turned. -/
import Derived.Test.YtjmocdoimiomdaaDoorGZ
import Derived.Test.YtjmocdoimiomdaaDoorGY
import Derived.Test.YtjmocdoimiomdaaDoorSplSM
import Derived.Test.YtjmocdoimiomdaaDoorSplQM
import Derived.Test.YtjmocdoimiomdaaDoorGS
set_option linter.unusedVariables false
set_option linter.unusedSimpArgs false
set_option maxRecDepth 20000
namespace Go.Proofs.YtjmocdoimiomdaaDoor
open Go.RowKit Go.Sort
set_option maxRecDepth 100000 in
set_option maxHeartbeats 2000000 in
theorem swords_any (v : Value) (f : Wn.Fs) (w : World) (ht : Tab w) (hv : Vals w v f) :
    Calls Tryd.prog 6 #[v] w fun e w' => e = .returned (.bool true) ∧ Below w.heap.size w w' := by
  have HT := Lib.hid ht; clear ht
  have HV := Lib.hid hv
  obtain ⟨vo, vc, rfl, hvc1, hvc2⟩ := hv.form
  clear hv
  unfold maxLen at hvc2
  go_enter Tryd.func6, Tryd.ntmps6
  go_wp2_with fail
  refine (sfixed_any _ HT.out).mono ?_
  rintro e w1 ⟨rfl, b1⟩
  have HB1 := Lib.hid b1; clear b1
  go_wp2_with fail
  refine (rSmall_any _ f 200 _ (HV.out.below HB1.out) (by omega) (by omega)).mono ?_
  rintro e w' ⟨c1, rfl, hc1, rfl⟩
  have HC1 := Lib.hid hc1; clear hc1
  cases c1
  · skip
    go_wp2_with fail
    refine (sfixed_any _ (HT.out.below HB1.out)).mono ?_
    rintro e w9 ⟨rfl, b9⟩
    have HB9 := Lib.hid (HB1.out.trans (b9.mono HB1.out.size)); clear b9
    go_wp2_with fail
    go_ret
    exact ⟨rfl, HB9.out⟩
  · obtain ⟨hsa, _⟩ := HC1.out (by simp)
    have hfl := Wn.Fs.len_le_size f
    have hts := Wn.trim_size f
    have QW := Lib.hid (fun w hv => Words_list (.slice vo f.len vc) f w hv (by omega))
    have QT := Lib.hid (fun w hv => Trim_any (.slice vo f.len vc) f w hv (by omega))
    have QWT : Hid (∀ (v : Value) w, Vals w v (Wn.trimF f) → Calls Tryd.prog 24 #[v] w fun e w' => ∃ r, e = .returned r ∧ ListP w' (fun b => w.heap.size ≤ b) r (words f) ∧ Below w.heap.size w w') := Lib.hid (fun v w hv => by have := Words_list v (Wn.trimF f) w hv (by omega); rw [words_trim] at this; exact this)
    have HWA := Lib.hid (words_all f)
    have HWS := Lib.hid (fun i => words_take_size f i)
    have HWE := Lib.hid (fun g (hg : g ∈ words f) => And.intro (words_each hg) (word_size hg))
    clear HC1 hts
    go_wp2_with fail
    refine (QW.out _ (HV.out.below HB1.out)).mono ?_
    rintro e w2 ⟨r2, rfl, hl2, b2⟩
    have HB2 := Lib.hid (HB1.out.trans (b2.mono HB1.out.size))
    have HL2 := Lib.hid hl2.old
    obtain ⟨lo, lc, rfl, d1, d2⟩ := hl2.form
    unfold maxLen at d2
    clear b2 hl2 HB1 QW
    have HBC : Hid (Below w2.heap.size w2 (w2.alloc (.cells #[] 39))) := Lib.hid ((Below.refl _ _).alloc (Nat.le_refl _) _)
    have HOV : Hid ((w2.alloc (.cells #[] 39)).ownsRow w2.heap.size 39 5 (.slice (some ⟨w2.heap.size, 0, none⟩) 0 0) ([] : List Ent).length (valsCells [])) := Lib.hid (World.ownsRow_made w2 #[] 0 (Nat.le_refl _) (by unfold maxLen; omega) rfl)
    go_wp2_with fail
    generalize hgs : words f = gs at *
    have HGS := Lib.hid hgs; clear hgs
    generalize w2.alloc (.cells #[] 39) = W3 at *
    go_loopw [4, 5] (fun v4 v5 wr => ∃ (i : Nat) (es : List Ent), i ≤ gs.length ∧ v5 = .int .i64 (i : Int) ∧ Hid (wr.ownsRow w2.heap.size 39 5 v4 es.length (valsCells es)) ∧ Hid (Row w2 (fun b => b < w2.heap.size) es (Wn.joinAll (gs.take i))) ∧ Hid (Below w2.heap.size w2 wr)) (fun _ v5 _ => gs.length - (intOf v5).toNat)
    case atStart => exact ⟨0, [], by omega, rfl, HOV, Lib.hid trivial, HBC⟩
    case round =>
      obtain ⟨i, es, hil, rfl, HO, HR, HB⟩ := hrel
      clear HOV HBC
      by_cases hlt : i < gs.length
      · obtain ⟨g, hd⟩ : ∃ g, gs[i]? = some g := ⟨_, List.getElem?_eq_getElem hlt⟩
        obtain ⟨⟨hg1, hg2⟩, hg3⟩ := HWE.out g (List.mem_of_getElem? hd)
        obtain ⟨b, o, u, rfl, jw, hu⟩ := HL2.out.at hd
        have j0 := jw
        rw [← HB.out.cell (World.block_lt_of_cell? w2 _ jw)] at j0
        obtain ⟨uo, uc, rfl, _, _⟩ := hu.form
        have HU := Lib.hid hu
        have hi1 : (i : Int) < (gs.length : Int) := by omega
        have hgl : 0 < g.len := Nat.pos_of_ne_zero fun e => hg1 (Wn.Fs.len_zero e)
        have hgn : ((g.len : Int) == 0) = false := by simp; omega
        have QG : Hid (∀ w, Vals w (.slice uo g.len uc) g → Calls Tryd.prog 24 #[.slice uo g.len uc] w fun e w' => ∃ r, e = .returned r ∧ ListP w' (fun b => w.heap.size ≤ b) r [g] ∧ Below w.heap.size w w') := Lib.hid (fun w hv => by have := Words_list (.slice uo g.len uc) g w hv (by omega); rw [hg2] at this; exact this)
        obtain ⟨es1, hs1, hw1⟩ := hu.vsrc
        have hl1 := hw1.len
        have hle : es.length ≤ 1000 := by
          have a := HR.out.len
          have b := Wn.Fs.len_le_size (Wn.joinAll (gs.take i))
          have c := HWS.out i
          omega
        have hle1 : es1.length ≤ 1000 := by have := Wn.Fs.len_le_size g; omega
        have HS1 := Lib.hid hs1
        have HR1 : Hid (Row w2 (fun b => b < w2.heap.size) (es ++ es1) (Wn.joinAll (gs.take (i + 1)))) := Lib.hid (by rw [Wn.joinAll_take hd]; exact HR.out.app hw1)
        clear hd hg1 hg2 hu hs1 hw1 HR
        go_wp2_with fail
        refine (QG.out _ (HU.out.any.below HB.out)).mono ?_
        rintro e w5 ⟨r5, rfl, hl5, b5⟩
        obtain ⟨qo, qc, rfl, _, _⟩ := hl5.form
        rw [show [g].length = 1 from rfl]
        have HB5 := Lib.hid (HB.out.trans (b5.mono HB.out.size))
        have HO5 := Lib.hid (ownsRow_later HO.out b5)
        have HS5 := Lib.hid (HS1.out.later (Nat.le_refl _) HB5.out)
        have j5 := cell_late b5 j0
        have hz5 : w2.heap.size ≤ w5.heap.size := HB5.out.size
        clear hl5 b5 QG HB HO j0 jw HU HS1
        go_wp2_with (at_builtin; refine append_v rfl _ _ rfl w2.heap.size _ _ es es1 rfl rfl HO5.out HS5.out (by omega) hz5 ?_; intro v8 w8 hown8 hgr8; (have HO8 := Lib.hid hown8); (have HB8 : Hid (Below w2.heap.size w2 w8) := Lib.hid (Below.grown HB5.out hgr8 hz5 (fun k hk => (HO5.out.lt k hk).1))); clear hown8 hgr8)
        exact ⟨⟨i + 1, es ++ es1, by omega, by go_num, HO8, HR1, HB8⟩, by simp [intOf]; omega⟩
      · have hni : ¬ (i : Int) < (gs.length : Int) := by omega
        obtain ⟨Wa, hWa⟩ : ∃ Wa, Wa = wr := ⟨_, rfl⟩
        subst hWa
        have HRW : Hid (Row w2 (fun b => b < w2.heap.size) es (Wn.lessF Wn.blankV f)) := Lib.hid (by have := HR.out; rw [List.take_of_length_le (by omega), HWA.out] at this; exact this)
        have HAll : Hid (Vals Wa u4 (Wn.lessF Wn.blankV f)) := Lib.hid (ValsP.ofRow HO.out (HRW.out.same (fun b hb _ => HB.out.block b hb) (fun _ _ _ => trivial)) (fun _ _ => trivial))
        have HBa := Lib.hid (HB2.out.trans (HB.out.mono HB2.out.size))
        have HLa := Lib.hid (HL2.out.below HB.out).any
        have HVa := Lib.hid (HV.out.below HBa.out).old
        have HBD : Hid (Below Wa.heap.size Wa (Wa.alloc (.cells #[] 39))) := Lib.hid ((Below.refl _ _).alloc (Nat.le_refl _) _)
        have HOD : Hid ((Wa.alloc (.cells #[] 39)).ownsRow Wa.heap.size 39 5 (.slice (some ⟨Wa.heap.size, 0, none⟩) 0 0) ([] : List Ent).length (valsCells [])) := Lib.hid (World.ownsRow_made Wa #[] 0 (Nat.le_refl _) (by unfold maxLen; omega) rfl)
        clear HR HRW HO HB HB2 HL2 HGS HWA HWS HWE hil
        go_wp2_with fail
        generalize Wa.alloc (.cells #[] 39) = Wb at *
        go_loopw [6, 7] (fun v6 v7 wr => ∃ (i : Nat) (es : List Ent) (pre : Wn.Fs), i ≤ f.len ∧ v7 = .int .i64 (i : Int) ∧ es.length ≤ i ∧ Hid (wr.ownsRow Wa.heap.size 39 5 v6 es.length (valsCells es)) ∧ Hid (Row Wa (fun b => b < Wa.heap.size) es pre) ∧ Hid (pre.app (Wn.lessF Wn.blankV (f.drop i)) = Wn.lessF Wn.blankV f) ∧ Hid (Below Wa.heap.size Wa wr)) (fun _ v7 _ => f.len - (intOf v7).toNat)
        case atStart => exact ⟨0, [], .nil, by omega, rfl, Nat.le_refl _, HOD, Lib.hid trivial, Lib.hid (by rw [Wn.Fs.drop_zero]; rfl), HBD⟩
        case round =>
          obtain ⟨i, es, pre, hil, rfl, hel, HO, HR, HE, HB⟩ := hrel
          clear HOD HBD
          by_cases hlt : i < f.len
          · obtain ⟨k, t, x, hd⟩ := Wn.Fs.drop_cons hlt
            obtain ⟨b, o, rfl, g0, ⟨g1, g2, g3⟩, u, g4, hu⟩ := HVa.out.at hd
            have hbw : b < Wa.heap.size := World.block_lt_of_cell? _ _ g0
            have j0 := (HB.out.cell (p := ⟨b, o + i * 5, none⟩) hbw).trans g0
            have j1 := (HB.out.cell (p := ⟨b, o + i * 5 + 1, none⟩) hbw).trans g1
            have j2 := (HB.out.cell (p := ⟨b, o + i * 5 + 1 + 1, none⟩) hbw).trans g2
            have j3 := (HB.out.cell (p := ⟨b, o + i * 5 + 1 + 2, none⟩) hbw).trans g3
            have j4 := (HB.out.cell (p := ⟨b, o + i * 5 + 4, none⟩) hbw).trans g4
            clear g0 g1 g2 g3 g4
            rw [show o + i * 5 + 1 + 1 = o + i * 5 + 2 by omega] at j2
            rw [show o + i * 5 + 1 + 2 = o + i * 5 + 3 by omega] at j3
            obtain ⟨uo, uc, rfl, _, _⟩ := hu.form
            have HU := Lib.hid hu
            have hi1 : (i : Int) < (f.len : Int) := by omega
            have QB := Lib.hid (fun w => rBlank_v k t (.slice uo x.len uc) w ⟨_, _, _, rfl⟩)
            have HY := Lib.hid (fun h : Wn.blankV k t = true => (show pre.app (Wn.lessF Wn.blankV (f.drop (i + 1))) = Wn.lessF Wn.blankV f by rw [← HE.out, hd, Wn.lessF_yes h]))
            have HN := Lib.hid (fun h : Wn.blankV k t = false => (show (pre.app (.cons k t x .nil)).app (Wn.lessF Wn.blankV (f.drop (i + 1))) = Wn.lessF Wn.blankV f by rw [← HE.out, hd, Wn.lessF_no h, Wn.Fs.app_assoc]; rfl))
            clear hu hd HE
            generalize hbl : Wn.blankV k t = bl at *
            clear hbl
            have HS := Lib.hid (fun (w : World) => VSrc.one w w.heap.size rfl k t uo x.len uc)
            generalize hy : Wn.str t.2.1 = y at *
            go_wp2_with fail
            refine (QB.out _).mono ?_
            rintro e w5 ⟨rfl, b5⟩
            have HB5 := Lib.hid (HB.out.trans (b5.mono HB.out.size))
            have HO5 := Lib.hid (ownsRow_later HO.out b5)
            have k0 := cell_late b5 j0
            have k1 := cell_late b5 j1
            have k2 := cell_late b5 j2
            have k3 := cell_late b5 j3
            have k4 := cell_late b5 j4
            clear b5 j0 j1 j2 j3 j4 HB HO QB
            cases bl
            · have HBA : Hid (Below w5.heap.size w5 (w5.alloc (.cells #[.int .i64 k, .int .i64 t.1, .string y, .int .i64 t.2.2, .slice uo x.len uc] 39))) := Lib.hid ((Below.refl _ _).alloc (Nat.le_refl _) _)
              have HB6 := Lib.hid (HB5.out.trans (HBA.out.mono HB5.out.size))
              have HO6 := Lib.hid (ownsRow_later HO5.out HBA.out)
              have hz6 := Lib.hid HB6.out.size
              go_wp2_with (at_builtin; refine append_v rfl _ _ rfl Wa.heap.size _ _ es [(k, t, .slice uo x.len uc)] rfl rfl HO6.out (HS.out _) (by simp; omega) hz6.out ?_; intro v8 w8 hown8 hgr8; (have HO8 := Lib.hid hown8); (have HB8 : Hid (Below Wa.heap.size Wa w8) := Lib.hid (Below.grown HB6.out hgr8 hz6.out (fun k hk => (HO6.out.lt k hk).1))); clear hown8 hgr8)
              exact ⟨⟨i + 1, es ++ [(k, t, .slice uo x.len uc)], pre.app (.cons k t x .nil), by omega, by go_num, by simp; omega, HO8, Lib.hid (HR.out.app ⟨rfl, rfl, HU.out, trivial⟩), Lib.hid (HN.out (by simp)), HB8⟩, by simp [intOf]; omega⟩
            · go_wp2_with fail
              exact ⟨⟨i + 1, es, pre, by omega, by go_num, by omega, HO5, HR, Lib.hid (HY.out (by simp)), HB5⟩, by simp [intOf]; omega⟩
          · have hni2 : ¬ (i : Int) < (f.len : Int) := by omega
            have HP : Hid (Row Wa (fun b => b < Wa.heap.size) es (Wn.lessF Wn.blankV f)) := Lib.hid (by have := HE.out; rw [Wn.Fs.drop_len (by omega)] at this; simp only [Wn.lessF, Wn.Fs.app_nil] at this; rw [← this]; exact HR.out)
            have HPl : Hid (Vals wr u6 (Wn.lessF Wn.blankV f)) := Lib.hid (ValsP.ofRow HO.out (HP.out.same (fun b hb _ => HB.out.block b hb) (fun _ _ _ => trivial)) (fun _ _ => trivial))
            have HAl : Hid (Vals wr u4 (Wn.lessF Wn.blankV f)) := Lib.hid (HAll.out.below HB.out)
            have HC := Lib.hid (HBa.out.trans (HB.out.mono HBa.out.size))
            have HLb := Lib.hid (HLa.out.below HB.out)
            clear HP HO HR HE HB HAll HBa HLa HVa
            go_wp2_with fail
            refine (rSameF _ _ (Wn.lessF Wn.blankV f) (Wn.lessF Wn.blankV f) _ HAl.out HPl.out).mono ?_
            rintro e w6 ⟨rfl, b6⟩
            rw [show decide (Wn.lessF Wn.blankV f = Wn.lessF Wn.blankV f) = true by simp]
            have HC6 := Lib.hid (HC.out.trans (b6.mono HC.out.size))
            have HL6 := Lib.hid (HLb.out.below b6)
            clear b6 HC HLb HAl HPl
            go_wp2_with fail
            refine (QT.out _ (HV.out.below HC6.out)).mono ?_
            rintro e w7 ⟨r7, rfl, hv7, b7⟩
            have HC7 := Lib.hid (HC6.out.trans (b7.mono HC6.out.size))
            have HL7 := Lib.hid (HL6.out.below b7)
            have HV7 := Lib.hid hv7.any
            clear b7 hv7 HC6 HL6 QT
            go_wp2_with fail
            refine (QWT.out _ _ HV7.out).mono ?_
            rintro e w8 ⟨r8, rfl, hl8, b8⟩
            have HC8 := Lib.hid (HC7.out.trans (b8.mono HC7.out.size))
            have HL8 := Lib.hid (HL7.out.below b8)
            have HW8 := Lib.hid hl8.any
            clear b8 hl8 HC7 HL7 QWT HV7
            go_wp2_with fail
            refine (rLists_any _ _ gs gs _ HW8.out HL8.out).mono ?_
            rintro e w9 ⟨rfl, b9⟩
            rw [show decide (gs = gs) = true by simp]
            have HC9 := Lib.hid (HC8.out.trans (b9.mono HC8.out.size))
            clear b9 HC8 HL8 HW8
            go_wp2_with fail
            go_ret
            exact ⟨rfl, HC9.out⟩
end Go.Proofs.YtjmocdoimiomdaaDoor
