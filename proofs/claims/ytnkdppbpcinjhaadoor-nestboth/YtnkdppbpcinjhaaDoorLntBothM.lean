/- NestBoth: whatever the tokens, the law answers true, and nothing that was there has turned. -/
import Derived.Test.YtnkdppbpcinjhaaDoorGR
set_option linter.unusedVariables false
set_option linter.unusedSimpArgs false
set_option maxRecDepth 20000
namespace Go.Proofs.YtnkdppbpcinjhaaDoor
open Go.RowKit Go.Sort
set_option maxRecDepth 100000 in
set_option maxHeartbeats 1000000 in
theorem nboth_out (v u : Value) (l m : List Wn.Tok) (w : World) (ht : Tab w) (hl : Toks w v l) (hm : Toks w u m) (hout : ¬ (Wn.small l 150 = true ∧ Wn.small m 150 = true)) :
    Calls Tryd.prog 11 #[v, u] w fun e w' => e = .returned (.bool true) ∧ Below w.heap.size w w' := by
  have HT := Lib.hid ht; clear ht
  have HL := Lib.hid hl; clear hl
  have HM := Lib.hid hm; clear hm
  cases h1 : Wn.small l 150
  · have HS := Lib.hid h1
    clear hout h1
    go_enter Tryd.func11, Tryd.ntmps11
    go_wp2_with fail
    refine (nfixed_any _ HT.out).mono ?_
    rintro e w1 ⟨rfl, b1⟩
    have HB := Lib.hid b1; clear b1
    go_wp2_with fail
    refine (Small_any _ l 150 _ (HL.out.below HB.out)).mono ?_
    rintro e w' ⟨rfl, rfl⟩
    rw [HS.out]
    go_wp2_with fail
    refine (nfixed_any _ (HT.out.below HB.out)).mono ?_
    rintro e w2 ⟨rfl, b2⟩
    have HB2 := Lib.hid (HB.out.trans (b2.mono HB.out.size)); clear b2
    go_wp2_with fail
    go_ret
    exact ⟨rfl, HB2.out⟩
  · have HS := Lib.hid h1
    have HS2 : Hid (Wn.small m 150 = false) := Lib.hid (by cases h : Wn.small m 150; rfl; exact absurd ⟨h1, h⟩ hout)
    clear hout h1
    go_enter Tryd.func11, Tryd.ntmps11
    go_wp2_with fail
    refine (nfixed_any _ HT.out).mono ?_
    rintro e w1 ⟨rfl, b1⟩
    have HB := Lib.hid b1; clear b1
    go_wp2_with fail
    refine (Small_any _ l 150 _ (HL.out.below HB.out)).mono ?_
    rintro e w' ⟨rfl, rfl⟩
    rw [HS.out]
    go_wp2_with fail
    refine (Small_any _ m 150 _ (HM.out.below HB.out)).mono ?_
    rintro e w' ⟨rfl, rfl⟩
    rw [HS2.out]
    go_wp2_with fail
    refine (nfixed_any _ (HT.out.below HB.out)).mono ?_
    rintro e w3 ⟨rfl, b3⟩
    have HB3 := Lib.hid (HB.out.trans (b3.mono HB.out.size)); clear b3
    go_wp2_with fail
    go_ret
    exact ⟨rfl, HB3.out⟩
/-- what Parse leaves at depth 60, in one word -/
theorem Parse_60 (v : Value) (l : List Wn.Tok) (w : World) (hT : Toks w v l) (hl : l.length < 1000000) :
    Calls Tryd.prog 28 #[v, .int .i64 60] w fun e w' => ∃ r c, e = .returned (.tuple #[r, .int .i64 c]) ∧ Below w.heap.size w w' ∧ ((c = 20 ∧ Wn.parse l 60 = none) ∨ (c = 0 ∧ ∃ f, Wn.parse l 60 = some f ∧ Vals w' r f)) := by
  cases hp : Wn.parse l 60 with
  | none => exact (Parse_none (deep := 60) v w (by omega) (by omega) hp hT hl).mono fun e w' ⟨he, hb⟩ => ⟨_, _, he, hb, .inl ⟨rfl, rfl⟩⟩
  | some f => exact (Parse_some (deep := 60) v w (by omega) (by omega) hp hT hl).mono fun e w' ⟨r, he, hv, hb⟩ => ⟨_, _, he, hb, .inr ⟨rfl, f, rfl, hv.any⟩⟩
set_option maxRecDepth 100000 in
set_option maxHeartbeats 2000000 in
theorem nboth_in (v u : Value) (l m : List Wn.Tok) (w : World) (ht : Tab w) (hl : Toks w v l) (hm : Toks w u m) (hmr : TSrc w u m) (h1 : Wn.small l 150 = true) (h2 : Wn.small m 150 = true) :
    Calls Tryd.prog 11 #[v, u] w fun e w' => e = .returned (.bool true) ∧ Below w.heap.size w w' := by
  have hll : l.length ≤ 150 := by unfold Wn.small at h1; simp at h1; omega
  have hml : m.length ≤ 150 := by unfold Wn.small at h2; simp at h2; omega
  have HT := Lib.hid ht; clear ht
  have HL := Lib.hid hl; clear hl
  have HM := Lib.hid hm; clear hm
  have HMR := Lib.hid hmr; clear hmr
  have HS := Lib.hid h1; clear h1
  have HS2 := Lib.hid h2; clear h2
  go_enter Tryd.func11, Tryd.ntmps11
  go_wp2_with fail
  refine (nfixed_any _ HT.out).mono ?_
  rintro e w1 ⟨rfl, b1⟩
  have HB := Lib.hid b1; clear b1
  go_wp2_with fail
  refine (Small_any _ l 150 _ (HL.out.below HB.out)).mono ?_
  rintro e w' ⟨rfl, rfl⟩
  rw [HS.out]
  go_wp2_with fail
  refine (Small_any _ m 150 _ (HM.out.below HB.out)).mono ?_
  rintro e w' ⟨rfl, rfl⟩
  rw [HS2.out]
  go_wp2_with fail
  refine (Parse_60 _ l _ (HL.out.below HB.out) (by omega)).mono ?_
  rintro e w2 ⟨r1, c1, rfl, b2, h2⟩
  have HB2 := Lib.hid (HB.out.trans (b2.mono HB.out.size))
  have HP1 := Lib.hid h2
  clear b2 h2 HB
  go_wp2_with fail
  refine (Parse_60 _ m _ (HM.out.below HB2.out) (by omega)).mono ?_
  rintro e w3 ⟨r2, c2, rfl, b3, h3⟩
  have HB3 := Lib.hid (HB2.out.trans (b3.mono HB2.out.size))
  have HP1' : Hid ((c1 = 20 ∧ Wn.parse l 60 = none) ∨ (c1 = 0 ∧ ∃ f, Wn.parse l 60 = some f ∧ Vals w3 r1 f)) := Lib.hid (HP1.out.imp id (fun ⟨e, f, hf, hv⟩ => ⟨e, f, hf, hv.below b3⟩))
  have HP2 := Lib.hid h3
  clear b3 h3 HB2 HP1
  rcases HP1'.out with ⟨rfl, _⟩ | ⟨rfl, f, hf, hv1⟩
  · go_wp2_with fail
    go_ret
    exact ⟨rfl, HB3.out⟩
  · rcases HP2.out with ⟨rfl, _⟩ | ⟨rfl, g, hg, hv2⟩
    · clear HP1' HP2 hv1 hf
      go_wp2_with fail
      go_ret
      exact ⟨rfl, HB3.out⟩
    · have HF := Lib.hid hf
      have HG := Lib.hid hg
      have hsf := Wn.parse_size hf
      have hsg := Wn.parse_size hg
      have hfl := Wn.flat_len f
      obtain ⟨l', hvl⟩ := Wn.parse_some hf
      have hok := Wn.valsL_ok hvl
      have hdep := Wn.valsL_depth hvl
      have hboth : Wn.parse (Wn.flat f ++ m) 60 = some (f.app g) := Wn.parse_both hok hdep hg
      have hszb := Wn.parse_size hboth
      have hda := Wn.depth_app f g
      have hlf := Wn.Fs.len_le_size f
      have hlg := Wn.Fs.len_le_size g
      rw [List.length_append] at hszb
      have QF := Lib.hid (fun w hv => Flat_any r1 f w hv (by omega))
      have QP := Lib.hid (fun v w hT => Parse_some (l := Wn.flat f ++ m) (deep := 60) v w (by omega) (by omega) hboth hT (by rw [List.length_append]; omega))
      have QD1 := Lib.hid (fun w hv => Depth_any r1 f w hv (by omega))
      have QD2 := Lib.hid (fun w hv => Depth_any r2 g w hv (by omega))
      have QD3 := Lib.hid (fun v w hv => Depth_any v (f.app g) w hv (by omega))
      rw [hda] at QD3
      have hb1 := Wn.depth_le_size f
      have hb2 := Wn.depth_le_size g
      have hfm : (Wn.flat f).length + m.length ≤ 1000 := by omega
      have hlfg : f.len + g.len ≤ 1000 := by omega
      generalize hdf : Wn.depth f = df at *
      generalize hdg : Wn.depth g = dg at *
      have HV1 := Lib.hid hv1
      have HV2 := Lib.hid hv2
      have hdf' : df ≤ 1000 := by omega
      have hdg' : dg ≤ 1000 := by omega
      clear HP1' HP2 hv1 hv2 hf hg hsf hsg hfl hvl hok hdep hboth hszb hda hlf hlg hdf hdg hb1 hb2
      have HOW : Hid ((w3.alloc (.cells #[] 24)).ownsRow w3.heap.size 24 3 (.slice (some ⟨w3.heap.size, 0, none⟩) 0 0) ([] : List Wn.Tok).length (toksCells [])) := Lib.hid (World.ownsRow_made w3 #[] 0 (Nat.le_refl _) (by unfold maxLen; omega) rfl)
      have HBA : Hid (Below w3.heap.size w3 (w3.alloc (.cells #[] 24))) := Lib.hid ((Below.refl _ _).alloc (Nat.le_refl _) _)
      go_wp2_with fail
      generalize w3.alloc (.cells #[] 24) = W3 at *
      refine (QF.out _ (HV1.out.below HBA.out)).mono ?_
      rintro e w4 ⟨rf, rfl, hown4, b4⟩
      have HB4 := Lib.hid (HBA.out.trans (b4.mono HBA.out.size))
      have HO4 := Lib.hid (ownsRow_later HOW.out b4)
      have HF4 := Lib.hid (TSrc.ofRow hown4)
      have hz4 : w3.heap.size ≤ w4.heap.size := HB4.out.size
      clear hown4 b4 QF HBA HOW
      go_wp2_with (first
        | (at_builtin; refine append_t rfl _ _ rfl w3.heap.size v5 _ (Wn.flat f) m rfl rfl HO5.out HM5.out (by omega) hz5 ?_; intro v6 w6 hown6 hgr6; (have HO6 := Lib.hid hown6); (have HB6 : Hid (Below w3.heap.size w3 w6) := Lib.hid (Below.grown HB5.out hgr6 hz5 (fun k hk => (HO5.out.lt k hk).1))); clear hown6 hgr6)
        | (at_builtin; refine append_t rfl _ _ rfl w3.heap.size (.slice (some ⟨w3.heap.size, 0, none⟩) 0 0) _ [] (Wn.flat f) rfl rfl HO4.out HF4.out (by simp; omega) hz4 ?_; intro v5 w5 hown5 hgr5; (have HO5 : Hid (w5.ownsRow w3.heap.size 24 3 v5 (Wn.flat f).length (toksCells (Wn.flat f))) := Lib.hid hown5); (have HB5 : Hid (Below w3.heap.size w3 w5) := Lib.hid (Below.grown HB4.out hgr5 hz4 (fun k hk => (HO4.out.lt k hk).1))); (have hz5 : w3.heap.size ≤ w5.heap.size := HB5.out.size); (have HM5 := Lib.hid ((HMR.out.later (Nat.le_refl _) HB3.out).later (Nat.le_refl _) HB5.out)); clear hown5 hgr5))
      refine (QP.out _ _ (Toks.ofRow HO6.out)).mono ?_
      rintro e w7 ⟨r7, rfl, hr7, b7⟩
      have HB7 := Lib.hid (HB6.out.trans (b7.mono HB6.out.size))
      have HV7 := Lib.hid hr7.any
      have HX1 := Lib.hid (HV1.out.below HB7.out)
      have HX2 := Lib.hid (HV2.out.below HB7.out)
      clear hr7 b7 HO6 HB6 HM5 HO5 HB5 HO4 HB4 HF4 QP HV1 HV2
      obtain ⟨es1, hs1, hw1⟩ := HX1.out.old.vsrc
      obtain ⟨es2, hs2, hw2⟩ := HX2.out.old.vsrc
      have hl1 := hw1.len
      have hl2 := hw2.len
      have hle : es1.length + es2.length ≤ 1000 := by omega
      have HBC : Hid (Below w7.heap.size w7 (w7.alloc (.cells #[] 49))) := Lib.hid ((Below.refl _ _).alloc (Nat.le_refl _) _)
      have HOV : Hid ((w7.alloc (.cells #[] 49)).ownsRow w7.heap.size 49 5 (.slice (some ⟨w7.heap.size, 0, none⟩) 0 0) ([] : List (Int × Wn.Tok × Value)).length (valsCells [])) := Lib.hid (World.ownsRow_made w7 #[] 0 (Nat.le_refl _) (by unfold maxLen; omega) rfl)
      have HS1 := Lib.hid (hs1.later (Nat.le_refl _) HBC.out)
      have HS2 := Lib.hid hs2
      have HW1 := Lib.hid hw1
      have HW2 := Lib.hid hw2
      have hzc : w7.heap.size ≤ (w7.alloc (.cells #[] 49)).heap.size := HBC.out.size
      have HZC := Lib.hid hzc
      clear hs1 hs2 hw1 hw2 hl1 hl2 hzc
      go_wp2_with (first
        | (at_builtin; refine append_v rfl _ _ rfl w7.heap.size v8 _ es1 es2 rfl rfl HO8.out HS8.out (by omega) hz8 ?_; intro v9 w9 hown9 hgr9; (have HO9 := Lib.hid hown9); (have HB9 : Hid (Below w7.heap.size w7 w9) := Lib.hid (Below.grown HB8.out hgr9 hz8 (fun k hk => (HO8.out.lt k hk).1))); clear hown9 hgr9)
        | (at_builtin; refine append_v rfl _ _ rfl w7.heap.size (.slice (some ⟨w7.heap.size, 0, none⟩) 0 0) _ [] es1 rfl rfl HOV.out HS1.out (by simp; omega) HZC.out ?_; intro v8 w8 hown8 hgr8; (have HO8 : Hid (w8.ownsRow w7.heap.size 49 5 v8 es1.length (valsCells es1)) := Lib.hid hown8); (have HB8 : Hid (Below w7.heap.size w7 w8) := Lib.hid (Below.grown HBC.out hgr8 HZC.out (fun k hk => (HOV.out.lt k hk).1))); (have hz8 : w7.heap.size ≤ w8.heap.size := HB8.out.size); (have HS8 := Lib.hid (HS2.out.later (Nat.le_refl _) HB8.out)); clear hown8 hgr8))
      have hall : Vals w9 v9 (f.app g) := ValsP.ofRow HO9.out ((HW1.out.app HW2.out).same (fun b hb _ => HB9.out.block b hb) (fun _ _ _ => trivial)) (fun _ _ => trivial)
      have HA9 := Lib.hid hall
      have HV9 := Lib.hid (HV7.out.below HB9.out)
      have HY1 := Lib.hid (HX1.out.below HB9.out)
      have HY2 := Lib.hid (HX2.out.below HB9.out)
      have HC9 := Lib.hid (HB3.out.trans ((HB7.out.trans (HB9.out.mono HB7.out.size)).mono HB3.out.size))
      clear hall HO9 HB9 HO8 HB8 HS8 HOV HBC HS1 HS2 HW1 HW2 HV7 HX1 HX2 HB7
      refine (NSame_any _ _ (f.app g) (f.app g) _ HV9.out HA9.out).mono ?_
      rintro e w10 ⟨rfl, b10⟩
      rw [show decide (f.app g = f.app g) = true by simp]
      have HC10 := Lib.hid (HC9.out.trans (b10.mono HC9.out.size))
      have HV10 := Lib.hid (HV9.out.below b10)
      have HY1' := Lib.hid (HY1.out.below b10)
      have HY2' := Lib.hid (HY2.out.below b10)
      clear b10 HC9 HV9 HY1 HY2 HA9
      go_wp2_with fail
      refine (QD3.out _ _ HV10.out).mono ?_
      rintro e w11 ⟨rfl, b11⟩
      have HC11 := Lib.hid (HC10.out.trans (b11.mono HC10.out.size))
      have HY1a := Lib.hid (HY1'.out.below b11)
      have HY2a := Lib.hid (HY2'.out.below b11)
      clear b11 HC10 HY1' HY2' QD3 HV10
      go_wp2_with fail
      refine (QD1.out _ HY1a.out).mono ?_
      rintro e w12 ⟨rfl, b12⟩
      have HC12 := Lib.hid (HC11.out.trans (b12.mono HC11.out.size))
      have HY2b := Lib.hid (HY2a.out.below b12)
      clear b12 HC11 HY1a HY2a QD1
      go_wp2_with fail
      refine (QD2.out _ HY2b.out).mono ?_
      rintro e w13 ⟨rfl, b13⟩
      have HC13 := Lib.hid (HC12.out.trans (b13.mono HC12.out.size))
      clear b13 HC12 HY2b QD2
      go_wp2_with fail
      go_ret
      exact ⟨ret_bool (by rw [beq_iff_eq]; omega), HC13.out⟩
theorem nboth_any (v u : Value) (l m : List Wn.Tok) (w : World) (ht : Tab w) (hl : Toks w v l) (hm : Toks w u m) (hmr : TSrc w u m) :
    Calls Tryd.prog 11 #[v, u] w fun e w' => e = .returned (.bool true) ∧ Below w.heap.size w w' := by
  by_cases h : Wn.small l 150 = true ∧ Wn.small m 150 = true
  · exact nboth_in v u l m w ht hl hm hmr h.1 h.2
  · exact nboth_out v u l m w ht hl hm h
end Go.Proofs.YtnkdppbpcinjhaaDoor
