/- SelsNot: whatever the text, the law answers true, and nothing that was there has turned. -/
import Derived.Test.YtncknaagbafhhaaGreatDoorSelAuM
set_option linter.unusedVariables false
set_option linter.unusedSimpArgs false
set_option maxRecDepth 20000
namespace Go.Proofs.YtncknaagbafhhaaGreatDoor
open Go.RowKit Go.Sort
set_option maxRecDepth 100000 in
set_option maxHeartbeats 2000000 in
theorem lnot_any (s : ByteArray) (w : World) (ht : Tab w) :
    Calls Tryz.prog 6 #[.string s] w fun e w' => e = .returned (.bool true) ∧ Below w.heap.size w w' := by
  have HT := Lib.hid ht; clear ht
  by_cases hs : 300 < s.size
  · have hs' : (300 : Int) < (s.size : Int) := by omega
    go_enter Tryz.func6, Tryz.ntmps6
    go_wp2_with fail
    refine (fixed04 _ HT.out).mono ?_
    rintro e w1 ⟨rfl, b1⟩
    have HB1 := Lib.hid b1; clear b1
    go_wp2_with fail
    refine (fixed04 _ (HT.out.below HB1.out)).mono ?_
    rintro e w2 ⟨rfl, b2⟩
    have HB2 := Lib.hid (HB1.out.trans (b2.mono HB1.out.size)); clear b2 HB1
    go_wp2_with fail
    go_ret
    exact ⟨rfl, HB2.out⟩
  have hs' : ¬ (300 : Int) < (s.size : Int) := by omega
  have hsl : s.data.toList.length ≤ 300 := by simpa using (by omega : s.size ≤ 300)
  go_enter Tryz.func6, Tryz.ntmps6
  go_wp2_with fail
  refine (fixed04 _ HT.out).mono ?_
  rintro e w1 ⟨rfl, b1⟩
  have HB1 := Lib.hid b1; clear b1
  go_wp2_with fail
  refine (rRead_any s _ (by omega)).mono ?_
  rintro e w2 ⟨r, c, rfl, b2, ⟨rfl, rfl, hr⟩ | ⟨rfl, f0, hr, hv⟩⟩
  · have HB2 := Lib.hid (HB1.out.trans (b2.mono HB1.out.size)); clear b2 HB1 hr
    have QP := Lib.hid (SParse_v (.slice none 0 0) .nil w2 (ValsP.nil _ _) trivial (by simp [Wn.Fs.size]))
    go_wp2_with fail
    refine QP.out.mono ?_
    rintro e w3 ⟨b3, ⟨l, v, h, rfl, _⟩ | ⟨_, rfl⟩⟩
    · rw [Wn.sels_nil] at h; cases h
    · have HB3 := Lib.hid (HB2.out.trans (b3.mono HB2.out.size)); clear b3
      go_wp2_with fail
      go_ret
      exact ⟨rfl, HB3.out⟩
  · have HB2 := Lib.hid (HB1.out.trans (b2.mono HB1.out.size)); clear b2 HB1
    have hm := Wn.may_trim (Wn.may_read hr)
    have hsz : (Wn.trimF f0).size ≤ 300 := by
      have h1 := Wn.parse_size hr
      have h2 := Wn.lex_length s.data.toList
      have h3 := Wn.trim_size f0
      omega
    have hsh := short_trim (short_of_read hr (by omega))
    have hfl := Wn.flat_len (Wn.trimF f0)
    have htl := read_tl hr (by omega)
    have HNA := Lib.hid (fun c x h => Wn.not_around (c := c) (x := x) hr h)
    have HR := Lib.hid hr
    generalize Wn.trimF f0 = f at *
    have hform : ∃ ao n c, r = .slice ao n c := by obtain ⟨ao, cap, hv, _⟩ := hv.form; exact ⟨_, _, _, hv⟩
    obtain ⟨ro, rn, rc, rfl⟩ := hform
    have HV2 := Lib.hid hv
    have QP := Lib.hid (SParse_v _ f w2 hv htl (by omega))
    have QT := Lib.hid (fun W h => rSText (.slice ro rn rc) f W h (by omega) hsh)
    have QR := Lib.hid (fun W => not_read (f := f) W hm hsh (by omega))
    have hts : (Wn.str (Wn.textF f)).size ≤ 100000000 := by
      have h1 := Wn.texts_len 100100 (Wn.flat f) none (fun t ht => (hsh t ht).one)
      have h2 : (Wn.textF f).length ≤ (Wn.flat f).length * (100100 + 4) := h1
      rw [Wn.str_size]; omega
    clear hr hv hm hsh htl
    go_wp2_with fail
    refine QP.out.mono ?_
    rintro e w3 ⟨b3, ⟨l, v, hl, rfl, hP⟩ | ⟨_, rfl⟩⟩
    case inr =>
      have HB3 := Lib.hid (HB2.out.trans (b3.mono HB2.out.size)); clear b3
      go_wp2_with fail
      go_ret
      exact ⟨rfl, HB3.out⟩
    have HB3 := Lib.hid (HB2.out.trans (b3.mono HB2.out.size))
    have HV3 := Lib.hid (HV2.out.below b3)
    clear b3 HB2 HV2 QP
    have HL := Lib.hid hl; clear hl
    have hP := hP.any
    obtain ⟨lo, lc, rfl, hc1, hc2⟩ := hP.form
    unfold maxLen at hc2
    have HP := Lib.hid hP
    by_cases h1 : l.length = 1
    case neg =>
      have hn1 : ((l.length : Int) != 1) = true := by rw [bne_iff_ne]; omega
      clear hP HP
      go_wp2_with fail
      go_ret
      exact ⟨rfl, HB3.out⟩
    obtain ⟨c, rfl⟩ := List.length_eq_one_iff.1 h1
    obtain ⟨ps, q⟩ := c
    obtain ⟨b, o, po, pc, rfl, hpt, k0, k1⟩ := cx_at hP (i := 0) rfl
    have HPT := Lib.hid hpt
    obtain ⟨_, _, hpe, hpc1, hpc2⟩ := hpt.form
    simp only [Value.slice.injEq, true_and] at hpe
    obtain ⟨rfl, rfl⟩ := hpe
    unfold maxLen at hpc2
    simp only [Nat.zero_mul, Nat.add_zero] at k0 k1
    clear hP h1 hpt
    simp only [List.length_cons, List.length_nil, Nat.zero_add] at hc1 ⊢
    have hq := str_list q
    by_cases h2 : ps.length = 1
    case neg =>
      have hn2 : ((ps.length : Int) != 1) = true := by rw [bne_iff_ne]; omega
      clear HP HPT
      generalize ps.length = pn at *
      go_wp2_with fail
      go_ret
      exact ⟨rfl, HB3.out⟩
    obtain ⟨p, rfl⟩ := List.length_eq_one_iff.1 h2
    obtain ⟨cb, sms⟩ := p
    simp only [List.length_cons, List.length_nil, Nat.zero_add] at k0 hpc1
    by_cases h3 : q = []
    case neg =>
      have hn3 : ((Wn.str q).toList != []) = true := by rw [hq]; simpa using h3
      clear HP HPT HL
      generalize Wn.str q = qs at *
      go_wp2_with fail
      go_ret
      exact ⟨rfl, HB3.out⟩
    subst h3
    obtain ⟨c, d, so, sc, rfl, hsm, t0, t1⟩ := pt_at HPT.out (i := 0) rfl
    simp only [Nat.zero_mul, Nat.add_zero] at t0 t1
    obtain ⟨_, _, hse, hsc1, hsc2⟩ := hsm.form
    simp only [Value.slice.injEq, true_and] at hse
    obtain ⟨rfl, rfl⟩ := hse
    unfold maxLen at hsc2
    have HSM := Lib.hid hsm
    clear hsm h2 HP HPT t0
    by_cases h4 : sms.length = 1
    case neg =>
      have hn4 : ((sms.length : Int) != 1) = true := by rw [bne_iff_ne]; omega
      clear HSM HL HNA
      generalize sms.length = sn at *
      go_wp2_with fail
      go_ret
      exact ⟨rfl, HB3.out⟩
    obtain ⟨x, rfl⟩ := List.length_eq_one_iff.1 h4
    simp only [List.length_cons, List.length_nil, Nat.zero_add] at t1 hsc1
    obtain ⟨g, p, cs, rfl, _, _, hRx, hLx⟩ := HSM.out.at (i := 0) rfl
    obtain ⟨xu, rfl, hxu⟩ := hRx
    obtain ⟨xo, xc, rfl, _, _⟩ := hxu.form
    have x0 := hLx 0 _ rfl
    have x1 := hLx 1 _ rfl
    have x2 := hLx 2 _ rfl
    have x3 := hLx 3 _ rfl
    have x4 := hLx 4 _ rfl
    have x5 := hLx 5 _ rfl
    simp only [Nat.zero_mul, Nat.add_zero] at x0 x1 x2 x3 x4 x5
    have e := HNA.out cb x HL.out
    have HXU := Lib.hid hxu
    clear h4 HSM hLx hxu HNA HL
    have hB : Below w3.heap.size w3 (w3.alloc (.cells #[.int .i64 x.k, .string (Wn.str x.n), .string (Wn.str x.v), .int .i64 x.a, .int .i64 x.b, .slice xo x.l.len xc] 51)) := (Below.refl _ _).alloc (Nat.le_refl _) _
    have HBW := Lib.hid hB
    have HBX := Lib.hid (heap_alloc_new w3 (Obj.cells #[.int .i64 x.k, .string (Wn.str x.n), .string (Wn.str x.v), .int .i64 x.a, .int .i64 x.b, .slice xo x.l.len xc] 51))
    clear hB
    have QR1 := Lib.hid (fun W => by have := QR.out W; rw [e] at this; exact this)
    clear QR e
    go_wp2_with fail
    have HV4 := Lib.hid (HV3.out.below HBW.out)
    have HU4 := Lib.hid (HXU.out.below HBW.out)
    have HB4 := Lib.hid (HB3.out.trans (HBW.out.mono HB3.out.size))
    clear HV3 HXU HB3 HBW x0 x1 x2 x3 x4 x5 t1 k0 k1 hP
    generalize (w3.alloc (Obj.cells #[.int .i64 x.k, .string (Wn.str x.n), .string (Wn.str x.v), .int .i64 x.a, .int .i64 x.b, .slice xo x.l.len xc] 51)) = w4 at *
    generalize w3.heap.size = B at *
    refine (QT.out w4 HV4.out).mono ?_
    rintro e w5 ⟨rfl, b5⟩
    have HB5 := Lib.hid (HB4.out.trans (b5.mono HB4.out.size))
    have HU5 := Lib.hid (HU4.out.below b5)
    have HX5 := Lib.hid (block_lat b5 HBX.out)
    clear b5 HB4 HU4 HBX HV4 QT
    generalize Wn.str (Wn.textF f) = TX at *
    go_wp2_with fail
    refine (QR1.out _).mono ?_
    rintro e w6 ⟨b6, hres⟩
    have HB6 := Lib.hid (HB5.out.trans (b6.mono HB5.out.size))
    have HU6 := Lib.hid (HU5.out.below b6)
    have HX6 := Lib.hid (block_lat b6 HX5.out)
    have p0 := cell_of_block (o := 0) HX6.out
    have p1 := cell_of_block (o := 1) HX6.out
    have p2 := cell_of_block (o := 2) HX6.out
    have p3 := cell_of_block (o := 3) HX6.out
    have p4 := cell_of_block (o := 4) HX6.out
    have p5 := cell_of_block (o := 5) HX6.out
    simp only [List.getElem?_toArray, List.getElem?_cons_zero, List.getElem?_cons_succ] at p0 p1 p2 p3 p4 p5
    clear b6 HB5 HU5 HX5 QR1
    by_cases hk : x.k = 11
    · rw [if_pos hk] at hres
      rw [hk] at p0
      rcases hres with ⟨l, v, h, _⟩ | ⟨_, rfl⟩
      · cases h
      · clear p1 p2 p3 p4 p5
        go_wp2_with fail
        go_ret
        exact ⟨rfl, HB6.out⟩
    · rw [if_neg hk] at hres
      rcases hres with ⟨l, v, h, rfl, hP6⟩ | ⟨h, _⟩
      case inr => cases h
      cases h
      have hP6 := hP6.any
      obtain ⟨mo, mc, rfl, hm1, hm2⟩ := hP6.form
      have hbel : Below w6.heap.size w6 ((((w6.alloc (.cells #[.int .i64 x.k, .string (Wn.str x.n), .string (Wn.str x.v), .int .i64 x.a, .int .i64 x.b, .slice xo x.l.len xc] 51)).alloc (.cells #[.int .i64 11, .string ⟨#[]⟩, .string ⟨#[]⟩, .int .i64 0, .int .i64 0, .slice (some ⟨w6.heap.size, 0, none⟩) 1 1] 51)).alloc (.cells #[.int .i64 0, .slice (some ⟨w6.heap.size + 1, 0, none⟩) 1 1] 49)).alloc (.cells #[.slice (some ⟨w6.heap.size + 2, 0, none⟩) 1 1, .string ⟨#[]⟩] 46)) := by (repeat (first | with_reducible exact Below.refl _ _ | (with_reducible refine Below.drew ?_) | (with_reducible refine below_drewN' ?_ _) | ((with_reducible refine Below.alloc ?_ ?_ _); rotate_left; (focus (first | omega | (simp <;> omega)))) | ((with_reducible refine Below.set_new ?_ ?_ _ _); rotate_left; (focus (first | omega | (simp <;> omega))))))
      obtain ⟨f0, f1, f2, f3⟩ := four_boxes w6 (.cells #[.int .i64 x.k, .string (Wn.str x.n), .string (Wn.str x.v), .int .i64 x.a, .int .i64 x.b, .slice xo x.l.len xc] 51) (.cells #[.int .i64 11, .string ⟨#[]⟩, .string ⟨#[]⟩, .int .i64 0, .int .i64 0, .slice (some ⟨w6.heap.size, 0, none⟩) 1 1] 51) (.cells #[.int .i64 0, .slice (some ⟨w6.heap.size + 1, 0, none⟩) 1 1] 49) (.cells #[.slice (some ⟨w6.heap.size + 2, 0, none⟩) 1 1, .string ⟨#[]⟩] 46)
      have qs := rSame4_v _ _ _ _ _ (hP6.below hbel) (lone_at (HU6.out.below hbel) f0 f1 f2 f3)
      rw [decide_eq_true rfl] at qs
      have QS := Lib.hid qs
      have HB7 := Lib.hid (HB6.out.trans (hbel.mono HB6.out.size))
      clear qs hbel f0 f1 f2 f3 hP6 HB6 HU6 HX6 hm2
      simp only [List.length_cons, List.length_nil, Nat.zero_add] at hm1 ⊢
      go_wp2_with fail
      refine QS.out.mono ?_
      rintro e w7 ⟨rfl, b7⟩
      have HB8 := Lib.hid (HB7.out.trans (b7.mono HB7.out.size))
      clear b7 HB7 QS
      go_wp2_with fail
      go_ret
      exact ⟨rfl, HB8.out⟩
end Go.Proofs.YtncknaagbafhhaaGreatDoor
