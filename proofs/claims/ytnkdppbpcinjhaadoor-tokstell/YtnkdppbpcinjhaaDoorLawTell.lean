/- ToksTell: whatever the text, the tokens and the token, the law answers true, and nothing that was there has turned. -/
import Derived.Test.YtnkdppbpcinjhaaDoorRefO
import Derived.Test.YtnkdppbpcinjhaaDoorLawBlanks
set_option maxRecDepth 20000
namespace Go.Proofs.YtnkdppbpcinjhaaDoor
open Go.RowKit
theorem cell_later {W w1 : World} (hb : Below W.heap.size W w1) {a : Addr} {v : Value} (h : W.cell? a = some v) : w1.cell? a = some v :=
  (hb.cell (p := a) (World.block_lt_of_cell? _ _ h)).trans h
theorem tell_out (s : ByteArray) (v : Value) (l : List Wn.Tok) (t : Wn.Tok) (w : World) (ht : Tab w) (hl : Toks w v l) (hs : s.size ≤ maxLen) (hm : t.2.1.length ≤ maxLen) (hout : ¬ (s.size ≤ 2000 ∧ Wn.small l 200 = true ∧ t.2.1.length ≤ 100)) :
    Calls Tryd.prog 3 #[.string s, v, .agg #[.int .i64 t.1, .string (Wn.str t.2.1), .int .i64 t.2.2]] w fun e w' => e = .returned (.bool true) ∧ Below w.heap.size w w' := by
  unfold maxLen at hs hm
  have hxs : (Wn.str t.2.1).size = t.2.1.length := Wn.str_size _
  have hxb : (Wn.str t.2.1).size ≤ 9223372036854775807 := by omega
  have HXS := Lib.hid hxs; clear hxs
  generalize Wn.str t.2.1 = x at *
  have HB0 : Hid (Below w.heap.size w (w.alloc (Obj.cells #[Value.int IntKind.i64 t.1, Value.string x, Value.int IntKind.i64 t.2.2] 24))) := Lib.hid ((Below.refl _ _).alloc (Nat.le_refl _) _)
  have HT : Hid (Tab (w.alloc (Obj.cells #[Value.int IntKind.i64 t.1, Value.string x, Value.int IntKind.i64 t.2.2] 24))) := Lib.hid (ht.below HB0.out)
  have HL : Hid (Toks (w.alloc (Obj.cells #[Value.int IntKind.i64 t.1, Value.string x, Value.int IntKind.i64 t.2.2] 24)) v l) := Lib.hid (hl.below HB0.out)
  clear hl ht
  by_cases h1 : 2000 < s.size
  · clear hout
    go_enter Tryd.func3, Tryd.ntmps3
    go_wp2_with fail
    refine (fixed_any _ HT.out).mono ?_
    rintro e w1 ⟨rfl, b1⟩
    have HB := Lib.hid (HB0.out.trans (b1.mono HB0.out.size)); clear b1
    go_wp2_with fail
    go_ret
    exact ⟨rfl, HB.out⟩
  · cases h2 : Wn.small l 200
    · have HS := Lib.hid h2
      clear hout h2
      go_enter Tryd.func3, Tryd.ntmps3
      go_wp2_with fail
      refine (Small_any _ l 200 _ HL.out).mono ?_
      rintro e w' ⟨rfl, rfl⟩
      rw [HS.out]
      go_wp2_with fail
      refine (fixed_any _ HT.out).mono ?_
      rintro e w1 ⟨rfl, b1⟩
      have HB := Lib.hid (HB0.out.trans (b1.mono HB0.out.size)); clear b1
      go_wp2_with fail
      go_ret
      exact ⟨rfl, HB.out⟩
    · have HS := Lib.hid h2
      have h3 : 100 < t.2.1.length := by
        by_cases h : 100 < t.2.1.length
        · exact h
        · exact absurd ⟨by omega, h2, by omega⟩ hout
      have h4 : 100 < x.size := by rw [HXS.out]; exact h3
      clear hout h2 h3 hm HXS
      go_enter Tryd.func3, Tryd.ntmps3
      go_wp2_with fail
      refine (Small_any _ l 200 _ HL.out).mono ?_
      rintro e w' ⟨rfl, rfl⟩
      rw [HS.out]
      go_wp2_with fail
      refine (fixed_any _ HT.out).mono ?_
      rintro e w1 ⟨rfl, b1⟩
      have HB := Lib.hid (HB0.out.trans (b1.mono HB0.out.size)); clear b1
      go_wp2_with fail
      go_ret
      exact ⟨rfl, HB.out⟩
set_option maxRecDepth 100000 in
set_option maxHeartbeats 2000000 in
theorem tell_in (s : ByteArray) (v : Value) (l : List Wn.Tok) (t : Wn.Tok) (w : World) (ht : Tab w) (hl : Toks w v l) (hs : s.size ≤ 2000) (hsm : Wn.small l 200 = true) (htl : t.2.1.length ≤ 100) (hf : ∀ t ∈ l, Fine t) (hft : Fine t) (hfs : ∀ t ∈ l, ShortTok t) (hll : l.length ≤ 200) :
    Calls Tryd.prog 3 #[.string s, v, .agg #[.int .i64 t.1, .string (Wn.str t.2.1), .int .i64 t.2.2]] w fun e w' => e = .returned (.bool true) ∧ Below w.heap.size w w' := by
  have hxs : (Wn.str t.2.1).size ≤ 100 := by rw [Wn.str_size]; exact htl
  generalize hA : Wn.lex s.data.toList = A
  have QA := Lib.hid (fun w => All_toks s A w (by omega) hA)
  have QRA := Lib.hid (fun w => rAll s A w (by omega) hA)
  have QT := Lib.hid (fun v w ht hW => Text_r v l (Wn.text l) (Wn.str (Wn.text l)) w rfl rfl ht hW hf (by omega))
  have QRT := Lib.hid (fun v w hW => rText v l w hW hfs (by omega))
  have qo := fun w ht => One_r t _ _ _ w rfl rfl rfl ht hft
  have qm := fun w ht => May_r t _ _ w rfl rfl ht hft
  have qro := fun w => rOne t w (by omega) hft.2.1 hft.2.2
  have qrm := fun w => rMay t w (by omega) hft.2.1 hft.2.2
  rw [tokV_str] at qo qm
  have BX := box1 w t
  have HB0 : Hid (Below w.heap.size w (w.alloc (Obj.cells #[Value.int IntKind.i64 t.1, Value.string (Wn.str t.2.1), Value.int IntKind.i64 t.2.2] 24))) := Lib.hid ((Below.refl _ _).alloc (Nat.le_refl _) _)
  have HT := Lib.hid (ht.below HB0.out)
  have HL := Lib.hid (hl.below HB0.out)
  have k0 := BX.c0
  have k1 := BX.c1
  have k2 := BX.c2
  have HBX := Lib.hid BX
  have HSM := Lib.hid hsm
  clear hA hl ht hsm hf hft hfs BX htl
  generalize Wn.may t = m at *
  generalize Wn.str (Wn.oneText t) = z at *
  generalize Wn.str (Wn.text l) = y at *
  have QO := Lib.hid qo
  have QM := Lib.hid qm
  have QRO := Lib.hid qro
  have QRM := Lib.hid qrm
  clear qo qm qro qrm
  generalize hx : Wn.str t.2.1 = x at *
  have HX := Lib.hid hx; clear hx
  go_enter Tryd.func3, Tryd.ntmps3
  go_wp2_with fail
  refine (Small_any _ l 200 _ HL.out).mono ?_
  rintro e w' ⟨rfl, rfl⟩
  rw [HSM.out]
  go_wp2_with fail
  generalize w.alloc (Obj.cells #[Value.int IntKind.i64 t.1, Value.string x, Value.int IntKind.i64 t.2.2] 24) = W at *
  have HZ0 := Lib.hid HB0.out.size
  generalize hg : w.heap.size = g at *
  have HG := Lib.hid hg; clear hg
  generalize t.1 = tk at *
  generalize t.2.2 = tn at *
  go_region_held3 (fun w' => w'.cell? ⟨g, 0, none⟩ = some (.int .i64 tk) ∧ w'.cell? ⟨g, 0 + 1, none⟩ = some (.string x) ∧ w'.cell? ⟨g, 0 + 2, none⟩ = some (.int .i64 tn))
    (first | go_keep | exact ⟨by assumption, by assumption, by assumption⟩)
    (first
      | (go_at_call 15; (refine (fixed_any _ (HT.out.below (Below.refl _ _).drew)).mono ?_); rintro e w1 ⟨rfl, b1⟩; (have HB1 : Hid (Below W.heap.size W w1) := Lib.hid ((Below.refl W.heap.size W).drew.trans b1)); have c0_1 := cell_later HB1.out k0; have c1_1 := cell_later HB1.out k1; have c2_1 := cell_later HB1.out k2; clear b1)
      | (go_at_call 17; (refine (QA.out _).mono ?_); rintro e w2 ⟨va, rfl, ha, b2⟩; have HA2 := Lib.hid ha; clear ha; (have HB2 : Hid (Below W.heap.size W w2) := Lib.hid (HB1.out.trans (b2.mono HB1.out.size))); have c0_2 := cell_later HB2.out k0; have c1_2 := cell_later HB2.out k1; have c2_2 := cell_later HB2.out k2; clear b2)
      | (go_at_call 18; (refine (QRA.out _).mono ?_); rintro e w3 ⟨vb, rfl, hb, b3⟩; have HA3 := Lib.hid (HA2.out.below b3); have HC3 := Lib.hid hb; clear hb; (have HB3 : Hid (Below W.heap.size W w3) := Lib.hid (HB2.out.trans (b3.mono HB2.out.size))); have c0_3 := cell_later HB3.out k0; have c1_3 := cell_later HB3.out k1; have c2_3 := cell_later HB3.out k2; clear b3)
      | (go_at_call 16; (refine (Same_b _ _ A A true _ (by simp) HA3.out HC3.out.toks).mono ?_); rintro e w4 ⟨rfl, b4⟩; (have HB4 : Hid (Below W.heap.size W w4) := Lib.hid (HB3.out.trans (b4.mono HB3.out.size))); have c0_4 := cell_later HB4.out k0; have c1_4 := cell_later HB4.out k1; have c2_4 := cell_later HB4.out k2; clear b4)
      | (go_at_call 19; (refine (QT.out _ _ (HT.out.below HB4.out) (HL.out.below HB4.out)).mono ?_); rintro e w5 ⟨rfl, b5⟩; (have HB5 : Hid (Below W.heap.size W w5) := Lib.hid (HB4.out.trans (b5.mono HB4.out.size))); have c0_5 := cell_later HB5.out k0; have c1_5 := cell_later HB5.out k1; have c2_5 := cell_later HB5.out k2; clear b5)
      | (go_at_call 20; (refine (QRT.out _ _ (HL.out.below HB5.out)).mono ?_); rintro e w6 ⟨rfl, b6⟩; (have HB6 : Hid (Below W.heap.size W w6) := Lib.hid (HB5.out.trans (b6.mono HB5.out.size))); have c0_6 := cell_later HB6.out k0; have c1_6 := cell_later HB6.out k1; have c2_6 := cell_later HB6.out k2; clear b6)
      | (go_at_call 21; (refine (QO.out _ (HT.out.below HB6.out)).mono ?_); rintro e w7 ⟨rfl, b7⟩; (have HB7 : Hid (Below W.heap.size W w7) := Lib.hid (HB6.out.trans (b7.mono HB6.out.size))); have c0_7 := cell_later HB7.out k0; have c1_7 := cell_later HB7.out k1; have c2_7 := cell_later HB7.out k2; clear b7)
      | (go_at_call 22; (refine (QRO.out _).mono ?_); rintro e w8 ⟨rfl, b8⟩; (have HB8 : Hid (Below W.heap.size W w8) := Lib.hid (HB7.out.trans (b8.mono HB7.out.size))); have c0_8 := cell_later HB8.out k0; have c1_8 := cell_later HB8.out k1; have c2_8 := cell_later HB8.out k2; clear b8)
      | (go_at_call 23; (refine (QM.out _ (HT.out.below HB8.out)).mono ?_); rintro e w9 ⟨rfl, b9⟩; (have HB9 : Hid (Below W.heap.size W w9) := Lib.hid (HB8.out.trans (b9.mono HB8.out.size))); have c0_9 := cell_later HB9.out k0; have c1_9 := cell_later HB9.out k1; have c2_9 := cell_later HB9.out k2; clear b9)
      | (go_at_call 24; (refine (QRM.out _).mono ?_); rintro e w10 ⟨rfl, b10⟩; (have HB10 : Hid (Below W.heap.size W w10) := Lib.hid (HB9.out.trans (b10.mono HB9.out.size))); have c0_10 := cell_later HB10.out k0; have c1_10 := cell_later HB10.out k1; have c2_10 := cell_later HB10.out k2; clear b10))
  go_wp2_with fail
  go_ret
  exact ⟨ret_bool (by simp), by rw [HG.out]; exact HB0.out.trans (HB10.out.mono HZ0.out)⟩
theorem tell_any (s : ByteArray) (v : Value) (l : List Wn.Tok) (t : Wn.Tok) (w : World) (ht : Tab w) (hl : Toks w v l) (hs : s.size ≤ maxLen) (hm : t.2.1.length ≤ maxLen) (hn : ∀ t ∈ l, -9223372036854775808 ≤ t.2.2 ∧ t.2.2 ≤ 9223372036854775807) (hnt : -9223372036854775808 ≤ t.2.2 ∧ t.2.2 ≤ 9223372036854775807) :
    Calls Tryd.prog 3 #[.string s, v, .agg #[.int .i64 t.1, .string (Wn.str t.2.1), .int .i64 t.2.2]] w fun e w' => e = .returned (.bool true) ∧ Below w.heap.size w w' := by
  by_cases h : s.size ≤ 2000 ∧ Wn.small l 200 = true ∧ t.2.1.length ≤ 100
  · obtain ⟨h1, h2, h3⟩ := h
    have hsm := small_in h2
    exact tell_in s v l t w ht hl h1 h2 h3 (fun t ht => ⟨by have := hsm.1 t ht; omega, hn t ht⟩) ⟨by omega, hnt⟩ (fun t ht => ⟨by have := hsm.1 t ht; omega, hn t ht⟩) (by omega)
  · exact tell_out s v l t w ht hl hs hm h
end Go.Proofs.YtnkdppbpcinjhaaDoor
