/- SelsNth: whatever the numbers, the law answers true, and nothing that was there has turned. -/
import Derived.Test.YtncknaagbafhhaaGreatDoorHL
import Derived.Test.YtncknaagbafhhaaGreatDoorSelAoM
set_option linter.unusedVariables false
set_option linter.unusedSimpArgs false
set_option maxRecDepth 20000
namespace Go.Proofs.YtncknaagbafhhaaGreatDoor
open Go.RowKit Go.Sort
theorem cat_nth (a : List UInt8) : (⟨a.toArray⟩ : ByteArray) ++ ⟨#[110]⟩ = Wn.str (a ++ [110]) := by
  rw [show (⟨a.toArray⟩ : ByteArray) = Wn.str a from rfl, show (⟨#[110]⟩ : ByteArray) = Wn.str [110] from rfl, Wn.str_append]
theorem cat_plus (a : List UInt8) : (⟨#[43]⟩ : ByteArray) ++ ⟨a.toArray⟩ = Wn.str (43 :: a) := by
  rw [show (⟨a.toArray⟩ : ByteArray) = Wn.str a from rfl, show (⟨#[43]⟩ : ByteArray) = Wn.str [43] from rfl, Wn.str_append]; rfl
theorem nth_len {a : Int} (h0 : -20000 ≤ a) (h1 : a ≤ 20000) : (Go.Lib.itoa a).length ≤ 20 := Wn.itoa_len (by omega) (by omega)
/-- R3.Read and then sels.Nth of a text that is an nth's -/
theorem nth_read (s : ByteArray) (res : Option (Int × Int)) (w : World) (hs : s.size ≤ 1000) (hf : ∃ f, Wn.readF s.data.toList = some f ∧ Wn.nthF (Wn.trimF f) = res) :
    Calls Tryz.prog 22 #[.string s] w fun e w' => ∃ ro rn rc c, e = .returned (.tuple #[.slice ro rn rc, .int .i64 c]) ∧ Below w.heap.size w w' ∧ ∀ W, Below w'.heap.size w' W → Calls Tryz.prog 17 #[.slice ro rn rc] W (NPost res W) := by
  obtain ⟨f, hf, rfl⟩ := hf
  refine (rRead_any s w (by omega)).mono ?_
  rintro e w1 ⟨r, c, rfl, b1, ⟨_, _, h⟩ | ⟨rfl, g, hg, hv⟩⟩
  · rw [hf] at h; cases h
  · rw [hf] at hg
    cases hg
    have hform : ∃ ao n c, r = .slice ao n c := by obtain ⟨ao, cap, hv, _⟩ := hv.form; exact ⟨_, _, _, hv⟩
    obtain ⟨ro, rn, rc, rfl⟩ := hform
    exact ⟨ro, rn, rc, 0, rfl, b1, fun W hW => SNth_v _ _ W (hv.below hW) (read_tl hf (by simpa using (by omega : s.size ≤ 1048576)))⟩
set_option maxRecDepth 100000 in
set_option maxHeartbeats 2000000 in
theorem lnth_any (a b : Int) (w : World) (ht : Tab w) :
    Calls Tryz.prog 5 #[.int .i64 a, .int .i64 b] w fun e w' => e = .returned (.bool true) ∧ Below w.heap.size w w' := by
  have HT := Lib.hid ht; clear ht
  by_cases ha0 : a < -20000
  · go_enter Tryz.func5, Tryz.ntmps5
    go_wp2_with fail
    refine (fixed04 _ HT.out).mono ?_
    rintro e w1 ⟨rfl, b1⟩
    have HB1 := Lib.hid b1; clear b1
    go_wp2_with fail
    refine (fixed04 _ (HT.out.below HB1.out)).mono ?_
    rintro e w2 ⟨rfl, b2⟩
    have HB2 := Lib.hid (HB1.out.trans (b2.mono HB1.out.size)); clear b2 HB1
    go_wp2_with fail
    go_ret
    exact ⟨rfl, HB2.out⟩
  by_cases ha1 : a > 20000
  · go_enter Tryz.func5, Tryz.ntmps5
    go_wp2_with fail
    refine (fixed04 _ HT.out).mono ?_
    rintro e w1 ⟨rfl, b1⟩
    have HB1 := Lib.hid b1; clear b1
    go_wp2_with fail
    refine (fixed04 _ (HT.out.below HB1.out)).mono ?_
    rintro e w2 ⟨rfl, b2⟩
    have HB2 := Lib.hid (HB1.out.trans (b2.mono HB1.out.size)); clear b2 HB1
    go_wp2_with fail
    go_ret
    exact ⟨rfl, HB2.out⟩
  by_cases hb0 : b < -20000
  · go_enter Tryz.func5, Tryz.ntmps5
    go_wp2_with fail
    refine (fixed04 _ HT.out).mono ?_
    rintro e w1 ⟨rfl, b1⟩
    have HB1 := Lib.hid b1; clear b1
    go_wp2_with fail
    refine (fixed04 _ (HT.out.below HB1.out)).mono ?_
    rintro e w2 ⟨rfl, b2⟩
    have HB2 := Lib.hid (HB1.out.trans (b2.mono HB1.out.size)); clear b2 HB1
    go_wp2_with fail
    go_ret
    exact ⟨rfl, HB2.out⟩
  by_cases hb1 : b > 20000
  · go_enter Tryz.func5, Tryz.ntmps5
    go_wp2_with fail
    refine (fixed04 _ HT.out).mono ?_
    rintro e w1 ⟨rfl, b1⟩
    have HB1 := Lib.hid b1; clear b1
    go_wp2_with fail
    refine (fixed04 _ (HT.out.below HB1.out)).mono ?_
    rintro e w2 ⟨rfl, b2⟩
    have HB2 := Lib.hid (HB1.out.trans (b2.mono HB1.out.size)); clear b2 HB1
    go_wp2_with fail
    go_ret
    exact ⟨rfl, HB2.out⟩
  have HA := Lib.hid (Wn.nth_some (a := a) (b := b) (by omega) (by omega) (by omega) (by omega))
  have HBB := Lib.hid (Wn.nthb_some (b := b) (by omega) (by omega))
  have la := nth_len (a := a) (by omega) (by omega)
  have lb := nth_len (a := b) (by omega) (by omega)
  have QA := Lib.hid (fun w => rDigits a a w (by omega) (by omega) rfl)
  have QB := Lib.hid (fun w => rDigits b b w (by omega) (by omega) rfl)
  have QR2 := Lib.hid (fun w => nth_read ⟨(Go.Lib.itoa b).toArray⟩ _ w (by show (Go.Lib.itoa b).toArray.size ≤ 1000; simp; omega) HBB.out)
  have key : ∀ (s : ByteArray) (K : Hid (s = Wn.str (Wn.nthTx a b))) (w : World), Calls Tryz.prog 22 #[.string s] w fun e w' => ∃ ro rn rc c, e = .returned (.tuple #[.slice ro rn rc, .int .i64 c]) ∧ Below w.heap.size w w' ∧ ∀ W, Below w'.heap.size w' W → Calls Tryz.prog 17 #[.slice ro rn rc] W (NPost (if Wn.few a && Wn.few b then some (a, b) else none) W) := by
    intro s K w
    rw [K.out]
    refine nth_read _ _ w ?_ ?_
    · rw [Wn.str_size]; unfold Wn.nthTx; split
      · simp; omega
      · split <;> simp <;> omega
    · exact HA.out
  have QR1 := Lib.hid key
  have hcat1 := cat_nth (Go.Lib.itoa a)
  have hcat2 := cat_plus (Go.Lib.itoa b)
  have e1 : Hid (0 < b → Wn.str (Go.Lib.itoa a ++ [110]) ++ Wn.str (43 :: Go.Lib.itoa b) = Wn.str (Wn.nthTx a b)) := Lib.hid (fun h => by rw [Wn.str_append]; unfold Wn.nthTx; rw [if_pos h])
  have e2 : Hid (b < 0 → Wn.str (Go.Lib.itoa a ++ [110]) ++ ⟨(Go.Lib.itoa b).toArray⟩ = Wn.str (Wn.nthTx a b)) := Lib.hid (fun h => by rw [show (⟨(Go.Lib.itoa b).toArray⟩ : ByteArray) = Wn.str (Go.Lib.itoa b) from rfl, Wn.str_append]; unfold Wn.nthTx; rw [if_neg (by omega), if_pos h])
  have e3 : Hid (b = 0 → Wn.str (Go.Lib.itoa a ++ [110]) = Wn.str (Wn.nthTx a b)) := Lib.hid (fun h => by unfold Wn.nthTx; rw [if_neg (by omega), if_neg (by omega), List.append_nil])
  have z1 : (⟨(Go.Lib.itoa a).toArray⟩ : ByteArray).size ≤ 20 := by show (Go.Lib.itoa a).toArray.size ≤ 20; simpa using la
  have z2 : (⟨(Go.Lib.itoa b).toArray⟩ : ByteArray).size ≤ 20 := by show (Go.Lib.itoa b).toArray.size ≤ 20; simpa using lb
  have z3 : (Wn.str (Go.Lib.itoa a ++ [110])).size ≤ 21 := by rw [Wn.str_size]; simp; omega
  have z4 : (Wn.str (43 :: Go.Lib.itoa b)).size ≤ 21 := by rw [Wn.str_size]; simp; omega
  have hfa : Hid (Wn.few a = (decide (-9999 ≤ a) && decide (a ≤ 9999))) := Lib.hid rfl
  have hfb : Hid (Wn.few b = (decide (-9999 ≤ b) && decide (b ≤ 9999))) := Lib.hid rfl
  clear key la lb HA HBB
  generalize Wn.str (Wn.nthTx a b) = N at *
  generalize Wn.str (43 :: Go.Lib.itoa b) = Z at *
  generalize Wn.str (Go.Lib.itoa a ++ [110]) = Y at *
  generalize (⟨(Go.Lib.itoa b).toArray⟩ : ByteArray) = XB at *
  generalize (⟨(Go.Lib.itoa a).toArray⟩ : ByteArray) = XA at *
  generalize Wn.few a = fa at *
  generalize Wn.few b = fb at *
  go_enter Tryz.func5, Tryz.ntmps5
  go_wp2_with fail
  refine (fixed04 _ HT.out).mono ?_
  rintro e w1 ⟨rfl, b1⟩
  have HB1 := Lib.hid b1; clear b1
  go_wp2_with fail
  refine (QA.out _).mono ?_
  rintro e w2 ⟨rfl, b2⟩
  have HB2 := Lib.hid (HB1.out.trans (b2.mono HB1.out.size)); clear b2 HB1
  by_cases hp : b > 0
  · go_wp2_with fail
    refine (QB.out _).mono ?_
    rintro e w3 ⟨rfl, b3⟩
    have HB3 := Lib.hid (HB2.out.trans (b3.mono HB2.out.size)); clear b3 HB2
    go_wp2_with fail
    refine (QR1.out _ (Lib.hid (e1.out (by omega))) _).mono ?_
    rintro e w4 ⟨ro, rn, rc, c4, rfl, b4, q4⟩
    have HB4 := Lib.hid (HB3.out.trans (b4.mono HB3.out.size))
    have QN := Lib.hid (q4 w4 (Below.refl _ _))
    clear b4 q4 QR1 HB3 e1 e2 e3
    go_wp2_with fail
    refine QN.out.mono ?_
    rintro e w5 ⟨b5, ⟨p, hp, rfl⟩ | ⟨hp, rfl⟩⟩
    · have HB5 := Lib.hid (HB4.out.trans (b5.mono HB4.out.size)); clear b5 HB4 QN
      have hab : fa = true ∧ fb = true ∧ p = (a, b) := by cases fa <;> cases fb <;> simp at hp ⊢ <;> exact hp.symm
      obtain ⟨h1, h2, rfl⟩ := hab
      subst h1 h2
      have ra : -9999 ≤ a ∧ a ≤ 9999 := by simpa using hfa.out.symm
      have rb : -9999 ≤ b ∧ b ≤ 9999 := by simpa using hfb.out.symm
      obtain ⟨ra1, ra2⟩ := ra
      obtain ⟨rb1, rb2⟩ := rb
      clear hp
      go_wp2_with fail
      refine (QB.out _).mono ?_
      rintro e w6 ⟨rfl, b6⟩
      have HB6 := Lib.hid (HB5.out.trans (b6.mono HB5.out.size)); clear b6 HB5
      go_wp2_with fail
      refine (QR2.out _).mono ?_
      rintro e w7 ⟨so, sn, sc, c7, rfl, b7, q7⟩
      have HB7 := Lib.hid (HB6.out.trans (b7.mono HB6.out.size))
      have QM := Lib.hid (q7 w7 (Below.refl _ _))
      clear b7 q7 QR2 HB6
      go_wp2_with fail
      refine QM.out.mono ?_
      rintro e w8 ⟨b8, ⟨q, hq, rfl⟩ | ⟨hq, rfl⟩⟩
      · have HB8 := Lib.hid (HB7.out.trans (b8.mono HB7.out.size)); clear b8 HB7 QM
        have hq' : q = (0, b) := by simpa using hq.symm
        subst hq'
        clear hq
        go_wp2_with fail
        all_goals go_ret
        all_goals exact ⟨ret_bool (by simp), HB8.out⟩
      · simp at hq
    · have HB5 := Lib.hid (HB4.out.trans (b5.mono HB4.out.size)); clear b5 HB4 QN
      have hab : fa = false ∨ fb = false := by cases fa <;> cases fb <;> simp at hp ⊢
      have HAB := Lib.hid hab
      clear hp hab
      go_wp2_with fail
      refine (QB.out _).mono ?_
      rintro e w6 ⟨rfl, b6⟩
      have HB6 := Lib.hid (HB5.out.trans (b6.mono HB5.out.size)); clear b6 HB5
      go_wp2_with fail
      refine (QR2.out _).mono ?_
      rintro e w7 ⟨so, sn, sc, c7, rfl, b7, q7⟩
      have HB7 := Lib.hid (HB6.out.trans (b7.mono HB6.out.size))
      have QM := Lib.hid (q7 w7 (Below.refl _ _))
      clear b7 q7 QR2 HB6
      go_wp2_with fail
      refine QM.out.mono ?_
      rintro e w8 ⟨b8, ⟨q, hq, rfl⟩ | ⟨hq, rfl⟩⟩
      · have HB8 := Lib.hid (HB7.out.trans (b8.mono HB7.out.size)); clear b8 HB7 QM
        have hfb1 : fb = true ∧ q = (0, b) := by cases fb <;> simp at hq ⊢ <;> exact hq.symm
        obtain ⟨h2, rfl⟩ := hfb1
        subst h2
        have h1 : fa = false := HAB.out.resolve_right (by simp)
        subst h1
        have rb : -9999 ≤ b ∧ b ≤ 9999 := by simpa using hfb.out.symm
        obtain ⟨rb1, rb2⟩ := rb
        have ra : -9999 ≤ a → 9999 < a := by simpa using hfa.out.symm
        clear hq
        by_cases ra1 : -9999 ≤ a
        · have ra2 := ra ra1
          clear ra
          go_wp2_with fail
          all_goals go_ret
          all_goals exact ⟨ret_bool (by simp), HB8.out⟩
        · clear ra
          go_wp2_with fail
          all_goals go_ret
          all_goals exact ⟨ret_bool (by simp), HB8.out⟩
      · have HB8 := Lib.hid (HB7.out.trans (b8.mono HB7.out.size)); clear b8 HB7 QM
        have h2 : fb = false := by cases fb <;> simp at hq ⊢
        subst h2
        have rb : -9999 ≤ b → 9999 < b := by simpa using hfb.out.symm
        clear hq
        by_cases ra1 : -9999 ≤ a
        · by_cases ra2 : a ≤ 9999
          · by_cases rb1 : -9999 ≤ b
            · have rb2 := rb rb1
              clear rb
              go_wp2_with fail
              all_goals go_ret
              all_goals exact ⟨ret_bool (by simp), HB8.out⟩
            · clear rb
              go_wp2_with fail
              all_goals go_ret
              all_goals exact ⟨ret_bool (by simp), HB8.out⟩
          · by_cases rb1 : -9999 ≤ b
            · have rb2 := rb rb1
              clear rb
              go_wp2_with fail
              all_goals go_ret
              all_goals exact ⟨ret_bool (by simp), HB8.out⟩
            · clear rb
              go_wp2_with fail
              all_goals go_ret
              all_goals exact ⟨ret_bool (by simp), HB8.out⟩
        · by_cases rb1 : -9999 ≤ b
          · have rb2 := rb rb1
            clear rb
            go_wp2_with fail
            all_goals go_ret
            all_goals exact ⟨ret_bool (by simp), HB8.out⟩
          · clear rb
            go_wp2_with fail
            all_goals go_ret
            all_goals exact ⟨ret_bool (by simp), HB8.out⟩
  · by_cases hm : b < 0
    · go_wp2_with fail
      refine (QB.out _).mono ?_
      rintro e w3 ⟨rfl, b3⟩
      have HB3 := Lib.hid (HB2.out.trans (b3.mono HB2.out.size)); clear b3 HB2
      go_wp2_with fail
      refine (QR1.out _ (Lib.hid (e2.out (by omega))) _).mono ?_
      rintro e w4 ⟨ro, rn, rc, c4, rfl, b4, q4⟩
      have HB4 := Lib.hid (HB3.out.trans (b4.mono HB3.out.size))
      have QN := Lib.hid (q4 w4 (Below.refl _ _))
      clear b4 q4 QR1 HB3 e1 e2 e3
      go_wp2_with fail
      refine QN.out.mono ?_
      rintro e w5 ⟨b5, ⟨p, hp, rfl⟩ | ⟨hp, rfl⟩⟩
      · have HB5 := Lib.hid (HB4.out.trans (b5.mono HB4.out.size)); clear b5 HB4 QN
        have hab : fa = true ∧ fb = true ∧ p = (a, b) := by cases fa <;> cases fb <;> simp at hp ⊢ <;> exact hp.symm
        obtain ⟨h1, h2, rfl⟩ := hab
        subst h1 h2
        have ra : -9999 ≤ a ∧ a ≤ 9999 := by simpa using hfa.out.symm
        have rb : -9999 ≤ b ∧ b ≤ 9999 := by simpa using hfb.out.symm
        obtain ⟨ra1, ra2⟩ := ra
        obtain ⟨rb1, rb2⟩ := rb
        clear hp
        go_wp2_with fail
        refine (QB.out _).mono ?_
        rintro e w6 ⟨rfl, b6⟩
        have HB6 := Lib.hid (HB5.out.trans (b6.mono HB5.out.size)); clear b6 HB5
        go_wp2_with fail
        refine (QR2.out _).mono ?_
        rintro e w7 ⟨so, sn, sc, c7, rfl, b7, q7⟩
        have HB7 := Lib.hid (HB6.out.trans (b7.mono HB6.out.size))
        have QM := Lib.hid (q7 w7 (Below.refl _ _))
        clear b7 q7 QR2 HB6
        go_wp2_with fail
        refine QM.out.mono ?_
        rintro e w8 ⟨b8, ⟨q, hq, rfl⟩ | ⟨hq, rfl⟩⟩
        · have HB8 := Lib.hid (HB7.out.trans (b8.mono HB7.out.size)); clear b8 HB7 QM
          have hq' : q = (0, b) := by simpa using hq.symm
          subst hq'
          clear hq
          go_wp2_with fail
          all_goals go_ret
          all_goals exact ⟨ret_bool (by simp), HB8.out⟩
        · simp at hq
      · have HB5 := Lib.hid (HB4.out.trans (b5.mono HB4.out.size)); clear b5 HB4 QN
        have hab : fa = false ∨ fb = false := by cases fa <;> cases fb <;> simp at hp ⊢
        have HAB := Lib.hid hab
        clear hp hab
        go_wp2_with fail
        refine (QB.out _).mono ?_
        rintro e w6 ⟨rfl, b6⟩
        have HB6 := Lib.hid (HB5.out.trans (b6.mono HB5.out.size)); clear b6 HB5
        go_wp2_with fail
        refine (QR2.out _).mono ?_
        rintro e w7 ⟨so, sn, sc, c7, rfl, b7, q7⟩
        have HB7 := Lib.hid (HB6.out.trans (b7.mono HB6.out.size))
        have QM := Lib.hid (q7 w7 (Below.refl _ _))
        clear b7 q7 QR2 HB6
        go_wp2_with fail
        refine QM.out.mono ?_
        rintro e w8 ⟨b8, ⟨q, hq, rfl⟩ | ⟨hq, rfl⟩⟩
        · have HB8 := Lib.hid (HB7.out.trans (b8.mono HB7.out.size)); clear b8 HB7 QM
          have hfb1 : fb = true ∧ q = (0, b) := by cases fb <;> simp at hq ⊢ <;> exact hq.symm
          obtain ⟨h2, rfl⟩ := hfb1
          subst h2
          have h1 : fa = false := HAB.out.resolve_right (by simp)
          subst h1
          have rb : -9999 ≤ b ∧ b ≤ 9999 := by simpa using hfb.out.symm
          obtain ⟨rb1, rb2⟩ := rb
          have ra : -9999 ≤ a → 9999 < a := by simpa using hfa.out.symm
          clear hq
          by_cases ra1 : -9999 ≤ a
          · have ra2 := ra ra1
            clear ra
            go_wp2_with fail
            all_goals go_ret
            all_goals exact ⟨ret_bool (by simp), HB8.out⟩
          · clear ra
            go_wp2_with fail
            all_goals go_ret
            all_goals exact ⟨ret_bool (by simp), HB8.out⟩
        · have HB8 := Lib.hid (HB7.out.trans (b8.mono HB7.out.size)); clear b8 HB7 QM
          have h2 : fb = false := by cases fb <;> simp at hq ⊢
          subst h2
          have rb : -9999 ≤ b → 9999 < b := by simpa using hfb.out.symm
          clear hq
          by_cases ra1 : -9999 ≤ a
          · by_cases ra2 : a ≤ 9999
            · by_cases rb1 : -9999 ≤ b
              · have rb2 := rb rb1
                clear rb
                go_wp2_with fail
                all_goals go_ret
                all_goals exact ⟨ret_bool (by simp), HB8.out⟩
              · clear rb
                go_wp2_with fail
                all_goals go_ret
                all_goals exact ⟨ret_bool (by simp), HB8.out⟩
            · by_cases rb1 : -9999 ≤ b
              · have rb2 := rb rb1
                clear rb
                go_wp2_with fail
                all_goals go_ret
                all_goals exact ⟨ret_bool (by simp), HB8.out⟩
              · clear rb
                go_wp2_with fail
                all_goals go_ret
                all_goals exact ⟨ret_bool (by simp), HB8.out⟩
          · by_cases rb1 : -9999 ≤ b
            · have rb2 := rb rb1
              clear rb
              go_wp2_with fail
              all_goals go_ret
              all_goals exact ⟨ret_bool (by simp), HB8.out⟩
            · clear rb
              go_wp2_with fail
              all_goals go_ret
              all_goals exact ⟨ret_bool (by simp), HB8.out⟩
    · have HB3 := HB2; clear HB2
      go_wp2_with fail
      refine (QR1.out _ (Lib.hid (e3.out (by omega))) _).mono ?_
      rintro e w4 ⟨ro, rn, rc, c4, rfl, b4, q4⟩
      have HB4 := Lib.hid (HB3.out.trans (b4.mono HB3.out.size))
      have QN := Lib.hid (q4 w4 (Below.refl _ _))
      clear b4 q4 QR1 HB3 e1 e2 e3
      go_wp2_with fail
      refine QN.out.mono ?_
      rintro e w5 ⟨b5, ⟨p, hp, rfl⟩ | ⟨hp, rfl⟩⟩
      · have HB5 := Lib.hid (HB4.out.trans (b5.mono HB4.out.size)); clear b5 HB4 QN
        have hab : fa = true ∧ fb = true ∧ p = (a, b) := by cases fa <;> cases fb <;> simp at hp ⊢ <;> exact hp.symm
        obtain ⟨h1, h2, rfl⟩ := hab
        subst h1 h2
        have ra : -9999 ≤ a ∧ a ≤ 9999 := by simpa using hfa.out.symm
        have rb : -9999 ≤ b ∧ b ≤ 9999 := by simpa using hfb.out.symm
        obtain ⟨ra1, ra2⟩ := ra
        obtain ⟨rb1, rb2⟩ := rb
        clear hp
        go_wp2_with fail
        refine (QB.out _).mono ?_
        rintro e w6 ⟨rfl, b6⟩
        have HB6 := Lib.hid (HB5.out.trans (b6.mono HB5.out.size)); clear b6 HB5
        go_wp2_with fail
        refine (QR2.out _).mono ?_
        rintro e w7 ⟨so, sn, sc, c7, rfl, b7, q7⟩
        have HB7 := Lib.hid (HB6.out.trans (b7.mono HB6.out.size))
        have QM := Lib.hid (q7 w7 (Below.refl _ _))
        clear b7 q7 QR2 HB6
        go_wp2_with fail
        refine QM.out.mono ?_
        rintro e w8 ⟨b8, ⟨q, hq, rfl⟩ | ⟨hq, rfl⟩⟩
        · have HB8 := Lib.hid (HB7.out.trans (b8.mono HB7.out.size)); clear b8 HB7 QM
          have hq' : q = (0, b) := by simpa using hq.symm
          subst hq'
          clear hq
          go_wp2_with fail
          all_goals go_ret
          all_goals exact ⟨ret_bool (by simp), HB8.out⟩
        · simp at hq
      · have HB5 := Lib.hid (HB4.out.trans (b5.mono HB4.out.size)); clear b5 HB4 QN
        have hab : fa = false ∨ fb = false := by cases fa <;> cases fb <;> simp at hp ⊢
        have HAB := Lib.hid hab
        clear hp hab
        go_wp2_with fail
        refine (QB.out _).mono ?_
        rintro e w6 ⟨rfl, b6⟩
        have HB6 := Lib.hid (HB5.out.trans (b6.mono HB5.out.size)); clear b6 HB5
        go_wp2_with fail
        refine (QR2.out _).mono ?_
        rintro e w7 ⟨so, sn, sc, c7, rfl, b7, q7⟩
        have HB7 := Lib.hid (HB6.out.trans (b7.mono HB6.out.size))
        have QM := Lib.hid (q7 w7 (Below.refl _ _))
        clear b7 q7 QR2 HB6
        go_wp2_with fail
        refine QM.out.mono ?_
        rintro e w8 ⟨b8, ⟨q, hq, rfl⟩ | ⟨hq, rfl⟩⟩
        · have HB8 := Lib.hid (HB7.out.trans (b8.mono HB7.out.size)); clear b8 HB7 QM
          have hfb1 : fb = true ∧ q = (0, b) := by cases fb <;> simp at hq ⊢ <;> exact hq.symm
          obtain ⟨h2, rfl⟩ := hfb1
          subst h2
          have h1 : fa = false := HAB.out.resolve_right (by simp)
          subst h1
          have rb : -9999 ≤ b ∧ b ≤ 9999 := by simpa using hfb.out.symm
          obtain ⟨rb1, rb2⟩ := rb
          have ra : -9999 ≤ a → 9999 < a := by simpa using hfa.out.symm
          clear hq
          by_cases ra1 : -9999 ≤ a
          · have ra2 := ra ra1
            clear ra
            go_wp2_with fail
            all_goals go_ret
            all_goals exact ⟨ret_bool (by simp), HB8.out⟩
          · clear ra
            go_wp2_with fail
            all_goals go_ret
            all_goals exact ⟨ret_bool (by simp), HB8.out⟩
        · have HB8 := Lib.hid (HB7.out.trans (b8.mono HB7.out.size)); clear b8 HB7 QM
          have h2 : fb = false := by cases fb <;> simp at hq ⊢
          subst h2
          have rb : -9999 ≤ b → 9999 < b := by simpa using hfb.out.symm
          clear hq
          by_cases ra1 : -9999 ≤ a
          · by_cases ra2 : a ≤ 9999
            · by_cases rb1 : -9999 ≤ b
              · have rb2 := rb rb1
                clear rb
                go_wp2_with fail
                all_goals go_ret
                all_goals exact ⟨ret_bool (by simp), HB8.out⟩
              · clear rb
                go_wp2_with fail
                all_goals go_ret
                all_goals exact ⟨ret_bool (by simp), HB8.out⟩
            · by_cases rb1 : -9999 ≤ b
              · have rb2 := rb rb1
                clear rb
                go_wp2_with fail
                all_goals go_ret
                all_goals exact ⟨ret_bool (by simp), HB8.out⟩
              · clear rb
                go_wp2_with fail
                all_goals go_ret
                all_goals exact ⟨ret_bool (by simp), HB8.out⟩
          · by_cases rb1 : -9999 ≤ b
            · have rb2 := rb rb1
              clear rb
              go_wp2_with fail
              all_goals go_ret
              all_goals exact ⟨ret_bool (by simp), HB8.out⟩
            · clear rb
              go_wp2_with fail
              all_goals go_ret
              all_goals exact ⟨ret_bool (by simp), HB8.out⟩
end Go.Proofs.YtncknaagbafhhaaGreatDoor
