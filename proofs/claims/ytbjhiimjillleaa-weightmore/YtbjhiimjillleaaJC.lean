/- The verifier's reader of selectors: what blanks answers. The verifier's reader of selectors: the combinator that comes. The verifier's digits: the number that 1 to 4 digits are. The verifier's reader of selectors: does a compound selector end here? The verifier's reader of selectors: do two signs : come? -/
import Derived.Test.YtbjhiimjillleaaJB
import Derived.Test.YtbjhiimjillleaaHC
set_option linter.unusedVariables false
set_option linter.unusedSimpArgs false
set_option maxRecDepth 20000
namespace Wn
theorem dropB_no {f : Fs} (h : tokF 8 f = none) : dropB f = f := by
  cases f with
  | nil => rfl
  | cons k t x r =>
    rw [tokF] at h
    split at h
    · cases h
    · rename_i hc
      rw [dropB, if_neg]
      unfold blankV
      simpa using hc
theorem dropB_yes {f r : Fs} {t : Tok} (h : tokF 8 f = some (t, r)) : dropB f = dropB r := by
  cases f with
  | nil => simp [tokF] at h
  | cons k t' x r' =>
    rw [tokF] at h
    split at h
    · rename_i hc
      cases h
      rw [dropB, if_pos]
      unfold blankV
      simpa using hc
    · cases h
end Wn
namespace Go.Proofs.Ytbjhiimjillleaa
open Go.RowKit Go.Sort
variable {rv : Value}
theorem tfield0 (k n : Int) (y : ByteArray) (w : World) : (Instr.field 75 (.agg #[.int .i64 k, .string y, .int .i64 n]) 0).run Try.prog w = .ok (.int .i64 k) w := by
  simp [Instr.field, run_underlying Try.underlying75, asAgg, go_sem]
def r4ix (g : Nat) (w : World) : Nat := match w.cell? ⟨g, 1, none⟩ with | some (.int _ z) => z.toNat | _ => 0
theorem R4.ix {w : World} {g i : Nat} {bad : Bool} {f : Wn.Fs} (h : R4 w g rv f i bad) : r4ix g w = i := by
  obtain ⟨v, hb, _⟩ := h.ex
  unfold r4ix; rw [cell_of_block (o := 1) hb]; simp
set_option maxRecDepth 100000 in
set_option maxHeartbeats 1000000 in
theorem r4blanks (g i : Nat) (f : Wn.Fs) (bad : Bool) (w : World) (h : R4 w g rv f i bad) :
    Calls Try.prog 57 #[.pointer (some ⟨g, 0, none⟩)] w fun e w' => ∃ j, i ≤ j ∧ Wn.dropB (f.drop i) = f.drop j ∧ e = .returned (.bool (decide (i < j))) ∧ R4 w' g rv f j bad ∧ Only g w w' := by
  have HH := Lib.hid h
  have hl := h.len
  have hi := h.hi
  obtain ⟨ao, cap, hb, _, _⟩ := h.cells
  have q1 := cell_of_block (o := 1) hb
  simp only [List.getElem?_toArray, List.getElem?_cons_zero, List.getElem?_cons_succ] at q1
  clear hb h
  go_enter Try.func57, Try.ntmps57
  go_wp2_with fail
  go_loopw [] (fun wr => ∃ j : Nat, i ≤ j ∧ Hid (R4 wr g rv f j bad) ∧ Hid (Wn.dropB (f.drop j) = Wn.dropB (f.drop i)) ∧ Hid (Only g w wr)) (fun wr => f.len - r4ix g wr)
  case atStart => exact ⟨i, Nat.le_refl _, HH, Lib.hid rfl, Lib.hid (Only.refl _ _)⟩
  case round =>
    clear q1 HH
    obtain ⟨j, hij, HR, HD, HO⟩ := hrel
    have hjl := HR.out.hi
    have HX := Lib.hid HR.out.ix
    have QT := Lib.hid (r4tok 8 g j f bad wr HR.out)
    cases ht : Wn.tokF 8 (f.drop j) with
    | none =>
      have QT : Hid (Calls Try.prog 51 #[.pointer (some ⟨g, 0, none⟩), .int .i64 8] wr fun e w' => e = .returned (.agg #[.int .i64 0, .string ⟨#[]⟩, .int .i64 0]) ∧ Below wr.heap.size wr w') := Lib.hid (by have := QT.out; rw [Wn.tokZ_none ht] at this; exact this)
      have HE : Hid (Wn.dropB (f.drop i) = f.drop j) := Lib.hid (by rw [← HD.out, Wn.dropB_no ht])
      clear ht
      have F0 := tfield0 0 0 ⟨#[]⟩
      go_wp2_with fail
      refine QT.out.mono ?_
      rintro e w1 ⟨rfl, b1⟩
      have HR1 := Lib.hid (HR.out.below b1)
      have HO1 : Hid (Only g w w1) := Lib.hid (HO.out.trans (Below.only b1))
      obtain ⟨ao, cap, hb, _, _⟩ := HR1.out.cells
      have q1 := cell_of_block (o := 1) hb
      simp only [List.getElem?_toArray, List.getElem?_cons_zero, List.getElem?_cons_succ] at q1
      clear hb b1 QT HR HO
      go_wp2_with fail
      go_ret
      exact ⟨j, hij, HE.out, ret_bool (by rw [decide_eq_decide]), HR1.out, HO1.out⟩
    | some p =>
      obtain ⟨t, r⟩ := p
      obtain ⟨hr, hlt2⟩ := Wn.tokF_next ht
      obtain ⟨e1, e2⟩ := Wn.tokZ_some ht
      subst hr
      have HE : Hid (Wn.dropB (f.drop (j + 1)) = Wn.dropB (f.drop i)) := Lib.hid (by rw [← HD.out, Wn.dropB_yes ht])
      rw [e1, tokV_str] at QT
      rw [e2] at QT
      clear ht e1 e2
      generalize Wn.str t.2.1 = sx at *
      generalize t.2.2 = tn at *
      have F0 := tfield0 8 tn sx
      go_wp2_with fail
      refine QT.out.mono ?_
      rintro e w1 ⟨rfl, b1⟩
      have HR1 := Lib.hid (HR.out.below b1)
      have HO1 : Hid (Only g w w1) := Lib.hid (HO.out.trans (Below.only b1))
      obtain ⟨ao, cap, hb, _, _⟩ := HR1.out.cells
      have q1 := cell_of_block (o := 1) hb
      have f1 := frozen_blk hb 1
      simp only [List.getElem?_toArray, List.getElem?_cons_zero, List.getElem?_cons_succ] at q1
      clear hb b1 QT HR HO
      go_wp2_with fail
      have hm := HR1.out.move (j := j + 1) (by omega) (z := (j : Int) + 1) (by go_num)
      refine ⟨⟨j + 1, by omega, Lib.hid hm, HE, Lib.hid (HO1.out.setCell rfl _)⟩, ?_⟩
      rw [hm.ix, HX.out]; omega
end Go.Proofs.Ytbjhiimjillleaa
set_option linter.unusedVariables false
set_option linter.unusedSimpArgs false
set_option maxRecDepth 20000
namespace Wn
theorem rcomb_62 {g r : Fs} (h : signF [62] (dropB g) = some r) : rcomb g = (2, dropB r) := by
  unfold rcomb combS; simp [h]
theorem rcomb_43 {g r : Fs} (h0 : signF [62] (dropB g) = none) (h : signF [43] (dropB g) = some r) : rcomb g = (3, dropB r) := by
  unfold rcomb combS; simp [h0, h]
theorem rcomb_126 {g r : Fs} (h0 : signF [62] (dropB g) = none) (h1 : signF [43] (dropB g) = none) (h : signF [126] (dropB g) = some r) : rcomb g = (4, dropB r) := by
  unfold rcomb combS; simp [h0, h1, h]
theorem rcomb_no {g : Fs} (h0 : signF [62] (dropB g) = none) (h1 : signF [43] (dropB g) = none) (h : signF [126] (dropB g) = none) : rcomb g = (1, dropB g) := by
  unfold rcomb combS; simp [h0, h1, h]
end Wn
namespace Go.Proofs.Ytbjhiimjillleaa
open Go.RowKit Go.Sort
variable {rv : Value}
/-- a combinator was taken, the blanks around it too -/
def R4Comb (rv : Value) (g : Nat) (f : Wn.Fs) (i : Nat) (bad : Bool) (w : World) (e : Ending) (w' : World) : Prop :=
  ∃ j k, i ≤ j ∧ Wn.rcomb (f.drop i) = (k, f.drop j) ∧ e = .returned (.int .i64 k) ∧ R4 w' g rv f j bad ∧ Only g w w'
set_option maxRecDepth 100000 in
set_option maxHeartbeats 1000000 in
theorem r4comb (g i : Nat) (f : Wn.Fs) (bad : Bool) (w : World) (h : R4 w g rv f i bad) :
    Calls Try.prog 42 #[.pointer (some ⟨g, 0, none⟩)] w (R4Comb rv g f i bad w) := by
  have QB := Lib.hid (r4blanks g i f bad w h)
  have QE := Lib.hid (fun (m : Nat) (v : World) (hm : R4 v g rv f m bad) => r4blanks g m f bad v hm)
  have QS := Lib.hid (fun (s : List UInt8) (m : Nat) (v : World) (hm : R4 v g rv f m bad) => r4sign s g m f bad v hm)
  have hi := h.hi
  clear h
  go_enter Try.func42, Try.ntmps42
  go_wp2_with fail
  refine QB.out.mono ?_
  rintro e w1 ⟨j1, hj1, hd1, rfl, hr1, ho1⟩
  have HR1 := Lib.hid hr1
  have HO1 := Lib.hid ho1
  have HD1 := Lib.hid hd1
  clear QB hr1 ho1 hd1
  go_wp2_with fail
  refine (QS.out [62] j1 w1 HR1.out).mono ?_
  rintro e w2 (⟨hs, hlt, rfl, hr2, ho2⟩ | ⟨hs, rfl, hr2, ho2⟩)
  · have HR2 := Lib.hid hr2
    have HO2 := Lib.hid (HO1.out.trans ho2)
    have HS : Hid (Wn.rcomb (f.drop i) = (2, Wn.dropB (f.drop (j1 + 1)))) := Lib.hid (Wn.rcomb_62 (by rw [HD1.out]; exact hs))
    clear hr2 ho2 hs HR1 HO1
    go_wp2_with fail
    refine (QE.out (j1 + 1) w2 HR2.out).mono ?_
    rintro e w3 ⟨j3, hj3, hd3, rfl, hr3, ho3⟩
    have HR3 := Lib.hid hr3
    have HO3 := Lib.hid (HO2.out.trans ho3)
    have HD3 := Lib.hid hd3
    clear hr3 ho3 hd3
    go_wp2_with fail
    go_ret
    exact ⟨j3, 2, by omega, by rw [HS.out, HD3.out], rfl, HR3.out, HO3.out⟩
  · have HR2 := Lib.hid hr2
    have HO2 := Lib.hid (HO1.out.trans ho2)
    have H62 : Hid (Wn.signF [62] (Wn.dropB (f.drop i)) = none) := Lib.hid (by rw [HD1.out]; exact hs)
    clear hr2 ho2 hs HR1 HO1
    go_wp2_with fail
    refine (QS.out [43] j1 w2 HR2.out).mono ?_
    rintro e w3 (⟨hs, hlt, rfl, hr3, ho3⟩ | ⟨hs, rfl, hr3, ho3⟩)
    · have HR3 := Lib.hid hr3
      have HO3 := Lib.hid (HO2.out.trans ho3)
      have HS : Hid (Wn.rcomb (f.drop i) = (3, Wn.dropB (f.drop (j1 + 1)))) := Lib.hid (Wn.rcomb_43 H62.out (by rw [HD1.out]; exact hs))
      clear hr3 ho3 hs HR2 HO2
      go_wp2_with fail
      refine (QE.out (j1 + 1) w3 HR3.out).mono ?_
      rintro e w4 ⟨j3, hj3, hd3, rfl, hr4, ho4⟩
      have HR4 := Lib.hid hr4
      have HO4 := Lib.hid (HO3.out.trans ho4)
      have HD3 := Lib.hid hd3
      clear hr4 ho4 hd3
      go_wp2_with fail
      go_ret
      exact ⟨j3, 3, by omega, by rw [HS.out, HD3.out], rfl, HR4.out, HO4.out⟩
    · have HR3 := Lib.hid hr3
      have HO3 := Lib.hid (HO2.out.trans ho3)
      have H43 : Hid (Wn.signF [43] (Wn.dropB (f.drop i)) = none) := Lib.hid (by rw [HD1.out]; exact hs)
      clear hr3 ho3 hs HR2 HO2
      go_wp2_with fail
      refine (QS.out [126] j1 w3 HR3.out).mono ?_
      rintro e w4 (⟨hs, hlt, rfl, hr4, ho4⟩ | ⟨hs, rfl, hr4, ho4⟩)
      · have HR4 := Lib.hid hr4
        have HO4 := Lib.hid (HO3.out.trans ho4)
        have HS : Hid (Wn.rcomb (f.drop i) = (4, Wn.dropB (f.drop (j1 + 1)))) := Lib.hid (Wn.rcomb_126 H62.out H43.out (by rw [HD1.out]; exact hs))
        clear hr4 ho4 hs HR3 HO3
        go_wp2_with fail
        refine (QE.out (j1 + 1) w4 HR4.out).mono ?_
        rintro e w5 ⟨j3, hj3, hd3, rfl, hr5, ho5⟩
        have HR5 := Lib.hid hr5
        have HO5 := Lib.hid (HO4.out.trans ho5)
        have HD3 := Lib.hid hd3
        clear hr5 ho5 hd3
        go_wp2_with fail
        go_ret
        exact ⟨j3, 4, by omega, by rw [HS.out, HD3.out], rfl, HR5.out, HO5.out⟩
      · have HR4 := Lib.hid hr4
        have HO4 := Lib.hid (HO3.out.trans ho4)
        have HS : Hid (Wn.rcomb (f.drop i) = (1, f.drop j1)) := Lib.hid (by rw [Wn.rcomb_no H62.out H43.out (by rw [HD1.out]; exact hs), HD1.out])
        have HD2 : Hid (Wn.dropB (f.drop j1) = f.drop j1) := Lib.hid (by rw [← HD1.out]; exact Wn.dropB_self fun k t x r e => Wn.blank_head e)
        clear hr4 ho4 hs HR3 HO3
        go_wp2_with fail
        refine (QE.out j1 w4 HR4.out).mono ?_
        rintro e w5 ⟨j3, hj3, hd3, rfl, hr5, ho5⟩
        have HR5 := Lib.hid hr5
        have HO5 := Lib.hid (HO4.out.trans ho5)
        have HD3 := Lib.hid hd3
        clear hr5 ho5 hd3
        go_wp2_with fail
        go_ret
        exact ⟨j3, 1, by omega, by rw [HS.out, ← HD3.out, HD2.out], rfl, HR5.out, HO5.out⟩
end Go.Proofs.Ytbjhiimjillleaa
set_option linter.unusedVariables false
set_option linter.unusedSimpArgs false
set_option maxRecDepth 20000
namespace Wn
def num4Z (s : List UInt8) : Int := match num4 s with
  | some n => n
  | none => -1
/-- a number of 1 to 4 digits, or none -/
def N4 (s : List UInt8) : Prop := (∃ n, num4 s = some n ∧ 0 ≤ n ∧ n ≤ 9999) ∨ num4 s = none
theorem num4Z_some {s : List UInt8} {n : Int} (h : num4 s = some n) : num4Z s = n := by unfold num4Z; rw [h]
theorem num4Z_none {s : List UInt8} (h : num4 s = none) : num4Z s = -1 := by unfold num4Z; rw [h]
end Wn
namespace Go.Proofs.Ytbjhiimjillleaa
open Go.RowKit Go.Sort
set_option maxRecDepth 100000 in
set_option maxHeartbeats 1000000 in
theorem rdigits_x (s : ByteArray) (w : World) : Calls Try.prog 63 #[.string s] w fun e w' => e = .returned (.int .i64 (Wn.num4Z s.data.toList)) ∧ w' = w ∧ Wn.N4 s.data.toList := by
  by_cases h1 : s.size < 1
  · have HN4 : Hid (Wn.N4 s.data.toList) := Lib.hid (.inr (num4_len (s := s) (fun h => by omega)))
    have HE := Lib.hid (Wn.num4Z_none (num4_len (s := s) (fun h => by omega)))
    have h1' : (s.size : Int) < 1 := by omega
    go_enter Try.func63, Try.ntmps63
    go_wp2_with fail
    go_ret
    rw [HE.out]
    exact ⟨rfl, rfl, HN4.out⟩
  · by_cases h4 : 4 < s.size
    · have HN4 : Hid (Wn.N4 s.data.toList) := Lib.hid (.inr (num4_len (s := s) (fun h => by omega)))
      have HE := Lib.hid (Wn.num4Z_none (num4_len (s := s) (fun h => by omega)))
      have h1' : ¬ (s.size : Int) < 1 := by omega
      have h4' : (4 : Int) < (s.size : Int) := by omega
      go_enter Try.func63, Try.ntmps63
      go_wp2_with fail
      go_ret
      rw [HE.out]
      exact ⟨rfl, rfl, HN4.out⟩
    · have h1' : ¬ (s.size : Int) < 1 := by omega
      have h4' : ¬ (4 : Int) < (s.size : Int) := by omega
      have HA : Hid (s.data.toList.all Wn.digB = true → Wn.num4 s.data.toList = some (Wn.decN s.data.toList)) := Lib.hid (fun h => by unfold Wn.num4; rw [if_pos]; exact ⟨by show 1 ≤ s.size; omega, by show s.size ≤ 4; omega, h⟩)
      have HN : Hid (∀ i (h : i < s.size), Wn.digB s[i] = false → Wn.num4 s.data.toList = none) := Lib.hid (fun i h hd => by
        unfold Wn.num4; rw [if_neg]
        rintro ⟨_, _, hall⟩
        rw [List.all_eq_true] at hall
        have := hall s[i] (by exact Array.getElem_mem_toList (by simpa using h))
        rw [hd] at this; cases this)
      go_enter Try.func63, Try.ntmps63
      go_wp2_with fail
      go_loop [3, 4] (fun v3 v4 => ∃ (i : Nat) (N : Int), i ≤ s.size ∧ v4 = .int .i64 (i : Int) ∧ v3 = .int .i64 N ∧ 0 ≤ N ∧ N ≤ 9999 ∧ Hid (N ≤ Wn.bnd i) ∧ Hid (N = Wn.decN (s.data.toList.take i)) ∧ Hid ((s.data.toList.take i).all Wn.digB = true)) (fun _ v4 => s.size - (intOf v4).toNat)
      case atStart => exact ⟨0, 0, by omega, rfl, rfl, by omega, by omega, Lib.hid (by decide), Lib.hid rfl, Lib.hid rfl⟩
      case round =>
        obtain ⟨i, N, hi, rfl, rfl, hN0, hN9, HBd, HD, HAl⟩ := hrel
        by_cases hil : i < s.size
        · have hts := Wn.take_snocB s i hil
          have hu8 := (s[i]).toNat_lt
          have hdb : Wn.digB s[i] = (decide (48 ≤ s[i].toNat) && decide (s[i].toNat ≤ 57)) := rfl
          by_cases h48 : 48 ≤ s[i].toNat
          · by_cases h57 : s[i].toNat ≤ 57
            · have hdt : Wn.digB s[i] = true := by rw [hdb]; simp [h48, h57]
              have HD2 : Hid (N * 10 + ((s[i].toNat : Int) - 48) = Wn.decN (s.data.toList.take (i + 1))) := Lib.hid (by rw [hts, Wn.decN_snoc, ← HD.out])
              have HAl2 : Hid ((s.data.toList.take (i + 1)).all Wn.digB = true) := Lib.hid (by rw [hts, List.all_append, HAl.out]; simp [hdt])
              have HB2 : Hid (N * 10 + ((s[i].toNat : Int) - 48) ≤ Wn.bnd (i + 1)) := Lib.hid (Wn.bnd_step HBd.out (by omega) (by omega))
              have hb2 : N * 10 + ((s[i].toNat : Int) - 48) ≤ 9999 := Int.le_trans HB2.out (Wn.bnd_le _)
              clear hts hdb hdt HD HAl HBd HN HA
              have hc48 : ¬ (s[i].toNat : Int) < 48 := by omega
              have hc57 : ¬ (57 : Int) < (s[i].toNat : Int) := by omega
              go_wp2_with fail
              go_round
              case rel => exact ⟨i + 1, N * 10 + ((s[i].toNat : Int) - 48), by omega, by go_num, by first | rfl | (congr 1; go_num) | (congr 1; omega), by omega, by omega, HB2, HD2, HAl2⟩
              case measure => simp [intOf]; omega
            · have HN4 : Hid (Wn.N4 s.data.toList) := Lib.hid (.inr (HN.out i hil (by rw [hdb]; simp [h57])))
              have HE : Hid (Wn.num4Z s.data.toList = -1) := Lib.hid (Wn.num4Z_none (HN.out i hil (by rw [hdb]; simp [h57])))
              clear hts hdb HD HAl HBd HN HA
              have hc48 : ¬ (s[i].toNat : Int) < 48 := by omega
              have hc57 : (57 : Int) < (s[i].toNat : Int) := by omega
              go_wp2_with fail
              go_ret
              rw [HE.out]
              exact ⟨rfl, rfl, HN4.out⟩
          · have HN4 : Hid (Wn.N4 s.data.toList) := Lib.hid (.inr (HN.out i hil (by rw [hdb]; simp [h48])))
            have HE : Hid (Wn.num4Z s.data.toList = -1) := Lib.hid (Wn.num4Z_none (HN.out i hil (by rw [hdb]; simp [h48])))
            clear hts hdb HD HAl HBd HN HA
            have hc48 : (s[i].toNat : Int) < 48 := by omega
            go_wp2_with fail
            go_ret
            rw [HE.out]
            exact ⟨rfl, rfl, HN4.out⟩
        · have ht : s.data.toList.take i = s.data.toList := List.take_of_length_le (by simp; omega)
          have HE : Hid (Wn.num4Z s.data.toList = N) := Lib.hid (Wn.num4Z_some (by rw [HD.out, ht]; exact HA.out (by rw [← ht]; exact HAl.out)))
          have HN4 : Hid (Wn.N4 s.data.toList) := Lib.hid (.inl ⟨N, by rw [HD.out, ht]; exact HA.out (by rw [← ht]; exact HAl.out), hN0, hN9⟩)
          clear ht HD HAl HBd HN HA
          go_wp2_with fail
          go_ret
          rw [HE.out]
          exact ⟨rfl, rfl, HN4.out⟩
theorem rdigits_v (l : List UInt8) (w : World) : Calls Try.prog 63 #[.string (Wn.str l)] w fun e w' => e = .returned (.int .i64 (Wn.num4Z l)) ∧ w' = w ∧ Wn.N4 l := by
  have := rdigits_x (Wn.str l) w
  rwa [str_data] at this
end Go.Proofs.Ytbjhiimjillleaa
set_option linter.unusedVariables false
set_option linter.unusedSimpArgs false
set_option maxRecDepth 20000
namespace Wn
theorem blankV_tok (k : Int) (t : Tok) (x r : Fs) : tokZ 8 (.cons k t x r) = if blankV k t = true then t else (0, [], 0) := by
  unfold tokZ; rw [tokF]
  by_cases hc : k = 1 ∧ t.1 = 8
  · rw [if_pos hc, if_pos (by unfold blankV; simpa using hc)]
  · rw [if_neg hc, if_neg (by unfold blankV; simpa using hc)]
theorem combV_or (k : Int) (t : Tok) : combV k t = (signV [62] k t || signV [43] k t || signV [126] k t) := rfl
end Wn
namespace Go.Proofs.Ytbjhiimjillleaa
open Go.RowKit Go.Sort
variable {rv : Value}
set_option maxRecDepth 100000 in
set_option maxHeartbeats 1000000 in
theorem r4over (g i : Nat) (f : Wn.Fs) (bad : Bool) (w : World) (h : R4 w g rv f i bad) :
    Calls Try.prog 38 #[.pointer (some ⟨g, 0, none⟩)] w fun e w' => e = .returned (.bool (Wn.overF (f.drop i))) ∧ Below w.heap.size w w' := by
  have HH := Lib.hid h
  have hl := h.len
  have hi := h.hi
  have CT := Lib.hid (fun (d : Nat) (os : Array Obj) => Calls.regrown_of (r4tok 8 g i f bad _ (h.below (below_regrown w d os))))
  cases hd : f.drop i with
  | nil =>
    have he := Wn.drop_end hd hi
    obtain ⟨ao, cap, hb, hc1, hc2⟩ := h.cells
    unfold maxLen at hc2
    have p0 := cell_of_block (o := 0) hb
    have p1 := cell_of_block (o := 1) hb
    simp only [List.getElem?_toArray, List.getElem?_cons_zero, List.getElem?_cons_succ] at p0 p1
    have q0 := cell_regrown p0
    have q1 := cell_regrown p1
    clear p0 p1
    have hni : (f.len : Int) ≤ (i : Int) := by omega
    clear h hb hd CT
    go_enter Try.func38, Try.ntmps38
    go_wp2_with fail
    (refine wp_region_quiet_below (by kernel_rfl) (by kernel_rfl) ?_); (repeat (first | go_big_quiet_skip | quiet_step (fail))); (refine wpQuiet_nil ?_); intro _ hw'; obtain ⟨⟨dq, osq⟩, hw''⟩ := hw'; subst hw''
    go_wp2_with fail
    go_ret
    exact ⟨rfl, below_regrown w dq osq⟩
  | cons k t x r =>
    have hlt2 := (Wn.drop_next hd).2
    obtain ⟨ao, cap, hb, hc1, hc2⟩ := h.cells
    unfold maxLen at hc2
    have p0 := cell_of_block (o := 0) hb
    have p1 := cell_of_block (o := 1) hb
    simp only [List.getElem?_toArray, List.getElem?_cons_zero, List.getElem?_cons_succ] at p0 p1
    have q0 := cell_regrown p0
    have q1 := cell_regrown p1
    clear p0 p1
    have hii : ¬ (f.len : Int) ≤ (i : Int) := by omega
    have HD := Lib.hid hd
    cases hbv : Wn.blankV k t
    · have CT : Hid (∀ d os, Calls Try.prog 51 #[.pointer (some ⟨g, 0, none⟩), .int .i64 8] (grow (redrawn w d) os) fun e w'' => e = .returned (.agg #[.int .i64 0, .string ⟨#[]⟩, .int .i64 0]) ∧ ∃ p : Regrown, w'' = grow (redrawn w p.d) p.os) := Lib.hid (fun d os => by have := CT.out d os; rw [hd, Wn.blankV_tok, hbv] at this; exact this)
      have HE : Hid (Wn.overF (.cons k t x r) = (Wn.signV [62] k t || Wn.signV [43] k t || Wn.signV [126] k t)) := Lib.hid (by rw [Wn.overF, hbv, Wn.combV_or]; rfl)
      have F0 := tfield0 0 0 ⟨#[]⟩
      clear h hb hd hbv
      go_enter Try.func38, Try.ntmps38
      go_wp2_with fail
      (refine wp_region_quiet_below (by kernel_rfl) (by kernel_rfl) ?_); (repeat (first | go_big_quiet_skip | quiet_step (with_reducible exact CT.out _ _))); (refine wpQuiet_nil ?_); intro _ hw'; obtain ⟨⟨dq, osq⟩, hw''⟩ := hw'; subst hw''
      have HV := Lib.hid (below_regrown w dq osq)
      clear q0 q1 CT F0
      generalize grow (redrawn w dq) osq = V at *
      have HR := Lib.hid (HH.out.below HV.out)
      obtain ⟨b, o, cap', uo, uc, hb, hc1', hc2', j0, j1, j2, j3, j4, hu, hbg⟩ := HR.out.at HD.out
      unfold maxLen at hc2'
      have q0 := cell_of_block (o := 0) hb
      have q1 := cell_of_block (o := 1) hb
      simp only [List.getElem?_toArray, List.getElem?_cons_zero, List.getElem?_cons_succ] at q0 q1
      have Q1 := Lib.hid (fun (v : World) => rSign_v [62] k t (.slice uo x.len uc) v ⟨_, _, _, rfl⟩)
      have Q2 := Lib.hid (fun (v : World) => rSign_v [43] k t (.slice uo x.len uc) v ⟨_, _, _, rfl⟩)
      have Q3 := Lib.hid (fun (v : World) => rSign_v [126] k t (.slice uo x.len uc) v ⟨_, _, _, rfl⟩)
      have hgl := HR.out.lt
      have hbl := World.block_lt_of_cell? _ _ j0
      dsimp only at hbl
      clear hb hu
      generalize Wn.signV [62] k t = s1 at *
      generalize Wn.signV [43] k t = s2 at *
      generalize Wn.signV [126] k t = s3 at *
      generalize Wn.str t.2.1 = tx at *
      generalize t.1 = tk at *
      generalize t.2.2 = tn at *
      have hii' : (i : Int) < (f.len : Int) := by omega
      go_wp2_with fail
      go_region
      all_goals go_wp2_with fail
      all_goals
        clear q0 q1 j0 j1 j2 j3 j4
        have hn := heap_alloc_new V (.cells #[.int .i64 k, .int .i64 tk, .string tx, .int .i64 tn, .slice uo x.len uc] 80)
        have HA := Lib.hid ((HV.out.alloc HV.out.size (.cells #[.int .i64 k, .int .i64 tk, .string tx, .int .i64 tn, .slice uo x.len uc] 80)).drew)
        generalize hA : World.drew (V.alloc (.cells #[.int .i64 k, .int .i64 tk, .string tx, .int .i64 tn, .slice uo x.len uc] 80)) = A at *
        have hbx : A.heap[V.heap.size]? = some (.cells #[.int .i64 k, .int .i64 tk, .string tx, .int .i64 tn, .slice uo x.len uc] 80) := by rw [← hA]; exact hn
        clear hA hn HV HR
        refine (Q1.out _).mono ?_
        rintro e w2 ⟨rfl, b2⟩
        have H2 := Lib.hid (HA.out.trans (b2.mono HA.out.size))
        have hb2 := block_lat b2 hbx
        clear b2 hbx HA Q1
        (have q0p := cell_of_block (o := 0) hb2; have q1p := cell_of_block (o := 1) hb2; have q2p := cell_of_block (o := 2) hb2; have q3p := cell_of_block (o := 3) hb2; have q4p := cell_of_block (o := 4) hb2; have z0p := frozen_blk hb2 0; have z1p := frozen_blk hb2 1; have z2p := frozen_blk hb2 2; have z3p := frozen_blk hb2 3; have z4p := frozen_blk hb2 4; simp only [List.getElem?_toArray, List.getElem?_cons_zero, List.getElem?_cons_succ] at q0p q1p q2p q3p q4p)
        have HX := Lib.hid hb2
        clear hb2
        cases s1
        · go_wp2_with fail
          refine (Q2.out _).mono ?_
          rintro e w3 ⟨rfl, b3⟩
          have H3 := Lib.hid (H2.out.trans (b3.mono H2.out.size))
          have hb3 := block_lat b3 HX.out
          clear b3 HX H2 Q2 q0p q1p q2p q3p q4p z0p z1p z2p z3p z4p
          (have q0s := cell_of_block (o := 0) hb3; have q1s := cell_of_block (o := 1) hb3; have q2s := cell_of_block (o := 2) hb3; have q3s := cell_of_block (o := 3) hb3; have q4s := cell_of_block (o := 4) hb3; have z0s := frozen_blk hb3 0; have z1s := frozen_blk hb3 1; have z2s := frozen_blk hb3 2; have z3s := frozen_blk hb3 3; have z4s := frozen_blk hb3 4; simp only [List.getElem?_toArray, List.getElem?_cons_zero, List.getElem?_cons_succ] at q0s q1s q2s q3s q4s)
          clear hb3
          cases s2
          · go_wp2_with fail
            refine (Q3.out _).mono ?_
            rintro e w4 ⟨rfl, b4⟩
            have H4 := Lib.hid (H3.out.trans (b4.mono H3.out.size))
            clear b4 H3 Q3 q0s q1s q2s q3s q4s z0s z1s z2s z3s z4s
            go_wp2_with fail
            go_ret
            rw [HE.out]
            exact ⟨rfl, H4.out⟩
          · go_wp2_with fail
            go_ret
            rw [HE.out]
            exact ⟨rfl, H3.out⟩
        · go_wp2_with fail
          go_ret
          rw [HE.out]
          exact ⟨rfl, H2.out⟩
    · have CT : Hid (∀ d os, Calls Try.prog 51 #[.pointer (some ⟨g, 0, none⟩), .int .i64 8] (grow (redrawn w d) os) fun e w'' => e = .returned (.agg #[.int .i64 8, .string (Wn.str t.2.1), .int .i64 t.2.2]) ∧ ∃ p : Regrown, w'' = grow (redrawn w p.d) p.os) := Lib.hid (fun d os => by
        have := CT.out d os; rw [hd, Wn.blankV_tok, hbv, if_pos rfl, tokV_str] at this
        have h8 : t.1 = 8 := by unfold Wn.blankV at hbv; simp at hbv; exact hbv.2
        rw [h8] at this; exact this)
      have HE : Hid (Wn.overF (.cons k t x r) = true) := Lib.hid (by rw [Wn.overF, hbv]; rfl)
      generalize Wn.str t.2.1 = tx at *
      generalize t.2.2 = tn at *
      have F0 := tfield0 8 tn tx
      clear h hb hd hbv
      go_enter Try.func38, Try.ntmps38
      go_wp2_with fail
      (refine wp_region_quiet_below (by kernel_rfl) (by kernel_rfl) ?_); (repeat (first | go_big_quiet_skip | quiet_step (with_reducible exact CT.out _ _))); (refine wpQuiet_nil ?_); intro _ hw'; obtain ⟨⟨dq, osq⟩, hw''⟩ := hw'; subst hw''
      go_wp2_with fail
      go_ret
      rw [HE.out]
      exact ⟨rfl, below_regrown w dq osq⟩
end Go.Proofs.Ytbjhiimjillleaa
set_option linter.unusedVariables false
set_option linter.unusedSimpArgs false
set_option maxRecDepth 20000
namespace Wn
theorem dbl_short {f : Fs} {i : Nat} (h : ¬ i + 1 < f.len) : dblF (f.drop i) = false := by
  unfold dblF
  cases hd : f.drop i with
  | nil => rfl
  | cons k t x r =>
    have hr := (drop_next hd).1
    have hn : r = .nil := by rw [hr]; exact Fs.drop_len (by omega)
    subst hn
    rw [signF]
    split
    · rename_i h; rfl
    · rename_i r' h
      split at h
      · cases h; rfl
      · cases h
theorem dbl_two {f : Fs} {i : Nat} {k k2 : Int} {t t2 : Tok} {x x2 r r2 : Fs} (h : f.drop i = .cons k t x r) (h2 : f.drop (i + 1) = .cons k2 t2 x2 r2) : dblF (f.drop i) = (signV [58] k t && signV [58] k2 t2) := by
  unfold dblF
  have hr := (drop_next h).1
  rw [h, signF]
  cases signV [58] k t
  · rfl
  · rw [if_pos rfl]
    dsimp only
    rw [hr, h2, signF]
    cases signV [58] k2 t2 <;> rfl
end Wn
namespace Go.Proofs.Ytbjhiimjillleaa
open Go.RowKit Go.Sort
variable {rv : Value}
theorem R4.atj {w : World} {g i j : Nat} {bad : Bool} {f : Wn.Fs} {k : Int} {t : Wn.Tok} {x r : Wn.Fs} (h : R4 w g rv f i bad) (hd : f.drop j = .cons k t x r) : ∃ b o cap uo uc, w.heap[g]? = some (.cells #[.slice (some ⟨b, o, none⟩) f.len cap, .int .i64 (i : Int), .bool bad] 84) ∧ f.len ≤ cap ∧ cap ≤ maxLen ∧
    w.cell? ⟨b, o + j * 5, none⟩ = some (.int .i64 k) ∧ w.cell? ⟨b, o + j * 5 + 1, none⟩ = some (.int .i64 t.1) ∧ w.cell? ⟨b, o + j * 5 + 2, none⟩ = some (.string (Wn.str t.2.1)) ∧ w.cell? ⟨b, o + j * 5 + 3, none⟩ = some (.int .i64 t.2.2) ∧ w.cell? ⟨b, o + j * 5 + 4, none⟩ = some (.slice uo x.len uc) ∧
    ValsP w (fun b => b ≠ g) (.slice uo x.len uc) x ∧ b ≠ g := by
  obtain ⟨v, hb, hv⟩ := h.ex
  obtain ⟨ao, cap, rfl, h1, h2⟩ := hv.form
  obtain ⟨hr, hi⟩ := Wn.drop_next hd
  rw [hr] at hd
  obtain ⟨b, o, rfl, j0, ⟨j1, j2, j3⟩, u, j4, hu⟩ := hv.at hd
  obtain ⟨uo, uc, rfl, _, _⟩ := hu.form
  have hok : b ≠ g := by
    obtain ⟨_, _, he, _, _, _, h4⟩ := hv
    obtain ⟨b', o', ha, hx⟩ := h4 (by intro e; rw [e] at hi; simp [Wn.Fs.len] at hi)
    simp only [Value.slice.injEq] at he
    rw [← he.1] at ha
    simp only [Option.some.injEq, Addr.mk.injEq] at ha
    obtain ⟨rfl, _⟩ := ha
    cases f with
    | nil => simp [Wn.Fs.len] at hi
    | cons => exact hx.1
  rw [show o + j * 5 + 1 + 1 = o + j * 5 + 2 by omega] at j2
  rw [show o + j * 5 + 1 + 2 = o + j * 5 + 3 by omega] at j3
  exact ⟨b, o, cap, uo, uc, hb, h1, h2, j0, j1, j2, j3, j4, hu, hok⟩
set_option maxRecDepth 100000 in
set_option maxHeartbeats 2000000 in
theorem r4double (g i : Nat) (f : Wn.Fs) (bad : Bool) (w : World) (h : R4 w g rv f i bad) :
    Calls Try.prog 39 #[.pointer (some ⟨g, 0, none⟩)] w fun e w' => e = .returned (.bool (Wn.dblF (f.drop i))) ∧ Below w.heap.size w w' := by
  have HH := Lib.hid h
  have hl := h.len
  have hi := h.hi
  have hwr : IntKind.i64.wrap ((i : Int) + 1) = (i : Int) + 1 := IntWalk.i64_in _ (by omega)
  by_cases h1 : i + 1 < f.len
  · obtain ⟨k2, t2, x2, hd2⟩ := Wn.Fs.drop_cons h1
    obtain ⟨k, t, x, hd⟩ := Wn.Fs.drop_cons (show i < f.len by omega)
    obtain ⟨b, o, cap, uo, uc, hb, hc1, hc2, j0, j1, j2, j3, j4, hu, hbg⟩ := h.atj hd
    obtain ⟨b', o', cap', uo2, uc2, hb', _, _, k0, k1, k2', k3, k4, hu2, _⟩ := h.atj hd2
    have hh := hb.symm.trans hb'
    simp only [Option.some.injEq, Obj.cells.injEq, Array.mk.injEq, List.cons.injEq, Value.slice.injEq, Addr.mk.injEq, and_true, true_and] at hh
    obtain ⟨⟨rfl, rfl⟩, rfl⟩ := hh
    unfold maxLen at hc2
    have p0 := cell_of_block (o := 0) hb
    have p1 := cell_of_block (o := 1) hb
    simp only [List.getElem?_toArray, List.getElem?_cons_zero, List.getElem?_cons_succ] at p0 p1
    have q0 := cell_regrown p0
    have q1 := cell_regrown p1
    have a0 := cell_regrown j0
    have a1 := cell_regrown j1
    have a2 := cell_regrown j2
    have a3 := cell_regrown j3
    have a4 := cell_regrown j4
    have c0 := cell_regrown k0
    have c1 := cell_regrown k1
    have c2 := cell_regrown k2'
    have c3 := cell_regrown k3
    have c4 := cell_regrown k4
    have hii : (i : Int) < (f.len : Int) := by omega
    have hi1 : (i : Int) + 1 < (f.len : Int) := by omega
    have hi0 : (0 : Int) ≤ (i : Int) + 1 := by omega
    have hin : ((i : Int) + 1).toNat = i + 1 := by omega
    have CS : Hid (∀ d os, Calls Try.prog 37 #[.agg #[.int .i64 k, .int .i64 t.1, .string (Wn.str t.2.1), .int .i64 t.2.2, .slice uo x.len uc], .string ⟨#[58]⟩] (grow (redrawn w d) os) fun e w'' => e = .returned (.bool (Wn.signV [58] k t)) ∧ ∃ p : Regrown, w'' = grow (redrawn w p.d) p.os) := Lib.hid (fun d os => Calls.regrown_of (rSign_v [58] k t (.slice uo x.len uc) _ ⟨_, _, _, rfl⟩))
    have CT : Hid (∀ d os, Calls Try.prog 37 #[.agg #[.int .i64 k2, .int .i64 t2.1, .string (Wn.str t2.2.1), .int .i64 t2.2.2, .slice uo2 x2.len uc2], .string ⟨#[58]⟩] (grow (redrawn w d) os) fun e w'' => e = .returned (.bool (Wn.signV [58] k2 t2)) ∧ ∃ p : Regrown, w'' = grow (redrawn w p.d) p.os) := Lib.hid (fun d os => Calls.regrown_of (rSign_v [58] k2 t2 (.slice uo2 x2.len uc2) _ ⟨_, _, _, rfl⟩))
    have HE := Lib.hid (Wn.dbl_two hd hd2)
    clear h hb hb' hd hd2 hu hu2 p0 p1 j0 j1 j2 j3 j4 k0 k1 k2' k3 k4 h1
    generalize Wn.dblF (f.drop i) = R at *
    generalize Wn.signV [58] k t = T at *
    generalize Wn.signV [58] k2 t2 = T2 at *
    generalize Wn.str t.2.1 = tx at *
    generalize t.1 = tk at *
    generalize t.2.2 = tn at *
    generalize Wn.str t2.2.1 = tx2 at *
    generalize t2.1 = tk2 at *
    generalize t2.2.2 = tn2 at *
    cases T
    · go_enter Try.func39, Try.ntmps39
      go_wp2_with fail
      (refine wp_region_quiet_below (by kernel_rfl) (by kernel_rfl) ?_); (repeat (first | go_big_quiet_skip | quiet_step (with_reducible exact CS.out _ _))); (refine wpQuiet_nil ?_); intro _ hw'; obtain ⟨⟨dq, osq⟩, hw''⟩ := hw'; subst hw''
      go_wp2_with fail
      go_ret
      rw [HE.out]
      exact ⟨rfl, below_regrown w dq osq⟩
    · go_enter Try.func39, Try.ntmps39
      go_wp2_with fail
      (refine wp_region_quiet_below (by kernel_rfl) (by kernel_rfl) ?_); (repeat (first | go_big_quiet_skip | quiet_step (first | with_reducible exact CS.out _ _ | with_reducible exact CT.out _ _))); (refine wpQuiet_nil ?_); intro _ hw'; obtain ⟨⟨dq, osq⟩, hw''⟩ := hw'; subst hw''
      go_wp2_with fail
      go_ret
      rw [HE.out]
      exact ⟨rfl, below_regrown w dq osq⟩
  · have HE := Lib.hid (Wn.dbl_short h1)
    obtain ⟨ao, cap, hb, hc1, hc2⟩ := h.cells
    unfold maxLen at hc2
    have p0 := cell_of_block (o := 0) hb
    have p1 := cell_of_block (o := 1) hb
    simp only [List.getElem?_toArray, List.getElem?_cons_zero, List.getElem?_cons_succ] at p0 p1
    have q0 := cell_regrown p0
    have q1 := cell_regrown p1
    clear p0 p1
    have hni : f.len ≤ i + 1 := by omega
    have hni2 : ¬ (i : Int) + 1 < (f.len : Int) := by omega
    have hd1 : decide ((i : Int) + 1 < (f.len : Int)) = false := by simp; omega
    have hd2 : decide (i + 1 < f.len) = false := by simp; omega
    clear h hb h1
    go_enter Try.func39, Try.ntmps39
    go_wp2_with fail
    (refine wp_region_quiet_below (by kernel_rfl) (by kernel_rfl) ?_); (repeat (first | go_big_quiet_skip | quiet_step (fail))); (refine wpQuiet_nil ?_); intro _ hw'; obtain ⟨⟨dq, osq⟩, hw''⟩ := hw'; subst hw''
    go_wp2_with fail
    go_ret
    rw [HE.out]
    exact ⟨rfl, below_regrown w dq osq⟩
end Go.Proofs.Ytbjhiimjillleaa
