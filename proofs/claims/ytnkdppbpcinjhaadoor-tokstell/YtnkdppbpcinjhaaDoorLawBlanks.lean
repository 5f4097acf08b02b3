/- ToksBlanks: whatever the tokens and the number, the law answers true, and nothing that was there has turned. -/
import Derived.Test.YtnkdppbpcinjhaaDoorRefM
import Derived.Test.YtnkdppbpcinjhaaDoorTokMi
import Derived.Test.YtnkdppbpcinjhaaDoorTokMg
set_option maxRecDepth 20000
namespace Go.Proofs.YtnkdppbpcinjhaaDoor
open Go.RowKit
theorem blanks_out (v : Value) (l : List Wn.Tok) (n : Int) (w : World) (ht : Tab w) (hl : Toks w v l) (hf : Wn.small l 100 = true → ∀ t ∈ l, t.2.1.length ≤ 100000 ∧ -9223372036854775808 ≤ t.2.2 ∧ t.2.2 ≤ 9223372036854775807)
    (hout : ¬ (Wn.small l 100 = true ∧ l.all Wn.may = true ∧ 0 ≤ n ∧ n ≤ 9)) :
    Calls Tryd.prog 5 #[v, .int .i64 n] w fun e w' => e = .returned (.bool true) ∧ Below w.heap.size w w' := by
  have HT := Lib.hid ht; clear ht
  have HL := Lib.hid hl; clear hl
  cases h1 : Wn.small l 100
  · have HS := Lib.hid h1
    clear hout h1 hf
    go_enter Tryd.func5, Tryd.ntmps5
    go_wp2_with fail
    refine (fixed_any _ HT.out).mono ?_
    rintro e w1 ⟨rfl, b1⟩
    have HB := Lib.hid b1; clear b1
    go_wp2_with fail
    refine (Small_any _ l 100 _ (HL.out.below HB.out)).mono ?_
    rintro e w' ⟨rfl, rfl⟩
    rw [HS.out]
    go_wp2_with fail
    refine (fixed_any _ (HT.out.below HB.out)).mono ?_
    rintro e w2 ⟨rfl, b2⟩
    have HB2 := Lib.hid (HB.out.trans (b2.mono HB.out.size)); clear b2
    go_wp2_with fail
    go_ret
    exact ⟨rfl, HB2.out⟩
  · have HS := Lib.hid h1
    have HF := Lib.hid (hf h1)
    clear hf
    cases h2 : l.all Wn.may
    · have HM := Lib.hid h2
      clear hout h1 h2
      go_enter Tryd.func5, Tryd.ntmps5
      go_wp2_with fail
      refine (fixed_any _ HT.out).mono ?_
      rintro e w1 ⟨rfl, b1⟩
      have HB := Lib.hid b1; clear b1
      go_wp2_with fail
      refine (Small_any _ l 100 _ (HL.out.below HB.out)).mono ?_
      rintro e w' ⟨rfl, rfl⟩
      rw [HS.out]
      go_wp2_with fail
      refine (rMays _ l false _ HM.out (HL.out.below HB.out) HF.out).mono ?_
      rintro e w2 ⟨rfl, b2⟩
      have HB2 := Lib.hid (HB.out.trans (b2.mono HB.out.size)); clear b2
      go_wp2_with fail
      refine (fixed_any _ (HT.out.below HB2.out)).mono ?_
      rintro e w3 ⟨rfl, b3⟩
      have HB3 := Lib.hid (HB2.out.trans (b3.mono HB2.out.size)); clear b3
      go_wp2_with fail
      go_ret
      exact ⟨rfl, HB3.out⟩
    · have HM := Lib.hid h2
      have hn : n < 0 ∨ 9 < n := by
        by_cases h0 : n < 0
        · exact .inl h0
        · by_cases h9 : 9 < n
          · exact .inr h9
          · exact absurd ⟨h1, h2, by omega, by omega⟩ hout
      clear hout h1 h2
      rcases hn with hn | hn
      all_goals
        go_enter Tryd.func5, Tryd.ntmps5
        go_wp2_with fail
        refine (fixed_any _ HT.out).mono ?_
        rintro e w1 ⟨rfl, b1⟩
        have HB := Lib.hid b1; clear b1
        go_wp2_with fail
        refine (Small_any _ l 100 _ (HL.out.below HB.out)).mono ?_
        rintro e w' ⟨rfl, rfl⟩
        rw [HS.out]
        go_wp2_with fail
        refine (rMays _ l true _ HM.out (HL.out.below HB.out) HF.out).mono ?_
        rintro e w2 ⟨rfl, b2⟩
        have HB2 := Lib.hid (HB.out.trans (b2.mono HB.out.size)); clear b2
        go_wp2_with fail
        refine (fixed_any _ (HT.out.below HB2.out)).mono ?_
        rintro e w3 ⟨rfl, b3⟩
        have HB3 := Lib.hid (HB2.out.trans (b3.mono HB2.out.size)); clear b3
        go_wp2_with fail
        go_ret
        exact ⟨rfl, HB3.out⟩
theorem take_next {l : List Wn.Tok} {j : Nat} {t : Wn.Tok} (h : l[j]? = some t) : l.take (j + 1) = l.take j ++ [t] := by
  have hj : j < l.length := (List.getElem?_eq_some_iff.1 h).1
  rw [List.take_succ_eq_append_getElem hj]
  rw [List.getElem?_eq_getElem hj, Option.some.injEq] at h
  rw [h]
set_option maxRecDepth 100000 in
set_option maxHeartbeats 2000000 in
theorem blanks_in (v : Value) (l : List Wn.Tok) (m : Nat) (w : World) (ht : Tab w) (hl : Toks w v l) (hsm : Wn.small l 100 = true) (hm : l.all Wn.may = true) (hn : m ≤ 9) (hf : ∀ t ∈ l, Fine t) (hll : l.length ≤ 100) (hff : ∀ t ∈ l, t.2.1.length ≤ 100) :
    Calls Tryd.prog 5 #[v, .int .i64 (m : Int)] w fun e w' => e = .returned (.bool true) ∧ Below w.heap.size w w' := by
  have HT := Lib.hid ht; clear ht
  have HL := Lib.hid hl; clear hl
  have HS := Lib.hid hsm; clear hsm
  have HM := Lib.hid hm
  have hval : ∀ t ∈ l, Wn.Valid t := fun t ht => Wn.may_valid (List.all_eq_true.1 hm t ht)
  have hone : ∀ t ∈ l, (Wn.oneText t).length ≤ 1000 := fun t ht => by have := Wn.oneText_len t (hf t ht).2.1 (hf t ht).2.2; have := hff t ht; omega
  have HF := Lib.hid hf
  have HF2 : Hid (∀ t ∈ l, t.2.1.length ≤ 100000 ∧ -9223372036854775808 ≤ t.2.2 ∧ t.2.2 ≤ 9223372036854775807) := Lib.hid (fun t ht => ⟨by have := hff t ht; omega, (hf t ht).2⟩)
  have hA : (Wn.spreadA l).length ≤ 1000000 := by have := Wn.spreadA_len 1000 l hone; omega
  have hB : (Wn.spreadB m l).length ≤ 1000000 := by have := Wn.spreadB_len 1000 m l hone; omega
  have hLA : Hid (∀ k, (Wn.spreadA (l.take k)).length ≤ 1000000) := Lib.hid (fun k => by
    have := Wn.spreadA_len 1000 (l.take k) (fun t ht => hone t (List.mem_of_mem_take ht)); rw [List.length_take] at this; have : min k l.length * (1000 + 13) ≤ 100 * (1000 + 13) := Nat.mul_le_mul_right _ (by omega); omega)
  have hLB : Hid (∀ k, (Wn.spreadB m (l.take k)).length ≤ 1000000) := Lib.hid (fun k => by
    have := Wn.spreadB_len 1000 m (l.take k) (fun t ht => hone t (List.mem_of_mem_take ht)); rw [List.length_take] at this; have : min k l.length * (1000 + 14) ≤ 100 * (1000 + 14) := Nat.mul_le_mul_right _ (by omega); omega)
  have QA := Lib.hid (fun w => All_toks (Wn.str (Wn.spreadA l)) l w (by rw [Wn.str_size]; omega) (by rw [Wn.toList_str]; exact Wn.lex_spreadA l hval))
  have QB := Lib.hid (fun w => All_toks (Wn.str (Wn.spreadB m l)) l w (by rw [Wn.str_size]; omega) (by rw [Wn.toList_str]; exact Wn.lex_spreadB m hn l hval))
  have HO := Lib.hid hone
  clear hval hone hf hff hm hA hB
  obtain ⟨lo, lcap, rfl, hc1, hc2, hcell⟩ := HL.out
  have HLC := Lib.hid hcell
  clear hcell
  unfold maxLen at hc2
  go_enter Tryd.func5, Tryd.ntmps5
  go_wp2_with fail
  refine (fixed_any _ HT.out).mono ?_
  rintro e w1 ⟨rfl, b1⟩
  have HB1 := Lib.hid b1; clear b1
  go_wp2_with fail
  refine (Small_any _ l 100 _ (HL.out.below HB1.out)).mono ?_
  rintro e w' ⟨rfl, rfl⟩
  rw [HS.out]
  go_wp2_with fail
  refine (rMays _ l true _ HM.out (HL.out.below HB1.out) HF2.out).mono ?_
  rintro e w2 ⟨rfl, b2⟩
  have HB2 := Lib.hid (HB1.out.trans (b2.mono HB1.out.size)); clear b2
  go_wp2_with fail
  go_loopw [5, 6, 7] (fun v5 v6 v7 wr => ∃ k : Nat, k ≤ l.length ∧ v5 = .string (Wn.str (Wn.spreadA (l.take k))) ∧ v6 = .string (Wn.str (Wn.spreadB m (l.take k))) ∧ v7 = .int .i64 (k : Int) ∧ Hid (Below w.heap.size w wr)) (fun _ _ v7 _ => l.length - (intOf v7).toNat)
  case atStart => exact ⟨0, by omega, rfl, rfl, rfl, HB2⟩
  case round =>
    obtain ⟨k, hk, rfl, rfl, rfl, HB⟩ := hrel
    by_cases hlt : k < l.length
    · obtain ⟨t, hTk⟩ : ∃ t, l[k]? = some t := ⟨l[k], List.getElem?_eq_getElem hlt⟩
      obtain ⟨b, off, rfl, hin⟩ := HLC.out k _ hTk
      obtain ⟨i0, i1, i2⟩ := hin.below HB.out hin.lt
      have e1 : Wn.spreadA (l.take (k + 1)) = Wn.spreadA (l.take k) ++ (Wn.oneText t ++ Wn.cmtA) := by rw [take_next hTk, Wn.spreadA_snoc]
      have e2 : Wn.spreadB m (l.take (k + 1)) = Wn.spreadB m (l.take k) ++ (Wn.piece m t ++ Wn.cmtB) := by rw [take_next hTk, Wn.spreadB_snoc]
      have hm1 := List.mem_of_getElem? hTk
      have qo := fun w ht => One_r t _ _ _ w rfl rfl rfl ht (HF.out t hm1)
      rw [tokV_str] at qo
      have hz1 : (Wn.str (Wn.spreadA (l.take k))).size ≤ 1000000 := by rw [Wn.str_size]; exact hLA.out k
      have hz2 : (Wn.str (Wn.spreadB m (l.take k))).size ≤ 1000000 := by rw [Wn.str_size]; exact hLB.out k
      have hz3 : (Wn.str (Wn.oneText t)).size ≤ 1000 := by rw [Wn.str_size]; exact HO.out t hm1
      have E1 : Hid (Wn.str (Wn.spreadA (l.take (k + 1))) = Wn.str (Wn.spreadA (l.take k)) ++ (Wn.str (Wn.oneText t) ++ Wn.str Wn.cmtA)) := Lib.hid (by rw [e1, Wn.str_append, Wn.str_append])
      have E2 : Hid (Wn.str (Wn.spreadB m (l.take (k + 1))) = Wn.str (Wn.spreadB m (l.take k)) ++ (Wn.str (Wn.piece m t) ++ Wn.str Wn.cmtB)) := Lib.hid (by rw [e2, Wn.str_append, Wn.str_append])
      clear e1 e2 hm1 hTk hin
      have E3 : Hid (¬ t.1 = 8 → Wn.str (Wn.piece m t) = Wn.str (Wn.oneText t)) := Lib.hid (fun h => by unfold Wn.piece; rw [if_neg h])
      have E4 : Hid (t.1 = 8 → Wn.str (Wn.piece m t) = Wn.str (Wn.someBlanks.take (m + 1))) := Lib.hid (fun h => by unfold Wn.piece; rw [if_pos h])
      generalize Wn.str (Wn.spreadA (l.take k)) = sa at *
      generalize Wn.str (Wn.spreadB m (l.take k)) = sb at *
      generalize Wn.str (Wn.oneText t) = z at *
      generalize Wn.str t.2.1 = x at *
      have QO := Lib.hid qo; clear qo
      by_cases h8 : t.1 = 8
      · have E5 := Lib.hid (E4.out h8)
        have h8' : (t.1 == 8) = true := by simpa using h8
        clear E3 E4 h8
        go_wp2_with fail
        refine (QO.out _ (HT.out.below HB.out)).mono ?_
        rintro e w3 ⟨rfl, b3⟩
        have HB3 := Lib.hid (HB.out.trans (b3.mono HB.out.size))
        have j0 := (b3.cell (p := ⟨b, off + k * 3, none⟩) (World.block_lt_of_cell? _ _ i0)).trans i0
        clear b3
        go_wp2_with fail
        refine ⟨⟨k + 1, by omega, ?_, ?_, by go_num, HB3⟩, by simp [intOf]; omega⟩
        · rw [E1.out]; rfl
        · rw [E2.out, E5.out, show ByteArray.mk #[32, 9, 10, 12, 13, 10, 32, 32, 9, 32] = Wn.str Wn.someBlanks from rfl, Wn.extract_sfx]; rfl
      · have E5 := Lib.hid (E3.out h8)
        have h8' : (t.1 == 8) = false := by simpa using h8
        clear E3 E4 h8
        go_wp2_with fail
        refine (QO.out _ (HT.out.below HB.out)).mono ?_
        rintro e w3 ⟨rfl, b3⟩
        have HB3 := Lib.hid (HB.out.trans (b3.mono HB.out.size))
        have j0 := (b3.cell (p := ⟨b, off + k * 3, none⟩) (World.block_lt_of_cell? _ _ i0)).trans i0
        clear b3
        go_wp2_with fail
        refine ⟨⟨k + 1, by omega, ?_, ?_, by go_num, HB3⟩, by simp [intOf]; omega⟩
        · rw [E1.out]; rfl
        · rw [E2.out, E5.out]; rfl
    · have HTL : Hid (l.take k = l) := Lib.hid (List.take_of_length_le (by omega))
      rw [HTL.out]
      clear HTL
      go_wp2_with fail
      refine (QA.out _).mono ?_
      rintro e w3 ⟨va, rfl, ha, b3⟩
      have SA := Lib.hid ha
      have HB3 := Lib.hid (HB.out.trans (b3.mono HB.out.size)); clear b3 ha
      go_wp2_with fail
      refine (Same_b _ _ l l true _ (by simp) SA.out (HL.out.below HB3.out)).mono ?_
      rintro e w4 ⟨rfl, b4⟩
      have HB4 := Lib.hid (HB3.out.trans (b4.mono HB3.out.size)); clear b4 SA HB3
      go_wp2_with fail
      refine (QB.out _).mono ?_
      rintro e w5 ⟨vb, rfl, hb, b5⟩
      have SB := Lib.hid hb
      have HB5 := Lib.hid (HB4.out.trans (b5.mono HB4.out.size)); clear b5 hb HB4
      go_wp2_with fail
      refine (Same_b _ _ l l true _ (by simp) SB.out (HL.out.below HB5.out)).mono ?_
      rintro e w6 ⟨rfl, b6⟩
      have HB6 := Lib.hid (HB5.out.trans (b6.mono HB5.out.size)); clear b6 SB HB5
      go_wp2_with fail
      go_ret
      exact ⟨rfl, HB6.out⟩
theorem small_in {l : List Wn.Tok} {m : Int} (h : Wn.small l m = true) : (∀ t ∈ l, t.2.1.length ≤ 100) ∧ (l.length : Int) ≤ m := by
  unfold Wn.small at h
  simp only [Bool.and_eq_true, List.all_eq_true, decide_eq_true_eq] at h
  exact h
theorem blanks_any (v : Value) (l : List Wn.Tok) (n : Int) (w : World) (ht : Tab w) (hl : Toks w v l) (hn : ∀ t ∈ l, -9223372036854775808 ≤ t.2.2 ∧ t.2.2 ≤ 9223372036854775807) :
    Calls Tryd.prog 5 #[v, .int .i64 n] w fun e w' => e = .returned (.bool true) ∧ Below w.heap.size w w' := by
  by_cases h : Wn.small l 100 = true ∧ l.all Wn.may = true ∧ 0 ≤ n ∧ n ≤ 9
  · obtain ⟨h1, h2, h3, h4⟩ := h
    obtain ⟨m, rfl⟩ := Int.eq_ofNat_of_zero_le h3
    have hs := small_in h1
    exact blanks_in v l m w ht hl h1 h2 (by omega) (fun t ht => ⟨by have := hs.1 t ht; omega, hn t ht⟩) (by omega) hs.1
  · exact blanks_out v l n w ht hl (fun hs t ht => ⟨by have := (small_in hs).1 t ht; omega, hn t ht⟩) h
end Go.Proofs.YtnkdppbpcinjhaaDoor
