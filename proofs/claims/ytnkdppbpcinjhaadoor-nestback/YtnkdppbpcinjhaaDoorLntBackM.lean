/- NestBack: whatever the tokens, the law answers true, and nothing that was there has turned. -/
import Derived.Test.YtnkdppbpcinjhaaDoorGQ
set_option linter.unusedVariables false
set_option linter.unusedSimpArgs false
set_option maxRecDepth 20000
namespace Go.Proofs.YtnkdppbpcinjhaaDoor
open Go.RowKit Go.Sort
theorem small_in' {l : List Wn.Tok} {m : Int} (h : Wn.small l m = true) : (∀ t ∈ l, t.2.1.length ≤ 100) ∧ (l.length : Int) ≤ m := by
  unfold Wn.small at h
  simp only [Bool.and_eq_true, List.all_eq_true, decide_eq_true_eq] at h
  exact h
set_option maxRecDepth 100000 in
set_option maxHeartbeats 1000000 in
theorem nback_out (v : Value) (l : List Wn.Tok) (w : World) (ht : Tab w) (hl : Toks w v l) (hf : Wn.small l 300 = true → ∀ t ∈ l, ShortTok t) (hout : ¬ (Wn.small l 300 = true ∧ l.all Wn.may = true)) :
    Calls Tryd.prog 10 #[v] w fun e w' => e = .returned (.bool true) ∧ Below w.heap.size w w' := by
  have HT := Lib.hid ht; clear ht
  have HL := Lib.hid hl; clear hl
  cases h1 : Wn.small l 300
  · have HS := Lib.hid h1
    clear hout h1 hf
    go_enter Tryd.func10, Tryd.ntmps10
    go_wp2_with fail
    refine (nfixed_any _ HT.out).mono ?_
    rintro e w1 ⟨rfl, b1⟩
    have HB := Lib.hid b1; clear b1
    go_wp2_with fail
    refine (Small_any _ l 300 _ (HL.out.below HB.out)).mono ?_
    rintro e w' ⟨rfl, rfl⟩
    rw [HS.out]
    go_wp2_with fail
    refine (nfixed_any _ (HT.out.below HB.out)).mono ?_
    rintro e w2 ⟨rfl, b2⟩
    have HB2 := Lib.hid (HB.out.trans (b2.mono HB.out.size)); clear b2
    go_wp2_with fail
    go_ret
    exact ⟨rfl, HB2.out⟩
  · have HS := Lib.hid h1
    have HF := Lib.hid (hf h1)
    have HM : Hid (l.all Wn.may = false) := Lib.hid (by cases h : l.all Wn.may; rfl; exact absurd ⟨h1, h⟩ hout)
    clear hout h1 hf
    go_enter Tryd.func10, Tryd.ntmps10
    go_wp2_with fail
    refine (nfixed_any _ HT.out).mono ?_
    rintro e w1 ⟨rfl, b1⟩
    have HB := Lib.hid b1; clear b1
    go_wp2_with fail
    refine (Small_any _ l 300 _ (HL.out.below HB.out)).mono ?_
    rintro e w' ⟨rfl, rfl⟩
    rw [HS.out]
    go_wp2_with fail
    refine (rMays _ l false _ HM.out (HL.out.below HB.out) HF.out).mono ?_
    rintro e w2 ⟨rfl, b2⟩
    have HB2 := Lib.hid (HB.out.trans (b2.mono HB.out.size)); clear b2
    go_wp2_with fail
    refine (nfixed_any _ (HT.out.below HB2.out)).mono ?_
    rintro e w3 ⟨rfl, b3⟩
    have HB3 := Lib.hid (HB2.out.trans (b3.mono HB2.out.size)); clear b3
    go_wp2_with fail
    go_ret
    exact ⟨rfl, HB3.out⟩
theorem prefix_get {l m : List Wn.Tok} (h : l <+: m) (i : Nat) (t : Wn.Tok) (hi : l[i]? = some t) : m[i]? = some t := by
  obtain ⟨s, rfl⟩ := h
  rw [List.getElem?_append_left (List.getElem?_eq_some_iff.1 hi).1]; exact hi
theorem fine_flat {l : List Wn.Tok} {f : Wn.Fs} {n : Nat} (h : Wn.parse l n = some f) (hf : ∀ t ∈ l, Fine t) : ∀ t ∈ Wn.flat f, Fine t := by
  obtain ⟨l', hv⟩ := Wn.parse_some h
  intro t ht
  rcases (Wn.valsL_mem hv).1 t ht with h | ⟨k, rfl⟩
  · exact hf t h
  · unfold Wn.closeB Wn.dlm Fine
    split
    · simp
    · split <;> simp
set_option maxRecDepth 100000 in
set_option maxHeartbeats 2000000 in
theorem nback_in (v : Value) (l : List Wn.Tok) (w : World) (ht : Tab w) (hl : Toks w v l) (hsm : Wn.small l 300 = true) (hm : l.all Wn.may = true) (hf : ∀ t ∈ l, ShortTok t) (hll : l.length ≤ 300) :
    Calls Tryd.prog 10 #[v] w fun e w' => e = .returned (.bool true) ∧ Below w.heap.size w w' := by
  have HT := Lib.hid ht; clear ht
  have HL := Lib.hid hl
  have HS := Lib.hid hsm; clear hsm
  have HM := Lib.hid hm
  have HF := Lib.hid hf
  have hfine : ∀ t ∈ l, Fine t := fun t ht => ⟨by have := (hf t ht).1; omega, (hf t ht).2⟩
  obtain ⟨lo, lcap, rfl, hc1, hc2, hcell⟩ := hl
  have HLC := Lib.hid hcell
  unfold maxLen at hc2
  clear hcell hf
  cases hp : Wn.parse l 60 with
  | none =>
    have QP := Lib.hid (fun w hT => Parse_none (l := l) (deep := 60) (.slice lo l.length lcap) w (by omega) (by omega) hp hT (by omega))
    clear hp hm hfine
    go_enter Tryd.func10, Tryd.ntmps10
    go_wp2_with fail
    refine (nfixed_any _ HT.out).mono ?_
    rintro e w1 ⟨rfl, b1⟩
    have HB := Lib.hid b1; clear b1
    go_wp2_with fail
    refine (Small_any _ l 300 _ (HL.out.below HB.out)).mono ?_
    rintro e w' ⟨rfl, rfl⟩
    rw [HS.out]
    go_wp2_with fail
    refine (rMays _ l true _ HM.out (HL.out.below HB.out) HF.out).mono ?_
    rintro e w2 ⟨rfl, b2⟩
    have HB2 := Lib.hid (HB.out.trans (b2.mono HB.out.size)); clear b2
    go_wp2_with fail
    refine (QP.out _ (HL.out.below HB2.out)).mono ?_
    rintro e w3 ⟨rfl, b3⟩
    have HB3 := Lib.hid (HB2.out.trans (b3.mono HB2.out.size)); clear b3
    go_wp2_with fail
    go_ret
    exact ⟨rfl, HB3.out⟩
  | some f =>
    obtain ⟨l', hv⟩ := Wn.parse_some hp
    have hok := Wn.valsL_ok hv
    have hdep := Wn.valsL_depth hv
    have hsz := Wn.parse_size hp
    have hfl := Wn.flat_len f
    have hff := fine_flat hp hfine
    have HMay := Lib.hid (Wn.may_parsed hp hm)
    have hpre := Wn.parse_prefix hp
    have hlen := hpre.length_le
    have HPre := Lib.hid (prefix_get hpre)
    have QP := Lib.hid (fun w hT => Parse_some (l := l) (deep := 60) (.slice lo l.length lcap) w (by omega) (by omega) hp hT (by omega))
    have QF := Lib.hid (fun v w hv => Flat_any v f w hv (by omega))
    have QD := Lib.hid (fun v w hv => Depth_any v f w hv (by omega))
    have QM := Lib.hid (fun v w ht hv => NMay_any v f w ht hv (by omega) hff)
    generalize hn : Wn.depth f = n at *
    have QP1 := Lib.hid (fun v w hT => Parse_some (l := Wn.flat f) (deep := max (n : Int) 1) (f := f) v w (by omega) (by omega) (Wn.parse_flat hok (by omega)) hT (by omega))
    have HQ2 : Hid (∀ v w, Toks w v (Wn.flat f) → Calls Tryd.prog 28 #[v, .int .i64 (max ((n : Int) - 1) 1)] w fun e w' => ∃ r c, e = .returned (.tuple #[r, .int .i64 c]) ∧ (1 < n → c = 20) ∧ Below w.heap.size w w') := Lib.hid (fun v w hT => by
      by_cases h1 : 1 < n
      · exact (Parse_none (l := Wn.flat f) (deep := max ((n : Int) - 1) 1) v w (by omega) (by omega) (Wn.parse_less hok (by omega)) hT (by omega)).mono fun e w' ⟨he, hb⟩ => ⟨_, _, he, fun _ => rfl, hb⟩
      · exact (Parse_some (l := Wn.flat f) (deep := max ((n : Int) - 1) 1) (f := f) v w (by omega) (by omega) (Wn.parse_flat hok (by omega)) hT (by omega)).mono fun e w' ⟨r, he, _, hb⟩ => ⟨_, _, he, fun h => absurd h h1, hb⟩)
    have hfb : (Wn.flat f).length ≤ 600 := by omega
    have hdep' : n ≤ 60 := hdep
    clear hp hm hfine hv hok hdep hsz hfl hff hpre hn
    go_enter Tryd.func10, Tryd.ntmps10
    go_wp2_with fail
    refine (nfixed_any _ HT.out).mono ?_
    rintro e w1 ⟨rfl, b1⟩
    have HB := Lib.hid b1; clear b1
    go_wp2_with fail
    refine (Small_any _ l 300 _ (HL.out.below HB.out)).mono ?_
    rintro e w' ⟨rfl, rfl⟩
    rw [HS.out]
    go_wp2_with fail
    refine (rMays _ l true _ HM.out (HL.out.below HB.out) HF.out).mono ?_
    rintro e w2 ⟨rfl, b2⟩
    have HB2 := Lib.hid (HB.out.trans (b2.mono HB.out.size)); clear b2 HB
    go_wp2_with fail
    refine (QP.out _ (HL.out.below HB2.out)).mono ?_
    rintro e w3 ⟨r, rfl, hr, b3⟩
    have HB3 := Lib.hid (HB2.out.trans (b3.mono HB2.out.size))
    have HV3 := Lib.hid hr.any
    clear b3 HB2 hr QP
    go_wp2_with fail
    refine (QF.out _ _ HV3.out).mono ?_
    rintro e w4 ⟨rf, rfl, hown, b4⟩
    have HB4 := Lib.hid (HB3.out.trans (b4.mono HB3.out.size))
    have HV4 := Lib.hid (HV3.out.below b4)
    have HF4 := Lib.hid (Toks.ofRow hown)
    clear b4 HB3 HV3 hown QF
    go_wp2_with fail
    refine (QD.out _ _ HV4.out).mono ?_
    rintro e w5 ⟨rfl, b5⟩
    have HB5 := Lib.hid (HB4.out.trans (b5.mono HB4.out.size))
    have HV5 := Lib.hid (HV4.out.below b5)
    have HF5 := Lib.hid (HF4.out.below b5)
    clear b5 HB4 HV4 HF4 QD
    go_wp2_with fail
    refine (QP1.out _ _ HF5.out).mono ?_
    rintro e w6 ⟨r6, rfl, hr6, b6⟩
    have HB6 := Lib.hid (HB5.out.trans (b6.mono HB5.out.size))
    have HV6 := Lib.hid (HV5.out.below b6)
    have HF6 := Lib.hid (HF5.out.below b6)
    have HW6 := Lib.hid hr6.any
    clear b6 HB5 HV5 HF5 QP1 hr6
    go_wp2_with fail
    refine (HQ2.out _ _ HF6.out).mono ?_
    rintro e w7 ⟨r7, c, rfl, hc, b7⟩
    have HB7 := Lib.hid (HB6.out.trans (b7.mono HB6.out.size))
    have HV7 := Lib.hid (HV6.out.below b7)
    have HF7 := Lib.hid (HF6.out.below b7)
    have HW7 := Lib.hid (HW6.out.below b7)
    have HC := Lib.hid hc
    clear b7 HB6 HV6 HF6 HW6 HQ2 hc
    go_wp2_with fail
    refine (NSame_any _ _ f f _ HV7.out HW7.out).mono ?_
    rintro e w8 ⟨rfl, b8⟩
    rw [show decide (f = f) = true by simp]
    have HB8 := Lib.hid (HB7.out.trans (b8.mono HB7.out.size))
    have HV8 := Lib.hid (HV7.out.below b8)
    have HF8 := Lib.hid (HF7.out.below b8)
    clear b8 HB7 HV7 HF7 HW7
    by_cases h1 : 1 < n
    · obtain rfl := HC.out h1
      go_wp2_with fail
      refine (QM.out _ _ (HT.out.below HB8.out) HV8.out).mono ?_
      rintro e w9 ⟨rfl, b9⟩
      rw [HMay.out]
      have HB9 := Lib.hid (HB8.out.trans (b9.mono HB8.out.size))
      have HF9 := Lib.hid (HF8.out.below b9)
      clear b9 HB8 HV8 HF8
      obtain ⟨fo, fcap, rfl, fc1, fc2, fcell⟩ := HF9.out
      have HFC := Lib.hid fcell
      unfold maxLen at fc2
      clear fcell
      go_wp2_with fail
      go_loopw [11] (fun v11 wr => ∃ (i m : Nat), i ≤ l.length ∧ v11 = .int .i64 (i : Int) ∧ wr = w9.drewN m) (fun v11 _ => l.length - (intOf v11).toNat)
      case atStart => exact ⟨0, 0, by omega, rfl, rfl⟩
      case round =>
        obtain ⟨i, m, hi, rfl, rfl⟩ := hrel
        by_cases hlt : i < l.length
        · obtain ⟨t, hTk⟩ : ∃ t, l[i]? = some t := ⟨l[i], List.getElem?_eq_getElem hlt⟩
          obtain ⟨b, off, rfl, hin⟩ := HLC.out i _ hTk
          obtain ⟨b', off', rfl, hin'⟩ := HFC.out i _ (HPre.out i t hTk)
          obtain ⟨i0, i1, i2⟩ := hin.below HB9.out hin.lt
          obtain ⟨j0, j1, j2⟩ := hin'
          have hi1 : (i : Int) < (l.length : Int) := by omega
          have hi2 : (i : Int) < ((Wn.flat f).length : Int) := by omega
          clear hTk hin
          generalize Wn.str t.2.1 = x at *
          generalize t.1 = tk at *
          generalize t.2.2 = tn at *
          go_wp2_with fail
          go_quiet (fail)
          go_wp2_with fail
          exact ⟨⟨i + 1, m + nq, by omega, by go_num, rfl⟩, by simp [intOf]; omega⟩
        · go_wp2_with fail
          go_ret
          exact ⟨rfl, below_drewN' HB9.out _⟩
    · skip
      go_wp2_with fail
      refine (QM.out _ _ (HT.out.below HB8.out) HV8.out).mono ?_
      rintro e w9 ⟨rfl, b9⟩
      rw [HMay.out]
      have HB9 := Lib.hid (HB8.out.trans (b9.mono HB8.out.size))
      have HF9 := Lib.hid (HF8.out.below b9)
      clear b9 HB8 HV8 HF8
      obtain ⟨fo, fcap, rfl, fc1, fc2, fcell⟩ := HF9.out
      have HFC := Lib.hid fcell
      unfold maxLen at fc2
      clear fcell
      go_wp2_with fail
      go_loopw [11] (fun v11 wr => ∃ (i m : Nat), i ≤ l.length ∧ v11 = .int .i64 (i : Int) ∧ wr = w9.drewN m) (fun v11 _ => l.length - (intOf v11).toNat)
      case atStart => exact ⟨0, 0, by omega, rfl, rfl⟩
      case round =>
        obtain ⟨i, m, hi, rfl, rfl⟩ := hrel
        by_cases hlt : i < l.length
        · obtain ⟨t, hTk⟩ : ∃ t, l[i]? = some t := ⟨l[i], List.getElem?_eq_getElem hlt⟩
          obtain ⟨b, off, rfl, hin⟩ := HLC.out i _ hTk
          obtain ⟨b', off', rfl, hin'⟩ := HFC.out i _ (HPre.out i t hTk)
          obtain ⟨i0, i1, i2⟩ := hin.below HB9.out hin.lt
          obtain ⟨j0, j1, j2⟩ := hin'
          have hi1 : (i : Int) < (l.length : Int) := by omega
          have hi2 : (i : Int) < ((Wn.flat f).length : Int) := by omega
          clear hTk hin
          generalize Wn.str t.2.1 = x at *
          generalize t.1 = tk at *
          generalize t.2.2 = tn at *
          go_wp2_with fail
          go_quiet (fail)
          go_wp2_with fail
          exact ⟨⟨i + 1, m + nq, by omega, by go_num, rfl⟩, by simp [intOf]; omega⟩
        · go_wp2_with fail
          go_ret
          exact ⟨rfl, below_drewN' HB9.out _⟩
theorem nback_any (v : Value) (l : List Wn.Tok) (w : World) (ht : Tab w) (hl : Toks w v l) (hn : ∀ t ∈ l, -9223372036854775808 ≤ t.2.2 ∧ t.2.2 ≤ 9223372036854775807) :
    Calls Tryd.prog 10 #[v] w fun e w' => e = .returned (.bool true) ∧ Below w.heap.size w w' := by
  by_cases h : Wn.small l 300 = true ∧ l.all Wn.may = true
  · have hs := small_in' h.1
    exact nback_in v l w ht hl h.1 h.2 (fun t ht => ⟨by have := hs.1 t ht; omega, hn t ht⟩) (by omega)
  · exact nback_out v l w ht hl (fun hs t ht => ⟨by have := (small_in' hs).1 t ht; omega, hn t ht⟩) h
end Go.Proofs.YtnkdppbpcinjhaaDoor
