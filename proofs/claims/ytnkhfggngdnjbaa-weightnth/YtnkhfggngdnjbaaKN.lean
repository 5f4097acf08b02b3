/- WeightNth: whatever the numbers, the law answers true, and nothing that was there has turned. WeightNth holds for all numbers: the call returns true, and each argument reads afterwards as it read before. -/
import Derived.Test.YtnkhfggngdnjbaaKD
import Derived.Test.YtnkhfggngdnjbaaKA
import Derived.Test.YtnkhfggngdnjbaaGG
import Derived.Test.YtnkhfggngdnjbaaGH
set_option maxRecDepth 20000
namespace Go.Proofs.Ytnkhfggngdnjbaa
open Go.RowKit Go.Sort
set_option maxRecDepth 100000 in
set_option maxHeartbeats 2000000 in
theorem lwNth_any (a b i : Int) (w : World) :
    Calls Try.prog 6 #[.int .i64 a, .int .i64 b, .int .i64 i] w fun e w' => e = .returned (.bool true) ∧ Below w.heap.size w w' := by
  by_cases ha0 : a < -10000
  · go_enter Try.func6, Try.ntmps6
    go_wp2_with fail
    refine (fixed06 _).mono ?_
    rintro e w1 ⟨rfl, b1⟩
    have HB1 := Lib.hid b1; clear b1
    go_wp2_with fail
    refine (fixed06 _).mono ?_
    rintro e w2 ⟨rfl, b2⟩
    have HB2 := Lib.hid (HB1.out.trans (b2.mono HB1.out.size)); clear b2 HB1
    go_wp2_with fail
    go_ret
    exact ⟨rfl, HB2.out⟩
  by_cases ha1 : a > 10000
  · go_enter Try.func6, Try.ntmps6
    go_wp2_with fail
    refine (fixed06 _).mono ?_
    rintro e w1 ⟨rfl, b1⟩
    have HB1 := Lib.hid b1; clear b1
    go_wp2_with fail
    refine (fixed06 _).mono ?_
    rintro e w2 ⟨rfl, b2⟩
    have HB2 := Lib.hid (HB1.out.trans (b2.mono HB1.out.size)); clear b2 HB1
    go_wp2_with fail
    go_ret
    exact ⟨rfl, HB2.out⟩
  by_cases hb0 : b < -10000
  · go_enter Try.func6, Try.ntmps6
    go_wp2_with fail
    refine (fixed06 _).mono ?_
    rintro e w1 ⟨rfl, b1⟩
    have HB1 := Lib.hid b1; clear b1
    go_wp2_with fail
    refine (fixed06 _).mono ?_
    rintro e w2 ⟨rfl, b2⟩
    have HB2 := Lib.hid (HB1.out.trans (b2.mono HB1.out.size)); clear b2 HB1
    go_wp2_with fail
    go_ret
    exact ⟨rfl, HB2.out⟩
  by_cases hb1 : b > 10000
  · go_enter Try.func6, Try.ntmps6
    go_wp2_with fail
    refine (fixed06 _).mono ?_
    rintro e w1 ⟨rfl, b1⟩
    have HB1 := Lib.hid b1; clear b1
    go_wp2_with fail
    refine (fixed06 _).mono ?_
    rintro e w2 ⟨rfl, b2⟩
    have HB2 := Lib.hid (HB1.out.trans (b2.mono HB1.out.size)); clear b2 HB1
    go_wp2_with fail
    go_ret
    exact ⟨rfl, HB2.out⟩
  by_cases hi0 : i < -10000
  · go_enter Try.func6, Try.ntmps6
    go_wp2_with fail
    refine (fixed06 _).mono ?_
    rintro e w1 ⟨rfl, b1⟩
    have HB1 := Lib.hid b1; clear b1
    go_wp2_with fail
    refine (fixed06 _).mono ?_
    rintro e w2 ⟨rfl, b2⟩
    have HB2 := Lib.hid (HB1.out.trans (b2.mono HB1.out.size)); clear b2 HB1
    go_wp2_with fail
    go_ret
    exact ⟨rfl, HB2.out⟩
  by_cases hi1 : i > 10000
  · go_enter Try.func6, Try.ntmps6
    go_wp2_with fail
    refine (fixed06 _).mono ?_
    rintro e w1 ⟨rfl, b1⟩
    have HB1 := Lib.hid b1; clear b1
    go_wp2_with fail
    refine (fixed06 _).mono ?_
    rintro e w2 ⟨rfl, b2⟩
    have HB2 := Lib.hid (HB1.out.trans (b2.mono HB1.out.size)); clear b2 HB1
    go_wp2_with fail
    go_ret
    exact ⟨rfl, HB2.out⟩
  have oa := Wn.opr_in (n := a) (by omega) (by omega)
  have ob := Wn.opr_in (n := b) (by omega) (by omega)
  have oi := Wn.opr_in (n := i) (by omega) (by omega)
  have QB : Hid (∀ V, Calls Try.prog 17 #[.int .i64 a, .int .i64 b, .int .i64 b] V fun e w' => e = .returned (.bool true) ∧ w' = V) := Lib.hid (fun V => by have := wNth_v a b b V; rw [Wn.wnth_at oa ob] at this; exact this)
  have QI := Lib.hid (fun V => wNth_v a b i V)
  have QU : Hid (Wn.wnth a b i = true → ∀ V, Calls Try.prog 17 #[.int .i64 a, .int .i64 b, .int .i64 (i + a)] V fun e w' => e = .returned (.bool true) ∧ w' = V) := Lib.hid (fun h V => by have := wNth_v a b (i + a) V; rw [Wn.wnth_up oa ob oi (Wn.opr_in (by omega) (by omega)) h] at this; exact this)
  have QD : Hid (Wn.wnth a b i = true → i ≠ b → ∀ V, Calls Try.prog 17 #[.int .i64 a, .int .i64 b, .int .i64 (i - a)] V fun e w' => e = .returned (.bool true) ∧ w' = V) := Lib.hid (fun h hn V => by have := wNth_v a b (i - a) V; rw [Wn.wnth_down oa ob oi (Wn.opr_in (by omega) (by omega)) hn h] at this; exact this)
  have QK : Hid (Wn.wnth a b i = true → ∀ k : Int, 1 ≤ k → k < a → ∀ V, Calls Try.prog 17 #[.int .i64 a, .int .i64 b, .int .i64 (i + k)] V fun e w' => e = .returned (.bool false) ∧ w' = V) := Lib.hid (fun h k h1 h2 V => by have := wNth_v a b (i + k) V; rw [Wn.wnth_between oa ob oi (Wn.opr_in (by omega) (by omega)) h1 h2 h] at this; exact this)
  have HZ : Hid (a = 0 → Wn.wnth a b i = (i == b)) := Lib.hid (fun h => by subst h; exact Wn.wnth_zero oa ob oi)
  clear oa ob oi
  have e1 : IntKind.i64.wrap (i + a) = i + a := IntWalk.i64_in _ (by omega)
  have e2 : IntKind.i64.wrap (i - a) = i - a := IntWalk.i64_in _ (by omega)
  generalize Wn.wnth a b i = is at *
  cases is
  · -- no place
    by_cases h0 : a = 0
    · have hib : (i == b) = false := (HZ.out h0).symm
      subst h0
      go_enter Try.func6, Try.ntmps6
      go_wp2_with fail
      refine (fixed06 _).mono ?_
      rintro e w1 ⟨rfl, b1⟩
      have HB1 := Lib.hid b1; clear b1
      go_wp2_with fail
      refine (QI.out _).mono ?_
      rintro e w2 ⟨rfl, rfl⟩
      go_wp2_with fail
      refine (QB.out _).mono ?_
      rintro e w2 ⟨rfl, rfl⟩
      go_wp2_with fail
      go_loopw [8] (fun v8 wr => v8 = .int .i64 1 ∧ Hid (wr = w2)) (fun _ _ => 0)
      case atStart => exact ⟨rfl, Lib.hid rfl⟩
      case round =>
        obtain ⟨rfl, HW⟩ := hrel
        obtain rfl := HW.out
        go_wp2_with fail
        go_ret
        exact ⟨rfl, HB1.out⟩
    · have h0' : (a == 0) = false := beq_eq_false_iff_ne.2 h0
      go_enter Try.func6, Try.ntmps6
      go_wp2_with fail
      refine (fixed06 _).mono ?_
      rintro e w1 ⟨rfl, b1⟩
      have HB1 := Lib.hid b1; clear b1
      go_wp2_with fail
      refine (QI.out _).mono ?_
      rintro e w2 ⟨rfl, rfl⟩
      go_wp2_with fail
      refine (QB.out _).mono ?_
      rintro e w2 ⟨rfl, rfl⟩
      go_wp2_with fail
      go_loopw [8] (fun v8 wr => ∃ k : Nat, 1 ≤ k ∧ k ≤ 31 ∧ v8 = .int .i64 (k : Int) ∧ Hid (wr = w2)) (fun v8 _ => 31 - (intOf v8).toNat)
      case atStart => exact ⟨1, by omega, by omega, rfl, Lib.hid rfl⟩
      case round =>
        obtain ⟨k, hk1, hk2, rfl, HW⟩ := hrel
        obtain rfl := HW.out
        by_cases hka : (k : Int) < a
        · by_cases hk30 : k < 30
          · have hkc : (k : Int) < a := hka
            have hkd : (k : Int) < 30 := by omega
            go_wp2_with fail
            exact ⟨⟨k + 1, by omega, by omega, by go_num, Lib.hid (by simp)⟩, by simp [intOf]; try omega⟩
          · have hkd : ¬ (k : Int) < 30 := by omega
            go_wp2_with fail
            go_ret
            exact ⟨rfl, HB1.out⟩
        · go_wp2_with fail
          go_ret
          exact ⟨rfl, HB1.out⟩
  · have QU1 := Lib.hid (QU.out rfl)
    have QD1 := Lib.hid (QD.out rfl)
    have QK1 := Lib.hid (QK.out rfl)
    clear QU QD QK
    by_cases h0 : a = 0
    · have hib : (i == b) = true := (HZ.out h0).symm
      subst h0
      go_enter Try.func6, Try.ntmps6
      go_wp2_with fail
      refine (fixed06 _).mono ?_
      rintro e w1 ⟨rfl, b1⟩
      have HB1 := Lib.hid b1; clear b1
      go_wp2_with fail
      refine (QI.out _).mono ?_
      rintro e w2 ⟨rfl, rfl⟩
      go_wp2_with fail
      refine (QB.out _).mono ?_
      rintro e w2 ⟨rfl, rfl⟩
      go_wp2_with fail
      refine (QI.out _).mono ?_
      rintro e w3 ⟨rfl, rfl⟩
      go_wp2_with fail
      go_loopw [8] (fun v8 wr => v8 = .int .i64 1 ∧ Hid (wr = w3)) (fun _ _ => 0)
      case atStart => exact ⟨rfl, Lib.hid (by trivial)⟩
      case round =>
        obtain ⟨rfl, HW⟩ := hrel
        obtain rfl := HW.out
        go_wp2_with fail
        go_ret
        exact ⟨rfl, HB1.out⟩
    · have h0' : (a == 0) = false := beq_eq_false_iff_ne.2 h0
      by_cases hib : i = b
      · have hib' : (i == b) = true := beq_iff_eq.2 hib
        have HIB := Lib.hid hib
        clear hib QD1
        go_enter Try.func6, Try.ntmps6
        go_wp2_with fail
        refine (fixed06 _).mono ?_
        rintro e w1 ⟨rfl, b1⟩
        have HB1 := Lib.hid b1; clear b1
        go_wp2_with fail
        refine (QI.out _).mono ?_
        rintro e w2 ⟨rfl, rfl⟩
        go_wp2_with fail
        refine (QB.out _).mono ?_
        rintro e w2 ⟨rfl, rfl⟩
        go_wp2_with fail
        refine (QU1.out _).mono ?_
        rintro e w2 ⟨rfl, rfl⟩
        go_wp2_with fail
        go_loopw [8] (fun v8 wr => ∃ k : Nat, 1 ≤ k ∧ k ≤ 31 ∧ v8 = .int .i64 (k : Int) ∧ Hid (wr = w2)) (fun v8 _ => 31 - (intOf v8).toNat)
        case atStart => exact ⟨1, by omega, by omega, rfl, Lib.hid rfl⟩
        case round =>
          obtain ⟨k, hk1, hk2, rfl, HW⟩ := hrel
          obtain rfl := HW.out
          by_cases hka : (k : Int) < a
          · by_cases hk30 : k < 30
            · have hkc : (k : Int) < a := hka
              have hkd : (k : Int) < 30 := by omega
              have e3 : IntKind.i64.wrap (i + (k : Int)) = i + (k : Int) := IntWalk.i64_in _ (by omega)
              go_wp2_with fail
              refine (QK1.out _ (by omega) hkc _).mono ?_
              rintro e w2 ⟨rfl, rfl⟩
              go_wp2_with fail
              exact ⟨⟨k + 1, by omega, by omega, by go_num, Lib.hid (by simp)⟩, by simp [intOf]; try omega⟩
            · have hkd : ¬ (k : Int) < 30 := by omega
              go_wp2_with fail
              go_ret
              exact ⟨rfl, HB1.out⟩
          · go_wp2_with fail
            go_ret
            exact ⟨rfl, HB1.out⟩
      · have hib' : (i == b) = false := beq_eq_false_iff_ne.2 hib
        have QD2 := Lib.hid (QD1.out hib)
        clear hib QD1
        go_enter Try.func6, Try.ntmps6
        go_wp2_with fail
        refine (fixed06 _).mono ?_
        rintro e w1 ⟨rfl, b1⟩
        have HB1 := Lib.hid b1; clear b1
        go_wp2_with fail
        refine (QI.out _).mono ?_
        rintro e w2 ⟨rfl, rfl⟩
        go_wp2_with fail
        refine (QB.out _).mono ?_
        rintro e w2 ⟨rfl, rfl⟩
        go_wp2_with fail
        refine (QU1.out _).mono ?_
        rintro e w2 ⟨rfl, rfl⟩
        go_wp2_with fail
        go_loopw [8] (fun v8 wr => ∃ k : Nat, 1 ≤ k ∧ k ≤ 31 ∧ v8 = .int .i64 (k : Int) ∧ Hid (wr = w2)) (fun v8 _ => 31 - (intOf v8).toNat)
        case atStart => exact ⟨1, by omega, by omega, rfl, Lib.hid rfl⟩
        case round =>
          obtain ⟨k, hk1, hk2, rfl, HW⟩ := hrel
          obtain rfl := HW.out
          by_cases hka : (k : Int) < a
          · by_cases hk30 : k < 30
            · have hkc : (k : Int) < a := hka
              have hkd : (k : Int) < 30 := by omega
              have e3 : IntKind.i64.wrap (i + (k : Int)) = i + (k : Int) := IntWalk.i64_in _ (by omega)
              go_wp2_with fail
              refine (QK1.out _ (by omega) hkc _).mono ?_
              rintro e w2 ⟨rfl, rfl⟩
              go_wp2_with fail
              exact ⟨⟨k + 1, by omega, by omega, by go_num, Lib.hid (by simp)⟩, by simp [intOf]; try omega⟩
            · have hkd : ¬ (k : Int) < 30 := by omega
              go_wp2_with fail
              refine (QD2.out _).mono ?_
              rintro e w2 ⟨rfl, rfl⟩
              go_wp2_with fail
              go_ret
              exact ⟨rfl, HB1.out⟩
          · go_wp2_with fail
            refine (QD2.out _).mono ?_
            rintro e w2 ⟨rfl, rfl⟩
            go_wp2_with fail
            go_ret
            exact ⟨rfl, HB1.out⟩
end Go.Proofs.Ytnkhfggngdnjbaa
set_option maxRecDepth 20000
namespace Go.Proofs.Ytnkhfggngdnjbaa.WNth
open Go.ChangeShapes Go.WideShapes Go.ChangeAt Go.RowKit
open Go.ChangeMaps (open_string shut_string)
noncomputable def laidWorld (os : Os) : World := World.holding Try.prog os ⟨#[], #[], []⟩
theorem contract (H : Type) (enc : TypeId × Value → H) (W : World) (base : Nat) (args : Array Value) (ds gs : List (DataW H)) (before : List MemPlace)
    (hval : ∀ (j : Nat) t v, Try.f6.params[j]? = some t → args[j]? = some v → Value.okWide Try.prog W .any base t v)
    (hW : DataW.Whole enc Try.prog Try.f6.params.toList Rows.weightNthSpec.vars false W args.toList ds gs before) (_hL : laidMetH Try.prog Rows.weightNthRow.laid W) :
    Calls Try.prog 6 args W fun e W' => ∃ v, e = .returned v ∧ Rows.weightNthSpec.post enc Try.prog Try.f6 false true false false W args v W' := by
  have hW' := hW
  obtain ⟨p, q, hA0, hV, rfl, hfz, hnd⟩ := hW
  have hA : DataW.TrodAll enc Try.prog W 0 (fun _ => true) true Try.f6.params.toList args.toList ds p := hA0
  rw [Try.params6] at hA hval
  obtain ⟨v0, vs0, d0, ds0, p0, q0, hargs, rfl, rfl, h0, r0⟩ := trodAll_cons hA
  obtain ⟨v1, vs1, d1, ds1, p1, q1, rfl, rfl, rfl, h1, r1⟩ := trodAll_cons r0
  obtain ⟨v2, vs2, d2, ds2, p2, q2, rfl, rfl, rfl, h2, r2⟩ := trodAll_cons r1
  obtain ⟨rfl, rfl, rfl⟩ := trodAll_nil r2
  obtain rfl : args = #[v0, v1, v2] := by cases args; simp_all
  obtain ⟨rfl, rfl⟩ := trodVars_none hV
  obtain ⟨n0, hv0, _, _, hw0⟩ := open_int (k := .i64) Try.underlying3 (hval 0 3 v0 rfl rfl) h0
  subst hv0
  have hn0 := bounds_i64 hw0
  obtain ⟨n1, hv1, _, _, hw1⟩ := open_int (k := .i64) Try.underlying3 (hval 1 3 v1 rfl rfl) h1
  subst hv1
  have hn1 := bounds_i64 hw1
  obtain ⟨n2, hv2, _, _, hw2⟩ := open_int (k := .i64) Try.underlying3 (hval 2 3 v2 rfl rfl) h2
  subst hv2
  have hn2 := bounds_i64 hw2
  clear hA0
  simp only [List.append_nil] at hW'
  have hlt : ∀ x ∈ (p0 ++ (p1 ++ p2)), x.block < W.heap.size := fun x hx => hW'.lt x hx
  refine (lwNth_any n0 n1 n2 W).mono fun e W' ⟨he, hb⟩ => ?_
  subst he
  exact ⟨_, rfl, post_of_below (pa := (p0 ++ (p1 ++ (p2 ++ [])))) (pv := []) hW' (fun _ _ _ => trodAll_cons_mk (shut_bool Try.underlying4 _) trodAll_mk0)
    (fun sp hsp => (trodAll_cons_mk (again (t := 3) (by kernel_rfl) (by decide) h0 hb (fun x hx => hlt x (by simp [hx])) (fun x hx => hsp x (by simp [hx])))
      (trodAll_cons_mk (again (t := 3) (by kernel_rfl) (by decide) h1 hb (fun x hx => hlt x (by simp [hx])) (fun x hx => hsp x (by simp [hx])))
      (trodAll_cons_mk (again (t := 3) (by kernel_rfl) (by decide) h2 hb (fun x hx => hlt x (by simp [hx])) (fun x hx => hsp x (by simp [hx])))
      trodAll_mk0)))) (fun _ _ => rfl) (by simp) hb
    (ok_one (by kernel_rfl) rfl (okWide_bool_mk Try.underlying4 _))⟩
theorem laid_met (os : Os) : laidMet Try.prog Rows.weightNthRow.laid ((laidWorld os).forCall (fun _ _ => 0) ⟨#[], #[.int .i64 0, .int .i64 0, .int .i64 0], []⟩).memory :=
  laidMet_of_run' 8 (by kernel_rfl) (by kernel_rfl)
theorem reads (os : Os) {H : Type} (enc : TypeId × Value → H) : ∃ places, DataW.whole enc Try.prog ((laidWorld os).forCall (fun _ _ => 0) ⟨#[], #[.int .i64 0, .int .i64 0, .int .i64 0], []⟩).memory Try.f6.params.toList Rows.weightNthSpec.vars false #[Value.int .i64 0, Value.int .i64 0, Value.int .i64 0].toList 8 = some ([.lit (.int .i64 0), .lit (.int .i64 0), .lit (.int .i64 0)], [], places) :=
  ⟨[], by kernel_rfl⟩
set_option maxRecDepth 100000 in
theorem lifted (os : Os) (started : os.Started) (H : Type) (enc : TypeId × Value → H) (F : Stop.Interp) :
    ReturnsInHanded {} Try.checked os 6 .any ((OpenSpec.ofChange Rows.weightNthSpec).preRow enc Try.prog Try.f6 Rows.weightNthRow.domain false Rows.weightNthRow.laid) (((OpenSpec.ofChange Rows.weightNthSpec).at F).post enc Try.prog Try.f6 false true false false) := by
  obtain ⟨places, hx⟩ := reads os enc
  refine returnsInHanded_of_row (C := Try.checked) (s := OpenSpec.ofChange Rows.weightNthSpec) own started (by kernel_rfl) Try.func6
    (witness_row_at (enc := enc) (C := Try.checked) false (laidWorld os) #[.int .i64 0, .int .i64 0, .int .i64 0] rfl (by kernel_rfl) (by kernel_rfl) (by kernel_rfl)
      (OpenSpec.preRow_of_cond 8 hx (by kernel_rfl) (fun k hk => by cases hk) (by kernel_rfl) (laid_met os))) ?_
  intro W base args ds gs before hval hW _ _ _ hL _ _
  exact contract H enc W base args ds gs before hval hW hL
theorem said : Rows.WeightNthSaid :=
  OpenClaim.holds_of_cond 6 Try.f6 rfl rfl rfl rfl rfl rfl rfl ⟨rfl, rfl, rfl, rfl, rfl⟩ rfl rfl rfl rfl rfl (by kernel_rfl) Try.func6 (by kernel_rfl)
    (of_decide_eq_true (by kernel_rfl)) (by unfold Func.isWrapper; first | (rw [if_pos (by decide +kernel)]; kernel_rfl) | (rw [if_neg (by decide +kernel)]; exact ⟨rfl, rfl⟩))
    (fun os started H enc _ F => by rw [OpenClaim.pre_eq_preRow]; exact lifted os started H enc F)
end Go.Proofs.Ytnkhfggngdnjbaa.WNth
namespace Go.Proofs.Ytnkhfggngdnjbaa
open Go
theorem weightNth_holds : Rows.WeightNthSaid := WNth.said
end Go.Proofs.Ytnkhfggngdnjbaa
