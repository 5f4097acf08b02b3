/- The verifier's second writing: a number. -/
import Derived.Test.YtnkdppbpcinjhaaDoorRefC
set_option maxRecDepth 20000
namespace Go.Proofs.YtnkdppbpcinjhaaDoor
open Go.RowKit
theorem Below.set_new {B r : Nat} {a w : World} (h : Below B a w) (hr : B ≤ r) (o : Nat) (v : Value) : Below B a (w.setCell ⟨r, o, none⟩ v) := by
  refine ⟨?_, ?_, ?_, ?_, fun k hk => ?_⟩
  · unfold World.setCell; exact h.os
  · unfold World.setCell; exact h.tape
  · unfold World.setCell; exact h.output
  · unfold World.setCell; simpa using h.size
  · rw [← h.block k hk]; unfold World.setCell; simp [Array.getElem?_modify]; intro e; omega
theorem res_new (w : World) : Res (w.alloc (.cells #[.int .i64 0, .string ⟨#[]⟩, .int .i64 0] 24)) w.heap.size := ⟨_, _, _, heap_alloc_new w _⟩
set_option maxRecDepth 100000 in
set_option maxHeartbeats 4000000 in
theorem rnumber (s : ByteArray) (i : Nat) (x : Int) (w : World) (hs : s.size ≤ 4611686018427387000) (hi : i < s.size) (hx : x = (i : Int)) (neg : Bool) (hneg : ((s[i].toNat : Int) == 45) = neg) (b0 E F : Nat) (V : Int)
    (hb0 : b0 = if neg then i + 1 else i) (hE : b0 + Wn.runLen Wn.digit (Wn.sfx s b0) = E) (hV : Wn.numVal 0 (Wn.sfx s b0) = V) (hF : E + Wn.unitLen (Wn.sfx s E) = F) :
    Calls Tryd.prog 80 #[.string s, .int .i64 x] w fun e w' => e = .returned (.tuple #[.agg #[.int .i64 5, .string (s.extract E F), .int .i64 (if neg then -V else V)], .int .i64 F]) ∧ Below w.heap.size w w' := by
  subst hx
  have hs' : s.size ≤ maxLen := by unfold maxLen; omega
  have hbs : b0 ≤ s.size := by rw [hb0]; split <;> omega
  have hVb := Wn.numVal_bounds (Wn.sfx s b0) 0 (by omega) (by omega)
  rw [hV] at hVb
  have hEs : E ≤ s.size := by have := Wn.runLen_le Wn.digit (Wn.sfx s b0); rw [Wn.sfx_length] at this; omega
  have hFs : E ≤ F ∧ F ≤ s.size := by have := Wn.unitLen_le (Wn.sfx s E); rw [Wn.sfx_length] at this; omega
  obtain ⟨hV0, hV1⟩ := hVb
  obtain ⟨hF0, hF1⟩ := hFs
  have HE := Lib.hid hE
  have HV := Lib.hid hV
  have HF := Lib.hid hF
  have RN := Lib.hid (res_new w)
  have HBa : Hid (Below w.heap.size w (w.alloc (.cells #[.int .i64 0, .string ⟨#[]⟩, .int .i64 0] 24))) := Lib.hid ((Below.refl _ _).alloc (Nat.le_refl _) _)
  clear hE hV hF
  cases neg
  all_goals
    simp only [Bool.false_eq_true, if_false, if_true] at hb0
    subst hb0
    go_enter Tryd.func80, Tryd.ntmps80
    go_wp2_with fail
    go_loop [6, 7] (fun v6 v7 => ∃ (k : Nat) (n : Int), k ≤ s.size ∧ 0 ≤ n ∧ n ≤ 999999999 ∧ v6 = .int .i64 n ∧ v7 = .int .i64 (k : Int) ∧ Hid (k + Wn.runLen Wn.digit (Wn.sfx s k) = E) ∧ Hid (Wn.numVal n (Wn.sfx s k) = V)) (fun _ v7 => s.size - (intOf v7).toNat)
    case atStart => exact ⟨_, 0, hbs, by omega, by omega, rfl, by go_num, HE, HV⟩
    case round =>
      obtain ⟨k, n, hk, hn0, hn1, rfl, rfl, HK, HN⟩ := hrel
      have hc := Wn.cls_two (Wn.sfx s k)
      have q0 := fun w => at_any s k (k : Int) _ w hs' (by omega) rfl rfl
      generalize Wn.cls (Wn.sfx s k) = a at *
      have Q0 := Lib.hid q0; clear q0
      cases hd : Wn.digit (Wn.sfx s k)
      · rw [hd] at hc
        have hkE : k = E := by rw [← HK.out, Wn.runLen_no hd]; rfl
        have hnV : n = V := by rw [← HN.out, Wn.numVal_no _ _ hd]
        subst hkE hnV
        clear HK HN HE HV hd hV0 hV1
        have hu : Wn.unitLen (Wn.sfx s k) = if Wn.hd (Wn.sfx s k) == 37 then 1 else if Wn.nameBegins (Wn.sfx s k) then Wn.runLen Wn.nameByte (Wn.sfx s k) else 0 := rfl
        have hk2 : (0 : Int) ≤ (k : Int) := by omega
        by_cases h37 : (Wn.hd (Wn.sfx s k) == 37) = true
        · have hlt : k < s.size := by
            apply Classical.byContradiction; intro h
            rw [Wn.hd_out s k (by omega)] at h37; exact absurd h37 (by decide)
          rw [if_pos h37] at hu
          have hF : F = k + 1 := by rw [← HF.out, hu]
          subst hF
          rw [Wn.hd_in s k hlt] at h37
          clear hu HF
          go_wp2_with (go_at_call 76; (with_reducible refine (Q0.out _).mono ?_); rintro e w' ⟨rfl, rfl⟩)
          exact ret_tok_ok rfl rfl rfl rfl (heap_alloc_new w _) ⟨rfl, (Below.refl _ _).alloc (Nat.le_refl _) _⟩
        · have h37' : (Wn.hd (Wn.sfx s k) == 37) = false := by simpa using h37
          rw [if_neg h37] at hu
          have h37s : ∀ h : k < s.size, ((s[k].toNat : Int) == 37) = false := fun h => by rw [← Wn.hd_in s k h]; exact h37'
          clear h37 h37'
          cases hnb : Wn.nameBegins (Wn.sfx s k)
          · rw [hnb, if_neg (by decide)] at hu
            have hF : F = k := by rw [← HF.out, hu]; rfl
            subst hF
            have QB := Lib.hid (fun w => Begins_any s F (F : Int) false w hs' (by omega) rfl hnb)
            clear hu HF hnb
            by_cases hlt : F < s.size
            · have h37 := h37s hlt
              clear h37s
              go_wp2_with (first | (go_at_call 76; (with_reducible refine (Q0.out _).mono ?_); rintro e w' ⟨rfl, rfl⟩) | (go_at_call 79; (with_reducible refine (QB.out _).mono ?_); rintro e w' ⟨rfl, rfl⟩))
              exact ret_tok_ok rfl rfl rfl rfl (heap_alloc_new w _) ⟨rfl, (Below.refl _ _).alloc (Nat.le_refl _) _⟩
            · clear h37s
              go_wp2_with (first | (go_at_call 76; (with_reducible refine (Q0.out _).mono ?_); rintro e w' ⟨rfl, rfl⟩) | (go_at_call 79; (with_reducible refine (QB.out _).mono ?_); rintro e w' ⟨rfl, rfl⟩))
              exact ret_tok_ok rfl rfl rfl rfl (heap_alloc_new w _) ⟨rfl, (Below.refl _ _).alloc (Nat.le_refl _) _⟩
          · have hlt : k < s.size := by
              apply Classical.byContradiction; intro h
              rw [Wn.sfx_out s k (by omega)] at hnb; exact absurd hnb (by decide)
            rw [hnb, if_pos rfl] at hu
            have hF : ((k + Wn.runLen Wn.nameByte (Wn.sfx s k) : Nat) : Int) = (F : Int) := by rw [← HF.out, hu]
            have QB := Lib.hid (fun w => Begins_any s k (k : Int) true w hs' (by omega) rfl hnb)
            have QN := Lib.hid (fun w => names_any s k (k : Int) (F : Int) w hs (by omega) rfl hF)
            have h37 := h37s hlt
            clear hu HF hnb hF h37s
            go_wp2_with (first | (go_at_call 76; (with_reducible refine (Q0.out _).mono ?_); rintro e w' ⟨rfl, rfl⟩) | (go_at_call 79; (with_reducible refine (QB.out _).mono ?_); rintro e w' ⟨rfl, rfl⟩) | (go_at_call 78; (with_reducible refine (QN.out _).mono ?_); rintro e w' ⟨rfl, rfl⟩))
            exact ret_tok_ok rfl rfl rfl rfl (heap_alloc_new w _) ⟨rfl, (Below.refl _ _).alloc (Nat.le_refl _) _⟩
      · obtain ⟨hlt, e0⟩ := Wn.runLen_yes hd (by decide)
        have e1 := Wn.numVal_yes n s k hd
        have hdd := Wn.digit_hd hd
        rw [Wn.hd_in s k hlt] at e1 hdd
        obtain ⟨hd1, hd2⟩ := hdd
        have HK2 : Hid (k + 1 + Wn.runLen Wn.digit (Wn.sfx s (k + 1)) = E) := Lib.hid (by rw [← HK.out, e0]; omega)
        have HN2 : Hid (Wn.numVal (min (n * 10 + (s[k].toNat : Int) - 48) 999999999) (Wn.sfx s (k + 1)) = V) := Lib.hid (by rw [← HN.out, e1])
        rw [hd] at hc
        clear e0 e1 hd
        have hw1 : wrap64 (s[k].toNat : Int) = (s[k].toNat : Int) := wrap64_u8 _
        generalize hcc : (s[k].toNat : Int) = c at *
        go_wp2_with (go_at_call 76; (with_reducible refine (Q0.out _).mono ?_); rintro e w' ⟨rfl, rfl⟩)
        have hm : min (10 * n + c - 48) 999999999 = min (n * 10 + c - 48) 999999999 := by omega
        rw [hm]
        exact ⟨⟨k + 1, _, by omega, by omega, by omega, rfl, by go_num, HK2, HN2⟩, by simp [intOf]; omega⟩
end Go.Proofs.YtnkdppbpcinjhaaDoor
