/- The verifier's second writing: a number. The verifier's second writing: the token at a place. -/
import Derived.Test.YtjlejiphpbaonaaGreatDoorGI
import Derived.Test.YtjlejiphpbaonaaGreatDoorGA
set_option maxRecDepth 20000
namespace Go.Proofs.YtjlejiphpbaonaaGreatDoor
open Go.RowKit
theorem Below.set_new {B r : Nat} {a w : World} (h : Below B a w) (hr : B ≤ r) (o : Nat) (v : Value) : Below B a (w.setCell ⟨r, o, none⟩ v) := by
  refine ⟨?_, ?_, ?_, ?_, fun k hk => ?_⟩
  · unfold World.setCell; exact h.os
  · unfold World.setCell; exact h.tape
  · unfold World.setCell; exact h.output
  · unfold World.setCell; simpa using h.size
  · rw [← h.block k hk]; unfold World.setCell; simp [Array.getElem?_modify]; intro e; omega
theorem res_new (w : World) : Res (w.alloc (.cells #[.int .i64 0, .string ⟨#[]⟩, .int .i64 0] 47)) w.heap.size := ⟨_, _, _, heap_alloc_new w _⟩
set_option maxRecDepth 100000 in
set_option maxHeartbeats 4000000 in
theorem rnumber (s : ByteArray) (i : Nat) (x : Int) (w : World) (hs : s.size ≤ 4611686018427387000) (hi : i < s.size) (hx : x = (i : Int)) (neg : Bool) (hneg : ((s[i].toNat : Int) == 45) = neg) (b0 E F : Nat) (V : Int)
    (hb0 : b0 = if neg then i + 1 else i) (hE : b0 + Wn.runLen Wn.digit (Wn.sfx s b0) = E) (hV : Wn.numVal 0 (Wn.sfx s b0) = V) (hF : E + Wn.unitLen (Wn.sfx s E) = F) :
    Calls Tryz.prog 101 #[.string s, .int .i64 x] w fun e w' => e = .returned (.tuple #[.agg #[.int .i64 5, .string (s.extract E F), .int .i64 (if neg then -V else V)], .int .i64 F]) ∧ Below w.heap.size w w' := by
  subst hx
  have hs' : s.size ≤ maxLen := by unfold maxLen; omega
  have hbs : b0 ≤ s.size := by rw [hb0]; split <;> omega
  have hVb := Wn.numVal_bounds (Wn.sfx s b0) 0 (by omega) (by omega)
  rw [hV] at hVb
  have hEs : E ≤ s.size := by have := Wn.runLen_le Wn.digit (Wn.sfx s b0); rw [Wn.sfx_length] at this; omega
  have hFs : E ≤ F ∧ F ≤ s.size := by have := Wn.unitLen_le (Wn.sfx s E); rw [Wn.sfx_length] at this; omega
  obtain ⟨hV0, hV1⟩ := hVb
  obtain ⟨hF0, hF1⟩ := hFs
  have HE := Lib.hid hE
  have HV := Lib.hid hV
  have HF := Lib.hid hF
  have RN := Lib.hid (res_new w)
  have HBa : Hid (Below w.heap.size w (w.alloc (.cells #[.int .i64 0, .string ⟨#[]⟩, .int .i64 0] 47))) := Lib.hid ((Below.refl _ _).alloc (Nat.le_refl _) _)
  clear hE hV hF
  cases neg
  all_goals
    simp only [Bool.false_eq_true, if_false, if_true] at hb0
    subst hb0
    go_enter Tryz.func101, Tryz.ntmps101
    go_wp2_with fail
    go_loop [6, 7] (fun v6 v7 => ∃ (k : Nat) (n : Int), k ≤ s.size ∧ 0 ≤ n ∧ n ≤ 999999999 ∧ v6 = .int .i64 n ∧ v7 = .int .i64 (k : Int) ∧ Hid (k + Wn.runLen Wn.digit (Wn.sfx s k) = E) ∧ Hid (Wn.numVal n (Wn.sfx s k) = V)) (fun _ v7 => s.size - (intOf v7).toNat)
    case atStart => exact ⟨_, 0, hbs, by omega, by omega, rfl, by go_num, HE, HV⟩
    case round =>
      obtain ⟨k, n, hk, hn0, hn1, rfl, rfl, HK, HN⟩ := hrel
      have hc := Wn.cls_two (Wn.sfx s k)
      have q0 := fun w => at_any s k (k : Int) _ w hs' (by omega) rfl rfl
      generalize Wn.cls (Wn.sfx s k) = a at *
      have Q0 := Lib.hid q0; clear q0
      cases hd : Wn.digit (Wn.sfx s k)
      · rw [hd] at hc
        have hkE : k = E := by rw [← HK.out, Wn.runLen_no hd]; rfl
        have hnV : n = V := by rw [← HN.out, Wn.numVal_no _ _ hd]
        subst hkE hnV
        clear HK HN HE HV hd hV0 hV1
        have hu : Wn.unitLen (Wn.sfx s k) = if Wn.hd (Wn.sfx s k) == 37 then 1 else if Wn.nameBegins (Wn.sfx s k) then Wn.runLen Wn.nameByte (Wn.sfx s k) else 0 := rfl
        have hk2 : (0 : Int) ≤ (k : Int) := by omega
        by_cases h37 : (Wn.hd (Wn.sfx s k) == 37) = true
        · have hlt : k < s.size := by
            apply Classical.byContradiction; intro h
            rw [Wn.hd_out s k (by omega)] at h37; exact absurd h37 (by decide)
          rw [if_pos h37] at hu
          have hF : F = k + 1 := by rw [← HF.out, hu]
          subst hF
          rw [Wn.hd_in s k hlt] at h37
          clear hu HF
          go_wp2_with (go_at_call 97; (with_reducible refine (Q0.out _).mono ?_); rintro e w' ⟨rfl, rfl⟩)
          exact ret_tok_ok rfl rfl rfl rfl (heap_alloc_new w _) ⟨rfl, (Below.refl _ _).alloc (Nat.le_refl _) _⟩
        · have h37' : (Wn.hd (Wn.sfx s k) == 37) = false := by simpa using h37
          rw [if_neg h37] at hu
          have h37s : ∀ h : k < s.size, ((s[k].toNat : Int) == 37) = false := fun h => by rw [← Wn.hd_in s k h]; exact h37'
          clear h37 h37'
          cases hnb : Wn.nameBegins (Wn.sfx s k)
          · rw [hnb, if_neg (by decide)] at hu
            have hF : F = k := by rw [← HF.out, hu]; rfl
            subst hF
            have QB := Lib.hid (fun w => Begins_any s F (F : Int) false w hs' (by omega) rfl hnb)
            clear hu HF hnb
            by_cases hlt : F < s.size
            · have h37 := h37s hlt
              clear h37s
              go_wp2_with (first | (go_at_call 97; (with_reducible refine (Q0.out _).mono ?_); rintro e w' ⟨rfl, rfl⟩) | (go_at_call 100; (with_reducible refine (QB.out _).mono ?_); rintro e w' ⟨rfl, rfl⟩))
              exact ret_tok_ok rfl rfl rfl rfl (heap_alloc_new w _) ⟨rfl, (Below.refl _ _).alloc (Nat.le_refl _) _⟩
            · clear h37s
              go_wp2_with (first | (go_at_call 97; (with_reducible refine (Q0.out _).mono ?_); rintro e w' ⟨rfl, rfl⟩) | (go_at_call 100; (with_reducible refine (QB.out _).mono ?_); rintro e w' ⟨rfl, rfl⟩))
              exact ret_tok_ok rfl rfl rfl rfl (heap_alloc_new w _) ⟨rfl, (Below.refl _ _).alloc (Nat.le_refl _) _⟩
          · have hlt : k < s.size := by
              apply Classical.byContradiction; intro h
              rw [Wn.sfx_out s k (by omega)] at hnb; exact absurd hnb (by decide)
            rw [hnb, if_pos rfl] at hu
            have hF : ((k + Wn.runLen Wn.nameByte (Wn.sfx s k) : Nat) : Int) = (F : Int) := by rw [← HF.out, hu]
            have QB := Lib.hid (fun w => Begins_any s k (k : Int) true w hs' (by omega) rfl hnb)
            have QN := Lib.hid (fun w => names_any s k (k : Int) (F : Int) w hs (by omega) rfl hF)
            have h37 := h37s hlt
            clear hu HF hnb hF h37s
            go_wp2_with (first | (go_at_call 97; (with_reducible refine (Q0.out _).mono ?_); rintro e w' ⟨rfl, rfl⟩) | (go_at_call 100; (with_reducible refine (QB.out _).mono ?_); rintro e w' ⟨rfl, rfl⟩) | (go_at_call 99; (with_reducible refine (QN.out _).mono ?_); rintro e w' ⟨rfl, rfl⟩))
            exact ret_tok_ok rfl rfl rfl rfl (heap_alloc_new w _) ⟨rfl, (Below.refl _ _).alloc (Nat.le_refl _) _⟩
      · obtain ⟨hlt, e0⟩ := Wn.runLen_yes hd (by decide)
        have e1 := Wn.numVal_yes n s k hd
        have hdd := Wn.digit_hd hd
        rw [Wn.hd_in s k hlt] at e1 hdd
        obtain ⟨hd1, hd2⟩ := hdd
        have HK2 : Hid (k + 1 + Wn.runLen Wn.digit (Wn.sfx s (k + 1)) = E) := Lib.hid (by rw [← HK.out, e0]; omega)
        have HN2 : Hid (Wn.numVal (min (n * 10 + (s[k].toNat : Int) - 48) 999999999) (Wn.sfx s (k + 1)) = V) := Lib.hid (by rw [← HN.out, e1])
        rw [hd] at hc
        clear e0 e1 hd
        have hw1 : wrap64 (s[k].toNat : Int) = (s[k].toNat : Int) := wrap64_u8 _
        generalize hcc : (s[k].toNat : Int) = c at *
        go_wp2_with (go_at_call 97; (with_reducible refine (Q0.out _).mono ?_); rintro e w' ⟨rfl, rfl⟩)
        have hm : min (10 * n + c - 48) 999999999 = min (n * 10 + c - 48) 999999999 := by omega
        first
          | rw [hm]
          | rw [show (if 999999999 < 10 * n + c - 48 then 999999999 else 10 * n + c - 48) = min (n * 10 + c - 48) 999999999 by split <;> omega]
        exact ⟨⟨k + 1, _, by omega, by omega, by omega, rfl, by go_num, HK2, HN2⟩, by simp [intOf]; omega⟩
end Go.Proofs.YtjlejiphpbaonaaGreatDoor
set_option maxRecDepth 20000
namespace Go.Proofs.YtjlejiphpbaonaaGreatDoor
open Go.RowKit
set_option maxRecDepth 100000 in
set_option maxHeartbeats 2000000 in
theorem rnext_comment (s : ByteArray) (i : Nat) (x : Int) (w : World) (hs : s.size ≤ 4611686018427387000) (hi : i + 1 < s.size) (hx : x = (i : Int)) (E : Nat) (h47 : ((s[i].toNat : Int) == 47) = true) (h42 : ((s[i + 1].toNat : Int) == 42) = true)
    (hE : i + 2 + Wn.closeLen (Wn.sfx s (i + 2)) = E) :
    Calls Tryz.prog 75 #[.string s, .int .i64 x] w fun e w' => e = .returned (.tuple #[.agg #[.int .i64 0, .string ⟨#[]⟩, .int .i64 0], .int .i64 E]) ∧ Below w.heap.size w w' := by
  subst hx
  have QC := Lib.hid (fun w => comment_any s i (i : Int) (E : Int) w hs (by omega) rfl (by rw [hE]))
  clear hE
  go_enter Tryz.func75, Tryz.ntmps75
  go_wp2_with (go_at_call 96; (with_reducible refine (QC.out _).mono ?_); rintro e w' ⟨rfl, rfl⟩)
  exact ret_tok_ok rfl rfl rfl rfl (heap_alloc_new w _) ⟨rfl, (Below.refl _ _).alloc (Nat.le_refl _) _⟩
/-- no comment begins at the place -/
def NoComment (s : ByteArray) (i : Nat) : Prop := (∃ h : i < s.size, ((s[i].toNat : Int) == 47) = false) ∨ (∃ h : i < s.size, ((s[i].toNat : Int) == 47) = true ∧ ¬ i + 1 < s.size) ∨ (∃ h : i + 1 < s.size, ((s[i].toNat : Int) == 47) = true ∧ ((s[i + 1].toNat : Int) == 42) = false)
theorem noComment {s : ByteArray} {i : Nat} (hi : i < s.size) (h : Wn.commentBegins (Wn.sfx s i) = false) : NoComment s i := by
  unfold Wn.commentBegins at h
  rw [Wn.sfx_drop, Wn.hd_in s i hi] at h
  cases h47 : ((s[i].toNat : Int) == 47)
  · exact .inl ⟨hi, h47⟩
  · by_cases hl : i + 1 < s.size
    · rw [h47, Wn.hd_in s (i + 1) hl] at h
      exact .inr (.inr ⟨hl, h47, by simpa using h⟩)
    · exact .inr (.inl ⟨hi, h47, hl⟩)
set_option maxRecDepth 100000 in
set_option maxHeartbeats 2000000 in
theorem rnext_white (s : ByteArray) (i : Nat) (x : Int) (w : World) (hs : s.size ≤ 4611686018427387000) (hi : i < s.size) (hx : x = (i : Int)) (E : Nat) (hb : Wn.blank (Wn.sfx s i) = true)
    (hE : i + Wn.runLen Wn.blank (Wn.sfx s i) = E) :
    Calls Tryz.prog 75 #[.string s, .int .i64 x] w fun e w' => e = .returned (.tuple #[.agg #[.int .i64 8, .string ⟨#[10]⟩, .int .i64 0], .int .i64 E]) ∧ Below w.heap.size w w' := by
  subst hx
  have hs' : s.size ≤ maxLen := by unfold maxLen; omega
  have h47 : ((s[i].toNat : Int) == 47) = false := by
    rw [← Wn.hd_in s i hi]
    unfold Wn.blank Wn.lineEnd at hb
    generalize Wn.hd (Wn.sfx s i) = c at *
    simp only [Bool.or_eq_true, beq_iff_eq] at hb
    simp; omega
  have ha := Wn.cls_four (Wn.sfx s i)
  rw [hb] at ha
  have Q0 := Lib.hid (fun w => at_any s i (i : Int) _ w hs' (by omega) rfl rfl)
  generalize Wn.cls (Wn.sfx s i) = a at *
  have HE := Lib.hid hE
  clear hE hb
  go_enter Tryz.func75, Tryz.ntmps75
  go_wp2_with (go_at_call 97; (with_reducible refine (Q0.out _).mono ?_); rintro e w' ⟨rfl, rfl⟩)
  go_loop [6] (fun v => ∃ k : Nat, k ≤ s.size ∧ v = .int .i64 (k : Int) ∧ Hid (k + Wn.runLen Wn.blank (Wn.sfx s k) = E)) (fun v => s.size - (intOf v).toNat)
  case atStart => exact ⟨i, by omega, rfl, HE⟩
  case round =>
    obtain ⟨k, hk, rfl, HK⟩ := hrel
    have hc := Wn.cls_four (Wn.sfx s k)
    have Q1 := Lib.hid (fun w => at_any s k (k : Int) _ w hs' (by omega) rfl rfl)
    generalize Wn.cls (Wn.sfx s k) = a' at *
    cases hb : Wn.blank (Wn.sfx s k)
    · rw [hb] at hc
      have hkE : k = E := by rw [← HK.out, Wn.runLen_no hb]; rfl
      subst hkE
      clear hb HK
      go_wp2_with (go_at_call 97; (with_reducible refine (Q1.out _).mono ?_); rintro e w' ⟨rfl, rfl⟩)
      exact ret_tok_ok rfl rfl rfl rfl (heap_alloc_new w _) ⟨rfl, (Below.refl _ _).alloc (Nat.le_refl _) _⟩
    · rw [hb] at hc
      obtain ⟨hlt, e0⟩ := Wn.runLen_yes hb (by decide)
      have HK2 : Hid (k + 1 + Wn.runLen Wn.blank (Wn.sfx s (k + 1)) = E) := Lib.hid (by rw [← HK.out, e0]; omega)
      clear e0 hb
      go_wp2_with (go_at_call 97; (with_reducible refine (Q1.out _).mono ?_); rintro e w' ⟨rfl, rfl⟩)
      go_round
      case rel => exact ⟨k + 1, by omega, by go_num, HK2⟩
      case measure => simp [intOf]; omega
set_option maxRecDepth 100000 in
set_option maxHeartbeats 2000000 in
theorem rnext_str (s : ByteArray) (i : Nat) (x : Int) (w : World) (hs : s.size ≤ 4611686018427387000) (hi : i < s.size) (hx : x = (i : Int)) (E : Nat) (hq : Wn.quote (Wn.sfx s i) = true) (k : Nat)
    (hk : Wn.quoteLen (Wn.hd (Wn.sfx s i)) (Wn.sfx s (i + 1)) = some k) (hE : i + 1 + k = E) :
    Calls Tryz.prog 75 #[.string s, .int .i64 x] w fun e w' => e = .returned (.tuple #[.agg #[.int .i64 6, .string (s.extract (i + 1) E), .int .i64 (s[i].toNat : Int)], .int .i64 ((E + 1 : Nat) : Int)]) ∧ Below w.heap.size w w' := by
  subst hx
  have hs' : s.size ≤ maxLen := by unfold maxLen; omega
  have hEs : E < s.size := by have := Wn.quoteLen_lt _ _ _ hk; rw [Wn.sfx_length] at this; omega
  have hEi : i + 1 ≤ E := by omega
  have QI := Lib.hid (fun w => inner_any s i (i : Int) (E : Int) w hs hi rfl hq (by rw [hk, ← hE]; rfl))
  have hqq : (s[i].toNat : Int) = 34 ∨ (s[i].toNat : Int) = 39 := by
    rw [← Wn.hd_in s i hi]; unfold Wn.quote at hq; simpa using hq
  have h47 : ((s[i].toNat : Int) == 47) = false := by rcases hqq with h | h <;> rw [h] <;> rfl
  have hbl : Wn.blank (Wn.sfx s i) = false := by
    unfold Wn.blank Wn.lineEnd; rw [Wn.hd_in s i hi]; rcases hqq with h | h <;> rw [h] <;> rfl
  have ha := Wn.cls_four (Wn.sfx s i)
  rw [hbl] at ha
  have Q0 := Lib.hid (fun w => at_any s i (i : Int) _ w hs' (by omega) rfl rfl)
  generalize Wn.cls (Wn.sfx s i) = a at *
  have hw1 : wrap64 (s[i].toNat : Int) = (s[i].toNat : Int) := wrap64_u8 _
  have hw2 : IntKind.i64.wrap (s[i].toNat : Int) = (s[i].toNat : Int) := IntWalk.i64_in _ (by have := s[i].toNat_lt; omega)
  have hEp : 0 < (E : Int) := by omega
  clear hbl hq hk hE
  rcases hqq with h34 | h39
  · have g34 : ((s[i].toNat : Int) == 34) = true := by rw [h34]; rfl
    clear h34
    go_enter Tryz.func75, Tryz.ntmps75
    go_wp2_with (first | (go_at_call 97; (with_reducible refine (Q0.out _).mono ?_); rintro e w' ⟨rfl, rfl⟩) | (go_at_call 98; (with_reducible refine (QI.out _).mono ?_); rintro e w' ⟨rfl, nd, rfl⟩))
    have hj1 : IntKind.i64.wrap ((i : Int) + 1) = (i : Int) + 1 := IntWalk.i64_in _ (by omega)
    have hj2 : IntKind.i64.wrap ((E : Int) + 1) = (E : Int) + 1 := IntWalk.i64_in _ (by omega)
    go_region_with fail
    all_goals
      go_wp2_with fail
      refine ret_tok_ok rfl rfl rfl rfl (Res.set (by (repeat (first | with_reducible exact res_new _ | (with_reducible refine Res.drewN ?_ _) | (with_reducible refine Res.drew ?_)))) _ _ _) ⟨rfl, ?_⟩
      (repeat (first | with_reducible exact Below.refl _ _ | (with_reducible refine Below.drew ?_) | (with_reducible refine below_drewN' ?_ _) | ((with_reducible refine Below.alloc ?_ ?_ _); rotate_left; (focus (first | omega | (simp <;> omega)))) | ((with_reducible refine Below.set_new ?_ ?_ _ _); rotate_left; (focus (first | omega | (simp <;> omega))))))
  · have g34 : ((s[i].toNat : Int) == 34) = false := by rw [h39]; rfl
    have g39 : ((s[i].toNat : Int) == 39) = true := by rw [h39]; rfl
    clear h39
    go_enter Tryz.func75, Tryz.ntmps75
    go_wp2_with (first | (go_at_call 97; (with_reducible refine (Q0.out _).mono ?_); rintro e w' ⟨rfl, rfl⟩) | (go_at_call 98; (with_reducible refine (QI.out _).mono ?_); rintro e w' ⟨rfl, nd, rfl⟩))
    have hj1 : IntKind.i64.wrap ((i : Int) + 1) = (i : Int) + 1 := IntWalk.i64_in _ (by omega)
    have hj2 : IntKind.i64.wrap ((E : Int) + 1) = (E : Int) + 1 := IntWalk.i64_in _ (by omega)
    go_region_with fail
    all_goals
      go_wp2_with fail
      refine ret_tok_ok rfl rfl rfl rfl (Res.set (by (repeat (first | with_reducible exact res_new _ | (with_reducible refine Res.drewN ?_ _) | (with_reducible refine Res.drew ?_)))) _ _ _) ⟨rfl, ?_⟩
      (repeat (first | with_reducible exact Below.refl _ _ | (with_reducible refine Below.drew ?_) | (with_reducible refine below_drewN' ?_ _) | ((with_reducible refine Below.alloc ?_ ?_ _); rotate_left; (focus (first | omega | (simp <;> omega)))) | ((with_reducible refine Below.set_new ?_ ?_ _ _); rotate_left; (focus (first | omega | (simp <;> omega))))))
set_option maxRecDepth 100000 in
set_option maxHeartbeats 2000000 in
theorem rnext_hash (s : ByteArray) (i : Nat) (x : Int) (w : World) (hs : s.size ≤ 4611686018427387000) (hi : i < s.size) (hx : x = (i : Int)) (E : Nat) (hc : (s[i].toNat : Int) = 35) (hn : Wn.nameByte (Wn.sfx s (i + 1)) = true) (hE : i + 1 + Wn.runLen Wn.nameByte (Wn.sfx s (i + 1)) = E) :
    Calls Tryz.prog 75 #[.string s, .int .i64 x] w fun e w' => e = .returned (.tuple #[.agg #[.int .i64 4, .string (s.extract (i + 1) E), .int .i64 0], .int .i64 E]) ∧ Below w.heap.size w w' := by
  subst hx
  have hs' : s.size ≤ maxLen := by unfold maxLen; omega
  have hbl : Wn.blank (Wn.sfx s i) = false := by
    unfold Wn.blank Wn.lineEnd; rw [Wn.hd_in s i hi, hc]; rfl
  have ha := Wn.cls_four (Wn.sfx s i)
  rw [hbl] at ha
  have Q0 := Lib.hid (fun w => at_any s i (i : Int) _ w hs' (by omega) rfl rfl)
  generalize Wn.cls (Wn.sfx s i) = a at *
  have h47 : ((s[i].toNat : Int) == 47) = false := by rw [hc]; rfl
  have h34 : ((s[i].toNat : Int) == 34) = false := by rw [hc]; rfl
  have h39 : ((s[i].toNat : Int) == 39) = false := by rw [hc]; rfl
  have h35 : ((s[i].toNat : Int) == 35) = true := by rw [hc]; rfl
  have hpos := Wn.runLen_pos hn (by decide)
  have hle := Wn.runLen_le Wn.nameByte (Wn.sfx s (i + 1))
  rw [Wn.sfx_length] at hle
  have hE1 : i + 1 < E := by omega
  have hE2 : E ≤ s.size := by omega
  have QN := Lib.hid (fun x w hx => names_any s (i + 1) x (E : Int) w hs (by omega) hx (by rw [hE]))
  clear hbl hn hE hpos hle hc
  go_enter Tryz.func75, Tryz.ntmps75
  go_wp2_with (first | (go_at_call 97; (with_reducible refine (Q0.out _).mono ?_); rintro e w' ⟨rfl, rfl⟩) | (go_at_call 99; (refine (QN.out _ _ (by omega)).mono ?_); rintro e w' ⟨rfl, rfl⟩))
  exact ret_tok_ok rfl rfl rfl rfl (heap_alloc_new w _) ⟨rfl, (Below.refl _ _).alloc (Nat.le_refl _) _⟩
set_option maxRecDepth 100000 in
set_option maxHeartbeats 2000000 in
theorem rnext_at (s : ByteArray) (i : Nat) (x : Int) (w : World) (hs : s.size ≤ 4611686018427387000) (hi : i < s.size) (hx : x = (i : Int)) (E : Nat) (hc : (s[i].toNat : Int) = 64) (hn : Wn.nameBegins (Wn.sfx s (i + 1)) = true) (hE : i + 1 + Wn.runLen Wn.nameByte (Wn.sfx s (i + 1)) = E) :
    Calls Tryz.prog 75 #[.string s, .int .i64 x] w fun e w' => e = .returned (.tuple #[.agg #[.int .i64 3, .string (s.extract (i + 1) E), .int .i64 0], .int .i64 E]) ∧ Below w.heap.size w w' := by
  subst hx
  have hs' : s.size ≤ maxLen := by unfold maxLen; omega
  have hbl : Wn.blank (Wn.sfx s i) = false := by
    unfold Wn.blank Wn.lineEnd; rw [Wn.hd_in s i hi, hc]; rfl
  have ha := Wn.cls_four (Wn.sfx s i)
  rw [hbl] at ha
  have Q0 := Lib.hid (fun w => at_any s i (i : Int) _ w hs' (by omega) rfl rfl)
  generalize Wn.cls (Wn.sfx s i) = a at *
  have h47 : ((s[i].toNat : Int) == 47) = false := by rw [hc]; rfl
  have h34 : ((s[i].toNat : Int) == 34) = false := by rw [hc]; rfl
  have h39 : ((s[i].toNat : Int) == 39) = false := by rw [hc]; rfl
  have h35 : ((s[i].toNat : Int) == 35) = false := by rw [hc]; rfl
  have h64 : ((s[i].toNat : Int) == 64) = true := by rw [hc]; rfl
  have hle := Wn.runLen_le Wn.nameByte (Wn.sfx s (i + 1))
  rw [Wn.sfx_length] at hle
  have hE1 : i + 1 ≤ E := by omega
  have hE2 : E ≤ s.size := by omega
  have QN := Lib.hid (fun x w hx => names_any s (i + 1) x (E : Int) w hs (by omega) hx (by rw [hE]))
  have QB := Lib.hid (fun x w hx => Begins_any s (i + 1) x true w hs' (by omega) hx hn)
  clear hbl hn hE hle hc
  go_enter Tryz.func75, Tryz.ntmps75
  go_wp2_with (first | (go_at_call 97; (with_reducible refine (Q0.out _).mono ?_); rintro e w' ⟨rfl, rfl⟩) | (go_at_call 99; (refine (QN.out _ _ (by omega)).mono ?_); rintro e w' ⟨rfl, rfl⟩) | (go_at_call 100; (refine (QB.out _ _ (by omega)).mono ?_); rintro e w' ⟨rfl, rfl⟩))
  exact ret_tok_ok rfl rfl rfl rfl (heap_alloc_new w _) ⟨rfl, (Below.refl _ _).alloc (Nat.le_refl _) _⟩
end Go.Proofs.YtjlejiphpbaonaaGreatDoor
