/- The verifier's second writing: the token at a place. -/
import Derived.Test.YtnkdppbpcinjhaaDoorRefD
import Derived.Test.YtnkdppbpcinjhaaDoorTokMa
set_option maxRecDepth 20000
namespace Go.Proofs.YtnkdppbpcinjhaaDoor
open Go.RowKit
set_option maxRecDepth 100000 in
set_option maxHeartbeats 2000000 in
theorem rnext_comment (s : ByteArray) (i : Nat) (x : Int) (w : World) (hs : s.size ≤ 4611686018427387000) (hi : i + 1 < s.size) (hx : x = (i : Int)) (E : Nat) (h47 : ((s[i].toNat : Int) == 47) = true) (h42 : ((s[i + 1].toNat : Int) == 42) = true)
    (hE : i + 2 + Wn.closeLen (Wn.sfx s (i + 2)) = E) :
    Calls Tryd.prog 41 #[.string s, .int .i64 x] w fun e w' => e = .returned (.tuple #[.agg #[.int .i64 0, .string ⟨#[]⟩, .int .i64 0], .int .i64 E]) ∧ Below w.heap.size w w' := by
  subst hx
  have QC := Lib.hid (fun w => comment_any s i (i : Int) (E : Int) w hs (by omega) rfl (by rw [hE]))
  clear hE
  go_enter Tryd.func41, Tryd.ntmps41
  go_wp2_with (go_at_call 75; (with_reducible refine (QC.out _).mono ?_); rintro e w' ⟨rfl, rfl⟩)
  exact ret_tok_ok rfl rfl rfl rfl (heap_alloc_new w _) ⟨rfl, (Below.refl _ _).alloc (Nat.le_refl _) _⟩
/-- no comment begins at the place -/
def NoComment (s : ByteArray) (i : Nat) : Prop := (∃ h : i < s.size, ((s[i].toNat : Int) == 47) = false) ∨ (∃ h : i < s.size, ((s[i].toNat : Int) == 47) = true ∧ ¬ i + 1 < s.size) ∨ (∃ h : i + 1 < s.size, ((s[i].toNat : Int) == 47) = true ∧ ((s[i + 1].toNat : Int) == 42) = false)
theorem noComment {s : ByteArray} {i : Nat} (hi : i < s.size) (h : Wn.commentBegins (Wn.sfx s i) = false) : NoComment s i := by
  unfold Wn.commentBegins at h
  rw [Wn.sfx_drop, Wn.hd_in s i hi] at h
  cases h47 : ((s[i].toNat : Int) == 47)
  · exact .inl ⟨hi, h47⟩
  · by_cases hl : i + 1 < s.size
    · rw [h47, Wn.hd_in s (i + 1) hl] at h
      exact .inr (.inr ⟨hl, h47, by simpa using h⟩)
    · exact .inr (.inl ⟨hi, h47, hl⟩)
set_option maxRecDepth 100000 in
set_option maxHeartbeats 2000000 in
theorem rnext_white (s : ByteArray) (i : Nat) (x : Int) (w : World) (hs : s.size ≤ 4611686018427387000) (hi : i < s.size) (hx : x = (i : Int)) (E : Nat) (hb : Wn.blank (Wn.sfx s i) = true)
    (hE : i + Wn.runLen Wn.blank (Wn.sfx s i) = E) :
    Calls Tryd.prog 41 #[.string s, .int .i64 x] w fun e w' => e = .returned (.tuple #[.agg #[.int .i64 8, .string ⟨#[10]⟩, .int .i64 0], .int .i64 E]) ∧ Below w.heap.size w w' := by
  subst hx
  have hs' : s.size ≤ maxLen := by unfold maxLen; omega
  have h47 : ((s[i].toNat : Int) == 47) = false := by
    rw [← Wn.hd_in s i hi]
    unfold Wn.blank Wn.lineEnd at hb
    generalize Wn.hd (Wn.sfx s i) = c at *
    simp only [Bool.or_eq_true, beq_iff_eq] at hb
    simp; omega
  have ha := Wn.cls_four (Wn.sfx s i)
  rw [hb] at ha
  have Q0 := Lib.hid (fun w => at_any s i (i : Int) _ w hs' (by omega) rfl rfl)
  generalize Wn.cls (Wn.sfx s i) = a at *
  have HE := Lib.hid hE
  clear hE hb
  go_enter Tryd.func41, Tryd.ntmps41
  go_wp2_with (go_at_call 76; (with_reducible refine (Q0.out _).mono ?_); rintro e w' ⟨rfl, rfl⟩)
  go_loop [6] (fun v => ∃ k : Nat, k ≤ s.size ∧ v = .int .i64 (k : Int) ∧ Hid (k + Wn.runLen Wn.blank (Wn.sfx s k) = E)) (fun v => s.size - (intOf v).toNat)
  case atStart => exact ⟨i, by omega, rfl, HE⟩
  case round =>
    obtain ⟨k, hk, rfl, HK⟩ := hrel
    have hc := Wn.cls_four (Wn.sfx s k)
    have Q1 := Lib.hid (fun w => at_any s k (k : Int) _ w hs' (by omega) rfl rfl)
    generalize Wn.cls (Wn.sfx s k) = a' at *
    cases hb : Wn.blank (Wn.sfx s k)
    · rw [hb] at hc
      have hkE : k = E := by rw [← HK.out, Wn.runLen_no hb]; rfl
      subst hkE
      clear hb HK
      go_wp2_with (go_at_call 76; (with_reducible refine (Q1.out _).mono ?_); rintro e w' ⟨rfl, rfl⟩)
      exact ret_tok_ok rfl rfl rfl rfl (heap_alloc_new w _) ⟨rfl, (Below.refl _ _).alloc (Nat.le_refl _) _⟩
    · rw [hb] at hc
      obtain ⟨hlt, e0⟩ := Wn.runLen_yes hb (by decide)
      have HK2 : Hid (k + 1 + Wn.runLen Wn.blank (Wn.sfx s (k + 1)) = E) := Lib.hid (by rw [← HK.out, e0]; omega)
      clear e0 hb
      go_wp2_with (go_at_call 76; (with_reducible refine (Q1.out _).mono ?_); rintro e w' ⟨rfl, rfl⟩)
      go_round
      case rel => exact ⟨k + 1, by omega, by go_num, HK2⟩
      case measure => simp [intOf]; omega
set_option maxRecDepth 100000 in
set_option maxHeartbeats 2000000 in
theorem rnext_str (s : ByteArray) (i : Nat) (x : Int) (w : World) (hs : s.size ≤ 4611686018427387000) (hi : i < s.size) (hx : x = (i : Int)) (E : Nat) (hq : Wn.quote (Wn.sfx s i) = true) (k : Nat)
    (hk : Wn.quoteLen (Wn.hd (Wn.sfx s i)) (Wn.sfx s (i + 1)) = some k) (hE : i + 1 + k = E) :
    Calls Tryd.prog 41 #[.string s, .int .i64 x] w fun e w' => e = .returned (.tuple #[.agg #[.int .i64 6, .string (s.extract (i + 1) E), .int .i64 (s[i].toNat : Int)], .int .i64 ((E + 1 : Nat) : Int)]) ∧ Below w.heap.size w w' := by
  subst hx
  have hs' : s.size ≤ maxLen := by unfold maxLen; omega
  have hEs : E < s.size := by have := Wn.quoteLen_lt _ _ _ hk; rw [Wn.sfx_length] at this; omega
  have hEi : i + 1 ≤ E := by omega
  have QI := Lib.hid (fun w => inner_any s i (i : Int) (E : Int) w hs hi rfl hq (by rw [hk, ← hE]; rfl))
  have hqq : (s[i].toNat : Int) = 34 ∨ (s[i].toNat : Int) = 39 := by
    rw [← Wn.hd_in s i hi]; unfold Wn.quote at hq; simpa using hq
  have h47 : ((s[i].toNat : Int) == 47) = false := by rcases hqq with h | h <;> rw [h] <;> rfl
  have hbl : Wn.blank (Wn.sfx s i) = false := by
    unfold Wn.blank Wn.lineEnd; rw [Wn.hd_in s i hi]; rcases hqq with h | h <;> rw [h] <;> rfl
  have ha := Wn.cls_four (Wn.sfx s i)
  rw [hbl] at ha
  have Q0 := Lib.hid (fun w => at_any s i (i : Int) _ w hs' (by omega) rfl rfl)
  generalize Wn.cls (Wn.sfx s i) = a at *
  have hw1 : wrap64 (s[i].toNat : Int) = (s[i].toNat : Int) := wrap64_u8 _
  have hw2 : IntKind.i64.wrap (s[i].toNat : Int) = (s[i].toNat : Int) := IntWalk.i64_in _ (by have := s[i].toNat_lt; omega)
  have hEp : 0 < (E : Int) := by omega
  clear hbl hq hk hE
  rcases hqq with h34 | h39
  · have g34 : ((s[i].toNat : Int) == 34) = true := by rw [h34]; rfl
    clear h34
    go_enter Tryd.func41, Tryd.ntmps41
    go_wp2_with (first | (go_at_call 76; (with_reducible refine (Q0.out _).mono ?_); rintro e w' ⟨rfl, rfl⟩) | (go_at_call 77; (with_reducible refine (QI.out _).mono ?_); rintro e w' ⟨rfl, nd, rfl⟩))
    have hj1 : IntKind.i64.wrap ((i : Int) + 1) = (i : Int) + 1 := IntWalk.i64_in _ (by omega)
    have hj2 : IntKind.i64.wrap ((E : Int) + 1) = (E : Int) + 1 := IntWalk.i64_in _ (by omega)
    go_region_with fail
    all_goals
      go_wp2_with fail
      refine ret_tok_ok rfl rfl rfl rfl (Res.set (by (repeat (first | with_reducible exact res_new _ | (with_reducible refine Res.drewN ?_ _) | (with_reducible refine Res.drew ?_)))) _ _ _) ⟨rfl, ?_⟩
      (repeat (first | with_reducible exact Below.refl _ _ | (with_reducible refine Below.drew ?_) | (with_reducible refine below_drewN' ?_ _) | ((with_reducible refine Below.alloc ?_ ?_ _); rotate_left; (focus (first | omega | (simp <;> omega)))) | ((with_reducible refine Below.set_new ?_ ?_ _ _); rotate_left; (focus (first | omega | (simp <;> omega))))))
  · have g34 : ((s[i].toNat : Int) == 34) = false := by rw [h39]; rfl
    have g39 : ((s[i].toNat : Int) == 39) = true := by rw [h39]; rfl
    clear h39
    go_enter Tryd.func41, Tryd.ntmps41
    go_wp2_with (first | (go_at_call 76; (with_reducible refine (Q0.out _).mono ?_); rintro e w' ⟨rfl, rfl⟩) | (go_at_call 77; (with_reducible refine (QI.out _).mono ?_); rintro e w' ⟨rfl, nd, rfl⟩))
    have hj1 : IntKind.i64.wrap ((i : Int) + 1) = (i : Int) + 1 := IntWalk.i64_in _ (by omega)
    have hj2 : IntKind.i64.wrap ((E : Int) + 1) = (E : Int) + 1 := IntWalk.i64_in _ (by omega)
    go_region_with fail
    all_goals
      go_wp2_with fail
      refine ret_tok_ok rfl rfl rfl rfl (Res.set (by (repeat (first | with_reducible exact res_new _ | (with_reducible refine Res.drewN ?_ _) | (with_reducible refine Res.drew ?_)))) _ _ _) ⟨rfl, ?_⟩
      (repeat (first | with_reducible exact Below.refl _ _ | (with_reducible refine Below.drew ?_) | (with_reducible refine below_drewN' ?_ _) | ((with_reducible refine Below.alloc ?_ ?_ _); rotate_left; (focus (first | omega | (simp <;> omega)))) | ((with_reducible refine Below.set_new ?_ ?_ _ _); rotate_left; (focus (first | omega | (simp <;> omega))))))
set_option maxRecDepth 100000 in
set_option maxHeartbeats 2000000 in
theorem rnext_hash (s : ByteArray) (i : Nat) (x : Int) (w : World) (hs : s.size ≤ 4611686018427387000) (hi : i < s.size) (hx : x = (i : Int)) (E : Nat) (hc : (s[i].toNat : Int) = 35) (hn : Wn.nameByte (Wn.sfx s (i + 1)) = true) (hE : i + 1 + Wn.runLen Wn.nameByte (Wn.sfx s (i + 1)) = E) :
    Calls Tryd.prog 41 #[.string s, .int .i64 x] w fun e w' => e = .returned (.tuple #[.agg #[.int .i64 4, .string (s.extract (i + 1) E), .int .i64 0], .int .i64 E]) ∧ Below w.heap.size w w' := by
  subst hx
  have hs' : s.size ≤ maxLen := by unfold maxLen; omega
  have hbl : Wn.blank (Wn.sfx s i) = false := by
    unfold Wn.blank Wn.lineEnd; rw [Wn.hd_in s i hi, hc]; rfl
  have ha := Wn.cls_four (Wn.sfx s i)
  rw [hbl] at ha
  have Q0 := Lib.hid (fun w => at_any s i (i : Int) _ w hs' (by omega) rfl rfl)
  generalize Wn.cls (Wn.sfx s i) = a at *
  have h47 : ((s[i].toNat : Int) == 47) = false := by rw [hc]; rfl
  have h34 : ((s[i].toNat : Int) == 34) = false := by rw [hc]; rfl
  have h39 : ((s[i].toNat : Int) == 39) = false := by rw [hc]; rfl
  have h35 : ((s[i].toNat : Int) == 35) = true := by rw [hc]; rfl
  have hpos := Wn.runLen_pos hn (by decide)
  have hle := Wn.runLen_le Wn.nameByte (Wn.sfx s (i + 1))
  rw [Wn.sfx_length] at hle
  have hE1 : i + 1 < E := by omega
  have hE2 : E ≤ s.size := by omega
  have QN := Lib.hid (fun x w hx => names_any s (i + 1) x (E : Int) w hs (by omega) hx (by rw [hE]))
  clear hbl hn hE hpos hle hc
  go_enter Tryd.func41, Tryd.ntmps41
  go_wp2_with (first | (go_at_call 76; (with_reducible refine (Q0.out _).mono ?_); rintro e w' ⟨rfl, rfl⟩) | (go_at_call 78; (refine (QN.out _ _ (by omega)).mono ?_); rintro e w' ⟨rfl, rfl⟩))
  exact ret_tok_ok rfl rfl rfl rfl (heap_alloc_new w _) ⟨rfl, (Below.refl _ _).alloc (Nat.le_refl _) _⟩
set_option maxRecDepth 100000 in
set_option maxHeartbeats 2000000 in
theorem rnext_at (s : ByteArray) (i : Nat) (x : Int) (w : World) (hs : s.size ≤ 4611686018427387000) (hi : i < s.size) (hx : x = (i : Int)) (E : Nat) (hc : (s[i].toNat : Int) = 64) (hn : Wn.nameBegins (Wn.sfx s (i + 1)) = true) (hE : i + 1 + Wn.runLen Wn.nameByte (Wn.sfx s (i + 1)) = E) :
    Calls Tryd.prog 41 #[.string s, .int .i64 x] w fun e w' => e = .returned (.tuple #[.agg #[.int .i64 3, .string (s.extract (i + 1) E), .int .i64 0], .int .i64 E]) ∧ Below w.heap.size w w' := by
  subst hx
  have hs' : s.size ≤ maxLen := by unfold maxLen; omega
  have hbl : Wn.blank (Wn.sfx s i) = false := by
    unfold Wn.blank Wn.lineEnd; rw [Wn.hd_in s i hi, hc]; rfl
  have ha := Wn.cls_four (Wn.sfx s i)
  rw [hbl] at ha
  have Q0 := Lib.hid (fun w => at_any s i (i : Int) _ w hs' (by omega) rfl rfl)
  generalize Wn.cls (Wn.sfx s i) = a at *
  have h47 : ((s[i].toNat : Int) == 47) = false := by rw [hc]; rfl
  have h34 : ((s[i].toNat : Int) == 34) = false := by rw [hc]; rfl
  have h39 : ((s[i].toNat : Int) == 39) = false := by rw [hc]; rfl
  have h35 : ((s[i].toNat : Int) == 35) = false := by rw [hc]; rfl
  have h64 : ((s[i].toNat : Int) == 64) = true := by rw [hc]; rfl
  have hle := Wn.runLen_le Wn.nameByte (Wn.sfx s (i + 1))
  rw [Wn.sfx_length] at hle
  have hE1 : i + 1 ≤ E := by omega
  have hE2 : E ≤ s.size := by omega
  have QN := Lib.hid (fun x w hx => names_any s (i + 1) x (E : Int) w hs (by omega) hx (by rw [hE]))
  have QB := Lib.hid (fun x w hx => Begins_any s (i + 1) x true w hs' (by omega) hx hn)
  clear hbl hn hE hle hc
  go_enter Tryd.func41, Tryd.ntmps41
  go_wp2_with (first | (go_at_call 76; (with_reducible refine (Q0.out _).mono ?_); rintro e w' ⟨rfl, rfl⟩) | (go_at_call 78; (refine (QN.out _ _ (by omega)).mono ?_); rintro e w' ⟨rfl, rfl⟩) | (go_at_call 79; (refine (QB.out _ _ (by omega)).mono ?_); rintro e w' ⟨rfl, rfl⟩))
  exact ret_tok_ok rfl rfl rfl rfl (heap_alloc_new w _) ⟨rfl, (Below.refl _ _).alloc (Nat.le_refl _) _⟩
end Go.Proofs.YtnkdppbpcinjhaaDoor
