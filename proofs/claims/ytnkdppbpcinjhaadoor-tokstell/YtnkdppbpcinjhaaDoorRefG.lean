/- The verifier's second writing: the token at a place that begins no other one. -/
import Derived.Test.YtnkdppbpcinjhaaDoorRefF
set_option maxRecDepth 20000
namespace Go.Proofs.YtnkdppbpcinjhaaDoor
open Go.RowKit
set_option maxRecDepth 100000 in
set_option maxHeartbeats 4000000 in
theorem rnext_delim (s : ByteArray) (i : Nat) (x : Int) (w : World) (hs : s.size ≤ 4611686018427387000) (hi : i < s.size) (hx : x = (i : Int)) (hcm : Wn.commentBegins (Wn.sfx s i) = false) (hbl : Wn.blank (Wn.sfx s i) = false)
    (hst : Wn.strLen (Wn.sfx s i) = none) (h35n : Wn.hd (Wn.sfx s i) = 35 → Wn.nameByte (Wn.sfx s (i + 1)) = false) (h64n : Wn.hd (Wn.sfx s i) = 64 → Wn.nameBegins (Wn.sfx s (i + 1)) = false)
    (hnum : Wn.numberBegins (Wn.sfx s i) = false) (hnb : Wn.nameBegins (Wn.sfx s i) = false) :
    Calls Tryd.prog 41 #[.string s, .int .i64 x] w fun e w' => e = .returned (.tuple #[.agg #[.int .i64 7, .string (s.extract i (i + 1)), .int .i64 0], .int .i64 ((i : Int) + 1)]) ∧ Below w.heap.size w w' := by
  subst hx
  have hs' : s.size ≤ maxLen := by unfold maxLen; omega
  have NC := noComment hi hcm
  have QB := Lib.hid (fun w => Begins_any s i (i : Int) false w hs' (by omega) rfl hnb)
  have ha := Wn.cls_four (Wn.sfx s i)
  rw [hbl] at ha
  unfold Wn.numberBegins at hnum
  rw [Wn.sfx_drop, Wn.hd_in s i hi] at hnum
  rw [Wn.hd_in s i hi] at h35n h64n
  have ha2 := Wn.cls_two (Wn.sfx s i)
  have hb2 := Wn.cls_two (Wn.sfx s (i + 1))
  have hd0 : Wn.digit (Wn.sfx s i) = false := by cases h : Wn.digit (Wn.sfx s i); rfl; rw [h] at hnum; simp at hnum
  rw [hd0] at ha2 hnum
  have Q0 := Lib.hid (fun w => at_any s i (i : Int) _ w hs' (by omega) rfl rfl)
  have Q1 := Lib.hid (fun x w hx => at_any s (i + 1) x _ w hs' (by omega) hx rfl)
  generalize Wn.cls (Wn.sfx s i) = a at *
  generalize Wn.cls (Wn.sfx s (i + 1)) = a1 at *
  rw [← hb2] at hnum
  have HST := Lib.hid hst
  clear hbl hb2 hd0 hnb hcm hst
  by_cases hc : (s[i].toNat : Int) = 47
  · clear h35n h64n hnum
    have h47 : ((s[i].toNat : Int) == 47) = true := by rw [hc]; rfl
    have h34 : ((s[i].toNat : Int) == 34) = false := by rw [hc]; rfl
    have h39 : ((s[i].toNat : Int) == 39) = false := by rw [hc]; rfl
    have h35 : ((s[i].toNat : Int) == 35) = false := by rw [hc]; rfl
    have h64 : ((s[i].toNat : Int) == 64) = false := by rw [hc]; rfl
    have h45 : ((s[i].toNat : Int) == 45) = false := by rw [hc]; rfl
    rcases NC with ⟨_, h⟩ | ⟨_, _, hl⟩ | ⟨hl, _, h42⟩
    · rw [h47] at h; cases h
    · clear hc
      go_enter Tryd.func41, Tryd.ntmps41
      go_wp2_with (first | (go_at_call 76; (with_reducible refine (Q0.out _).mono ?_); rintro e w' ⟨rfl, rfl⟩) | (go_at_call 76; (refine (Q1.out _ _ (by omega)).mono ?_); rintro e w' ⟨rfl, rfl⟩) | (go_at_call 79; (with_reducible refine (QB.out _).mono ?_); rintro e w' ⟨rfl, rfl⟩))
      exact ret_tok_ok rfl rfl rfl rfl (heap_alloc_new w _) ⟨rfl, (Below.refl _ _).alloc (Nat.le_refl _) _⟩
    · clear hc
      go_enter Tryd.func41, Tryd.ntmps41
      go_wp2_with (first | (go_at_call 76; (with_reducible refine (Q0.out _).mono ?_); rintro e w' ⟨rfl, rfl⟩) | (go_at_call 76; (refine (Q1.out _ _ (by omega)).mono ?_); rintro e w' ⟨rfl, rfl⟩) | (go_at_call 79; (with_reducible refine (QB.out _).mono ?_); rintro e w' ⟨rfl, rfl⟩))
      exact ret_tok_ok rfl rfl rfl rfl (heap_alloc_new w _) ⟨rfl, (Below.refl _ _).alloc (Nat.le_refl _) _⟩
  clear NC
  by_cases hc34 : (s[i].toNat : Int) = 34
  · have hc := hc34
    clear h35n h64n hnum
    have hq : Wn.quote (Wn.sfx s i) = true := by unfold Wn.quote; rw [Wn.hd_in s i hi, hc]; rfl
    have hqn : Wn.quoteLen (Wn.hd (Wn.sfx s i)) (Wn.sfx s (i + 1)) = none := by have := HST.out; unfold Wn.strLen at this; rw [hq, if_pos rfl, Wn.sfx_drop] at this; exact this
    have QI := Lib.hid (fun w => inner_any s i (i : Int) (-1) w hs hi rfl hq (by rw [hqn]; rfl))
    clear hq hqn
    have h47 : ((s[i].toNat : Int) == 47) = false := by rw [hc]; rfl
    have h34 : ((s[i].toNat : Int) == 34) = true := by rw [hc]; rfl
    have h39 : ((s[i].toNat : Int) == 39) = false := by rw [hc]; rfl
    have h35 : ((s[i].toNat : Int) == 35) = false := by rw [hc]; rfl
    have h64 : ((s[i].toNat : Int) == 64) = false := by rw [hc]; rfl
    have h45 : ((s[i].toNat : Int) == 45) = false := by rw [hc]; rfl
    clear hc hc34
    go_enter Tryd.func41, Tryd.ntmps41
    go_wp2_with (first | (go_at_call 76; (with_reducible refine (Q0.out _).mono ?_); rintro e w' ⟨rfl, rfl⟩) | (go_at_call 76; (refine (Q1.out _ _ (by omega)).mono ?_); rintro e w' ⟨rfl, rfl⟩) | (go_at_call 79; (with_reducible refine (QB.out _).mono ?_); rintro e w' ⟨rfl, rfl⟩) | (go_at_call 77; (with_reducible refine (QI.out _).mono ?_); rintro e w' ⟨rfl, nd, rfl⟩))
    refine ret_tok_ok rfl rfl rfl rfl (Res.set (by (repeat (first | with_reducible exact res_new _ | (with_reducible refine Res.drewN ?_ _) | (with_reducible refine Res.drew ?_)))) _ _ _) ⟨rfl, ?_⟩
    (repeat (first | with_reducible exact Below.refl _ _ | (with_reducible refine Below.drew ?_) | (with_reducible refine below_drewN' ?_ _) | ((with_reducible refine Below.alloc ?_ ?_ _); rotate_left; (focus (first | omega | (simp <;> omega)))) | ((with_reducible refine Below.set_new ?_ ?_ _ _); rotate_left; (focus (first | omega | (simp <;> omega))))))
  by_cases hc39 : (s[i].toNat : Int) = 39
  · have hc := hc39
    clear h35n h64n hnum
    have hq : Wn.quote (Wn.sfx s i) = true := by unfold Wn.quote; rw [Wn.hd_in s i hi, hc]; rfl
    have hqn : Wn.quoteLen (Wn.hd (Wn.sfx s i)) (Wn.sfx s (i + 1)) = none := by have := HST.out; unfold Wn.strLen at this; rw [hq, if_pos rfl, Wn.sfx_drop] at this; exact this
    have QI := Lib.hid (fun w => inner_any s i (i : Int) (-1) w hs hi rfl hq (by rw [hqn]; rfl))
    clear hq hqn
    have h47 : ((s[i].toNat : Int) == 47) = false := by rw [hc]; rfl
    have h34 : ((s[i].toNat : Int) == 34) = false := by rw [hc]; rfl
    have h39 : ((s[i].toNat : Int) == 39) = true := by rw [hc]; rfl
    have h35 : ((s[i].toNat : Int) == 35) = false := by rw [hc]; rfl
    have h64 : ((s[i].toNat : Int) == 64) = false := by rw [hc]; rfl
    have h45 : ((s[i].toNat : Int) == 45) = false := by rw [hc]; rfl
    clear hc hc39 hc34
    go_enter Tryd.func41, Tryd.ntmps41
    go_wp2_with (first | (go_at_call 76; (with_reducible refine (Q0.out _).mono ?_); rintro e w' ⟨rfl, rfl⟩) | (go_at_call 76; (refine (Q1.out _ _ (by omega)).mono ?_); rintro e w' ⟨rfl, rfl⟩) | (go_at_call 79; (with_reducible refine (QB.out _).mono ?_); rintro e w' ⟨rfl, rfl⟩) | (go_at_call 77; (with_reducible refine (QI.out _).mono ?_); rintro e w' ⟨rfl, nd, rfl⟩))
    refine ret_tok_ok rfl rfl rfl rfl (Res.set (by (repeat (first | with_reducible exact res_new _ | (with_reducible refine Res.drewN ?_ _) | (with_reducible refine Res.drew ?_)))) _ _ _) ⟨rfl, ?_⟩
    (repeat (first | with_reducible exact Below.refl _ _ | (with_reducible refine Below.drew ?_) | (with_reducible refine below_drewN' ?_ _) | ((with_reducible refine Below.alloc ?_ ?_ _); rotate_left; (focus (first | omega | (simp <;> omega)))) | ((with_reducible refine Below.set_new ?_ ?_ _ _); rotate_left; (focus (first | omega | (simp <;> omega))))))
  by_cases hc35 : (s[i].toNat : Int) = 35
  · have hc := hc35
    have hn := h35n hc
    have QN := Lib.hid (fun x w hx => names_any s (i + 1) x ((i : Int) + 1) w hs (by omega) hx (by rw [Wn.runLen_no hn]; simp))
    clear h35n h64n hnum hn
    have h47 : ((s[i].toNat : Int) == 47) = false := by rw [hc]; rfl
    have h34 : ((s[i].toNat : Int) == 34) = false := by rw [hc]; rfl
    have h39 : ((s[i].toNat : Int) == 39) = false := by rw [hc]; rfl
    have h35 : ((s[i].toNat : Int) == 35) = true := by rw [hc]; rfl
    have h64 : ((s[i].toNat : Int) == 64) = false := by rw [hc]; rfl
    have h45 : ((s[i].toNat : Int) == 45) = false := by rw [hc]; rfl
    clear hc hc35 hc34 hc39
    go_enter Tryd.func41, Tryd.ntmps41
    go_wp2_with (first | (go_at_call 76; (with_reducible refine (Q0.out _).mono ?_); rintro e w' ⟨rfl, rfl⟩) | (go_at_call 76; (refine (Q1.out _ _ (by omega)).mono ?_); rintro e w' ⟨rfl, rfl⟩) | (go_at_call 79; (with_reducible refine (QB.out _).mono ?_); rintro e w' ⟨rfl, rfl⟩) | (go_at_call 78; (refine (QN.out _ _ (by omega)).mono ?_); rintro e w' ⟨rfl, rfl⟩))
    exact ret_tok_ok rfl rfl rfl rfl (heap_alloc_new w _) ⟨rfl, (Below.refl _ _).alloc (Nat.le_refl _) _⟩
  by_cases hc64 : (s[i].toNat : Int) = 64
  · have hc := hc64
    have QB1 := Lib.hid (fun x w hx => Begins_any s (i + 1) x false w hs' (by omega) hx (h64n hc))
    clear h35n h64n hnum
    have h47 : ((s[i].toNat : Int) == 47) = false := by rw [hc]; rfl
    have h34 : ((s[i].toNat : Int) == 34) = false := by rw [hc]; rfl
    have h39 : ((s[i].toNat : Int) == 39) = false := by rw [hc]; rfl
    have h35 : ((s[i].toNat : Int) == 35) = false := by rw [hc]; rfl
    have h64 : ((s[i].toNat : Int) == 64) = true := by rw [hc]; rfl
    have h45 : ((s[i].toNat : Int) == 45) = false := by rw [hc]; rfl
    clear hc hc64 hc34 hc39 hc35
    go_enter Tryd.func41, Tryd.ntmps41
    go_wp2_with (first | (go_at_call 76; (with_reducible refine (Q0.out _).mono ?_); rintro e w' ⟨rfl, rfl⟩) | (go_at_call 76; (refine (Q1.out _ _ (by omega)).mono ?_); rintro e w' ⟨rfl, rfl⟩) | (go_at_call 79; (with_reducible refine (QB.out _).mono ?_); rintro e w' ⟨rfl, rfl⟩) | (go_at_call 79; (refine (QB1.out _ _ (by omega)).mono ?_); rintro e w' ⟨rfl, rfl⟩))
    exact ret_tok_ok rfl rfl rfl rfl (heap_alloc_new w _) ⟨rfl, (Below.refl _ _).alloc (Nat.le_refl _) _⟩
  clear h35n h64n
  by_cases hc45 : (s[i].toNat : Int) = 45
  · have hc := hc45
    have h47 : ((s[i].toNat : Int) == 47) = false := by rw [hc]; rfl
    have h34 : ((s[i].toNat : Int) == 34) = false := by rw [hc]; rfl
    have h39 : ((s[i].toNat : Int) == 39) = false := by rw [hc]; rfl
    have h35 : ((s[i].toNat : Int) == 35) = false := by rw [hc]; rfl
    have h64 : ((s[i].toNat : Int) == 64) = false := by rw [hc]; rfl
    have h45 : ((s[i].toNat : Int) == 45) = true := by rw [hc]; rfl
    have h1 : (a1 == 2) = false := by rw [h45] at hnum; simpa using hnum
    clear hc hc45 hc64 hc34 hc39 hc35 hnum
    go_enter Tryd.func41, Tryd.ntmps41
    go_wp2_with (first | (go_at_call 76; (with_reducible refine (Q0.out _).mono ?_); rintro e w' ⟨rfl, rfl⟩) | (go_at_call 76; (refine (Q1.out _ _ (by omega)).mono ?_); rintro e w' ⟨rfl, rfl⟩) | (go_at_call 79; (with_reducible refine (QB.out _).mono ?_); rintro e w' ⟨rfl, rfl⟩))
    exact ret_tok_ok rfl rfl rfl rfl (heap_alloc_new w _) ⟨rfl, (Below.refl _ _).alloc (Nat.le_refl _) _⟩
  · have h47 : ((s[i].toNat : Int) == 47) = false := by simpa using hc
    have h34 : ((s[i].toNat : Int) == 34) = false := by simpa using hc34
    have h39 : ((s[i].toNat : Int) == 39) = false := by simpa using hc39
    have h35 : ((s[i].toNat : Int) == 35) = false := by simpa using hc35
    have h64 : ((s[i].toNat : Int) == 64) = false := by simpa using hc64
    have h45 : ((s[i].toNat : Int) == 45) = false := by simpa using hc45
    clear hc hc45 hc64 hc34 hc39 hc35 hnum
    go_enter Tryd.func41, Tryd.ntmps41
    go_wp2_with (first | (go_at_call 76; (with_reducible refine (Q0.out _).mono ?_); rintro e w' ⟨rfl, rfl⟩) | (go_at_call 76; (refine (Q1.out _ _ (by omega)).mono ?_); rintro e w' ⟨rfl, rfl⟩) | (go_at_call 79; (with_reducible refine (QB.out _).mono ?_); rintro e w' ⟨rfl, rfl⟩))
    exact ret_tok_ok rfl rfl rfl rfl (heap_alloc_new w _) ⟨rfl, (Below.refl _ _).alloc (Nat.le_refl _) _⟩
end Go.Proofs.YtnkdppbpcinjhaaDoor
