/- The verifier's second writing: the token at a place: numbers, words, delimiters. The verifier's second writing: the token at a place that begins no other one. The verifier's second writing: the token at a place is the one that the mathematics names. -/
import Derived.Test.YtjlejiphpbaonaaGreatDoorGJ
set_option maxRecDepth 20000
namespace Go.Proofs.YtjlejiphpbaonaaGreatDoor
open Go.RowKit
theorem Res.below {r : Nat} {w w' : World} (h : Res w r) (hb : Below w.heap.size w w') : Res w' r := by
  obtain ⟨x, y, z, e⟩ := h.at_
  exact ⟨x, y, z, by rw [hb.block r (Array.getElem?_eq_some_iff.1 e).1, e]⟩
theorem head_facts {s : ByteArray} {i : Nat} (hi : i < s.size) (h : Wn.nameByte (Wn.sfx s i) = true) :
    ((s[i].toNat : Int) == 47) = false ∧ ((s[i].toNat : Int) == 34) = false ∧ ((s[i].toNat : Int) == 39) = false ∧ ((s[i].toNat : Int) == 35) = false ∧ ((s[i].toNat : Int) == 64) = false ∧ Wn.blank (Wn.sfx s i) = false := by
  unfold Wn.nameByte Wn.nameStart Wn.digit at h
  unfold Wn.blank Wn.lineEnd
  rw [Wn.hd_in s i hi] at h ⊢
  generalize (s[i].toNat : Int) = c at *
  simp only [Bool.or_eq_true, Bool.and_eq_true, decide_eq_true_eq, beq_iff_eq] at h
  simp
  omega
set_option maxRecDepth 100000 in
set_option maxHeartbeats 2000000 in
theorem rnext_num (s : ByteArray) (i : Nat) (x : Int) (w : World) (hs : s.size ≤ 4611686018427387000) (hi : i < s.size) (hx : x = (i : Int)) (neg : Bool) (hneg : ((s[i].toNat : Int) == 45) = neg) (b0 E F : Nat) (V : Int)
    (hb0 : b0 = if neg then i + 1 else i) (hE : b0 + Wn.runLen Wn.digit (Wn.sfx s b0) = E) (hV : Wn.numVal 0 (Wn.sfx s b0) = V) (hF : E + Wn.unitLen (Wn.sfx s E) = F) (hd : Wn.digit (Wn.sfx s b0) = true) :
    Calls Tryz.prog 75 #[.string s, .int .i64 x] w fun e w' => e = .returned (.tuple #[.agg #[.int .i64 5, .string (s.extract E F), .int .i64 (if neg then -V else V)], .int .i64 F]) ∧ Below w.heap.size w w' := by
  subst hx
  have hs' : s.size ≤ maxLen := by unfold maxLen; omega
  have hnb : Wn.nameByte (Wn.sfx s i) = true := by
    unfold Wn.nameByte
    cases neg
    · rw [hb0] at hd; simp only [Bool.false_eq_true, if_false] at hd; rw [hd]; simp
    · rw [Wn.hd_in s i hi, hneg]; simp
  obtain ⟨h47, h34, h39, h35, h64, hbl⟩ := head_facts hi hnb
  have QN := Lib.hid (fun w => rnumber s i (i : Int) w hs hi rfl neg hneg b0 E F V hb0 hE hV hF)
  have ha := Wn.cls_four (Wn.sfx s i)
  rw [hbl] at ha
  have ha2 := Wn.cls_two (Wn.sfx s i)
  have hb2 := Wn.cls_two (Wn.sfx s (i + 1))
  have hdn : neg = true → Wn.digit (Wn.sfx s i) = false := by
    intro h; subst h
    unfold Wn.digit; rw [Wn.hd_in s i hi]; have : (s[i].toNat : Int) = 45 := by simpa using hneg
    rw [this]; rfl
  have Q0 := Lib.hid (fun w => at_any s i (i : Int) _ w hs' (by omega) rfl rfl)
  have Q1 := Lib.hid (fun x w hx => at_any s (i + 1) x _ w hs' (by omega) hx rfl)
  generalize Wn.cls (Wn.sfx s i) = a at *
  generalize Wn.cls (Wn.sfx s (i + 1)) = a1 at *
  have RN := Lib.hid (res_new w)
  have HBa : Hid (Below w.heap.size w (w.alloc (.cells #[.int .i64 0, .string ⟨#[]⟩, .int .i64 0] 47))) := Lib.hid ((Below.refl _ _).alloc (Nat.le_refl _) _)
  have HZ : Hid (w.heap.size ≤ (w.alloc (.cells #[.int .i64 0, .string ⟨#[]⟩, .int .i64 0] 47)).heap.size) := Lib.hid (by simp)
  clear hbl hnb hE hV hF
  cases neg
  · simp only [Bool.false_eq_true, if_false] at hb0
    subst hb0
    rw [hd] at ha2
    clear hd hdn hb2
    go_enter Tryz.func75, Tryz.ntmps75
    go_wp2_with (first | (go_at_call 97; (with_reducible refine (Q0.out _).mono ?_); rintro e w' ⟨rfl, rfl⟩) | (go_at_call 101; (with_reducible refine (QN.out _).mono ?_); rintro e w1 ⟨rfl, b1⟩; (have R1 := RN.out.below b1); (have HB1 := Lib.hid (HBa.out.trans (b1.mono HZ.out))); obtain ⟨x1, y1, z1, r0, r1, r2⟩ := R1.cells; (have g0 := R1.frozen 0); (have g1 := R1.frozen 1); (have g2 := R1.frozen 2); (have HR1 := Lib.hid R1); clear R1 b1))
    refine ret_tok_ok rfl rfl rfl rfl (HR1.out.set _ _ _) ⟨rfl, ?_⟩
    exact ((HB1.out.setCell (Nat.le_refl _) _).setCell (Nat.le_refl _) _).setCell (Nat.le_refl _) _
  · simp only [if_true] at hb0
    subst hb0
    rw [hd] at hb2
    rw [hdn rfl] at ha2
    clear hd hdn
    go_enter Tryz.func75, Tryz.ntmps75
    go_wp2_with (first | (go_at_call 97; (with_reducible refine (Q0.out _).mono ?_); rintro e w' ⟨rfl, rfl⟩) | (go_at_call 97; (refine (Q1.out _ _ (by omega)).mono ?_); rintro e w' ⟨rfl, rfl⟩) | (go_at_call 101; (with_reducible refine (QN.out _).mono ?_); rintro e w1 ⟨rfl, b1⟩; (have R1 := RN.out.below b1); (have HB1 := Lib.hid (HBa.out.trans (b1.mono HZ.out))); obtain ⟨x1, y1, z1, r0, r1, r2⟩ := R1.cells; (have g0 := R1.frozen 0); (have g1 := R1.frozen 1); (have g2 := R1.frozen 2); (have HR1 := Lib.hid R1); clear R1 b1))
    refine ret_tok_ok rfl rfl rfl rfl (HR1.out.set _ _ _) ⟨rfl, ?_⟩
    exact ((HB1.out.setCell (Nat.le_refl _) _).setCell (Nat.le_refl _) _).setCell (Nat.le_refl _) _
theorem name_head {l : List UInt8} (h : Wn.nameBegins l = true) : Wn.nameByte l = true := by
  unfold Wn.nameBegins at h
  unfold Wn.nameByte
  split at h
  · rename_i h45; rw [h45]; simp
  · rw [h]; simp
set_option maxRecDepth 100000 in
set_option maxHeartbeats 2000000 in
theorem rnext_word (s : ByteArray) (i : Nat) (x : Int) (w : World) (hs : s.size ≤ 4611686018427387000) (hi : i < s.size) (hx : x = (i : Int)) (E : Nat) (p : Bool) (hb : Wn.nameBegins (Wn.sfx s i) = true) (hnum : Wn.numberBegins (Wn.sfx s i) = false)
    (hE : i + Wn.runLen Wn.nameByte (Wn.sfx s i) = E) (hp : (Wn.hd (Wn.sfx s E) == 40) = p) :
    Calls Tryz.prog 75 #[.string s, .int .i64 x] w fun e w' => e = .returned (.tuple #[.agg #[.int .i64 (if p then 2 else 1), .string (s.extract i E), .int .i64 0], .int .i64 (if p then (E : Int) + 1 else (E : Int))]) ∧ Below w.heap.size w w' := by
  subst hx
  have hs' : s.size ≤ maxLen := by unfold maxLen; omega
  obtain ⟨h47, h34, h39, h35, h64, hbl⟩ := head_facts hi (name_head hb)
  have hle := Wn.runLen_le Wn.nameByte (Wn.sfx s i)
  rw [Wn.sfx_length] at hle
  have hE1 : i ≤ E := by omega
  have hE2 : E ≤ s.size := by omega
  have QN := Lib.hid (fun w => names_any s i (i : Int) (E : Int) w hs (by omega) rfl (by rw [hE]))
  have QB := Lib.hid (fun w => Begins_any s i (i : Int) true w hs' (by omega) rfl hb)
  have ha := Wn.cls_four (Wn.sfx s i)
  rw [hbl] at ha
  unfold Wn.numberBegins at hnum
  rw [Wn.sfx_drop, Wn.hd_in s i hi] at hnum
  have ha2 := Wn.cls_two (Wn.sfx s i)
  have hb2 := Wn.cls_two (Wn.sfx s (i + 1))
  have hd0 : Wn.digit (Wn.sfx s i) = false := by cases h : Wn.digit (Wn.sfx s i); rfl; rw [h] at hnum; simp at hnum
  rw [hd0] at ha2 hnum
  have Q0 := Lib.hid (fun w => at_any s i (i : Int) _ w hs' (by omega) rfl rfl)
  have Q1 := Lib.hid (fun x w hx => at_any s (i + 1) x _ w hs' (by omega) hx rfl)
  generalize Wn.cls (Wn.sfx s i) = a at *
  generalize Wn.cls (Wn.sfx s (i + 1)) = a1 at *
  rw [← hb2] at hnum
  clear hbl hE hle hb2 hd0 hb
  have h45c : (((s[i].toNat : Int) == 45) = false) ∨ (((s[i].toNat : Int) == 45) = true ∧ (a1 == 2) = false) := by
    cases h : ((s[i].toNat : Int) == 45)
    · exact .inl rfl
    · rw [h] at hnum; exact .inr ⟨rfl, by simpa using hnum⟩
  clear hnum
  have hpc : (p = true ∧ ∃ h : E < s.size, ((s[E].toNat : Int) == 40) = true) ∨ (p = false ∧ ∃ h : E < s.size, ((s[E].toNat : Int) == 40) = false) ∨ (p = false ∧ ¬ E < s.size) := by
    by_cases h : E < s.size
    · rw [Wn.hd_in s E h] at hp
      cases p
      · exact .inr (.inl ⟨rfl, h, hp⟩)
      · exact .inl ⟨rfl, h, hp⟩
    · refine .inr (.inr ⟨?_, h⟩)
      rw [← hp, Wn.hd_out s E (by omega)]; rfl
  clear hp
  rcases h45c with h45 | ⟨h45, h1⟩
  all_goals
    rcases hpc with ⟨rfl, hlt, h40⟩ | ⟨rfl, hlt, h40⟩ | ⟨rfl, hlt⟩
    · go_enter Tryz.func75, Tryz.ntmps75
      go_wp2_with (first | (go_at_call 97; (with_reducible refine (Q0.out _).mono ?_); rintro e w' ⟨rfl, rfl⟩) | (go_at_call 97; (refine (Q1.out _ _ (by omega)).mono ?_); rintro e w' ⟨rfl, rfl⟩) | (go_at_call 100; (with_reducible refine (QB.out _).mono ?_); rintro e w' ⟨rfl, rfl⟩) | (go_at_call 99; (with_reducible refine (QN.out _).mono ?_); rintro e w' ⟨rfl, rfl⟩))
      exact ret_tok_ok rfl rfl rfl rfl (heap_alloc_new w _) ⟨rfl, (Below.refl _ _).alloc (Nat.le_refl _) _⟩
    · go_enter Tryz.func75, Tryz.ntmps75
      go_wp2_with (first | (go_at_call 97; (with_reducible refine (Q0.out _).mono ?_); rintro e w' ⟨rfl, rfl⟩) | (go_at_call 97; (refine (Q1.out _ _ (by omega)).mono ?_); rintro e w' ⟨rfl, rfl⟩) | (go_at_call 100; (with_reducible refine (QB.out _).mono ?_); rintro e w' ⟨rfl, rfl⟩) | (go_at_call 99; (with_reducible refine (QN.out _).mono ?_); rintro e w' ⟨rfl, rfl⟩))
      exact ret_tok_ok rfl rfl rfl rfl (heap_alloc_new w _) ⟨rfl, (Below.refl _ _).alloc (Nat.le_refl _) _⟩
    · go_enter Tryz.func75, Tryz.ntmps75
      go_wp2_with (first | (go_at_call 97; (with_reducible refine (Q0.out _).mono ?_); rintro e w' ⟨rfl, rfl⟩) | (go_at_call 97; (refine (Q1.out _ _ (by omega)).mono ?_); rintro e w' ⟨rfl, rfl⟩) | (go_at_call 100; (with_reducible refine (QB.out _).mono ?_); rintro e w' ⟨rfl, rfl⟩) | (go_at_call 99; (with_reducible refine (QN.out _).mono ?_); rintro e w' ⟨rfl, rfl⟩))
      exact ret_tok_ok rfl rfl rfl rfl (heap_alloc_new w _) ⟨rfl, (Below.refl _ _).alloc (Nat.le_refl _) _⟩
end Go.Proofs.YtjlejiphpbaonaaGreatDoor
set_option maxRecDepth 20000
namespace Go.Proofs.YtjlejiphpbaonaaGreatDoor
open Go.RowKit
set_option maxRecDepth 100000 in
set_option maxHeartbeats 4000000 in
theorem rnext_delim (s : ByteArray) (i : Nat) (x : Int) (w : World) (hs : s.size ≤ 4611686018427387000) (hi : i < s.size) (hx : x = (i : Int)) (hcm : Wn.commentBegins (Wn.sfx s i) = false) (hbl : Wn.blank (Wn.sfx s i) = false)
    (hst : Wn.strLen (Wn.sfx s i) = none) (h35n : Wn.hd (Wn.sfx s i) = 35 → Wn.nameByte (Wn.sfx s (i + 1)) = false) (h64n : Wn.hd (Wn.sfx s i) = 64 → Wn.nameBegins (Wn.sfx s (i + 1)) = false)
    (hnum : Wn.numberBegins (Wn.sfx s i) = false) (hnb : Wn.nameBegins (Wn.sfx s i) = false) :
    Calls Tryz.prog 75 #[.string s, .int .i64 x] w fun e w' => e = .returned (.tuple #[.agg #[.int .i64 7, .string (s.extract i (i + 1)), .int .i64 0], .int .i64 ((i : Int) + 1)]) ∧ Below w.heap.size w w' := by
  subst hx
  have hs' : s.size ≤ maxLen := by unfold maxLen; omega
  have NC := noComment hi hcm
  have QB := Lib.hid (fun w => Begins_any s i (i : Int) false w hs' (by omega) rfl hnb)
  have ha := Wn.cls_four (Wn.sfx s i)
  rw [hbl] at ha
  unfold Wn.numberBegins at hnum
  rw [Wn.sfx_drop, Wn.hd_in s i hi] at hnum
  rw [Wn.hd_in s i hi] at h35n h64n
  have ha2 := Wn.cls_two (Wn.sfx s i)
  have hb2 := Wn.cls_two (Wn.sfx s (i + 1))
  have hd0 : Wn.digit (Wn.sfx s i) = false := by cases h : Wn.digit (Wn.sfx s i); rfl; rw [h] at hnum; simp at hnum
  rw [hd0] at ha2 hnum
  have Q0 := Lib.hid (fun w => at_any s i (i : Int) _ w hs' (by omega) rfl rfl)
  have Q1 := Lib.hid (fun x w hx => at_any s (i + 1) x _ w hs' (by omega) hx rfl)
  generalize Wn.cls (Wn.sfx s i) = a at *
  generalize Wn.cls (Wn.sfx s (i + 1)) = a1 at *
  rw [← hb2] at hnum
  have HST := Lib.hid hst
  clear hbl hb2 hd0 hnb hcm hst
  by_cases hc : (s[i].toNat : Int) = 47
  · clear h35n h64n hnum
    have h47 : ((s[i].toNat : Int) == 47) = true := by rw [hc]; rfl
    have h34 : ((s[i].toNat : Int) == 34) = false := by rw [hc]; rfl
    have h39 : ((s[i].toNat : Int) == 39) = false := by rw [hc]; rfl
    have h35 : ((s[i].toNat : Int) == 35) = false := by rw [hc]; rfl
    have h64 : ((s[i].toNat : Int) == 64) = false := by rw [hc]; rfl
    have h45 : ((s[i].toNat : Int) == 45) = false := by rw [hc]; rfl
    rcases NC with ⟨_, h⟩ | ⟨_, _, hl⟩ | ⟨hl, _, h42⟩
    · rw [h47] at h; cases h
    · clear hc
      go_enter Tryz.func75, Tryz.ntmps75
      go_wp2_with (first | (go_at_call 97; (with_reducible refine (Q0.out _).mono ?_); rintro e w' ⟨rfl, rfl⟩) | (go_at_call 97; (refine (Q1.out _ _ (by omega)).mono ?_); rintro e w' ⟨rfl, rfl⟩) | (go_at_call 100; (with_reducible refine (QB.out _).mono ?_); rintro e w' ⟨rfl, rfl⟩))
      exact ret_tok_ok rfl rfl rfl rfl (heap_alloc_new w _) ⟨rfl, (Below.refl _ _).alloc (Nat.le_refl _) _⟩
    · clear hc
      go_enter Tryz.func75, Tryz.ntmps75
      go_wp2_with (first | (go_at_call 97; (with_reducible refine (Q0.out _).mono ?_); rintro e w' ⟨rfl, rfl⟩) | (go_at_call 97; (refine (Q1.out _ _ (by omega)).mono ?_); rintro e w' ⟨rfl, rfl⟩) | (go_at_call 100; (with_reducible refine (QB.out _).mono ?_); rintro e w' ⟨rfl, rfl⟩))
      exact ret_tok_ok rfl rfl rfl rfl (heap_alloc_new w _) ⟨rfl, (Below.refl _ _).alloc (Nat.le_refl _) _⟩
  clear NC
  by_cases hc34 : (s[i].toNat : Int) = 34
  · have hc := hc34
    clear h35n h64n hnum
    have hq : Wn.quote (Wn.sfx s i) = true := by unfold Wn.quote; rw [Wn.hd_in s i hi, hc]; rfl
    have hqn : Wn.quoteLen (Wn.hd (Wn.sfx s i)) (Wn.sfx s (i + 1)) = none := by have := HST.out; unfold Wn.strLen at this; rw [hq, if_pos rfl, Wn.sfx_drop] at this; exact this
    have QI := Lib.hid (fun w => inner_any s i (i : Int) (-1) w hs hi rfl hq (by rw [hqn]; rfl))
    clear hq hqn
    have h47 : ((s[i].toNat : Int) == 47) = false := by rw [hc]; rfl
    have h34 : ((s[i].toNat : Int) == 34) = true := by rw [hc]; rfl
    have h39 : ((s[i].toNat : Int) == 39) = false := by rw [hc]; rfl
    have h35 : ((s[i].toNat : Int) == 35) = false := by rw [hc]; rfl
    have h64 : ((s[i].toNat : Int) == 64) = false := by rw [hc]; rfl
    have h45 : ((s[i].toNat : Int) == 45) = false := by rw [hc]; rfl
    clear hc hc34
    go_enter Tryz.func75, Tryz.ntmps75
    go_wp2_with (first | (go_at_call 97; (with_reducible refine (Q0.out _).mono ?_); rintro e w' ⟨rfl, rfl⟩) | (go_at_call 97; (refine (Q1.out _ _ (by omega)).mono ?_); rintro e w' ⟨rfl, rfl⟩) | (go_at_call 100; (with_reducible refine (QB.out _).mono ?_); rintro e w' ⟨rfl, rfl⟩) | (go_at_call 98; (with_reducible refine (QI.out _).mono ?_); rintro e w' ⟨rfl, nd, rfl⟩))
    refine ret_tok_ok rfl rfl rfl rfl (Res.set (by (repeat (first | with_reducible exact res_new _ | (with_reducible refine Res.drewN ?_ _) | (with_reducible refine Res.drew ?_)))) _ _ _) ⟨rfl, ?_⟩
    (repeat (first | with_reducible exact Below.refl _ _ | (with_reducible refine Below.drew ?_) | (with_reducible refine below_drewN' ?_ _) | ((with_reducible refine Below.alloc ?_ ?_ _); rotate_left; (focus (first | omega | (simp <;> omega)))) | ((with_reducible refine Below.set_new ?_ ?_ _ _); rotate_left; (focus (first | omega | (simp <;> omega))))))
  by_cases hc39 : (s[i].toNat : Int) = 39
  · have hc := hc39
    clear h35n h64n hnum
    have hq : Wn.quote (Wn.sfx s i) = true := by unfold Wn.quote; rw [Wn.hd_in s i hi, hc]; rfl
    have hqn : Wn.quoteLen (Wn.hd (Wn.sfx s i)) (Wn.sfx s (i + 1)) = none := by have := HST.out; unfold Wn.strLen at this; rw [hq, if_pos rfl, Wn.sfx_drop] at this; exact this
    have QI := Lib.hid (fun w => inner_any s i (i : Int) (-1) w hs hi rfl hq (by rw [hqn]; rfl))
    clear hq hqn
    have h47 : ((s[i].toNat : Int) == 47) = false := by rw [hc]; rfl
    have h34 : ((s[i].toNat : Int) == 34) = false := by rw [hc]; rfl
    have h39 : ((s[i].toNat : Int) == 39) = true := by rw [hc]; rfl
    have h35 : ((s[i].toNat : Int) == 35) = false := by rw [hc]; rfl
    have h64 : ((s[i].toNat : Int) == 64) = false := by rw [hc]; rfl
    have h45 : ((s[i].toNat : Int) == 45) = false := by rw [hc]; rfl
    clear hc hc39 hc34
    go_enter Tryz.func75, Tryz.ntmps75
    go_wp2_with (first | (go_at_call 97; (with_reducible refine (Q0.out _).mono ?_); rintro e w' ⟨rfl, rfl⟩) | (go_at_call 97; (refine (Q1.out _ _ (by omega)).mono ?_); rintro e w' ⟨rfl, rfl⟩) | (go_at_call 100; (with_reducible refine (QB.out _).mono ?_); rintro e w' ⟨rfl, rfl⟩) | (go_at_call 98; (with_reducible refine (QI.out _).mono ?_); rintro e w' ⟨rfl, nd, rfl⟩))
    refine ret_tok_ok rfl rfl rfl rfl (Res.set (by (repeat (first | with_reducible exact res_new _ | (with_reducible refine Res.drewN ?_ _) | (with_reducible refine Res.drew ?_)))) _ _ _) ⟨rfl, ?_⟩
    (repeat (first | with_reducible exact Below.refl _ _ | (with_reducible refine Below.drew ?_) | (with_reducible refine below_drewN' ?_ _) | ((with_reducible refine Below.alloc ?_ ?_ _); rotate_left; (focus (first | omega | (simp <;> omega)))) | ((with_reducible refine Below.set_new ?_ ?_ _ _); rotate_left; (focus (first | omega | (simp <;> omega))))))
  by_cases hc35 : (s[i].toNat : Int) = 35
  · have hc := hc35
    have hn := h35n hc
    have QN := Lib.hid (fun x w hx => names_any s (i + 1) x ((i : Int) + 1) w hs (by omega) hx (by rw [Wn.runLen_no hn]; simp))
    clear h35n h64n hnum hn
    have h47 : ((s[i].toNat : Int) == 47) = false := by rw [hc]; rfl
    have h34 : ((s[i].toNat : Int) == 34) = false := by rw [hc]; rfl
    have h39 : ((s[i].toNat : Int) == 39) = false := by rw [hc]; rfl
    have h35 : ((s[i].toNat : Int) == 35) = true := by rw [hc]; rfl
    have h64 : ((s[i].toNat : Int) == 64) = false := by rw [hc]; rfl
    have h45 : ((s[i].toNat : Int) == 45) = false := by rw [hc]; rfl
    clear hc hc35 hc34 hc39
    go_enter Tryz.func75, Tryz.ntmps75
    go_wp2_with (first | (go_at_call 97; (with_reducible refine (Q0.out _).mono ?_); rintro e w' ⟨rfl, rfl⟩) | (go_at_call 97; (refine (Q1.out _ _ (by omega)).mono ?_); rintro e w' ⟨rfl, rfl⟩) | (go_at_call 100; (with_reducible refine (QB.out _).mono ?_); rintro e w' ⟨rfl, rfl⟩) | (go_at_call 99; (refine (QN.out _ _ (by omega)).mono ?_); rintro e w' ⟨rfl, rfl⟩))
    exact ret_tok_ok rfl rfl rfl rfl (heap_alloc_new w _) ⟨rfl, (Below.refl _ _).alloc (Nat.le_refl _) _⟩
  by_cases hc64 : (s[i].toNat : Int) = 64
  · have hc := hc64
    have QB1 := Lib.hid (fun x w hx => Begins_any s (i + 1) x false w hs' (by omega) hx (h64n hc))
    clear h35n h64n hnum
    have h47 : ((s[i].toNat : Int) == 47) = false := by rw [hc]; rfl
    have h34 : ((s[i].toNat : Int) == 34) = false := by rw [hc]; rfl
    have h39 : ((s[i].toNat : Int) == 39) = false := by rw [hc]; rfl
    have h35 : ((s[i].toNat : Int) == 35) = false := by rw [hc]; rfl
    have h64 : ((s[i].toNat : Int) == 64) = true := by rw [hc]; rfl
    have h45 : ((s[i].toNat : Int) == 45) = false := by rw [hc]; rfl
    clear hc hc64 hc34 hc39 hc35
    go_enter Tryz.func75, Tryz.ntmps75
    go_wp2_with (first | (go_at_call 97; (with_reducible refine (Q0.out _).mono ?_); rintro e w' ⟨rfl, rfl⟩) | (go_at_call 97; (refine (Q1.out _ _ (by omega)).mono ?_); rintro e w' ⟨rfl, rfl⟩) | (go_at_call 100; (with_reducible refine (QB.out _).mono ?_); rintro e w' ⟨rfl, rfl⟩) | (go_at_call 100; (refine (QB1.out _ _ (by omega)).mono ?_); rintro e w' ⟨rfl, rfl⟩))
    exact ret_tok_ok rfl rfl rfl rfl (heap_alloc_new w _) ⟨rfl, (Below.refl _ _).alloc (Nat.le_refl _) _⟩
  clear h35n h64n
  by_cases hc45 : (s[i].toNat : Int) = 45
  · have hc := hc45
    have h47 : ((s[i].toNat : Int) == 47) = false := by rw [hc]; rfl
    have h34 : ((s[i].toNat : Int) == 34) = false := by rw [hc]; rfl
    have h39 : ((s[i].toNat : Int) == 39) = false := by rw [hc]; rfl
    have h35 : ((s[i].toNat : Int) == 35) = false := by rw [hc]; rfl
    have h64 : ((s[i].toNat : Int) == 64) = false := by rw [hc]; rfl
    have h45 : ((s[i].toNat : Int) == 45) = true := by rw [hc]; rfl
    have h1 : (a1 == 2) = false := by rw [h45] at hnum; simpa using hnum
    clear hc hc45 hc64 hc34 hc39 hc35 hnum
    go_enter Tryz.func75, Tryz.ntmps75
    go_wp2_with (first | (go_at_call 97; (with_reducible refine (Q0.out _).mono ?_); rintro e w' ⟨rfl, rfl⟩) | (go_at_call 97; (refine (Q1.out _ _ (by omega)).mono ?_); rintro e w' ⟨rfl, rfl⟩) | (go_at_call 100; (with_reducible refine (QB.out _).mono ?_); rintro e w' ⟨rfl, rfl⟩))
    exact ret_tok_ok rfl rfl rfl rfl (heap_alloc_new w _) ⟨rfl, (Below.refl _ _).alloc (Nat.le_refl _) _⟩
  · have h47 : ((s[i].toNat : Int) == 47) = false := by simpa using hc
    have h34 : ((s[i].toNat : Int) == 34) = false := by simpa using hc34
    have h39 : ((s[i].toNat : Int) == 39) = false := by simpa using hc39
    have h35 : ((s[i].toNat : Int) == 35) = false := by simpa using hc35
    have h64 : ((s[i].toNat : Int) == 64) = false := by simpa using hc64
    have h45 : ((s[i].toNat : Int) == 45) = false := by simpa using hc45
    clear hc hc45 hc64 hc34 hc39 hc35 hnum
    go_enter Tryz.func75, Tryz.ntmps75
    go_wp2_with (first | (go_at_call 97; (with_reducible refine (Q0.out _).mono ?_); rintro e w' ⟨rfl, rfl⟩) | (go_at_call 97; (refine (Q1.out _ _ (by omega)).mono ?_); rintro e w' ⟨rfl, rfl⟩) | (go_at_call 100; (with_reducible refine (QB.out _).mono ?_); rintro e w' ⟨rfl, rfl⟩))
    exact ret_tok_ok rfl rfl rfl rfl (heap_alloc_new w _) ⟨rfl, (Below.refl _ _).alloc (Nat.le_refl _) _⟩
end Go.Proofs.YtjlejiphpbaonaaGreatDoor
set_option maxRecDepth 20000
namespace Go.Proofs.YtjlejiphpbaonaaGreatDoor
open Go.RowKit
theorem ext_take (s : ByteArray) (p k : Nat) : s.extract p (p + k) = ⟨((Wn.sfx s p).take k).toArray⟩ := by
  rw [Wn.extract_sfx]; congr 3; omega
theorem rnext_one (s : ByteArray) (i : Nat) (x : Int) (w : World) (hs : s.size ≤ 4611686018427387000) (hi : i < s.size) (hx : x = (i : Int)) (hcm : Wn.commentBegins (Wn.sfx s i) = false) (t : Wn.Tok) (n : Nat) (h : Wn.one (Wn.sfx s i) = (t, n)) :
    Calls Tryz.prog 75 #[.string s, .int .i64 x] w fun e w' => e = .returned (.tuple #[tokV t, .int .i64 ((i + n : Nat) : Int)]) ∧ Below w.heap.size w w' := by
  have ehd := Wn.hd_in s i hi
  unfold Wn.one at h
  cases hb : Wn.blank (Wn.sfx s i)
  · rw [if_neg (by rw [hb]; decide)] at h
    cases hst : Wn.strLen (Wn.sfx s i) with
    | some k =>
      rw [hst] at h
      dsimp only at h
      simp only [Prod.mk.injEq] at h
      obtain ⟨rfl, rfl⟩ := h
      have hq : Wn.quote (Wn.sfx s i) = true := by
        cases hq : Wn.quote (Wn.sfx s i)
        · unfold Wn.strLen at hst; rw [hq] at hst; cases hst
        · rfl
      have hk : Wn.quoteLen (Wn.hd (Wn.sfx s i)) (Wn.sfx s (i + 1)) = some k := by unfold Wn.strLen at hst; rw [hq, if_pos rfl, Wn.sfx_drop] at hst; exact hst
      refine (rnext_str s i x w hs hi hx (i + 1 + k) hq k hk rfl).mono fun e w' ⟨he, hB⟩ => ⟨?_, hB⟩
      rw [he, ext_take, Wn.sfx_drop, ehd]
      unfold tokV
      simp; omega
    | none =>
      rw [hst] at h
      dsimp only at h
      cases h35 : (Wn.hd (Wn.sfx s i) == 35 && Wn.nameByte ((Wn.sfx s i).drop 1))
      · rw [if_neg (by rw [h35]; decide)] at h
        cases h64 : (Wn.hd (Wn.sfx s i) == 64 && Wn.nameBegins ((Wn.sfx s i).drop 1))
        · rw [if_neg (by rw [h64]; decide)] at h
          cases hnum : Wn.numberBegins (Wn.sfx s i)
          · rw [if_neg (by rw [hnum]; decide)] at h
            cases hnb : Wn.nameBegins (Wn.sfx s i)
            · rw [if_neg (by rw [hnb]; decide)] at h
              simp only [Prod.mk.injEq] at h
              obtain ⟨rfl, rfl⟩ := h
              rw [Wn.sfx_drop] at h35 h64
              refine (rnext_delim s i x w hs hi hx hcm hb hst (fun e => by rw [e] at h35; simpa using h35) (fun e => by rw [e] at h64; simpa using h64) hnum hnb).mono fun e w' ⟨he, hB⟩ => ⟨?_, hB⟩
              rw [he, ext_take]
              unfold tokV
              simp
            · rw [if_pos hnb] at h
              unfold Wn.word at h
              rw [Wn.sfx_drop] at h
              refine (rnext_word s i x w hs hi hx _ _ hnb hnum rfl rfl).mono fun e w' ⟨he, hB⟩ => ⟨?_, hB⟩
              rw [he, ext_take]
              cases hp : (Wn.hd (Wn.sfx s (i + Wn.runLen Wn.nameByte (Wn.sfx s i))) == 40)
              · rw [hp, if_neg (by decide)] at h
                simp only [Prod.mk.injEq] at h
                obtain ⟨rfl, rfl⟩ := h
                unfold tokV; simp
              · rw [hp, if_pos rfl] at h
                simp only [Prod.mk.injEq] at h
                obtain ⟨rfl, rfl⟩ := h
                unfold tokV; simp; omega
          · rw [if_pos hnum] at h
            unfold Wn.number at h
            unfold Wn.numberBegins at hnum
            rw [Wn.sfx_drop] at hnum
            rw [ehd] at h hnum
            cases hneg : ((s[i].toNat : Int) == 45)
            · rw [hneg, if_neg (by decide)] at h
              rw [hneg] at hnum
              have hd : Wn.digit (Wn.sfx s i) = true := by simpa using hnum
              unfold Wn.numTok at h
              simp only [Prod.mk.injEq] at h
              obtain ⟨rfl, rfl⟩ := h
              refine (rnext_num s i x w hs hi hx false hneg i _ _ _ rfl rfl rfl rfl hd).mono fun e w' ⟨he, hB⟩ => ⟨?_, hB⟩
              rw [he, ext_take, Wn.sfx_drop]
              unfold tokV; simp; omega
            · rw [hneg, if_pos rfl] at h
              have hd : Wn.digit (Wn.sfx s (i + 1)) = true := by
                rw [hneg] at hnum
                have : Wn.digit (Wn.sfx s i) = false := by unfold Wn.digit; rw [ehd]; have e : (s[i].toNat : Int) = 45 := by simpa using hneg
                                                           rw [e]; rfl
                rw [this] at hnum; simpa using hnum
              unfold Wn.numTok at h
              simp only [Prod.mk.injEq] at h
              obtain ⟨rfl, rfl⟩ := h
              refine (rnext_num s i x w hs hi hx true hneg (i + 1) _ _ _ rfl rfl rfl rfl hd).mono fun e w' ⟨he, hB⟩ => ⟨?_, hB⟩
              rw [he, ext_take, Wn.sfx_drop, Wn.sfx_drop]
              unfold tokV; simp [Nat.add_assoc]
        · rw [if_pos h64] at h
          unfold Wn.named at h
          simp only [Prod.mk.injEq] at h
          obtain ⟨rfl, rfl⟩ := h
          rw [Wn.sfx_drop, Bool.and_eq_true, ehd] at h64
          refine (rnext_at s i x w hs hi hx _ (by simpa using h64.1) h64.2 rfl).mono fun e w' ⟨he, hB⟩ => ⟨?_, hB⟩
          rw [he, ext_take, Wn.sfx_drop]
          unfold tokV; simp; omega
      · rw [if_pos h35] at h
        unfold Wn.named at h
        simp only [Prod.mk.injEq] at h
        obtain ⟨rfl, rfl⟩ := h
        rw [Wn.sfx_drop, Bool.and_eq_true, ehd] at h35
        refine (rnext_hash s i x w hs hi hx _ (by simpa using h35.1) h35.2 rfl).mono fun e w' ⟨he, hB⟩ => ⟨?_, hB⟩
        rw [he, ext_take, Wn.sfx_drop]
        unfold tokV; simp; omega
  · rw [if_pos hb] at h
    simp only [Prod.mk.injEq] at h
    obtain ⟨rfl, rfl⟩ := h
    exact (rnext_white s i x w hs hi hx _ hb rfl).mono fun e w' ⟨he, hB⟩ => ⟨he, hB⟩
end Go.Proofs.YtjlejiphpbaonaaGreatDoor
