/- The verifier's second writing: the token at a place: numbers, words, delimiters. -/
import Derived.Test.YtnkdppbpcinjhaaDoorRefE
set_option maxRecDepth 20000
namespace Go.Proofs.YtnkdppbpcinjhaaDoor
open Go.RowKit
theorem Res.below {r : Nat} {w w' : World} (h : Res w r) (hb : Below w.heap.size w w') : Res w' r := by
  obtain ⟨x, y, z, e⟩ := h.at_
  exact ⟨x, y, z, by rw [hb.block r (Array.getElem?_eq_some_iff.1 e).1, e]⟩
theorem head_facts {s : ByteArray} {i : Nat} (hi : i < s.size) (h : Wn.nameByte (Wn.sfx s i) = true) :
    ((s[i].toNat : Int) == 47) = false ∧ ((s[i].toNat : Int) == 34) = false ∧ ((s[i].toNat : Int) == 39) = false ∧ ((s[i].toNat : Int) == 35) = false ∧ ((s[i].toNat : Int) == 64) = false ∧ Wn.blank (Wn.sfx s i) = false := by
  unfold Wn.nameByte Wn.nameStart Wn.digit at h
  unfold Wn.blank Wn.lineEnd
  rw [Wn.hd_in s i hi] at h ⊢
  generalize (s[i].toNat : Int) = c at *
  simp only [Bool.or_eq_true, Bool.and_eq_true, decide_eq_true_eq, beq_iff_eq] at h
  simp
  omega
set_option maxRecDepth 100000 in
set_option maxHeartbeats 2000000 in
theorem rnext_num (s : ByteArray) (i : Nat) (x : Int) (w : World) (hs : s.size ≤ 4611686018427387000) (hi : i < s.size) (hx : x = (i : Int)) (neg : Bool) (hneg : ((s[i].toNat : Int) == 45) = neg) (b0 E F : Nat) (V : Int)
    (hb0 : b0 = if neg then i + 1 else i) (hE : b0 + Wn.runLen Wn.digit (Wn.sfx s b0) = E) (hV : Wn.numVal 0 (Wn.sfx s b0) = V) (hF : E + Wn.unitLen (Wn.sfx s E) = F) (hd : Wn.digit (Wn.sfx s b0) = true) :
    Calls Tryd.prog 41 #[.string s, .int .i64 x] w fun e w' => e = .returned (.tuple #[.agg #[.int .i64 5, .string (s.extract E F), .int .i64 (if neg then -V else V)], .int .i64 F]) ∧ Below w.heap.size w w' := by
  subst hx
  have hs' : s.size ≤ maxLen := by unfold maxLen; omega
  have hnb : Wn.nameByte (Wn.sfx s i) = true := by
    unfold Wn.nameByte
    cases neg
    · rw [hb0] at hd; simp only [Bool.false_eq_true, if_false] at hd; rw [hd]; simp
    · rw [Wn.hd_in s i hi, hneg]; simp
  obtain ⟨h47, h34, h39, h35, h64, hbl⟩ := head_facts hi hnb
  have QN := Lib.hid (fun w => rnumber s i (i : Int) w hs hi rfl neg hneg b0 E F V hb0 hE hV hF)
  have ha := Wn.cls_four (Wn.sfx s i)
  rw [hbl] at ha
  have ha2 := Wn.cls_two (Wn.sfx s i)
  have hb2 := Wn.cls_two (Wn.sfx s (i + 1))
  have hdn : neg = true → Wn.digit (Wn.sfx s i) = false := by
    intro h; subst h
    unfold Wn.digit; rw [Wn.hd_in s i hi]; have : (s[i].toNat : Int) = 45 := by simpa using hneg
    rw [this]; rfl
  have Q0 := Lib.hid (fun w => at_any s i (i : Int) _ w hs' (by omega) rfl rfl)
  have Q1 := Lib.hid (fun x w hx => at_any s (i + 1) x _ w hs' (by omega) hx rfl)
  generalize Wn.cls (Wn.sfx s i) = a at *
  generalize Wn.cls (Wn.sfx s (i + 1)) = a1 at *
  have RN := Lib.hid (res_new w)
  have HBa : Hid (Below w.heap.size w (w.alloc (.cells #[.int .i64 0, .string ⟨#[]⟩, .int .i64 0] 24))) := Lib.hid ((Below.refl _ _).alloc (Nat.le_refl _) _)
  have HZ : Hid (w.heap.size ≤ (w.alloc (.cells #[.int .i64 0, .string ⟨#[]⟩, .int .i64 0] 24)).heap.size) := Lib.hid (by simp)
  clear hbl hnb hE hV hF
  cases neg
  · simp only [Bool.false_eq_true, if_false] at hb0
    subst hb0
    rw [hd] at ha2
    clear hd hdn hb2
    go_enter Tryd.func41, Tryd.ntmps41
    go_wp2_with (first | (go_at_call 76; (with_reducible refine (Q0.out _).mono ?_); rintro e w' ⟨rfl, rfl⟩) | (go_at_call 80; (with_reducible refine (QN.out _).mono ?_); rintro e w1 ⟨rfl, b1⟩; (have R1 := RN.out.below b1); (have HB1 := Lib.hid (HBa.out.trans (b1.mono HZ.out))); obtain ⟨x1, y1, z1, r0, r1, r2⟩ := R1.cells; (have g0 := R1.frozen 0); (have g1 := R1.frozen 1); (have g2 := R1.frozen 2); (have HR1 := Lib.hid R1); clear R1 b1))
    refine ret_tok_ok rfl rfl rfl rfl (HR1.out.set _ _ _) ⟨rfl, ?_⟩
    exact ((HB1.out.setCell (Nat.le_refl _) _).setCell (Nat.le_refl _) _).setCell (Nat.le_refl _) _
  · simp only [if_true] at hb0
    subst hb0
    rw [hd] at hb2
    rw [hdn rfl] at ha2
    clear hd hdn
    go_enter Tryd.func41, Tryd.ntmps41
    go_wp2_with (first | (go_at_call 76; (with_reducible refine (Q0.out _).mono ?_); rintro e w' ⟨rfl, rfl⟩) | (go_at_call 76; (refine (Q1.out _ _ (by omega)).mono ?_); rintro e w' ⟨rfl, rfl⟩) | (go_at_call 80; (with_reducible refine (QN.out _).mono ?_); rintro e w1 ⟨rfl, b1⟩; (have R1 := RN.out.below b1); (have HB1 := Lib.hid (HBa.out.trans (b1.mono HZ.out))); obtain ⟨x1, y1, z1, r0, r1, r2⟩ := R1.cells; (have g0 := R1.frozen 0); (have g1 := R1.frozen 1); (have g2 := R1.frozen 2); (have HR1 := Lib.hid R1); clear R1 b1))
    refine ret_tok_ok rfl rfl rfl rfl (HR1.out.set _ _ _) ⟨rfl, ?_⟩
    exact ((HB1.out.setCell (Nat.le_refl _) _).setCell (Nat.le_refl _) _).setCell (Nat.le_refl _) _
theorem name_head {l : List UInt8} (h : Wn.nameBegins l = true) : Wn.nameByte l = true := by
  unfold Wn.nameBegins at h
  unfold Wn.nameByte
  split at h
  · rename_i h45; rw [h45]; simp
  · rw [h]; simp
set_option maxRecDepth 100000 in
set_option maxHeartbeats 2000000 in
theorem rnext_word (s : ByteArray) (i : Nat) (x : Int) (w : World) (hs : s.size ≤ 4611686018427387000) (hi : i < s.size) (hx : x = (i : Int)) (E : Nat) (p : Bool) (hb : Wn.nameBegins (Wn.sfx s i) = true) (hnum : Wn.numberBegins (Wn.sfx s i) = false)
    (hE : i + Wn.runLen Wn.nameByte (Wn.sfx s i) = E) (hp : (Wn.hd (Wn.sfx s E) == 40) = p) :
    Calls Tryd.prog 41 #[.string s, .int .i64 x] w fun e w' => e = .returned (.tuple #[.agg #[.int .i64 (if p then 2 else 1), .string (s.extract i E), .int .i64 0], .int .i64 (if p then (E : Int) + 1 else (E : Int))]) ∧ Below w.heap.size w w' := by
  subst hx
  have hs' : s.size ≤ maxLen := by unfold maxLen; omega
  obtain ⟨h47, h34, h39, h35, h64, hbl⟩ := head_facts hi (name_head hb)
  have hle := Wn.runLen_le Wn.nameByte (Wn.sfx s i)
  rw [Wn.sfx_length] at hle
  have hE1 : i ≤ E := by omega
  have hE2 : E ≤ s.size := by omega
  have QN := Lib.hid (fun w => names_any s i (i : Int) (E : Int) w hs (by omega) rfl (by rw [hE]))
  have QB := Lib.hid (fun w => Begins_any s i (i : Int) true w hs' (by omega) rfl hb)
  have ha := Wn.cls_four (Wn.sfx s i)
  rw [hbl] at ha
  unfold Wn.numberBegins at hnum
  rw [Wn.sfx_drop, Wn.hd_in s i hi] at hnum
  have ha2 := Wn.cls_two (Wn.sfx s i)
  have hb2 := Wn.cls_two (Wn.sfx s (i + 1))
  have hd0 : Wn.digit (Wn.sfx s i) = false := by cases h : Wn.digit (Wn.sfx s i); rfl; rw [h] at hnum; simp at hnum
  rw [hd0] at ha2 hnum
  have Q0 := Lib.hid (fun w => at_any s i (i : Int) _ w hs' (by omega) rfl rfl)
  have Q1 := Lib.hid (fun x w hx => at_any s (i + 1) x _ w hs' (by omega) hx rfl)
  generalize Wn.cls (Wn.sfx s i) = a at *
  generalize Wn.cls (Wn.sfx s (i + 1)) = a1 at *
  rw [← hb2] at hnum
  clear hbl hE hle hb2 hd0 hb
  have h45c : (((s[i].toNat : Int) == 45) = false) ∨ (((s[i].toNat : Int) == 45) = true ∧ (a1 == 2) = false) := by
    cases h : ((s[i].toNat : Int) == 45)
    · exact .inl rfl
    · rw [h] at hnum; exact .inr ⟨rfl, by simpa using hnum⟩
  clear hnum
  have hpc : (p = true ∧ ∃ h : E < s.size, ((s[E].toNat : Int) == 40) = true) ∨ (p = false ∧ ∃ h : E < s.size, ((s[E].toNat : Int) == 40) = false) ∨ (p = false ∧ ¬ E < s.size) := by
    by_cases h : E < s.size
    · rw [Wn.hd_in s E h] at hp
      cases p
      · exact .inr (.inl ⟨rfl, h, hp⟩)
      · exact .inl ⟨rfl, h, hp⟩
    · refine .inr (.inr ⟨?_, h⟩)
      rw [← hp, Wn.hd_out s E (by omega)]; rfl
  clear hp
  rcases h45c with h45 | ⟨h45, h1⟩
  all_goals
    rcases hpc with ⟨rfl, hlt, h40⟩ | ⟨rfl, hlt, h40⟩ | ⟨rfl, hlt⟩
    · go_enter Tryd.func41, Tryd.ntmps41
      go_wp2_with (first | (go_at_call 76; (with_reducible refine (Q0.out _).mono ?_); rintro e w' ⟨rfl, rfl⟩) | (go_at_call 76; (refine (Q1.out _ _ (by omega)).mono ?_); rintro e w' ⟨rfl, rfl⟩) | (go_at_call 79; (with_reducible refine (QB.out _).mono ?_); rintro e w' ⟨rfl, rfl⟩) | (go_at_call 78; (with_reducible refine (QN.out _).mono ?_); rintro e w' ⟨rfl, rfl⟩))
      exact ret_tok_ok rfl rfl rfl rfl (heap_alloc_new w _) ⟨rfl, (Below.refl _ _).alloc (Nat.le_refl _) _⟩
    · go_enter Tryd.func41, Tryd.ntmps41
      go_wp2_with (first | (go_at_call 76; (with_reducible refine (Q0.out _).mono ?_); rintro e w' ⟨rfl, rfl⟩) | (go_at_call 76; (refine (Q1.out _ _ (by omega)).mono ?_); rintro e w' ⟨rfl, rfl⟩) | (go_at_call 79; (with_reducible refine (QB.out _).mono ?_); rintro e w' ⟨rfl, rfl⟩) | (go_at_call 78; (with_reducible refine (QN.out _).mono ?_); rintro e w' ⟨rfl, rfl⟩))
      exact ret_tok_ok rfl rfl rfl rfl (heap_alloc_new w _) ⟨rfl, (Below.refl _ _).alloc (Nat.le_refl _) _⟩
    · go_enter Tryd.func41, Tryd.ntmps41
      go_wp2_with (first | (go_at_call 76; (with_reducible refine (Q0.out _).mono ?_); rintro e w' ⟨rfl, rfl⟩) | (go_at_call 76; (refine (Q1.out _ _ (by omega)).mono ?_); rintro e w' ⟨rfl, rfl⟩) | (go_at_call 79; (with_reducible refine (QB.out _).mono ?_); rintro e w' ⟨rfl, rfl⟩) | (go_at_call 78; (with_reducible refine (QN.out _).mono ?_); rintro e w' ⟨rfl, rfl⟩))
      exact ret_tok_ok rfl rfl rfl rfl (heap_alloc_new w _) ⟨rfl, (Below.refl _ _).alloc (Nat.le_refl _) _⟩
end Go.Proofs.YtnkdppbpcinjhaaDoor
