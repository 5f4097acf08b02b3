/- Tokens that may be, written one behind the other, are read again as they were. Plain mathematics. -/
import Derived.Test.YtnkdppbpcinjhaaDoorTokMe
set_option maxRecDepth 20000
namespace Wn
theorem one_word {l : List UInt8} (h : nameBegins l = true) (hn : numberBegins l = false) : one l = word l := by
  have hh := head_name (nameBegins_head h)
  unfold one
  rw [if_neg (by rw [hh.1]; decide), strLen_noquote hh.2.1]
  dsimp only
  rw [if_neg (by simp [hh.2.2.1]), if_neg (by simp [hh.2.2.2.1]), if_neg (by rw [hn]; decide), if_pos h]
theorem word_kind (l : List UInt8) : (word l).1.1 = 1 ∨ (word l).1.1 = 2 := by unfold word; split <;> simp
theorem number_kind (l : List UInt8) : (number l).1.1 = 5 := by unfold number numTok; split <;> rfl
theorem run_all_digits {D R : List UInt8} (hD : Digits D) : runLen digit (D ++ R) = D.length + runLen digit R := by
  induction D with
  | nil => simp
  | cons c D ih =>
    rw [List.cons_append, runLen_cons, if_pos (hd_digit (hD c (by simp))), ih (fun d hd => hD d (by simp [hd]))]
    simp; omega
theorem unit_whole {x : List UInt8} (h : Unit x) : digit x = false ∧ unitLen x = x.length := by
  have := unit_head h (R := []) (fun _ => by decide) (fun _ _ => by decide)
  rwa [List.append_nil] at this
/-- two valid tokens that are read from their texts: the second one lets the first be -/
theorem follows_of_two {a b : Tok} (ha : Valid a) (hb : Valid b) (h : lex (oneText a ++ oneText b) = [a, b]) : Follows a (oneText b) := by
  obtain ⟨hne, hdig, h37, h42, hbl, _⟩ := head_cases hb
  generalize hR : oneText b = R at *
  rcases ha with ⟨x, hx, rfl⟩ | ⟨x, hx, rfl⟩ | ⟨x, hx, rfl⟩ | ⟨x, hx, hx0, rfl⟩ | ⟨x, n, hn0, hn1, hx, rfl⟩ | ⟨x, q, hq, hx, rfl⟩ | ⟨c, hc, rfl⟩ | rfl
  · -- an identifier
    have e : oneText (1, x, 0) = x := rfl
    rw [e] at h
    obtain ⟨_, _, hs, hx0⟩ := isName_app hx R
    have hh := head_name hs
    obtain ⟨h1, _⟩ := lex_two (by simp [hx0]) (commentBegins_head hh.2.2.2.2.2) h
    rw [one_name hx] at h1
    have hnb : nameByte R = false := by
      rw [false_iff_not]; intro hb'
      have hm := names_more hx.2 hb'
      have ht : (word (x ++ R)).1.2.1 = (x ++ R).take (runLen nameByte (x ++ R)) := by unfold word; split <;> rfl
      rw [h1] at ht
      have := congrArg List.length ht
      rw [List.length_take, Nat.min_eq_left (runLen_le _ _)] at this
      simp at this; omega
    refine ⟨fun _ => ⟨hnb, fun h40 => ?_⟩, fun k => absurd k (by simp), fun k => absurd k (by simp), fun k => absurd k (by simp), fun k => absurd k (by simp), fun k => absurd k (by simp), fun k => absurd k (by simp), fun k => absurd k (by simp), fun k => absurd k (by simp), fun k => absurd k (by simp)⟩
    have hr := names_app hx.2 hnb
    unfold word at h1
    rw [hr, drop_len _ _ _ rfl, if_pos (by simpa using h40)] at h1
    exact absurd (congrArg (fun t : Tok => t.1) h1) (by simp)
  · refine ⟨fun k => absurd k (by simp), fun k => absurd k (by simp), fun k => absurd k (by simp), fun k => absurd k (by simp), fun k => absurd k (by simp), fun k => absurd k (by simp), fun k => absurd k (by simp), fun k => absurd k (by simp), fun k => absurd k (by simp), fun k => absurd k (by simp)⟩
  · -- an at-word
    have e : oneText (3, x, 0) ++ R = 64 :: (x ++ R) := rfl
    rw [e] at h
    obtain ⟨hb1, _, _, _⟩ := isName_app hx R
    obtain ⟨h1, _⟩ := lex_two (by simp) (commentBegins_head (by simp [hd])) h
    rw [one_at hb1] at h1
    refine ⟨fun k => absurd k (by simp), fun _ => ?_, fun k => absurd k (by simp), fun k => absurd k (by simp), fun k => absurd k (by simp), fun k => absurd k (by simp), fun k => absurd k (by simp), fun k => absurd k (by simp), fun k => absurd k (by simp), fun k => absurd k (by simp)⟩
    rw [false_iff_not]; intro hb'
    have hm := names_more hx.2 hb'
    have ht := congrArg (fun t : Tok => t.2.1.length) h1
    unfold named at ht
    simp only [List.drop_succ_cons, List.drop_zero, List.length_take] at ht
    rw [Nat.min_eq_left (runLen_le _ _)] at ht
    omega
  · -- a hash
    have e : oneText (4, x, 0) ++ R = 35 :: (x ++ R) := rfl
    rw [e] at h
    have hxn : nameByte (x ++ R) = true := by
      rw [ho_name.app hx0 R]
      cases hb' : nameByte x
      · unfold Names at hx; rw [runLen_no hb'] at hx
        exact absurd (List.length_eq_zero_iff.1 hx.symm) hx0
      · rfl
    obtain ⟨h1, _⟩ := lex_two (by simp) (commentBegins_head (by simp [hd])) h
    rw [one_hash hxn] at h1
    refine ⟨fun k => absurd k (by simp), fun k => absurd k (by simp), fun _ => ?_, fun k => absurd k (by simp), fun k => absurd k (by simp), fun k => absurd k (by simp), fun k => absurd k (by simp), fun k => absurd k (by simp), fun k => absurd k (by simp), fun k => absurd k (by simp)⟩
    rw [false_iff_not]; intro hb'
    have hm := names_more hx hb'
    have ht := congrArg (fun t : Tok => t.2.1.length) h1
    unfold named at ht
    simp only [List.drop_succ_cons, List.drop_zero, List.length_take] at ht
    rw [Nat.min_eq_left (runLen_le _ _)] at ht
    omega
  · -- a number
    have e : oneText (5, x, n) ++ R = Go.Lib.itoa n ++ (x ++ R) := by show Go.Lib.itoa n ++ x ++ R = _; rw [List.append_assoc]
    rw [e] at h
    obtain ⟨D, hD, hDne, ho, hdr, hcb, hne'⟩ := number_digits hn0 hn1 (Y := x ++ R)
    obtain ⟨h1, h2⟩ := lex_two hne' hcb h
    have hrun := run_all_digits (R := x ++ R) hD
    rw [hrun] at ho
    have hdd : (D ++ (x ++ R)).drop (D.length + runLen digit (x ++ R)) = (x ++ R).drop (runLen digit (x ++ R)) := by
      rw [← List.drop_drop, drop_len _ _ _ rfl]
    rw [hdd] at ho
    -- all is taken: then there is no second token
    have whole : ∀ k, (x ++ R).drop (runLen digit (x ++ R)) = k → unitLen k = k.length → False := by
      intro k hk hu
      have e2 : (Go.Lib.itoa n ++ (x ++ R)).drop (one (Go.Lib.itoa n ++ (x ++ R))).2 = [] := by
        rw [ho]
        dsimp only
        rw [hk, hu, Nat.add_assoc, Nat.add_assoc, ← List.drop_drop, hdr, ← List.drop_drop, drop_len _ _ _ rfl, ← List.drop_drop, hk]
        simp
      rw [e2] at h2
      simp [lex, lexF] at h2
    have htx : ((x ++ R).drop (runLen digit (x ++ R))).take (unitLen ((x ++ R).drop (runLen digit (x ++ R)))) = x := by
      rw [ho] at h1
      exact congrArg (fun t : Tok => t.2.1) h1
    have hnil : x = [] → digit R = false ∧ hd R ≠ 37 ∧ nameBegins R = false := by
      rintro rfl
      rw [List.nil_append] at whole htx
      have hd0 : digit R = false := by
        rw [false_iff_not]; intro hd'
        obtain ⟨y, m, rfl, hm0, hm1, hy⟩ := hdig hd'
        obtain ⟨D', hD', hDne', ⟨hneg, hi⟩ | ⟨hpos, hi⟩⟩ := itoa_form (n := m) (by omega) hm1
        · omega
        · have eR : R = D' ++ y := by rw [← hR]; show Go.Lib.itoa m ++ y = _; rw [hi]
          obtain ⟨u1, u2⟩ := unit_whole hy
          have hr : runLen digit R = D'.length := by rw [eR]; exact digits_run hD' u1
          refine whole y ?_ u2
          rw [hr, eR, drop_len _ _ _ rfl]
      have hr0 : runLen digit R = 0 := runLen_no hd0
      rw [hr0, List.drop_zero] at htx
      refine ⟨hd0, fun h37' => ?_, ?_⟩
      · have eb := h37 h37'
        rw [eb] at hR
        have eR : R = [37] := hR.symm
        subst eR
        exact whole [37] rfl rfl
      · rw [false_iff_not]; intro hnb
        have hh := nameBegins_head hnb
        rw [nameStart_iff] at hh
        have hu : unitLen R = runLen nameByte R := by
          unfold unitLen; rw [if_neg (by simp; omega), if_pos hnb]
        have hpos := runLen_pos (nameBegins_byte hnb) (by decide)
        have := congrArg List.length htx
        rw [hu, List.length_take, Nat.min_eq_left (runLen_le _ _)] at this
        simp at this; omega
    refine ⟨fun k => absurd k (by simp), fun k => absurd k (by simp), fun k => absurd k (by simp), fun _ => hnil, fun _ k1 k2 => ?_, fun k => absurd k (by simp), fun k => absurd k (by simp), fun k => absurd k (by simp), fun k => absurd k (by simp), fun k => absurd k (by simp)⟩
    rcases hx with rfl | rfl | hx
    · exact absurd rfl k1
    · exact absurd rfl k2
    · rw [false_iff_not]; intro hb'
      obtain ⟨i1, i2, i3, i4⟩ := isName_app hx R
      have hh := head_name i3
      have hr0 : runLen digit (x ++ R) = 0 := runLen_no hh.2.2.2.2.1
      rw [hr0, List.drop_zero] at htx
      have hu : unitLen (x ++ R) = runLen nameByte (x ++ R) := by
        rw [nameStart_iff] at i3
        unfold unitLen; rw [if_neg (by simp; omega), if_pos i1]
      have hm := names_more hx.2 hb'
      have := congrArg List.length htx
      rw [hu, List.length_take, Nat.min_eq_left (runLen_le _ _)] at this
      omega
  · refine ⟨fun k => absurd k (by simp), fun k => absurd k (by simp), fun k => absurd k (by simp), fun k => absurd k (by simp), fun k => absurd k (by simp), fun k => absurd k (by simp), fun k => absurd k (by simp), fun k => absurd k (by simp), fun k => absurd k (by simp), fun k => absurd k (by simp)⟩
  · -- a delimiter
    have hplain : ¬ (c = 34 ∨ c = 39) → lex (c :: R) = [(7, [c], 0), b] := by
      intro hq
      have e : oneText (7, [c], 0) = [c] := by
        show delimText (7, [c], 0) = _
        unfold delimText; rw [if_neg (by simpa using hq)]
      rw [e] at h; exact h
    have kind : ¬ (c = 34 ∨ c = 39) → commentBegins (c :: R) = false → (one (c :: R)).1.1 = 7 := by
      intro hq hcb
      obtain ⟨h1, _⟩ := lex_two (by simp) hcb (hplain hq)
      rw [h1]
    refine ⟨fun k => absurd k (by simp), fun k => absurd k (by simp), fun k => absurd k (by simp), fun k => absurd k (by simp), fun k => absurd k (by simp), fun _ k => ?_, fun _ k => ?_, fun _ k => ?_, fun _ k => ?_, fun k => absurd k (by simp)⟩
    · obtain rfl : c = 35 := by simpa using k
      rw [false_iff_not]; intro hb'
      have := kind (by decide) (commentBegins_head (by simp [hd]))
      rw [one_hash hb'] at this
      exact absurd this (by unfold named; simp)
    · obtain rfl : c = 64 := by simpa using k
      rw [false_iff_not]; intro hb'
      have := kind (by decide) (commentBegins_head (by simp [hd]))
      rw [one_at hb'] at this
      exact absurd this (by unfold named; simp)
    · obtain rfl : c = 45 := by simpa using k
      have hk := kind (by decide) (commentBegins_head (by simp [hd]))
      have hd0 : digit R = false := by
        rw [false_iff_not]; intro hd'
        rw [one_num (by unfold numberBegins; simp [hd, hd']), number_kind] at hk
        omega
      have hnu : numberBegins (45 :: R) = false := by
        unfold numberBegins
        rw [List.drop_succ_cons, List.drop_zero, hd0]
        simp [digit, hd]
      have hnn : ¬ (nameStart R = true ∨ hd R = 45) := by
        intro hh
        have hnb : nameBegins (45 :: R) = true := by
          unfold nameBegins
          rw [if_pos (by simp [hd]), List.drop_succ_cons, List.drop_zero]
          simpa using hh
        rw [one_word hnb hnu] at hk
        rcases word_kind (45 :: R) with hw | hw <;> omega
      exact ⟨hd0, by rw [false_iff_not]; exact fun h => hnn (.inl h), fun h => hnn (.inr h)⟩
    · obtain rfl : c = 47 := by simpa using k
      intro h42'
      have eb := h42 h42'
      rw [eb] at hR
      have eR : R = [42] := hR.symm
      subst eR
      exact absurd (hplain (by decide)) (by rw [show lex [47, 42] = [] by decide]; simp)
  · refine ⟨fun k => absurd k (by simp), fun k => absurd k (by simp), fun k => absurd k (by simp), fun k => absurd k (by simp), fun k => absurd k (by simp), fun k => absurd k (by simp), fun k => absurd k (by simp), fun k => absurd k (by simp), fun k => absurd k (by simp), fun _ => ?_⟩
    rw [false_iff_not]; intro hb'
    have eb := hbl hb'
    rw [eb] at hR h
    have eR : R = [10] := hR.symm
    subst eR
    exact absurd h (by decide)
theorem nameBegins_app {R : List UInt8} (hne : R ≠ []) (h : nameBegins R = false) (X : List UInt8) (hX : R = [45] → nameStart X = false ∧ hd X ≠ 45) : nameBegins (R ++ X) = false := by
  match R, hne, h, hX with
  | [c], _, h, hX =>
    by_cases h45 : hd [c] = 45
    · have hc : c = 45 := UInt8.toNat.inj (by simpa [hd] using Int.ofNat.inj h45)
      subst hc
      obtain ⟨k1, k2⟩ := hX rfl
      unfold nameBegins
      rw [if_pos (by simp [hd])]
      simpa [k1] using k2
    · unfold nameBegins at h ⊢
      rw [if_neg (by simpa using h45)] at h
      rw [if_neg (by simpa using (show hd ([c] ++ X) ≠ 45 from h45))]
      exact h
  | c :: d :: R, _, h, _ => exact h
/-- what follows a token's text does not matter, but behind a minus -/
theorem follows_app {a b : Tok} (hb : Valid b) {X : List UInt8} (h : Follows a (oneText b)) (hX : Follows b X) : Follows a (oneText b ++ X) := by
  obtain ⟨hne, _, _, _, _, h45⟩ := head_cases hb
  obtain ⟨f1, f3, f4, f5, f5', f35, f64, f45, f47, f8⟩ := h
  have hX' : oneText b = [45] → nameStart X = false ∧ hd X ≠ 45 := by
    intro he
    have := h45 he
    subst this
    obtain ⟨_, _, _, _, _, _, _, g45, _, _⟩ := hX
    have := g45 rfl rfl
    exact ⟨this.2.1, this.2.2⟩
  generalize oneText b = R at *
  have en := ho_name.app hne X
  have ed := ho_digit.app hne X
  have es := ho_start.app hne X
  have eb := ho_blank.app hne X
  have eh := hd_app hne X
  refine ⟨fun k => ?_, fun k => ?_, fun k => ?_, fun k k' => ?_, fun k k1 k2 => ?_, fun k k' => ?_, fun k k' => ?_, fun k k' => ?_, fun k k' => ?_, fun k => ?_⟩
  · rw [en, eh]; exact f1 k
  · rw [en]; exact f3 k
  · rw [en]; exact f4 k
  · rw [ed, eh]; obtain ⟨g1, g2, g3⟩ := f5 k k'; exact ⟨g1, g2, nameBegins_app hne g3 X hX'⟩
  · rw [en]; exact f5' k k1 k2
  · rw [en]; exact f35 k k'
  · exact nameBegins_app hne (f64 k k') X hX'
  · rw [ed, es, eh]; exact f45 k k'
  · rw [eh]; exact f47 k k'
  · rw [eb]; exact f8 k
theorem apart_false {j : List UInt8} {a b : Tok} (h : apart j a b = false) : lex j = [a, b] := by
  unfold apart at h
  simp only [Bool.or_eq_false_iff, Bool.not_eq_false', decide_eq_true_eq] at h
  exact h.2
theorem texts_some (p t : Tok) (l : List Tok) : texts (some p) (t :: l) = (if apart (oneText p ++ oneText t) p t then [47, 42, 42, 47] else []) ++ text (t :: l) := rfl
theorem text_cons (t : Tok) (l : List Tok) : text (t :: l) = oneText t ++ texts (some t) l := rfl
theorem follows_texts : ∀ (l : List Tok) (a : Tok), Valid a → (∀ t ∈ l, Valid t) → Follows a (texts (some a) l)
  | [], a, _, _ => follows_nil a
  | b :: l, a, ha, hl => by
    rw [texts_some]
    cases hap : apart (oneText a ++ oneText b) a b
    · rw [if_neg (by decide), List.nil_append, text_cons]
      have hb := hl b (by simp)
      exact follows_app hb (follows_of_two ha hb (apart_false hap)) (follows_texts l b hb (fun t ht => hl t (by simp [ht])))
    · rw [if_pos rfl]
      exact follows_slash a rfl
/-- valid tokens, written one behind the other, are read again as they were -/
theorem lex_text : ∀ l : List Tok, (∀ t ∈ l, Valid t) → lex (text l) = l
  | [], _ => rfl
  | a :: l, h => by
    have ha := h a (by simp)
    have hl : ∀ t ∈ l, Valid t := fun t ht => h t (by simp [ht])
    rw [text_cons, read_valid ha (follows_texts l a ha hl)]
    congr 1
    have ih := lex_text l hl
    cases l with
    | nil => rfl
    | cons b l =>
      rw [texts_some]
      cases hap : apart (oneText a ++ oneText b) a b
      · rw [if_neg (by decide), List.nil_append]; exact ih
      · rw [if_pos rfl, lex_comment (l := [47, 42, 42, 47] ++ text (b :: l)) rfl]
        exact ih
end Wn
