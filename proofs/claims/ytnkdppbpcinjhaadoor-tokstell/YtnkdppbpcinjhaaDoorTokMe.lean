/- Tokens that are written one behind the other are read again as they were. Plain mathematics. -/
import Derived.Test.YtnkdppbpcinjhaaDoorTokMd
set_option maxRecDepth 20000
namespace Wn
theorem lex_two {l : List UInt8} {a b : Tok} (hne : l ≠ []) (hc : commentBegins l = false) (h : lex l = [a, b]) : (one l).1 = a ∧ lex (l.drop (one l).2) = [b] := by
  rw [lex_step (t := (one l).1) (k := (one l).2) hne hc rfl] at h
  simpa using h
theorem names_more {x R : List UInt8} (h : Names x) (hR : nameByte R = true) : x.length < runLen nameByte (x ++ R) := by
  induction x with
  | nil => rw [List.nil_append]; exact runLen_pos hR (by decide)
  | cons b x ih =>
    unfold Names at h ih
    rw [runLen_cons] at h
    by_cases hb : nameByte (b :: x) = true
    · rw [if_pos hb] at h
      have := ih (by simpa using h)
      rw [List.cons_append, runLen_cons, if_pos (by exact hb)]
      simp; omega
    · rw [if_neg hb] at h; simp at h
theorem hd_digit {c : UInt8} {l : List UInt8} (h : 48 ≤ c.toNat ∧ c.toNat ≤ 57) : digit (c :: l) = true := by rw [digit_iff]; simp [hd]; omega
/-- the numeral of a number: a minus and digits, or digits -/
theorem itoa_form {n : Int} (h0 : -999999999 ≤ n) (h1 : n ≤ 999999999) : ∃ D, Digits D ∧ D ≠ [] ∧ ((n < 0 ∧ Go.Lib.itoa n = 45 :: D) ∨ (0 ≤ n ∧ Go.Lib.itoa n = D)) := by
  unfold Go.Lib.itoa
  by_cases hn : n < 0
  · rw [if_pos hn]; exact ⟨_, decDigits_digits 8 _ (by omega), decDigits_ne _, .inl ⟨hn, rfl⟩⟩
  · rw [if_neg hn]; exact ⟨_, decDigits_digits 8 _ (by omega), decDigits_ne _, .inr ⟨by omega, rfl⟩⟩
theorem digits_head {D R : List UInt8} (h : Digits D) (hne : D ≠ []) : digit (D ++ R) = true := by
  cases D with
  | nil => exact absurd rfl hne
  | cons c D => exact hd_digit (h c (by simp))
/-- what the head of a valid token's text tells of it -/
theorem head_cases {b : Tok} (h : Valid b) : oneText b ≠ [] ∧ (digit (oneText b) = true → ∃ x n, b = (5, x, n) ∧ 0 ≤ n ∧ n ≤ 999999999 ∧ Unit x) ∧ (hd (oneText b) = 37 → b = (7, [37], 0)) ∧ (hd (oneText b) = 42 → b = (7, [42], 0)) ∧ (blank (oneText b) = true → b = (8, [10], 0)) ∧ (oneText b = [45] → b = (7, [45], 0)) := by
  have nameCase : ∀ (x y : List UInt8), IsName x → (x ++ y ≠ []) ∧ digit (x ++ y) = false ∧ hd (x ++ y) ≠ 37 ∧ hd (x ++ y) ≠ 42 ∧ blank (x ++ y) = false ∧ x ++ y ≠ [45] := by
    intro x y hx
    obtain ⟨h1, _, h3, h4⟩ := isName_app hx y
    have hn := head_name h3
    rw [nameStart_iff] at h3
    refine ⟨by simp [h4], hn.2.2.2.2.1, by omega, by omega, hn.1, ?_⟩
    intro he; rw [he] at h1; exact absurd h1 (by decide)
  rcases h with ⟨x, h, rfl⟩ | ⟨x, h, rfl⟩ | ⟨x, h, rfl⟩ | ⟨x, h, h0, rfl⟩ | ⟨x, n, h0, h1, h, rfl⟩ | ⟨x, q, hq, h, rfl⟩ | ⟨c, h, rfl⟩ | rfl
  · have e : oneText (1, x, 0) = x := rfl
    have := nameCase x [] h
    rw [List.append_nil] at this
    rw [e]
    obtain ⟨a1, a2, a3, a4, a5, a6⟩ := this
    exact ⟨a1, fun k => absurd k (by rw [a2]; decide), fun k => absurd k a3, fun k => absurd k a4, fun k => absurd k (by rw [a5]; decide), fun k => absurd k a6⟩
  · have e : oneText (2, x, 0) = x ++ [40] := rfl
    have := nameCase x [40] h
    rw [e]
    obtain ⟨a1, a2, a3, a4, a5, a6⟩ := this
    exact ⟨a1, fun k => absurd k (by rw [a2]; decide), fun k => absurd k a3, fun k => absurd k a4, fun k => absurd k (by rw [a5]; decide), fun k => absurd k a6⟩
  · have e : oneText (3, x, 0) = 64 :: x := rfl
    rw [e]
    exact ⟨by simp, fun k => by simp [digit_iff, hd] at k, fun k => by simp [hd] at k, fun k => by simp [hd] at k, fun k => by simp [blank_iff, hd] at k, fun k => by simp at k⟩
  · have e : oneText (4, x, 0) = 35 :: x := rfl
    rw [e]
    exact ⟨by simp, fun k => by simp [digit_iff, hd] at k, fun k => by simp [hd] at k, fun k => by simp [hd] at k, fun k => by simp [blank_iff, hd] at k, fun k => by simp at k⟩
  · have e : oneText (5, x, n) = Go.Lib.itoa n ++ x := rfl
    rw [e]
    obtain ⟨D, hD, hne, ⟨hneg, hi⟩ | ⟨hpos, hi⟩⟩ := itoa_form h0 h1
    · rw [hi]
      refine ⟨by simp, fun k => by simp [digit_iff, hd] at k, fun k => by simp [hd] at k, fun k => by simp [hd] at k, fun k => by simp [blank_iff, hd] at k, fun k => ?_⟩
      simp at k; exact absurd k.1 hne
    · rw [hi]
      have hdig := digits_head (R := x) hD hne
      rw [digit_iff] at hdig
      refine ⟨by simp [hne], fun _ => ⟨x, n, rfl, hpos, h1, h⟩, fun k => by omega, fun k => by omega, fun k => by rw [blank_iff] at k; omega, fun k => ?_⟩
      rw [k] at hdig; simp [hd] at hdig
  · have e : ∃ y, oneText (6, x, q) = (if q = 39 then 39 else 34) :: y := by
      rcases hq with rfl | rfl
      · exact ⟨_, rfl⟩
      · exact ⟨_, rfl⟩
    obtain ⟨y, e⟩ := e
    rw [e]
    rcases hq with rfl | rfl
    · exact ⟨by simp, fun k => by simp [digit_iff, hd] at k, fun k => by simp [hd] at k, fun k => by simp [hd] at k, fun k => by simp [blank_iff, hd] at k, fun k => by simp at k⟩
    · exact ⟨by simp, fun k => by simp [digit_iff, hd] at k, fun k => by simp [hd] at k, fun k => by simp [hd] at k, fun k => by simp [blank_iff, hd] at k, fun k => by simp at k⟩
  · have e : ∃ y, oneText (7, [c], 0) = c :: y := by
      show ∃ y, delimText (7, [c], 0) = c :: y
      unfold delimText
      split
      · exact ⟨_, rfl⟩
      · exact ⟨_, rfl⟩
    obtain ⟨y, e⟩ := e
    have hc : ∀ k : UInt8, hd (c :: y) = (k.toNat : Int) → c = k := fun k hk => UInt8.toNat.inj (by simpa [hd] using Int.ofNat.inj hk)
    rw [e]
    obtain ⟨a1, a2, a3⟩ := delim_head h y
    exact ⟨by simp, fun k => absurd k (by rw [a2]; decide), fun k => by rw [hc 37 k], fun k => by rw [hc 42 k], fun k => absurd k (by rw [a1]; decide), fun k => by simp at k; rw [k.1]⟩
  · exact ⟨by decide, fun k => absurd k (by decide), fun k => absurd k (by decide), fun k => absurd k (by decide), fun _ => rfl, fun k => absurd k (by decide)⟩
/-- a number and what it takes: digits, then a unit -/
theorem number_digits {n : Int} (h0 : -999999999 ≤ n) (h1 : n ≤ 999999999) {Y : List UInt8} :
    ∃ D, Digits D ∧ D ≠ [] ∧ one (Go.Lib.itoa n ++ Y) = ((5, (((D ++ Y).drop (runLen digit (D ++ Y))).take (unitLen ((D ++ Y).drop (runLen digit (D ++ Y))))), (one (Go.Lib.itoa n ++ Y)).1.2.2), (Go.Lib.itoa n).length - D.length + runLen digit (D ++ Y) + unitLen ((D ++ Y).drop (runLen digit (D ++ Y)))) ∧
      (Go.Lib.itoa n ++ Y).drop ((Go.Lib.itoa n).length - D.length) = D ++ Y ∧ commentBegins (Go.Lib.itoa n ++ Y) = false ∧ Go.Lib.itoa n ++ Y ≠ [] := by
  obtain ⟨D, hD, hne, ⟨hneg, hi⟩ | ⟨hpos, hi⟩⟩ := itoa_form h0 h1
  · refine ⟨D, hD, hne, ?_, ?_, ?_, ?_⟩
    · rw [hi]
      have hdig := digits_head (R := Y) hD hne
      have e : one (45 :: D ++ Y) = number (45 :: D ++ Y) := one_num (by unfold numberBegins; simp [hd, hdig])
      rw [e]
      unfold number
      rw [if_pos (by simp [hd])]
      unfold numTok
      have ed : (45 :: D ++ Y).drop (1 + runLen digit ((45 :: D ++ Y).drop 1)) = (D ++ Y).drop (runLen digit (D ++ Y)) := by
        rw [List.cons_append, List.drop_succ_cons, List.drop_zero, Nat.add_comm, List.drop_succ_cons]
      rw [ed]
      simp
    · rw [hi]; simp
    · rw [hi]; exact commentBegins_head (by simp [hd])
    · rw [hi]; simp
  · refine ⟨D, hD, hne, ?_, ?_, ?_, ?_⟩
    · rw [hi]
      have hdig := digits_head (R := Y) hD hne
      have e : one (D ++ Y) = number (D ++ Y) := one_num (by unfold numberBegins; rw [hdig]; rfl)
      rw [e]
      unfold number
      rw [digit_iff] at hdig
      rw [if_neg (by simp; omega)]
      unfold numTok
      simp
    · rw [hi]; simp
    · rw [hi]
      have hdig := digits_head (R := Y) hD hne
      rw [digit_iff] at hdig
      exact commentBegins_head (by omega)
    · rw [hi]; simp [hne]
end Wn
