/- The tokens of a text: plain mathematics. -/
import Derived.Test.YtnkdppbpcinjhaaDoorTokI
set_option maxRecDepth 20000
namespace Wn
theorem runLen_pos {p : List UInt8 → Bool} {l : List UInt8} (h : p l = true) (h0 : p [] = false) : 1 ≤ runLen p l := by
  cases l with
  | nil => rw [h0] at h; cases h
  | cons b l => unfold runLen; rw [if_pos h]; omega
theorem strLen_lt {l : List UInt8} {k : Nat} (h : strLen l = some k) : k + 2 ≤ l.length := by
  unfold strLen at h
  split at h
  · have := quoteLen_lt _ _ _ h
    simp at this; omega
  · cases h
theorem numberBegins_digit {l : List UInt8} (h : numberBegins l = true) (h45 : (hd l == 45) = false) : digit l = true := by
  unfold numberBegins at h; rw [h45] at h; simpa using h
theorem nameBegins_byte {l : List UInt8} (h : nameBegins l = true) : nameByte l = true := by
  unfold nameBegins at h
  unfold nameByte
  split at h
  · rename_i h45; rw [h45]; simp
  · rw [h]; simp
/-- a token takes at least one byte, and no more than there are -/
theorem one_pos {l : List UInt8} (h : l ≠ []) : 1 ≤ (one l).2 ∧ (one l).2 ≤ l.length := by
  have hl : 1 ≤ l.length := by cases l with
    | nil => exact absurd rfl h
    | cons b l => simp
  unfold one
  split
  · rename_i hb; exact ⟨runLen_pos hb (by decide), runLen_le _ _⟩
  · split
    · rename_i k hk; have := strLen_lt hk; exact ⟨by simp, by simpa using this⟩
    · split
      · unfold named; have := runLen_le nameByte (l.drop 1); simp at this ⊢; omega
      · split
        · unfold named; have := runLen_le nameByte (l.drop 1); simp at this ⊢; omega
        · split
          · rename_i hn
            unfold number numTok
            split
            · have h1 := runLen_le digit (l.drop 1)
              have h2 := unitLen_le (l.drop (1 + runLen digit (l.drop 1)))
              simp at h1 h2 ⊢; omega
            · rename_i h45
              have h0 := runLen_pos (numberBegins_digit hn (by simpa using h45)) (by decide)
              have h1 := runLen_le digit l
              have h2 := unitLen_le (l.drop (runLen digit l))
              simp at h1 h2 ⊢; omega
          · split
            · rename_i hn
              have h0 := runLen_pos (nameBegins_byte hn) (by decide)
              have h1 := runLen_le nameByte l
              unfold word
              split
              · rename_i h40
                have : runLen nameByte l < l.length := by
                  by_cases hlt : runLen nameByte l < l.length
                  · exact hlt
                  · rw [List.drop_of_length_le (by omega)] at h40; simp [hd] at h40
                simp; omega
              · simp; omega
            · simp; omega
theorem skipF_le : ∀ (f : Nat) (l : List UInt8), skipF f l ≤ l.length
  | 0, _ => Nat.zero_le _
  | f + 1, l => by
    unfold skipF
    split
    · rename_i hc
      have h2 : 2 ≤ l.length := by
        unfold commentBegins at hc
        match l, hc with
        | [], hc => simp [hd] at hc
        | [b], hc => simp [hd] at hc
        | b :: c :: l, _ => simp
      have h1 := closeLen_le (l.drop 2)
      have h3 := skipF_le f (l.drop (2 + closeLen (l.drop 2)))
      simp at h1 h3; omega
    · omega
theorem skip_le (l : List UInt8) : skip l ≤ l.length := skipF_le _ _
/-- the tokens of a text -/
def lexF : Nat → List UInt8 → List Tok
  | 0, _ => []
  | f + 1, l => if l.drop (skip l) = [] then [] else (one (l.drop (skip l))).1 :: lexF f ((l.drop (skip l)).drop (one (l.drop (skip l))).2)
def lex (l : List UInt8) : List Tok := lexF l.length l
theorem lexF_more : ∀ (f g : Nat) (l : List UInt8), l.length ≤ f → l.length ≤ g → lexF f l = lexF g l
  | 0, 0, _, _, _ => rfl
  | 0, g + 1, l, hf, _ => by
    have : l = [] := List.length_eq_zero_iff.1 (by omega)
    subst this; simp [lexF]
  | f + 1, 0, l, _, hg => by
    have : l = [] := List.length_eq_zero_iff.1 (by omega)
    subst this; simp [lexF]
  | f + 1, g + 1, l, hf, hg => by
    unfold lexF
    split
    · rfl
    · rename_i hne
      have h1 := one_pos hne
      have h2 : ((l.drop (skip l)).drop (one (l.drop (skip l))).2).length + 1 ≤ l.length := by
        have := h1.2; simp at this ⊢; omega
      rw [lexF_more f g _ (by omega) (by omega)]
theorem lex_end {l : List UInt8} (h : l.drop (skip l) = []) : lex l = [] := by
  unfold lex
  cases l.length with
  | zero => rfl
  | succ n => unfold lexF; rw [if_pos h]
theorem lex_cons {l : List UInt8} (h : l.drop (skip l) ≠ []) : lex l = (one (l.drop (skip l))).1 :: lex ((l.drop (skip l)).drop (one (l.drop (skip l))).2) := by
  have h1 := one_pos h
  have h2 : ((l.drop (skip l)).drop (one (l.drop (skip l))).2).length + 1 ≤ l.length := by
    have := h1.2; simp at this ⊢; omega
  unfold lex
  cases hn : l.length with
  | zero => omega
  | succ n =>
    conv => lhs; unfold lexF
    rw [if_neg h, lexF_more n _ _ (by omega) (Nat.le_refl _)]
theorem lexF_length : ∀ (f : Nat) (l : List UInt8), (lexF f l).length ≤ l.length
  | 0, _ => Nat.zero_le _
  | f + 1, l => by
    unfold lexF
    split
    · simp
    · rename_i hne
      have h1 := one_pos hne
      have h2 := lexF_length f ((l.drop (skip l)).drop (one (l.drop (skip l))).2)
      have := h1.2
      simp at this h2 ⊢; omega
theorem lex_length (l : List UInt8) : (lex l).length ≤ l.length := lexF_length _ _
end Wn
