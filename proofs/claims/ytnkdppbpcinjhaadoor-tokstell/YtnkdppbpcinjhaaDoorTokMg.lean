/- How long the tokens of a text are, and the text of tokens. Plain mathematics. -/
import Derived.Test.YtnkdppbpcinjhaaDoorTokMf
import Derived.Test.YtnkdppbpcinjhaaDoorTokY
set_option maxRecDepth 20000
namespace Wn
theorem one_len {l : List UInt8} (h : l ≠ []) : (one l).1.2.1.length ≤ l.length := by
  have hl : 1 ≤ l.length := by cases l with
    | nil => exact absurd rfl h
    | cons b l => simp
  unfold one
  split
  · exact hl
  · split
    · simp; omega
    · split
      · unfold named; simp; omega
      · split
        · unfold named; simp; omega
        · split
          · unfold number numTok; split <;> (simp; omega)
          · split
            · unfold word; split <;> (simp; omega)
            · simp; omega
theorem lex_len : ∀ (n : Nat) (l : List UInt8), l.length ≤ n → ∀ t ∈ lex l, t.2.1.length ≤ n
  | 0, l, hn, t, ht => by
    have : l = [] := List.length_eq_zero_iff.1 (by omega)
    subst this; simp [lex, lexF] at ht
  | n + 1, l, hn, t, ht => by
    by_cases he : l.drop (skip l) = []
    · rw [lex_end he] at ht; simp at ht
    · rw [lex_cons he, List.mem_cons] at ht
      rcases ht with rfl | ht
      · have := one_len he
        simp at this ⊢; omega
      · have := one_pos he
        have := lex_len n _ (by have h1 := this.1; have h2 := this.2; simp at h1 h2 ⊢; omega) t ht
        omega
theorem texts_len (N : Nat) : ∀ (l : List Tok) (p : Option Tok), (∀ t ∈ l, (oneText t).length ≤ N) → (texts p l).length ≤ l.length * (N + 4)
  | [], p, _ => by cases p <;> simp [texts]
  | t :: l, p, h => by
    have h1 := h t (by simp)
    have h2 := texts_len N l (some t) (fun t ht => h t (by simp [ht]))
    rw [List.length_cons, Nat.add_mul, Nat.one_mul]
    cases p with
    | none => simp only [texts, List.length_append]; omega
    | some p =>
      simp only [texts, List.length_append]
      split <;> simp <;> omega
theorem valid_n {t : Tok} (h : Valid t) : -9223372036854775808 ≤ t.2.2 ∧ t.2.2 ≤ 9223372036854775807 := by
  rcases h with ⟨x, _, rfl⟩ | ⟨x, _, rfl⟩ | ⟨x, _, rfl⟩ | ⟨x, _, _, rfl⟩ | ⟨x, n, _, _, _, rfl⟩ | ⟨x, q, hq, _, rfl⟩ | ⟨c, _, rfl⟩ | rfl <;> dsimp only <;> omega
end Wn
namespace Go.Proofs.YtnkdppbpcinjhaaDoor
theorem fine_text {l : List Wn.Tok} (h : ∀ t ∈ l, Fine t) : (Wn.text l).length ≤ l.length * 1048600 := Wn.texts_len 1048596 l none (fun t ht => (h t ht).one)
theorem lex_fine {l : List UInt8} (h : l.length ≤ 1048576) : ∀ t ∈ Wn.lex l, Fine t := fun t ht =>
  ⟨Wn.lex_len 1048576 l h t ht, Wn.valid_n (Wn.lex_valid _ l (Nat.le_refl _) t ht)⟩
end Go.Proofs.YtnkdppbpcinjhaaDoor
