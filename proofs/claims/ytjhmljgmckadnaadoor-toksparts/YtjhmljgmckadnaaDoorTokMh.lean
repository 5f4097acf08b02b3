/- What the tokens of a text have; two runs of blanks in a row stand in no text of fewer than six bytes. Plain mathematics. -/
import Derived.Test.YtjhmljgmckadnaaDoorTokMg
namespace Wn
theorem closeLen_two : ∀ l : List UInt8, closeLen l < l.length → 2 ≤ closeLen l
  | [], h => by simp at h
  | b :: l, h => by
    unfold closeLen at h ⊢
    split
    · omega
    · rename_i hc
      rw [if_neg hc] at h
      have := closeLen_two l (by simp at h; omega)
      omega
theorem skip_four {l : List UInt8} (h0 : skip l ≠ 0) (h1 : skip l < l.length) : 4 ≤ skip l := by
  cases hc : commentBegins l
  · exact absurd (skip_no hc) h0
  · have hs := skip_yes hc
    by_cases hcl : closeLen (l.drop 2) < (l.drop 2).length
    · have := closeLen_two _ hcl; omega
    · simp at hcl; omega
theorem one_eight {l : List UInt8} (h : (one l).1.1 = 8) : blank l = true := by
  cases hb : blank l
  · exfalso
    unfold one at h
    rw [if_neg (by rw [hb]; decide)] at h
    split at h
    · simp at h
    · split at h
      · unfold named at h; simp at h
      · split at h
        · unfold named at h; simp at h
        · split at h
          · rw [number_kind] at h; omega
          · split at h
            · rcases word_kind l with hw | hw <;> omega
            · simp at h
  · rfl
theorem run_stop (f : List UInt8 → Bool) (hf : f [] = false) : ∀ l : List UInt8, f (l.drop (runLen f l)) = false
  | [] => by simpa [runLen] using hf
  | b :: l => by
    rw [runLen_cons]
    split
    · rw [List.drop_succ_cons]; exact run_stop f hf l
    · rename_i h; simpa using h
theorem lex_adj : ∀ (n : Nat) (l : List UInt8), l.length ≤ n → ∀ (i : Nat) (a b : Tok), (lex l)[i]? = some a → (lex l)[i + 1]? = some b → a.1 = 8 → b.1 = 8 → 6 ≤ l.length
  | 0, l, hn, i, a, b, ha, _, _, _ => by
    have : l = [] := List.length_eq_zero_iff.1 (by omega)
    subst this; simp [lex, lexF] at ha
  | n + 1, l, hn, i, a, b, ha, hb, ka, kb => by
    by_cases he : l.drop (skip l) = []
    · rw [lex_end he] at ha; simp at ha
    · rw [lex_cons he] at ha hb
      have hp := one_pos he
      generalize hl' : l.drop (skip l) = m at *
      have hml : m.length ≤ l.length := by rw [← hl']; simp
      cases i with
      | zero =>
        simp only [List.getElem?_cons_zero, Option.some.injEq, Nat.zero_add, List.getElem?_cons_succ] at ha hb
        subst ha
        have hbl := one_eight ka
        have ho : one m = ((8, [10], 0), runLen blank m) := by unfold one; rw [if_pos hbl]
        rw [ho] at hb hp
        dsimp only at hb hp
        have hst := run_stop blank (by decide) m
        generalize hr : m.drop (runLen blank m) = r at *
        have hrl : r.length + 1 ≤ m.length := by rw [← hr]; simp; omega
        by_cases he2 : r.drop (skip r) = []
        · rw [lex_end he2] at hb; simp at hb
        · rw [lex_cons he2] at hb
          simp only [List.getElem?_cons_zero, Option.some.injEq] at hb
          subst hb
          have hb2 := one_eight kb
          have hsl : skip r < r.length := by
            apply Classical.byContradiction; intro hh
            exact he2 (List.drop_of_length_le (by omega))
          have hs0 : skip r ≠ 0 := by
            intro h0
            rw [h0, List.drop_zero, hst] at hb2
            cases hb2
          have := skip_four hs0 hsl
          omega
      | succ i =>
        simp only [List.getElem?_cons_succ] at ha hb
        have := lex_adj n (m.drop (one m).2) (by simp; omega) i a b ha hb ka kb
        simp at this; omega
end Wn
