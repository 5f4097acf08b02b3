/- Valid tokens, and how they are read from their texts: plain mathematics. -/
import Derived.Test.YtnkdppbpcinjhaaDoorTokMa
import Derived.Test.YtnkdppbpcinjhaaDoorTokU
set_option maxRecDepth 20000
namespace Wn
def Names (x : List UInt8) : Prop := runLen nameByte x = x.length
def IsName (x : List UInt8) : Prop := nameBegins x = true ∧ Names x
def DelimB (c : UInt8) : Prop := blank [c] = false ∧ digit [c] = false ∧ nameStart [c] = false
def Unit (x : List UInt8) : Prop := x = [] ∨ x = [37] ∨ IsName x
/-- no quote q and no line end -/
def Clean (q : Int) (x : List UInt8) : Prop := ∀ b ∈ x, (b.toNat : Int) ≠ q ∧ b ≠ 10 ∧ b ≠ 12 ∧ b ≠ 13
def Valid (t : Tok) : Prop :=
  (∃ x, IsName x ∧ t = (1, x, 0)) ∨ (∃ x, IsName x ∧ t = (2, x, 0)) ∨ (∃ x, IsName x ∧ t = (3, x, 0)) ∨ (∃ x, Names x ∧ x ≠ [] ∧ t = (4, x, 0)) ∨
  (∃ x n, -999999999 ≤ n ∧ n ≤ 999999999 ∧ Unit x ∧ t = (5, x, n)) ∨ (∃ x q, (q = 34 ∨ q = 39) ∧ Clean q x ∧ t = (6, x, q)) ∨ (∃ c, DelimB c ∧ t = (7, [c], 0)) ∨ t = (8, [10], 0)
theorem Valid.ident (x : List UInt8) (h : IsName x) : Valid (1, x, 0) := .inl ⟨x, h, rfl⟩
theorem Valid.func (x : List UInt8) (h : IsName x) : Valid (2, x, 0) := .inr (.inl ⟨x, h, rfl⟩)
theorem Valid.at_ (x : List UInt8) (h : IsName x) : Valid (3, x, 0) := .inr (.inr (.inl ⟨x, h, rfl⟩))
theorem Valid.hash (x : List UInt8) (h : Names x) (h0 : x ≠ []) : Valid (4, x, 0) := .inr (.inr (.inr (.inl ⟨x, h, h0, rfl⟩)))
theorem Valid.num (x : List UInt8) (n : Int) (h1 : -999999999 ≤ n) (h2 : n ≤ 999999999) (h : Unit x) : Valid (5, x, n) := .inr (.inr (.inr (.inr (.inl ⟨x, n, h1, h2, h, rfl⟩))))
theorem Valid.str (x : List UInt8) (q : Int) (h1 : q = 34 ∨ q = 39) (h : Clean q x) : Valid (6, x, q) := .inr (.inr (.inr (.inr (.inr (.inl ⟨x, q, h1, h, rfl⟩)))))
theorem Valid.delim (c : UInt8) (h : DelimB c) : Valid (7, [c], 0) := .inr (.inr (.inr (.inr (.inr (.inr (.inl ⟨c, h, rfl⟩))))))
theorem Valid.white : Valid (8, [10], 0) := .inr (.inr (.inr (.inr (.inr (.inr (.inr rfl))))))
theorem runLen_cons (f : List UInt8 → Bool) (b : UInt8) (l : List UInt8) : runLen f (b :: l) = if f (b :: l) then runLen f l + 1 else 0 := rfl
theorem runLen_take (f : List UInt8 → Bool) (hf : HeadOnly f) : ∀ l : List UInt8, runLen f (l.take (runLen f l)) = runLen f l
  | [] => rfl
  | b :: l => by
    rw [runLen_cons]
    by_cases h : f (b :: l) = true
    · rw [if_pos h, List.take_succ_cons, runLen_cons, show f (b :: l.take (runLen f l)) = f (b :: l) from hf _ _ _, if_pos h, runLen_take f hf l]
    · rw [if_neg h]; rfl
theorem names_take (l : List UInt8) : Names (l.take (runLen nameByte l)) := by
  unfold Names
  rw [runLen_take _ ho_name, List.length_take, Nat.min_eq_left (runLen_le _ _)]
theorem nameBegins_cons2 (b c : UInt8) (l m : List UInt8) : nameBegins (b :: c :: l) = nameBegins (b :: c :: m) := rfl
theorem isName_take {l : List UInt8} (h : nameBegins l = true) : IsName (l.take (runLen nameByte l)) := by
  refine ⟨?_, names_take l⟩
  match l, h with
  | [], h => exact absurd h (by decide)
  | [b], h =>
    have hb := nameBegins_byte h
    have : runLen nameByte [b] = 1 := by rw [runLen_cons, if_pos hb]; rfl
    rw [this]; exact h
  | b :: c :: l, h =>
    have hb := nameBegins_byte h
    by_cases hc : nameByte (c :: l) = true
    · have : runLen nameByte (b :: c :: l) = runLen nameByte l + 2 := by
        rw [runLen_cons, if_pos hb, runLen_cons, if_pos hc]
      rw [this, List.take_succ_cons, List.take_succ_cons, nameBegins_cons2 b c _ l]; exact h
    · have hr : runLen nameByte (b :: c :: l) = 1 := by
        rw [runLen_cons, if_pos hb, runLen_cons, if_neg hc]
      rw [hr]
      unfold nameBegins at h ⊢
      have e : hd (b :: c :: l) = hd (List.take 1 (b :: c :: l)) := rfl
      rw [← e]
      split
      · rename_i h45
        rw [if_pos h45] at h
        exfalso
        apply hc
        simp only [List.drop_succ_cons, List.drop_zero] at h
        unfold nameByte
        simp only [Bool.or_eq_true] at h ⊢
        rcases h with h | h
        · exact .inl (.inl h)
        · exact .inr h
      · rename_i h45
        rw [if_neg h45] at h
        exact h
theorem unit_take (l : List UInt8) : Unit (l.take (unitLen l)) := by
  unfold unitLen
  split
  · rename_i h
    right; left
    cases l with
    | nil => simp [hd] at h
    | cons b l =>
      simp [hd] at h
      have : b = 37 := by apply UInt8.toNat.inj; simpa using Int.ofNat.inj h
      subst this; rfl
  · split
    · rename_i h; exact .inr (.inr (isName_take h))
    · left; simp
theorem clean_take (q : Int) : ∀ (l : List UInt8) (k : Nat), quoteLen q l = some k → Clean q (l.take k)
  | [], k, h => by simp [quoteLen] at h
  | b :: l, k, h => by
    unfold quoteLen at h
    split at h
    · cases h
    · rename_i hl
      split at h
      · simp at h; subst h; intro b hb; simp at hb
      · rename_i hq
        cases hr : quoteLen q l with
        | none => rw [hr] at h; cases h
        | some j =>
          rw [hr] at h; simp at h; subst h
          intro c hc
          rw [List.take_succ_cons, List.mem_cons] at hc
          rcases hc with rfl | hc
          · simp only [lineEnd, hd, Bool.or_eq_true, beq_iff_eq, not_or] at hl hq
            refine ⟨hq, ?_, ?_, ?_⟩ <;> rintro rfl <;> simp at hl
          · exact clean_take q l j hr c hc
/-- a token of a text is valid -/
theorem one_valid {l : List UInt8} (h : l ≠ []) : Valid (one l).1 := by
  unfold one
  split
  · exact .white
  · rename_i hbl
    split
    · rename_i k hk
      refine .str _ _ ?_ ?_
      · unfold strLen at hk
        split at hk
        · rename_i hq; unfold quote at hq; simpa using hq
        · cases hk
      · unfold strLen at hk
        split at hk
        · exact clean_take _ _ _ hk
        · cases hk
    · split
      · rename_i h35
        simp only [Bool.and_eq_true] at h35
        unfold named
        refine .hash _ (names_take _) ?_
        have := runLen_pos h35.2 (by decide)
        intro he
        have h2 := runLen_le nameByte (l.drop 1)
        have := congrArg List.length he
        rw [List.length_take, List.length_nil] at this
        omega
      · split
        · rename_i h64
          simp only [Bool.and_eq_true] at h64
          exact .at_ _ (isName_take h64.2)
        · split
          · unfold number numTok
            split
            · have := numVal_bounds (l.drop 1) 0 (by omega) (by omega)
              exact .num _ _ (by (first | rw [if_pos rfl] | rw [if_neg (by decide)]); omega) (by (first | rw [if_pos rfl] | rw [if_neg (by decide)]); omega) (unit_take _)
            · have := numVal_bounds l 0 (by omega) (by omega)
              exact .num _ _ (by (first | rw [if_pos rfl] | rw [if_neg (by decide)]); omega) (by (first | rw [if_pos rfl] | rw [if_neg (by decide)]); omega) (unit_take _)
          · rename_i hnu
            split
            · rename_i hn
              unfold word
              split
              · exact .func _ (isName_take hn)
              · exact .ident _ (isName_take hn)
            · rename_i hn
              cases l with
              | nil => exact absurd rfl h
              | cons c l =>
                refine .delim c ⟨?_, ?_, ?_⟩
                · have : blank [c] = blank (c :: l) := rfl
                  rw [this]; simpa using hbl
                · have : digit [c] = digit (c :: l) := rfl
                  rw [this]
                  unfold numberBegins at hnu
                  simp only [Bool.or_eq_true, not_or] at hnu
                  simpa using hnu.1
                · have e : nameStart [c] = nameStart (c :: l) := rfl
                  rw [e]
                  unfold nameBegins at hn
                  split at hn
                  · rename_i h45
                    have : hd (c :: l) = 45 := by simpa using h45
                    simp [nameStart, this]
                  · simpa using hn
theorem lex_valid : ∀ (n : Nat) (l : List UInt8), l.length ≤ n → ∀ t ∈ lex l, Valid t
  | 0, l, hn, t, ht => by
    have : l = [] := List.length_eq_zero_iff.1 (by omega)
    subst this; simp [lex, lexF] at ht
  | n + 1, l, hn, t, ht => by
    by_cases he : l.drop (skip l) = []
    · rw [lex_end he] at ht; simp at ht
    · rw [lex_cons he, List.mem_cons] at ht
      rcases ht with rfl | ht
      · exact one_valid he
      · have := one_pos he
        refine lex_valid n _ ?_ t ht
        have h1 := this.1
        have h2 := this.2
        simp at h1 h2 ⊢; omega
theorem may_valid {t : Tok} (h : may t = true) : Valid t := by
  unfold may at h
  have h' : lex (oneText t) = [t] := by simpa using h
  exact lex_valid _ (oneText t) (Nat.le_refl _) t (by rw [h']; simp)
end Wn
