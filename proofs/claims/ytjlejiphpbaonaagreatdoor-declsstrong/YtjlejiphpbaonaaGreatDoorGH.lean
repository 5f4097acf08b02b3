/- Valid tokens, and how they are read from their texts: plain mathematics. A valid token, and what may follow it: it is read from its text. Plain mathematics. Numbers and delimiters are read from their texts; so is every valid token. Plain mathematics. Tokens that are written one behind the other are read again as they were. Plain mathematics. Tokens that may be, written one behind the other, are read again as they were. Plain mathematics. How long the tokens of a text are, and the text of tokens. Plain mathematics. Arguments of a row that are tokens: what the reading of a row's argument says of the memory. Tokens with a comment behind each, and with other blanks in the place of blanks, are read as they were. Plain mathematics. -/
import Derived.Test.YtjlejiphpbaonaaGreatDoorGA
import Derived.Test.YtjlejiphpbaonaaGreatDoorGF
import Derived.Test.YtjlejiphpbaonaaGreatDoorGG
import Derived.Carry
import Derived.WideKeyArgs
import Derived.ChangeSame
import Derived.Lib.SmallJoins
set_option maxRecDepth 20000
namespace Wn
def Names (x : List UInt8) : Prop := runLen nameByte x = x.length
def IsName (x : List UInt8) : Prop := nameBegins x = true ∧ Names x
def DelimB (c : UInt8) : Prop := blank [c] = false ∧ digit [c] = false ∧ nameStart [c] = false
def Unit (x : List UInt8) : Prop := x = [] ∨ x = [37] ∨ IsName x
/-- no quote q and no line end -/
def Clean (q : Int) (x : List UInt8) : Prop := ∀ b ∈ x, (b.toNat : Int) ≠ q ∧ b ≠ 10 ∧ b ≠ 12 ∧ b ≠ 13
def Valid (t : Tok) : Prop :=
  (∃ x, IsName x ∧ t = (1, x, 0)) ∨ (∃ x, IsName x ∧ t = (2, x, 0)) ∨ (∃ x, IsName x ∧ t = (3, x, 0)) ∨ (∃ x, Names x ∧ x ≠ [] ∧ t = (4, x, 0)) ∨
  (∃ x n, -999999999 ≤ n ∧ n ≤ 999999999 ∧ Unit x ∧ t = (5, x, n)) ∨ (∃ x q, (q = 34 ∨ q = 39) ∧ Clean q x ∧ t = (6, x, q)) ∨ (∃ c, DelimB c ∧ t = (7, [c], 0)) ∨ t = (8, [10], 0)
theorem Valid.ident (x : List UInt8) (h : IsName x) : Valid (1, x, 0) := .inl ⟨x, h, rfl⟩
theorem Valid.func (x : List UInt8) (h : IsName x) : Valid (2, x, 0) := .inr (.inl ⟨x, h, rfl⟩)
theorem Valid.at_ (x : List UInt8) (h : IsName x) : Valid (3, x, 0) := .inr (.inr (.inl ⟨x, h, rfl⟩))
theorem Valid.hash (x : List UInt8) (h : Names x) (h0 : x ≠ []) : Valid (4, x, 0) := .inr (.inr (.inr (.inl ⟨x, h, h0, rfl⟩)))
theorem Valid.num (x : List UInt8) (n : Int) (h1 : -999999999 ≤ n) (h2 : n ≤ 999999999) (h : Unit x) : Valid (5, x, n) := .inr (.inr (.inr (.inr (.inl ⟨x, n, h1, h2, h, rfl⟩))))
theorem Valid.str (x : List UInt8) (q : Int) (h1 : q = 34 ∨ q = 39) (h : Clean q x) : Valid (6, x, q) := .inr (.inr (.inr (.inr (.inr (.inl ⟨x, q, h1, h, rfl⟩)))))
theorem Valid.delim (c : UInt8) (h : DelimB c) : Valid (7, [c], 0) := .inr (.inr (.inr (.inr (.inr (.inr (.inl ⟨c, h, rfl⟩))))))
theorem Valid.white : Valid (8, [10], 0) := .inr (.inr (.inr (.inr (.inr (.inr (.inr rfl))))))
theorem runLen_cons (f : List UInt8 → Bool) (b : UInt8) (l : List UInt8) : runLen f (b :: l) = if f (b :: l) then runLen f l + 1 else 0 := rfl
theorem runLen_take (f : List UInt8 → Bool) (hf : HeadOnly f) : ∀ l : List UInt8, runLen f (l.take (runLen f l)) = runLen f l
  | [] => rfl
  | b :: l => by
    rw [runLen_cons]
    by_cases h : f (b :: l) = true
    · rw [if_pos h, List.take_succ_cons, runLen_cons, show f (b :: l.take (runLen f l)) = f (b :: l) from hf _ _ _, if_pos h, runLen_take f hf l]
    · rw [if_neg h]; rfl
theorem names_take (l : List UInt8) : Names (l.take (runLen nameByte l)) := by
  unfold Names
  rw [runLen_take _ ho_name, List.length_take, Nat.min_eq_left (runLen_le _ _)]
theorem nameBegins_cons2 (b c : UInt8) (l m : List UInt8) : nameBegins (b :: c :: l) = nameBegins (b :: c :: m) := rfl
theorem isName_take {l : List UInt8} (h : nameBegins l = true) : IsName (l.take (runLen nameByte l)) := by
  refine ⟨?_, names_take l⟩
  match l, h with
  | [], h => exact absurd h (by decide)
  | [b], h =>
    have hb := nameBegins_byte h
    have : runLen nameByte [b] = 1 := by rw [runLen_cons, if_pos hb]; rfl
    rw [this]; exact h
  | b :: c :: l, h =>
    have hb := nameBegins_byte h
    by_cases hc : nameByte (c :: l) = true
    · have : runLen nameByte (b :: c :: l) = runLen nameByte l + 2 := by
        rw [runLen_cons, if_pos hb, runLen_cons, if_pos hc]
      rw [this, List.take_succ_cons, List.take_succ_cons, nameBegins_cons2 b c _ l]; exact h
    · have hr : runLen nameByte (b :: c :: l) = 1 := by
        rw [runLen_cons, if_pos hb, runLen_cons, if_neg hc]
      rw [hr]
      unfold nameBegins at h ⊢
      have e : hd (b :: c :: l) = hd (List.take 1 (b :: c :: l)) := rfl
      rw [← e]
      split
      · rename_i h45
        rw [if_pos h45] at h
        exfalso
        apply hc
        simp only [List.drop_succ_cons, List.drop_zero] at h
        unfold nameByte
        simp only [Bool.or_eq_true] at h ⊢
        rcases h with h | h
        · exact .inl (.inl h)
        · exact .inr h
      · rename_i h45
        rw [if_neg h45] at h
        exact h
theorem unit_take (l : List UInt8) : Unit (l.take (unitLen l)) := by
  unfold unitLen
  split
  · rename_i h
    right; left
    cases l with
    | nil => simp [hd] at h
    | cons b l =>
      simp [hd] at h
      have : b = 37 := by apply UInt8.toNat.inj; simpa using Int.ofNat.inj h
      subst this; rfl
  · split
    · rename_i h; exact .inr (.inr (isName_take h))
    · left; simp
theorem clean_take (q : Int) : ∀ (l : List UInt8) (k : Nat), quoteLen q l = some k → Clean q (l.take k)
  | [], k, h => by simp [quoteLen] at h
  | b :: l, k, h => by
    unfold quoteLen at h
    split at h
    · cases h
    · rename_i hl
      split at h
      · simp at h; subst h; intro b hb; simp at hb
      · rename_i hq
        cases hr : quoteLen q l with
        | none => rw [hr] at h; cases h
        | some j =>
          rw [hr] at h; simp at h; subst h
          intro c hc
          rw [List.take_succ_cons, List.mem_cons] at hc
          rcases hc with rfl | hc
          · simp only [lineEnd, hd, Bool.or_eq_true, beq_iff_eq, not_or] at hl hq
            refine ⟨hq, ?_, ?_, ?_⟩ <;> rintro rfl <;> simp at hl
          · exact clean_take q l j hr c hc
/-- a token of a text is valid -/
theorem one_valid {l : List UInt8} (h : l ≠ []) : Valid (one l).1 := by
  unfold one
  split
  · exact .white
  · rename_i hbl
    split
    · rename_i k hk
      refine .str _ _ ?_ ?_
      · unfold strLen at hk
        split at hk
        · rename_i hq; unfold quote at hq; simpa using hq
        · cases hk
      · unfold strLen at hk
        split at hk
        · exact clean_take _ _ _ hk
        · cases hk
    · split
      · rename_i h35
        simp only [Bool.and_eq_true] at h35
        unfold named
        refine .hash _ (names_take _) ?_
        have := runLen_pos h35.2 (by decide)
        intro he
        have h2 := runLen_le nameByte (l.drop 1)
        have := congrArg List.length he
        rw [List.length_take, List.length_nil] at this
        omega
      · split
        · rename_i h64
          simp only [Bool.and_eq_true] at h64
          exact .at_ _ (isName_take h64.2)
        · split
          · unfold number numTok
            split
            · have := numVal_bounds (l.drop 1) 0 (by omega) (by omega)
              exact .num _ _ (by (first | rw [if_pos rfl] | rw [if_neg (by decide)]); omega) (by (first | rw [if_pos rfl] | rw [if_neg (by decide)]); omega) (unit_take _)
            · have := numVal_bounds l 0 (by omega) (by omega)
              exact .num _ _ (by (first | rw [if_pos rfl] | rw [if_neg (by decide)]); omega) (by (first | rw [if_pos rfl] | rw [if_neg (by decide)]); omega) (unit_take _)
          · rename_i hnu
            split
            · rename_i hn
              unfold word
              split
              · exact .func _ (isName_take hn)
              · exact .ident _ (isName_take hn)
            · rename_i hn
              cases l with
              | nil => exact absurd rfl h
              | cons c l =>
                refine .delim c ⟨?_, ?_, ?_⟩
                · have : blank [c] = blank (c :: l) := rfl
                  rw [this]; simpa using hbl
                · have : digit [c] = digit (c :: l) := rfl
                  rw [this]
                  unfold numberBegins at hnu
                  simp only [Bool.or_eq_true, not_or] at hnu
                  simpa using hnu.1
                · have e : nameStart [c] = nameStart (c :: l) := rfl
                  rw [e]
                  unfold nameBegins at hn
                  split at hn
                  · rename_i h45
                    have : hd (c :: l) = 45 := by simpa using h45
                    simp [nameStart, this]
                  · simpa using hn
theorem lex_valid : ∀ (n : Nat) (l : List UInt8), l.length ≤ n → ∀ t ∈ lex l, Valid t
  | 0, l, hn, t, ht => by
    have : l = [] := List.length_eq_zero_iff.1 (by omega)
    subst this; simp [lex, lexF] at ht
  | n + 1, l, hn, t, ht => by
    by_cases he : l.drop (skip l) = []
    · rw [lex_end he] at ht; simp at ht
    · rw [lex_cons he, List.mem_cons] at ht
      rcases ht with rfl | ht
      · exact one_valid he
      · have := one_pos he
        refine lex_valid n _ ?_ t ht
        have h1 := this.1
        have h2 := this.2
        simp at h1 h2 ⊢; omega
theorem may_valid {t : Tok} (h : may t = true) : Valid t := by
  unfold may at h
  have h' : lex (oneText t) = [t] := by simpa using h
  exact lex_valid _ (oneText t) (Nat.le_refl _) t (by rw [h']; simp)
end Wn
set_option maxRecDepth 20000
namespace Wn
def Follows (t : Tok) (R : List UInt8) : Prop :=
  (t.1 = 1 → nameByte R = false ∧ hd R ≠ 40) ∧ (t.1 = 3 → nameByte R = false) ∧ (t.1 = 4 → nameByte R = false) ∧
  (t.1 = 5 → t.2.1 = [] → digit R = false ∧ hd R ≠ 37 ∧ nameBegins R = false) ∧ (t.1 = 5 → t.2.1 ≠ [] → t.2.1 ≠ [37] → nameByte R = false) ∧
  (t.1 = 7 → t.2.1 = [35] → nameByte R = false) ∧ (t.1 = 7 → t.2.1 = [64] → nameBegins R = false) ∧
  (t.1 = 7 → t.2.1 = [45] → digit R = false ∧ nameStart R = false ∧ hd R ≠ 45) ∧ (t.1 = 7 → t.2.1 = [47] → hd R ≠ 42) ∧ (t.1 = 8 → blank R = false)
theorem nameStart_iff (l : List UInt8) : nameStart l = true ↔ (65 ≤ hd l ∧ hd l ≤ 90) ∨ (97 ≤ hd l ∧ hd l ≤ 122) ∨ hd l = 95 ∨ 128 ≤ hd l := by
  unfold nameStart; simp [or_assoc]
theorem digit_iff (l : List UInt8) : digit l = true ↔ 48 ≤ hd l ∧ hd l ≤ 57 := by unfold digit; simp
theorem nameByte_iff (l : List UInt8) : nameByte l = true ↔ nameStart l = true ∨ digit l = true ∨ hd l = 45 := by unfold nameByte; simp [or_assoc]
theorem blank_iff (l : List UInt8) : blank l = true ↔ hd l = 32 ∨ hd l = 9 ∨ hd l = 10 ∨ hd l = 12 ∨ hd l = 13 := by unfold blank lineEnd; simp [or_assoc]
theorem quote_iff (l : List UInt8) : quote l = true ↔ hd l = 34 ∨ hd l = 39 := by unfold quote; simp
theorem false_iff_not {b : Bool} : b = false ↔ ¬ b = true := by cases b <;> simp
/-- what the head of a name is not -/
theorem head_name {l : List UInt8} (h : nameStart l = true ∨ hd l = 45) : blank l = false ∧ quote l = false ∧ hd l ≠ 35 ∧ hd l ≠ 64 ∧ digit l = false ∧ hd l ≠ 47 := by
  rw [nameStart_iff] at h
  rw [false_iff_not, false_iff_not, false_iff_not, blank_iff, quote_iff, digit_iff]
  omega
theorem nameBegins_head {l : List UInt8} (h : nameBegins l = true) : nameStart l = true ∨ hd l = 45 := by
  unfold nameBegins at h
  split at h
  · rename_i h45; right; simpa using h45
  · left; exact h
theorem isName_cases {x : List UInt8} (h : IsName x) : (∃ b y, x = b :: y ∧ nameStart (b :: y) = true ∧ hd (b :: y) ≠ 45) ∨ (∃ b c y, x = b :: c :: y ∧ hd (b :: c :: y) = 45 ∧ (nameStart (c :: y) = true ∨ hd (c :: y) = 45)) := by
  obtain ⟨h, _⟩ := h
  match x, h with
  | [], h => exact absurd h (by decide)
  | [b], h =>
    left
    unfold nameBegins at h
    split at h
    · rename_i h45; exact absurd h (by simp [hd, nameStart])
    · rename_i h45; exact ⟨b, [], rfl, h, by simpa using h45⟩
  | b :: c :: y, h =>
    unfold nameBegins at h
    split at h
    · rename_i h45
      right
      refine ⟨b, c, y, rfl, by simpa using h45, ?_⟩
      simpa using h
    · rename_i h45; left; exact ⟨b, c :: y, rfl, h, by simpa using h45⟩
theorem isName_app {x : List UInt8} (h : IsName x) (R : List UInt8) : nameBegins (x ++ R) = true ∧ numberBegins (x ++ R) = false ∧ (nameStart (x ++ R) = true ∨ hd (x ++ R) = 45) ∧ x ≠ [] := by
  rcases isName_cases h with ⟨b, y, rfl, h1, h2⟩ | ⟨b, c, y, rfl, h1, h2⟩
  · have h1' : nameStart (b :: y ++ R) = true := h1
    have h2' : hd (b :: y ++ R) ≠ 45 := h2
    have hn := head_name (.inl h1')
    refine ⟨?_, ?_, .inl h1', by simp⟩
    · unfold nameBegins; rw [if_neg (by simpa using h2')]; exact h1'
    · unfold numberBegins; rw [hn.2.2.2.2.1, beq_eq_false_iff_ne.2 h2']; rfl
  · have h1' : hd (b :: c :: y ++ R) = 45 := h1
    have hn := head_name (.inr h1')
    have h2' : nameStart ((b :: c :: y ++ R).drop 1) = true ∨ hd ((b :: c :: y ++ R).drop 1) = 45 := h2
    have hn2 := head_name h2'
    refine ⟨?_, ?_, .inr h1', by simp⟩
    · unfold nameBegins; rw [if_pos (by simpa using h1')]; simpa using h2'
    · unfold numberBegins; rw [hn.2.2.2.2.1, hn2.2.2.2.2.1]; simp
theorem strLen_noquote {l : List UInt8} (h : quote l = false) : strLen l = none := by unfold strLen; rw [h]; rfl
theorem one_name {x : List UInt8} (h : IsName x) (R : List UInt8) : one (x ++ R) = word (x ++ R) := by
  obtain ⟨h1, h2, h3, _⟩ := isName_app h R
  have hn := head_name h3
  unfold one
  rw [if_neg (by rw [hn.1]; decide), strLen_noquote hn.2.1]
  dsimp only
  rw [if_neg (by simp [hn.2.2.1]), if_neg (by simp [hn.2.2.2.1]), if_neg (by rw [h2]; decide), if_pos h1]
theorem names_app {x : List UInt8} (h : Names x) {R : List UInt8} (hR : nameByte R = false) : runLen nameByte (x ++ R) = x.length := by
  rw [run_app ho_name R hR, h]
theorem commentBegins_head {l : List UInt8} (h : hd l ≠ 47) : commentBegins l = false := by unfold commentBegins; simp [h]
/-- read one token, then the rest -/
theorem lex_step {l : List UInt8} {t : Tok} {k : Nat} (hne : l ≠ []) (hc : commentBegins l = false) (h : one l = (t, k)) : lex l = t :: lex (l.drop k) := by
  have hs := skip_no hc
  have he : l.drop (skip l) ≠ [] := by rw [hs]; exact hne
  rw [lex_cons he, hs, List.drop_zero, h]
theorem drop_len (x R : List UInt8) (k : Nat) (h : k = x.length) : (x ++ R).drop k = R := by subst h; simp
theorem take_len (x R : List UInt8) (k : Nat) (h : k = x.length) : (x ++ R).take k = x := by subst h; simp
theorem read_ident {x : List UInt8} (h : IsName x) {R : List UInt8} (hR : nameByte R = false) (h40 : hd R ≠ 40) : lex (x ++ R) = (1, x, 0) :: lex R := by
  obtain ⟨h1, h2, h3, h4⟩ := isName_app h R
  have hn := head_name h3
  have hr := names_app h.2 hR
  rw [lex_step (t := (1, x, 0)) (k := x.length) (by simp [h4]) (commentBegins_head hn.2.2.2.2.2) ?_, drop_len _ _ _ rfl]
  rw [one_name h]; unfold word
  rw [hr, drop_len _ _ _ rfl, take_len _ _ _ rfl, if_neg (by simpa using h40)]
theorem read_func {x : List UInt8} (h : IsName x) (R : List UInt8) : lex (x ++ 40 :: R) = (2, x, 0) :: lex R := by
  obtain ⟨h1, h2, h3, h4⟩ := isName_app h (40 :: R)
  have hn := head_name h3
  have hr := names_app h.2 (R := 40 :: R) (by simp [nameByte, nameStart, digit, hd])
  rw [lex_step (t := (2, x, 0)) (k := x.length + 1) (by simp [h4]) (commentBegins_head hn.2.2.2.2.2) ?_]
  · rw [show x ++ 40 :: R = (x ++ [40]) ++ R by simp, drop_len _ _ _ (by simp)]
  · rw [one_name h]; unfold word
    rw [hr, drop_len _ _ _ rfl, take_len _ _ _ rfl, if_pos (by simp [hd])]
theorem one_at {x : List UInt8} (h : nameBegins x = true) : one (64 :: x) = named 3 (64 :: x) := by
  unfold one
  rw [if_neg (by simp [blank, lineEnd, hd]), strLen_noquote (by simp [quote, hd])]
  dsimp only
  rw [if_neg (by simp [hd]), if_pos (by simp [hd, h])]
theorem one_hash {x : List UInt8} (h : nameByte x = true) : one (35 :: x) = named 4 (35 :: x) := by
  unfold one
  rw [if_neg (by simp [blank, lineEnd, hd]), strLen_noquote (by simp [quote, hd])]
  dsimp only
  rw [if_pos (by simp [hd, h])]
theorem read_at {x : List UInt8} (h : IsName x) {R : List UInt8} (hR : nameByte R = false) : lex (64 :: x ++ R) = (3, x, 0) :: lex R := by
  obtain ⟨h1, _, _, _⟩ := isName_app h R
  have hr := names_app h.2 hR
  rw [lex_step (t := (3, x, 0)) (k := x.length + 1) (by simp) (commentBegins_head (by simp [hd])) ?_]
  · rw [drop_len _ _ _ (by simp)]
  · rw [List.cons_append, one_at h1]; unfold named
    rw [List.drop_succ_cons, List.drop_zero, hr, take_len _ _ _ rfl]
theorem read_hash {x : List UInt8} (h : Names x) (h0 : x ≠ []) {R : List UInt8} (hR : nameByte R = false) : lex (35 :: x ++ R) = (4, x, 0) :: lex R := by
  have hr := names_app h hR
  have hx : nameByte (x ++ R) = true := by
    cases hb : nameByte (x ++ R)
    · rw [runLen_no hb] at hr
      exact absurd (List.length_eq_zero_iff.1 hr.symm) h0
    · rfl
  rw [lex_step (t := (4, x, 0)) (k := x.length + 1) (by simp) (commentBegins_head (by simp [hd])) ?_]
  · rw [drop_len _ _ _ (by simp)]
  · rw [List.cons_append, one_hash hx]; unfold named
    rw [List.drop_succ_cons, List.drop_zero, hr, take_len _ _ _ rfl]
theorem quote_clean (q : Int) : ∀ (x : List UInt8) (c : UInt8) (R : List UInt8), Clean q x → (c.toNat : Int) = q → q = 34 ∨ q = 39 → quoteLen q (x ++ c :: R) = some x.length
  | [], c, R, _, hc, hq => by
    rw [List.nil_append]
    unfold quoteLen
    rw [if_neg (by simp [lineEnd, hd]; omega), if_pos (by simpa [hd] using hc)]; rfl
  | b :: x, c, R, hx, hc, hq => by
    rw [List.cons_append]
    unfold quoteLen
    obtain ⟨h1, h2, h3, h4⟩ := hx b (by simp)
    have hl : lineEnd (b :: (x ++ c :: R)) = false := by
      simp only [lineEnd, hd, Bool.or_eq_false_iff, beq_eq_false_iff_ne, ne_eq]
      refine ⟨⟨?_, ?_⟩, ?_⟩ <;> intro h
      · exact h2 (UInt8.toNat.inj (by simpa using Int.ofNat.inj h))
      · exact h3 (UInt8.toNat.inj (by simpa using Int.ofNat.inj h))
      · exact h4 (UInt8.toNat.inj (by simpa using Int.ofNat.inj h))
    rw [if_neg (by rw [hl]; decide), if_neg (by simpa [hd] using h1), quote_clean q x c R (fun d hd => hx d (by simp [hd])) hc hq]
    rfl
theorem read_str {x : List UInt8} (c : UInt8) (hc : c = 34 ∨ c = 39) (hx : Clean (c.toNat : Int) x) (R : List UInt8) : lex (c :: x ++ c :: R) = (6, x, (c.toNat : Int)) :: lex R := by
  have hq : (c.toNat : Int) = 34 ∨ (c.toNat : Int) = 39 := by rcases hc with rfl | rfl <;> simp
  rw [lex_step (t := (6, x, (c.toNat : Int))) (k := x.length + 2) (by simp) (commentBegins_head (by simp [hd]; omega)) ?_]
  · rw [show c :: x ++ c :: R = (c :: x ++ [c]) ++ R by simp, drop_len _ _ _ (by simp)]
  · have hs : strLen (c :: x ++ c :: R) = some x.length := by
      unfold strLen
      rw [if_pos (by rw [quote_iff]; simpa [hd] using hq)]
      rw [List.cons_append, List.drop_succ_cons, List.drop_zero]
      exact quote_clean _ x c R hx rfl hq
    unfold one
    rw [if_neg (by rw [blank_iff]; simp [hd]; omega), hs]
    dsimp only
    rw [List.cons_append, List.drop_succ_cons, List.drop_zero, take_len _ _ _ rfl]
    rfl
theorem read_white {R : List UInt8} (hR : blank R = false) : lex (10 :: R) = (8, [10], 0) :: lex R := by
  rw [lex_step (t := (8, [10], 0)) (k := 1) (by simp) (commentBegins_head (by simp [hd])) ?_]
  · rfl
  · unfold one
    rw [if_pos (by simp [blank_iff, hd]), runLen_cons, if_pos (by simp [blank_iff, hd]), runLen_no hR]
end Wn
set_option maxRecDepth 20000
namespace Wn
def Digits (x : List UInt8) : Prop := ∀ b ∈ x, 48 ≤ b.toNat ∧ b.toNat ≤ 57
theorem digits_run : ∀ {x : List UInt8}, Digits x → ∀ {R : List UInt8}, digit R = false → runLen digit (x ++ R) = x.length
  | [], _, R, hR => by rw [List.nil_append, runLen_no hR]; rfl
  | b :: x, hx, R, hR => by
    have hb := hx b (by simp)
    rw [List.cons_append, runLen_cons, if_pos (by rw [digit_iff]; simp [hd]; omega), digits_run (fun c hc => hx c (by simp [hc])) hR]
    simp
theorem numVal_app : ∀ {x : List UInt8}, Digits x → ∀ (n : Int) (R : List UInt8), numVal n (x ++ R) = numVal (numVal n x) R
  | [], _, n, R => rfl
  | b :: x, hx, n, R => by
    have hb := hx b (by simp)
    have h1 : digit (b :: (x ++ R)) = true := by rw [digit_iff]; simp [hd]; omega
    have h2 : digit (b :: x) = true := by rw [digit_iff]; simp [hd]; omega
    rw [List.cons_append]
    conv => lhs; unfold numVal
    conv => rhs; arg 1; unfold numVal
    rw [if_pos h1, if_pos h2, numVal_app (fun c hc => hx c (by simp [hc]))]
    rfl
theorem decDigits_digits : ∀ (k u : Nat), u < 10 ^ (k + 1) → Digits (Go.Lib.decDigits u)
  | 0, u, h => by
    rw [Go.Lib.decDigits, dif_pos (by simpa using h)]
    intro b hb
    simp at hb; subst hb
    have : u < 10 := by simpa using h
    simp; omega
  | k + 1, u, h => by
    rw [Go.Lib.decDigits]
    split
    · rename_i hu
      intro b hb
      simp at hb; subst hb
      simp; omega
    · intro b hb
      rw [List.mem_append] at hb
      rcases hb with hb | hb
      · exact decDigits_digits k (u / 10) (by rw [Nat.pow_succ] at h; omega) b hb
      · simp at hb; subst hb
        have : u % 10 < 10 := Nat.mod_lt _ (by omega)
        simp; omega
theorem decDigits_val : ∀ (k u : Nat), u < 10 ^ (k + 1) → u ≤ 999999999 → numVal 0 (Go.Lib.decDigits u) = (u : Int)
  | 0, u, h, _ => by
    have hu : u < 10 := by simpa using h
    rw [Go.Lib.decDigits, dif_pos hu]
    unfold numVal
    rw [if_pos (by rw [digit_iff]; simp [hd]; omega)]
    simp [numVal, hd]; omega
  | k + 1, u, h, hm => by
    rw [Go.Lib.decDigits]
    split
    · rename_i hu
      unfold numVal
      rw [if_pos (by rw [digit_iff]; simp [hd]; omega)]
      simp [numVal, hd]; omega
    · have hk : u / 10 < 10 ^ (k + 1) := by rw [Nat.pow_succ] at h; omega
      have ih := decDigits_val k (u / 10) hk (by omega)
      have hlt : u % 10 < 10 := Nat.mod_lt _ (by omega)
      rw [numVal_app (decDigits_digits k _ hk), ih]
      unfold numVal
      rw [if_pos (by rw [digit_iff]; simp [hd]; omega)]
      simp [numVal, hd]; omega
theorem decDigits_ne (u : Nat) : Go.Lib.decDigits u ≠ [] := by
  rw [Go.Lib.decDigits]; split <;> simp
theorem unit_head {x : List UInt8} (h : Unit x) {R : List UInt8} (hR : x = [] → digit R = false ∧ hd R ≠ 37 ∧ nameBegins R = false) (hN : x ≠ [] → x ≠ [37] → nameByte R = false) :
    digit (x ++ R) = false ∧ unitLen (x ++ R) = x.length := by
  rcases h with rfl | rfl | h
  · obtain ⟨h1, h2, h3⟩ := hR rfl
    refine ⟨h1, ?_⟩
    unfold unitLen
    rw [List.nil_append, if_neg (by simpa using h2), if_neg (by rw [h3]; decide)]; rfl
  · refine ⟨by simp [digit, hd], ?_⟩
    unfold unitLen
    rw [if_pos (by simp [hd])]; rfl
  · obtain ⟨h1, _, h3, h4⟩ := isName_app h R
    have hn := head_name h3
    have hx37 : x ≠ [37] := by
      rintro rfl
      exact absurd h.1 (by decide)
    refine ⟨hn.2.2.2.2.1, ?_⟩
    unfold unitLen
    rw [if_neg, if_pos h1, names_app h.2 (hN h4 hx37)]
    rw [nameStart_iff] at h3
    simp; omega
theorem one_num {l : List UInt8} (h : numberBegins l = true) : one l = number l := by
  have hh : digit l = true ∨ hd l = 45 := by
    unfold numberBegins at h
    simp only [Bool.or_eq_true, Bool.and_eq_true, beq_iff_eq] at h
    rcases h with h | h
    · exact .inl h
    · exact .inr h.1
  have hb : blank l = false := by rw [false_iff_not, blank_iff]; rw [digit_iff] at hh; omega
  have hq : quote l = false := by rw [false_iff_not, quote_iff]; rw [digit_iff] at hh; omega
  rw [digit_iff] at hh
  unfold one
  rw [if_neg (by rw [hb]; decide), strLen_noquote hq]
  dsimp only
  rw [if_neg (by simp; omega), if_neg (by simp; omega), if_pos h]
theorem read_num {x : List UInt8} {n : Int} (h0 : -999999999 ≤ n) (h1 : n ≤ 999999999) (hx : Unit x) {R : List UInt8} (hR : x = [] → digit R = false ∧ hd R ≠ 37 ∧ nameBegins R = false) (hN : x ≠ [] → x ≠ [37] → nameByte R = false) :
    lex (Go.Lib.itoa n ++ x ++ R) = (5, x, n) :: lex R := by
  obtain ⟨hd1, hu⟩ := unit_head hx hR hN
  unfold Go.Lib.itoa
  split
  · rename_i hneg
    have hk : n.natAbs < 10 ^ (8 + 1) := by omega
    have hD := decDigits_digits 8 _ hk
    have hV := decDigits_val 8 _ hk (by omega)
    have hne := decDigits_ne n.natAbs
    generalize Go.Lib.decDigits n.natAbs = D at *
    have hdig : digit (D ++ (x ++ R)) = true := by
      cases D with
      | nil => exact absurd rfl hne
      | cons b D => have := hD b (by simp); rw [digit_iff]; simp [hd]; omega
    have hrun := digits_run hD hd1
    have e : 45 :: D ++ x ++ R = 45 :: (D ++ (x ++ R)) := by simp
    rw [e]
    rw [lex_step (t := (5, x, n)) (k := 1 + D.length + x.length) (by simp) (commentBegins_head (by simp [hd])) ?_]
    · rw [show 45 :: (D ++ (x ++ R)) = (45 :: D ++ x) ++ R by simp, drop_len _ _ _ (by simp; omega)]
    · rw [one_num (by unfold numberBegins; simp [hd, hdig])]
      unfold number
      rw [if_pos (by simp [hd]), List.drop_succ_cons, List.drop_zero, hrun]
      unfold numTok
      have ed : (45 :: (D ++ (x ++ R))).drop (1 + D.length) = x ++ R := by
        rw [show 45 :: (D ++ (x ++ R)) = (45 :: D) ++ (x ++ R) by simp, drop_len _ _ _ (by simp; omega)]
      rw [ed, hu, take_len _ _ _ rfl, if_pos rfl, List.drop_succ_cons, List.drop_zero, numVal_app hD, numVal_no _ _ hd1, hV]
      have : - (n.natAbs : Int) = n := by omega
      rw [this]
  · rename_i hneg
    have hk : n.toNat < 10 ^ (8 + 1) := by omega
    have hD := decDigits_digits 8 _ hk
    have hV := decDigits_val 8 _ hk (by omega)
    have hne := decDigits_ne n.toNat
    generalize Go.Lib.decDigits n.toNat = D at *
    have hdig : digit (D ++ (x ++ R)) = true := by
      cases D with
      | nil => exact absurd rfl hne
      | cons b D => have := hD b (by simp); rw [digit_iff]; simp [hd]; omega
    have hrun := digits_run hD hd1
    have h45 : (hd (D ++ (x ++ R)) == 45) = false := by rw [digit_iff] at hdig; simp; omega
    have h47 : hd (D ++ (x ++ R)) ≠ 47 := by rw [digit_iff] at hdig; omega
    rw [List.append_assoc]
    rw [lex_step (t := (5, x, n)) (k := D.length + x.length) (by simp [hne]) (commentBegins_head h47) ?_]
    · rw [show D ++ (x ++ R) = (D ++ x) ++ R by simp, drop_len _ _ _ (by simp)]
    · rw [one_num (by unfold numberBegins; rw [hdig]; rfl)]
      unfold number
      rw [if_neg (by rw [h45]; decide), hrun]
      unfold numTok
      rw [drop_len _ _ _ rfl, hu, take_len _ _ _ rfl, if_neg (by decide), numVal_app hD, numVal_no _ _ hd1, hV]
      have : (n.toNat : Int) = n := by omega
      rw [this]
/-- the head of a delimiter -/
theorem delim_head {c : UInt8} (h : DelimB c) (R : List UInt8) : blank (c :: R) = false ∧ digit (c :: R) = false ∧ nameStart (c :: R) = false := h
theorem one_delim {c : UInt8} (h : DelimB c) {R : List UInt8} (hs : strLen (c :: R) = none) (h35 : c = 35 → nameByte R = false) (h64 : c = 64 → nameBegins R = false) (h45 : c = 45 → digit R = false ∧ nameStart R = false ∧ hd R ≠ 45) :
    one (c :: R) = ((7, [c], 0), 1) := by
  obtain ⟨h1, h2, h3⟩ := delim_head h R
  have hc : ∀ k : UInt8, hd (c :: R) = (k.toNat : Int) → c = k := fun k hk => UInt8.toNat.inj (by simpa [hd] using Int.ofNat.inj hk)
  unfold one
  rw [if_neg (by rw [h1]; decide), hs]
  dsimp only
  rw [if_neg, if_neg, if_neg, if_neg]
  · rfl
  · intro hn
    rcases nameBegins_head hn with hh | hh
    · rw [h3] at hh; cases hh
    · obtain ⟨_, k2, k3⟩ := h45 (hc 45 hh)
      unfold nameBegins at hn
      rw [if_pos (by simpa using hh), List.drop_succ_cons, List.drop_zero, k2] at hn
      simp at hn; exact k3 hn
  · intro hn
    unfold numberBegins at hn
    rw [h2] at hn
    simp at hn
    have := (h45 (hc 45 hn.1)).1
    rw [hn.2] at this; cases this
  · simp only [Bool.and_eq_true, beq_iff_eq, List.drop_succ_cons, List.drop_zero]
    rintro ⟨h, h'⟩
    rw [h64 (hc 64 h)] at h'; cases h'
  · simp only [Bool.and_eq_true, beq_iff_eq, List.drop_succ_cons, List.drop_zero]
    rintro ⟨h, h'⟩
    rw [h35 (hc 35 h)] at h'; cases h'
theorem read_quote {c : UInt8} (hc : c = 34 ∨ c = 39) (R : List UInt8) : lex (c :: 47 :: 42 :: 10 :: 42 :: 47 :: R) = (7, [c], 0) :: lex R := by
  have hs : strLen (c :: 47 :: 42 :: 10 :: 42 :: 47 :: R) = none := by rcases hc with rfl | rfl <;> rfl
  have hD : DelimB c := by rcases hc with rfl | rfl <;> exact ⟨rfl, rfl, rfl⟩
  have ho := one_delim hD hs (by rcases hc with rfl | rfl <;> exact fun h => absurd h (by decide)) (by rcases hc with rfl | rfl <;> exact fun h => absurd h (by decide)) (by rcases hc with rfl | rfl <;> exact fun h => absurd h (by decide))
  have h47 : hd (c :: 47 :: 42 :: 10 :: 42 :: 47 :: R) ≠ 47 := by rcases hc with rfl | rfl <;> simp [hd]
  rw [lex_step (by simp) (commentBegins_head h47) ho, List.drop_succ_cons, List.drop_zero, lex_comment (l := 47 :: 42 :: 10 :: 42 :: 47 :: R) rfl]
  rfl
theorem read_delim {c : UInt8} (h : DelimB c) (hq : ¬ (c = 34 ∨ c = 39)) {R : List UInt8} (h35 : c = 35 → nameByte R = false) (h64 : c = 64 → nameBegins R = false) (h45 : c = 45 → digit R = false ∧ nameStart R = false ∧ hd R ≠ 45) (h47 : c = 47 → hd R ≠ 42) :
    lex (c :: R) = (7, [c], 0) :: lex R := by
  have hc : ∀ k : UInt8, hd (c :: R) = (k.toNat : Int) → c = k := fun k hk => UInt8.toNat.inj (by simpa [hd] using Int.ofNat.inj hk)
  have hs : strLen (c :: R) = none := strLen_noquote (by
    rw [false_iff_not, quote_iff]
    rintro (h | h)
    · exact hq (.inl (hc 34 h))
    · exact hq (.inr (hc 39 h)))
  have hcb : commentBegins (c :: R) = false := by
    unfold commentBegins
    rw [List.drop_succ_cons, List.drop_zero, Bool.and_eq_false_iff]
    by_cases h : c = 47
    · right; simpa using h47 h
    · left; rw [beq_eq_false_iff_ne]; exact fun hh => h (hc 47 hh)
  rw [lex_step (by simp) hcb (one_delim h hs h35 h64 h45)]
  rfl
/-- every valid token is read from its text, if what follows lets it -/
theorem read_valid {t : Tok} (h : Valid t) {R : List UInt8} (hF : Follows t R) : lex (oneText t ++ R) = t :: lex R := by
  obtain ⟨f1, f3, f4, f5, f5', f35, f64, f45, f47, f8⟩ := hF
  rcases h with ⟨x, h, rfl⟩ | ⟨x, h, rfl⟩ | ⟨x, h, rfl⟩ | ⟨x, h, h0, rfl⟩ | ⟨x, n, h0, h1, h, rfl⟩ | ⟨x, q, hq, h, rfl⟩ | ⟨c, h, rfl⟩ | rfl
  · exact read_ident h (f1 rfl).1 (f1 rfl).2
  · rw [show oneText (2, x, 0) = x ++ [40] from rfl, List.append_assoc]; exact read_func h R
  · exact read_at h (f3 rfl)
  · exact read_hash h h0 (f4 rfl)
  · exact read_num h0 h1 h (f5 rfl) (f5' rfl)
  · rcases hq with rfl | rfl
    · rw [show oneText (6, x, 34) = 34 :: x ++ [34] from rfl, List.append_assoc]; exact read_str 34 (.inl rfl) h R
    · rw [show oneText (6, x, 39) = 39 :: x ++ [39] from rfl, List.append_assoc]; exact read_str 39 (.inr rfl) h R
  · by_cases hq : c = 34 ∨ c = 39
    · have e : oneText (7, [c], 0) = [c, 47, 42, 10, 42, 47] := by
        show delimText (7, [c], 0) = _
        unfold delimText
        rw [if_pos (by rcases hq with rfl | rfl <;> simp)]; rfl
      rw [e]; exact read_quote hq R
    · have e : oneText (7, [c], 0) = [c] := by
        show delimText (7, [c], 0) = _
        unfold delimText
        rw [if_neg (by simpa using hq)]
      rw [e]
      exact read_delim h hq (fun hc => f35 rfl (by rw [hc])) (fun hc => f64 rfl (by rw [hc])) (fun hc => f45 rfl (by rw [hc])) (fun hc => f47 rfl (by rw [hc]))
  · exact read_white (f8 rfl)
theorem follows_nil (t : Tok) : Follows t [] := by
  refine ⟨?_, ?_, ?_, ?_, ?_, ?_, ?_, ?_, ?_, ?_⟩ <;> intros <;> decide
theorem follows_slash (t : Tok) {R : List UInt8} (h : hd R = 47) : Follows t R := by
  obtain ⟨h1, h2, h3, h4⟩ := head_not h
  have h5 : nameBegins R = false := by
    unfold nameBegins; rw [if_neg (by simp [h]), h4]
  refine ⟨fun _ => ⟨h2, by omega⟩, fun _ => h2, fun _ => h2, fun _ _ => ⟨h3, by omega, h5⟩, fun _ _ _ => h2, fun _ _ => h2, fun _ _ => h5, fun _ _ => ⟨h3, h4, by omega⟩, fun _ _ => by omega, fun _ => h1⟩
theorem valid_may {t : Tok} (h : Valid t) : may t = true := by
  have := read_valid h (follows_nil t)
  rw [List.append_nil] at this
  unfold may; rw [this]; simp [lex, lexF]
end Wn
set_option maxRecDepth 20000
namespace Wn
theorem lex_two {l : List UInt8} {a b : Tok} (hne : l ≠ []) (hc : commentBegins l = false) (h : lex l = [a, b]) : (one l).1 = a ∧ lex (l.drop (one l).2) = [b] := by
  rw [lex_step (t := (one l).1) (k := (one l).2) hne hc rfl] at h
  simpa using h
theorem names_more {x R : List UInt8} (h : Names x) (hR : nameByte R = true) : x.length < runLen nameByte (x ++ R) := by
  induction x with
  | nil => rw [List.nil_append]; exact runLen_pos hR (by decide)
  | cons b x ih =>
    unfold Names at h ih
    rw [runLen_cons] at h
    by_cases hb : nameByte (b :: x) = true
    · rw [if_pos hb] at h
      have := ih (by simpa using h)
      rw [List.cons_append, runLen_cons, if_pos (by exact hb)]
      simp; omega
    · rw [if_neg hb] at h; simp at h
theorem hd_digit {c : UInt8} {l : List UInt8} (h : 48 ≤ c.toNat ∧ c.toNat ≤ 57) : digit (c :: l) = true := by rw [digit_iff]; simp [hd]; omega
/-- the numeral of a number: a minus and digits, or digits -/
theorem itoa_form {n : Int} (h0 : -999999999 ≤ n) (h1 : n ≤ 999999999) : ∃ D, Digits D ∧ D ≠ [] ∧ ((n < 0 ∧ Go.Lib.itoa n = 45 :: D) ∨ (0 ≤ n ∧ Go.Lib.itoa n = D)) := by
  unfold Go.Lib.itoa
  by_cases hn : n < 0
  · rw [if_pos hn]; exact ⟨_, decDigits_digits 8 _ (by omega), decDigits_ne _, .inl ⟨hn, rfl⟩⟩
  · rw [if_neg hn]; exact ⟨_, decDigits_digits 8 _ (by omega), decDigits_ne _, .inr ⟨by omega, rfl⟩⟩
theorem digits_head {D R : List UInt8} (h : Digits D) (hne : D ≠ []) : digit (D ++ R) = true := by
  cases D with
  | nil => exact absurd rfl hne
  | cons c D => exact hd_digit (h c (by simp))
/-- what the head of a valid token's text tells of it -/
theorem head_cases {b : Tok} (h : Valid b) : oneText b ≠ [] ∧ (digit (oneText b) = true → ∃ x n, b = (5, x, n) ∧ 0 ≤ n ∧ n ≤ 999999999 ∧ Unit x) ∧ (hd (oneText b) = 37 → b = (7, [37], 0)) ∧ (hd (oneText b) = 42 → b = (7, [42], 0)) ∧ (blank (oneText b) = true → b = (8, [10], 0)) ∧ (oneText b = [45] → b = (7, [45], 0)) := by
  have nameCase : ∀ (x y : List UInt8), IsName x → (x ++ y ≠ []) ∧ digit (x ++ y) = false ∧ hd (x ++ y) ≠ 37 ∧ hd (x ++ y) ≠ 42 ∧ blank (x ++ y) = false ∧ x ++ y ≠ [45] := by
    intro x y hx
    obtain ⟨h1, _, h3, h4⟩ := isName_app hx y
    have hn := head_name h3
    rw [nameStart_iff] at h3
    refine ⟨by simp [h4], hn.2.2.2.2.1, by omega, by omega, hn.1, ?_⟩
    intro he; rw [he] at h1; exact absurd h1 (by decide)
  rcases h with ⟨x, h, rfl⟩ | ⟨x, h, rfl⟩ | ⟨x, h, rfl⟩ | ⟨x, h, h0, rfl⟩ | ⟨x, n, h0, h1, h, rfl⟩ | ⟨x, q, hq, h, rfl⟩ | ⟨c, h, rfl⟩ | rfl
  · have e : oneText (1, x, 0) = x := rfl
    have := nameCase x [] h
    rw [List.append_nil] at this
    rw [e]
    obtain ⟨a1, a2, a3, a4, a5, a6⟩ := this
    exact ⟨a1, fun k => absurd k (by rw [a2]; decide), fun k => absurd k a3, fun k => absurd k a4, fun k => absurd k (by rw [a5]; decide), fun k => absurd k a6⟩
  · have e : oneText (2, x, 0) = x ++ [40] := rfl
    have := nameCase x [40] h
    rw [e]
    obtain ⟨a1, a2, a3, a4, a5, a6⟩ := this
    exact ⟨a1, fun k => absurd k (by rw [a2]; decide), fun k => absurd k a3, fun k => absurd k a4, fun k => absurd k (by rw [a5]; decide), fun k => absurd k a6⟩
  · have e : oneText (3, x, 0) = 64 :: x := rfl
    rw [e]
    exact ⟨by simp, fun k => by simp [digit_iff, hd] at k, fun k => by simp [hd] at k, fun k => by simp [hd] at k, fun k => by simp [blank_iff, hd] at k, fun k => by simp at k⟩
  · have e : oneText (4, x, 0) = 35 :: x := rfl
    rw [e]
    exact ⟨by simp, fun k => by simp [digit_iff, hd] at k, fun k => by simp [hd] at k, fun k => by simp [hd] at k, fun k => by simp [blank_iff, hd] at k, fun k => by simp at k⟩
  · have e : oneText (5, x, n) = Go.Lib.itoa n ++ x := rfl
    rw [e]
    obtain ⟨D, hD, hne, ⟨hneg, hi⟩ | ⟨hpos, hi⟩⟩ := itoa_form h0 h1
    · rw [hi]
      refine ⟨by simp, fun k => by simp [digit_iff, hd] at k, fun k => by simp [hd] at k, fun k => by simp [hd] at k, fun k => by simp [blank_iff, hd] at k, fun k => ?_⟩
      simp at k; exact absurd k.1 hne
    · rw [hi]
      have hdig := digits_head (R := x) hD hne
      rw [digit_iff] at hdig
      refine ⟨by simp [hne], fun _ => ⟨x, n, rfl, hpos, h1, h⟩, fun k => by omega, fun k => by omega, fun k => by rw [blank_iff] at k; omega, fun k => ?_⟩
      rw [k] at hdig; simp [hd] at hdig
  · have e : ∃ y, oneText (6, x, q) = (if q = 39 then 39 else 34) :: y := by
      rcases hq with rfl | rfl
      · exact ⟨_, rfl⟩
      · exact ⟨_, rfl⟩
    obtain ⟨y, e⟩ := e
    rw [e]
    rcases hq with rfl | rfl
    · exact ⟨by simp, fun k => by simp [digit_iff, hd] at k, fun k => by simp [hd] at k, fun k => by simp [hd] at k, fun k => by simp [blank_iff, hd] at k, fun k => by simp at k⟩
    · exact ⟨by simp, fun k => by simp [digit_iff, hd] at k, fun k => by simp [hd] at k, fun k => by simp [hd] at k, fun k => by simp [blank_iff, hd] at k, fun k => by simp at k⟩
  · have e : ∃ y, oneText (7, [c], 0) = c :: y := by
      show ∃ y, delimText (7, [c], 0) = c :: y
      unfold delimText
      split
      · exact ⟨_, rfl⟩
      · exact ⟨_, rfl⟩
    obtain ⟨y, e⟩ := e
    have hc : ∀ k : UInt8, hd (c :: y) = (k.toNat : Int) → c = k := fun k hk => UInt8.toNat.inj (by simpa [hd] using Int.ofNat.inj hk)
    rw [e]
    obtain ⟨a1, a2, a3⟩ := delim_head h y
    exact ⟨by simp, fun k => absurd k (by rw [a2]; decide), fun k => by rw [hc 37 k], fun k => by rw [hc 42 k], fun k => absurd k (by rw [a1]; decide), fun k => by simp at k; rw [k.1]⟩
  · exact ⟨by decide, fun k => absurd k (by decide), fun k => absurd k (by decide), fun k => absurd k (by decide), fun _ => rfl, fun k => absurd k (by decide)⟩
/-- a number and what it takes: digits, then a unit -/
theorem number_digits {n : Int} (h0 : -999999999 ≤ n) (h1 : n ≤ 999999999) {Y : List UInt8} :
    ∃ D, Digits D ∧ D ≠ [] ∧ one (Go.Lib.itoa n ++ Y) = ((5, (((D ++ Y).drop (runLen digit (D ++ Y))).take (unitLen ((D ++ Y).drop (runLen digit (D ++ Y))))), (one (Go.Lib.itoa n ++ Y)).1.2.2), (Go.Lib.itoa n).length - D.length + runLen digit (D ++ Y) + unitLen ((D ++ Y).drop (runLen digit (D ++ Y)))) ∧
      (Go.Lib.itoa n ++ Y).drop ((Go.Lib.itoa n).length - D.length) = D ++ Y ∧ commentBegins (Go.Lib.itoa n ++ Y) = false ∧ Go.Lib.itoa n ++ Y ≠ [] := by
  obtain ⟨D, hD, hne, ⟨hneg, hi⟩ | ⟨hpos, hi⟩⟩ := itoa_form h0 h1
  · refine ⟨D, hD, hne, ?_, ?_, ?_, ?_⟩
    · rw [hi]
      have hdig := digits_head (R := Y) hD hne
      have e : one (45 :: D ++ Y) = number (45 :: D ++ Y) := one_num (by unfold numberBegins; simp [hd, hdig])
      rw [e]
      unfold number
      rw [if_pos (by simp [hd])]
      unfold numTok
      have ed : (45 :: D ++ Y).drop (1 + runLen digit ((45 :: D ++ Y).drop 1)) = (D ++ Y).drop (runLen digit (D ++ Y)) := by
        rw [List.cons_append, List.drop_succ_cons, List.drop_zero, Nat.add_comm, List.drop_succ_cons]
      rw [ed]
      simp
    · rw [hi]; simp
    · rw [hi]; exact commentBegins_head (by simp [hd])
    · rw [hi]; simp
  · refine ⟨D, hD, hne, ?_, ?_, ?_, ?_⟩
    · rw [hi]
      have hdig := digits_head (R := Y) hD hne
      have e : one (D ++ Y) = number (D ++ Y) := one_num (by unfold numberBegins; rw [hdig]; rfl)
      rw [e]
      unfold number
      rw [digit_iff] at hdig
      rw [if_neg (by simp; omega)]
      unfold numTok
      simp
    · rw [hi]; simp
    · rw [hi]
      have hdig := digits_head (R := Y) hD hne
      rw [digit_iff] at hdig
      exact commentBegins_head (by omega)
    · rw [hi]; simp [hne]
end Wn
set_option maxRecDepth 20000
namespace Wn
theorem one_word {l : List UInt8} (h : nameBegins l = true) (hn : numberBegins l = false) : one l = word l := by
  have hh := head_name (nameBegins_head h)
  unfold one
  rw [if_neg (by rw [hh.1]; decide), strLen_noquote hh.2.1]
  dsimp only
  rw [if_neg (by simp [hh.2.2.1]), if_neg (by simp [hh.2.2.2.1]), if_neg (by rw [hn]; decide), if_pos h]
theorem word_kind (l : List UInt8) : (word l).1.1 = 1 ∨ (word l).1.1 = 2 := by unfold word; split <;> simp
theorem number_kind (l : List UInt8) : (number l).1.1 = 5 := by unfold number numTok; split <;> rfl
theorem run_all_digits {D R : List UInt8} (hD : Digits D) : runLen digit (D ++ R) = D.length + runLen digit R := by
  induction D with
  | nil => simp
  | cons c D ih =>
    rw [List.cons_append, runLen_cons, if_pos (hd_digit (hD c (by simp))), ih (fun d hd => hD d (by simp [hd]))]
    simp; omega
theorem unit_whole {x : List UInt8} (h : Unit x) : digit x = false ∧ unitLen x = x.length := by
  have := unit_head h (R := []) (fun _ => by decide) (fun _ _ => by decide)
  rwa [List.append_nil] at this
/-- two valid tokens that are read from their texts: the second one lets the first be -/
theorem follows_of_two {a b : Tok} (ha : Valid a) (hb : Valid b) (h : lex (oneText a ++ oneText b) = [a, b]) : Follows a (oneText b) := by
  obtain ⟨hne, hdig, h37, h42, hbl, _⟩ := head_cases hb
  generalize hR : oneText b = R at *
  rcases ha with ⟨x, hx, rfl⟩ | ⟨x, hx, rfl⟩ | ⟨x, hx, rfl⟩ | ⟨x, hx, hx0, rfl⟩ | ⟨x, n, hn0, hn1, hx, rfl⟩ | ⟨x, q, hq, hx, rfl⟩ | ⟨c, hc, rfl⟩ | rfl
  · -- an identifier
    have e : oneText (1, x, 0) = x := rfl
    rw [e] at h
    obtain ⟨_, _, hs, hx0⟩ := isName_app hx R
    have hh := head_name hs
    obtain ⟨h1, _⟩ := lex_two (by simp [hx0]) (commentBegins_head hh.2.2.2.2.2) h
    rw [one_name hx] at h1
    have hnb : nameByte R = false := by
      rw [false_iff_not]; intro hb'
      have hm := names_more hx.2 hb'
      have ht : (word (x ++ R)).1.2.1 = (x ++ R).take (runLen nameByte (x ++ R)) := by unfold word; split <;> rfl
      rw [h1] at ht
      have := congrArg List.length ht
      rw [List.length_take, Nat.min_eq_left (runLen_le _ _)] at this
      simp at this; omega
    refine ⟨fun _ => ⟨hnb, fun h40 => ?_⟩, fun k => absurd k (by simp), fun k => absurd k (by simp), fun k => absurd k (by simp), fun k => absurd k (by simp), fun k => absurd k (by simp), fun k => absurd k (by simp), fun k => absurd k (by simp), fun k => absurd k (by simp), fun k => absurd k (by simp)⟩
    have hr := names_app hx.2 hnb
    unfold word at h1
    rw [hr, drop_len _ _ _ rfl, if_pos (by simpa using h40)] at h1
    exact absurd (congrArg (fun t : Tok => t.1) h1) (by simp)
  · refine ⟨fun k => absurd k (by simp), fun k => absurd k (by simp), fun k => absurd k (by simp), fun k => absurd k (by simp), fun k => absurd k (by simp), fun k => absurd k (by simp), fun k => absurd k (by simp), fun k => absurd k (by simp), fun k => absurd k (by simp), fun k => absurd k (by simp)⟩
  · -- an at-word
    have e : oneText (3, x, 0) ++ R = 64 :: (x ++ R) := rfl
    rw [e] at h
    obtain ⟨hb1, _, _, _⟩ := isName_app hx R
    obtain ⟨h1, _⟩ := lex_two (by simp) (commentBegins_head (by simp [hd])) h
    rw [one_at hb1] at h1
    refine ⟨fun k => absurd k (by simp), fun _ => ?_, fun k => absurd k (by simp), fun k => absurd k (by simp), fun k => absurd k (by simp), fun k => absurd k (by simp), fun k => absurd k (by simp), fun k => absurd k (by simp), fun k => absurd k (by simp), fun k => absurd k (by simp)⟩
    rw [false_iff_not]; intro hb'
    have hm := names_more hx.2 hb'
    have ht := congrArg (fun t : Tok => t.2.1.length) h1
    unfold named at ht
    simp only [List.drop_succ_cons, List.drop_zero, List.length_take] at ht
    rw [Nat.min_eq_left (runLen_le _ _)] at ht
    omega
  · -- a hash
    have e : oneText (4, x, 0) ++ R = 35 :: (x ++ R) := rfl
    rw [e] at h
    have hxn : nameByte (x ++ R) = true := by
      rw [ho_name.app hx0 R]
      cases hb' : nameByte x
      · unfold Names at hx; rw [runLen_no hb'] at hx
        exact absurd (List.length_eq_zero_iff.1 hx.symm) hx0
      · rfl
    obtain ⟨h1, _⟩ := lex_two (by simp) (commentBegins_head (by simp [hd])) h
    rw [one_hash hxn] at h1
    refine ⟨fun k => absurd k (by simp), fun k => absurd k (by simp), fun _ => ?_, fun k => absurd k (by simp), fun k => absurd k (by simp), fun k => absurd k (by simp), fun k => absurd k (by simp), fun k => absurd k (by simp), fun k => absurd k (by simp), fun k => absurd k (by simp)⟩
    rw [false_iff_not]; intro hb'
    have hm := names_more hx hb'
    have ht := congrArg (fun t : Tok => t.2.1.length) h1
    unfold named at ht
    simp only [List.drop_succ_cons, List.drop_zero, List.length_take] at ht
    rw [Nat.min_eq_left (runLen_le _ _)] at ht
    omega
  · -- a number
    have e : oneText (5, x, n) ++ R = Go.Lib.itoa n ++ (x ++ R) := by show Go.Lib.itoa n ++ x ++ R = _; rw [List.append_assoc]
    rw [e] at h
    obtain ⟨D, hD, hDne, ho, hdr, hcb, hne'⟩ := number_digits hn0 hn1 (Y := x ++ R)
    obtain ⟨h1, h2⟩ := lex_two hne' hcb h
    have hrun := run_all_digits (R := x ++ R) hD
    rw [hrun] at ho
    have hdd : (D ++ (x ++ R)).drop (D.length + runLen digit (x ++ R)) = (x ++ R).drop (runLen digit (x ++ R)) := by
      rw [← List.drop_drop, drop_len _ _ _ rfl]
    rw [hdd] at ho
    -- all is taken: then there is no second token
    have whole : ∀ k, (x ++ R).drop (runLen digit (x ++ R)) = k → unitLen k = k.length → False := by
      intro k hk hu
      have e2 : (Go.Lib.itoa n ++ (x ++ R)).drop (one (Go.Lib.itoa n ++ (x ++ R))).2 = [] := by
        rw [ho]
        dsimp only
        rw [hk, hu, Nat.add_assoc, Nat.add_assoc, ← List.drop_drop, hdr, ← List.drop_drop, drop_len _ _ _ rfl, ← List.drop_drop, hk]
        simp
      rw [e2] at h2
      simp [lex, lexF] at h2
    have htx : ((x ++ R).drop (runLen digit (x ++ R))).take (unitLen ((x ++ R).drop (runLen digit (x ++ R)))) = x := by
      rw [ho] at h1
      exact congrArg (fun t : Tok => t.2.1) h1
    have hnil : x = [] → digit R = false ∧ hd R ≠ 37 ∧ nameBegins R = false := by
      rintro rfl
      rw [List.nil_append] at whole htx
      have hd0 : digit R = false := by
        rw [false_iff_not]; intro hd'
        obtain ⟨y, m, rfl, hm0, hm1, hy⟩ := hdig hd'
        obtain ⟨D', hD', hDne', ⟨hneg, hi⟩ | ⟨hpos, hi⟩⟩ := itoa_form (n := m) (by omega) hm1
        · omega
        · have eR : R = D' ++ y := by rw [← hR]; show Go.Lib.itoa m ++ y = _; rw [hi]
          obtain ⟨u1, u2⟩ := unit_whole hy
          have hr : runLen digit R = D'.length := by rw [eR]; exact digits_run hD' u1
          refine whole y ?_ u2
          rw [hr, eR, drop_len _ _ _ rfl]
      have hr0 : runLen digit R = 0 := runLen_no hd0
      rw [hr0, List.drop_zero] at htx
      refine ⟨hd0, fun h37' => ?_, ?_⟩
      · have eb := h37 h37'
        rw [eb] at hR
        have eR : R = [37] := hR.symm
        subst eR
        exact whole [37] rfl rfl
      · rw [false_iff_not]; intro hnb
        have hh := nameBegins_head hnb
        rw [nameStart_iff] at hh
        have hu : unitLen R = runLen nameByte R := by
          unfold unitLen; rw [if_neg (by simp; omega), if_pos hnb]
        have hpos := runLen_pos (nameBegins_byte hnb) (by decide)
        have := congrArg List.length htx
        rw [hu, List.length_take, Nat.min_eq_left (runLen_le _ _)] at this
        simp at this; omega
    refine ⟨fun k => absurd k (by simp), fun k => absurd k (by simp), fun k => absurd k (by simp), fun _ => hnil, fun _ k1 k2 => ?_, fun k => absurd k (by simp), fun k => absurd k (by simp), fun k => absurd k (by simp), fun k => absurd k (by simp), fun k => absurd k (by simp)⟩
    rcases hx with rfl | rfl | hx
    · exact absurd rfl k1
    · exact absurd rfl k2
    · rw [false_iff_not]; intro hb'
      obtain ⟨i1, i2, i3, i4⟩ := isName_app hx R
      have hh := head_name i3
      have hr0 : runLen digit (x ++ R) = 0 := runLen_no hh.2.2.2.2.1
      rw [hr0, List.drop_zero] at htx
      have hu : unitLen (x ++ R) = runLen nameByte (x ++ R) := by
        rw [nameStart_iff] at i3
        unfold unitLen; rw [if_neg (by simp; omega), if_pos i1]
      have hm := names_more hx.2 hb'
      have := congrArg List.length htx
      rw [hu, List.length_take, Nat.min_eq_left (runLen_le _ _)] at this
      omega
  · refine ⟨fun k => absurd k (by simp), fun k => absurd k (by simp), fun k => absurd k (by simp), fun k => absurd k (by simp), fun k => absurd k (by simp), fun k => absurd k (by simp), fun k => absurd k (by simp), fun k => absurd k (by simp), fun k => absurd k (by simp), fun k => absurd k (by simp)⟩
  · -- a delimiter
    have hplain : ¬ (c = 34 ∨ c = 39) → lex (c :: R) = [(7, [c], 0), b] := by
      intro hq
      have e : oneText (7, [c], 0) = [c] := by
        show delimText (7, [c], 0) = _
        unfold delimText; rw [if_neg (by simpa using hq)]
      rw [e] at h; exact h
    have kind : ¬ (c = 34 ∨ c = 39) → commentBegins (c :: R) = false → (one (c :: R)).1.1 = 7 := by
      intro hq hcb
      obtain ⟨h1, _⟩ := lex_two (by simp) hcb (hplain hq)
      rw [h1]
    refine ⟨fun k => absurd k (by simp), fun k => absurd k (by simp), fun k => absurd k (by simp), fun k => absurd k (by simp), fun k => absurd k (by simp), fun _ k => ?_, fun _ k => ?_, fun _ k => ?_, fun _ k => ?_, fun k => absurd k (by simp)⟩
    · obtain rfl : c = 35 := by simpa using k
      rw [false_iff_not]; intro hb'
      have := kind (by decide) (commentBegins_head (by simp [hd]))
      rw [one_hash hb'] at this
      exact absurd this (by unfold named; simp)
    · obtain rfl : c = 64 := by simpa using k
      rw [false_iff_not]; intro hb'
      have := kind (by decide) (commentBegins_head (by simp [hd]))
      rw [one_at hb'] at this
      exact absurd this (by unfold named; simp)
    · obtain rfl : c = 45 := by simpa using k
      have hk := kind (by decide) (commentBegins_head (by simp [hd]))
      have hd0 : digit R = false := by
        rw [false_iff_not]; intro hd'
        rw [one_num (by unfold numberBegins; simp [hd, hd']), number_kind] at hk
        omega
      have hnu : numberBegins (45 :: R) = false := by
        unfold numberBegins
        rw [List.drop_succ_cons, List.drop_zero, hd0]
        simp [digit, hd]
      have hnn : ¬ (nameStart R = true ∨ hd R = 45) := by
        intro hh
        have hnb : nameBegins (45 :: R) = true := by
          unfold nameBegins
          rw [if_pos (by simp [hd]), List.drop_succ_cons, List.drop_zero]
          simpa using hh
        rw [one_word hnb hnu] at hk
        rcases word_kind (45 :: R) with hw | hw <;> omega
      exact ⟨hd0, by rw [false_iff_not]; exact fun h => hnn (.inl h), fun h => hnn (.inr h)⟩
    · obtain rfl : c = 47 := by simpa using k
      intro h42'
      have eb := h42 h42'
      rw [eb] at hR
      have eR : R = [42] := hR.symm
      subst eR
      exact absurd (hplain (by decide)) (by rw [show lex [47, 42] = [] by decide]; simp)
  · refine ⟨fun k => absurd k (by simp), fun k => absurd k (by simp), fun k => absurd k (by simp), fun k => absurd k (by simp), fun k => absurd k (by simp), fun k => absurd k (by simp), fun k => absurd k (by simp), fun k => absurd k (by simp), fun k => absurd k (by simp), fun _ => ?_⟩
    rw [false_iff_not]; intro hb'
    have eb := hbl hb'
    rw [eb] at hR h
    have eR : R = [10] := hR.symm
    subst eR
    exact absurd h (by decide)
theorem nameBegins_app {R : List UInt8} (hne : R ≠ []) (h : nameBegins R = false) (X : List UInt8) (hX : R = [45] → nameStart X = false ∧ hd X ≠ 45) : nameBegins (R ++ X) = false := by
  match R, hne, h, hX with
  | [c], _, h, hX =>
    by_cases h45 : hd [c] = 45
    · have hc : c = 45 := UInt8.toNat.inj (by simpa [hd] using Int.ofNat.inj h45)
      subst hc
      obtain ⟨k1, k2⟩ := hX rfl
      unfold nameBegins
      rw [if_pos (by simp [hd])]
      simpa [k1] using k2
    · unfold nameBegins at h ⊢
      rw [if_neg (by simpa using h45)] at h
      rw [if_neg (by simpa using (show hd ([c] ++ X) ≠ 45 from h45))]
      exact h
  | c :: d :: R, _, h, _ => exact h
/-- what follows a token's text does not matter, but behind a minus -/
theorem follows_app {a b : Tok} (hb : Valid b) {X : List UInt8} (h : Follows a (oneText b)) (hX : Follows b X) : Follows a (oneText b ++ X) := by
  obtain ⟨hne, _, _, _, _, h45⟩ := head_cases hb
  obtain ⟨f1, f3, f4, f5, f5', f35, f64, f45, f47, f8⟩ := h
  have hX' : oneText b = [45] → nameStart X = false ∧ hd X ≠ 45 := by
    intro he
    have := h45 he
    subst this
    obtain ⟨_, _, _, _, _, _, _, g45, _, _⟩ := hX
    have := g45 rfl rfl
    exact ⟨this.2.1, this.2.2⟩
  generalize oneText b = R at *
  have en := ho_name.app hne X
  have ed := ho_digit.app hne X
  have es := ho_start.app hne X
  have eb := ho_blank.app hne X
  have eh := hd_app hne X
  refine ⟨fun k => ?_, fun k => ?_, fun k => ?_, fun k k' => ?_, fun k k1 k2 => ?_, fun k k' => ?_, fun k k' => ?_, fun k k' => ?_, fun k k' => ?_, fun k => ?_⟩
  · rw [en, eh]; exact f1 k
  · rw [en]; exact f3 k
  · rw [en]; exact f4 k
  · rw [ed, eh]; obtain ⟨g1, g2, g3⟩ := f5 k k'; exact ⟨g1, g2, nameBegins_app hne g3 X hX'⟩
  · rw [en]; exact f5' k k1 k2
  · rw [en]; exact f35 k k'
  · exact nameBegins_app hne (f64 k k') X hX'
  · rw [ed, es, eh]; exact f45 k k'
  · rw [eh]; exact f47 k k'
  · rw [eb]; exact f8 k
theorem apart_false {j : List UInt8} {a b : Tok} (h : apart j a b = false) : lex j = [a, b] := by
  unfold apart at h
  simp only [Bool.or_eq_false_iff, Bool.not_eq_false', decide_eq_true_eq] at h
  exact h.2
theorem texts_some (p t : Tok) (l : List Tok) : texts (some p) (t :: l) = (if apart (oneText p ++ oneText t) p t then [47, 42, 42, 47] else []) ++ text (t :: l) := rfl
theorem text_cons (t : Tok) (l : List Tok) : text (t :: l) = oneText t ++ texts (some t) l := rfl
theorem follows_texts : ∀ (l : List Tok) (a : Tok), Valid a → (∀ t ∈ l, Valid t) → Follows a (texts (some a) l)
  | [], a, _, _ => follows_nil a
  | b :: l, a, ha, hl => by
    rw [texts_some]
    cases hap : apart (oneText a ++ oneText b) a b
    · rw [if_neg (by decide), List.nil_append, text_cons]
      have hb := hl b (by simp)
      exact follows_app hb (follows_of_two ha hb (apart_false hap)) (follows_texts l b hb (fun t ht => hl t (by simp [ht])))
    · rw [if_pos rfl]
      exact follows_slash a rfl
/-- valid tokens, written one behind the other, are read again as they were -/
theorem lex_text : ∀ l : List Tok, (∀ t ∈ l, Valid t) → lex (text l) = l
  | [], _ => rfl
  | a :: l, h => by
    have ha := h a (by simp)
    have hl : ∀ t ∈ l, Valid t := fun t ht => h t (by simp [ht])
    rw [text_cons, read_valid ha (follows_texts l a ha hl)]
    congr 1
    have ih := lex_text l hl
    cases l with
    | nil => rfl
    | cons b l =>
      rw [texts_some]
      cases hap : apart (oneText a ++ oneText b) a b
      · rw [if_neg (by decide), List.nil_append]; exact ih
      · rw [if_pos rfl, lex_comment (l := [47, 42, 42, 47] ++ text (b :: l)) rfl]
        exact ih
end Wn
set_option maxRecDepth 20000
namespace Wn
theorem one_len {l : List UInt8} (h : l ≠ []) : (one l).1.2.1.length ≤ l.length := by
  have hl : 1 ≤ l.length := by cases l with
    | nil => exact absurd rfl h
    | cons b l => simp
  unfold one
  split
  · exact hl
  · split
    · simp; omega
    · split
      · unfold named; simp; omega
      · split
        · unfold named; simp; omega
        · split
          · unfold number numTok; split <;> (simp; omega)
          · split
            · unfold word; split <;> (simp; omega)
            · simp; omega
theorem lex_len : ∀ (n : Nat) (l : List UInt8), l.length ≤ n → ∀ t ∈ lex l, t.2.1.length ≤ n
  | 0, l, hn, t, ht => by
    have : l = [] := List.length_eq_zero_iff.1 (by omega)
    subst this; simp [lex, lexF] at ht
  | n + 1, l, hn, t, ht => by
    by_cases he : l.drop (skip l) = []
    · rw [lex_end he] at ht; simp at ht
    · rw [lex_cons he, List.mem_cons] at ht
      rcases ht with rfl | ht
      · have := one_len he
        simp at this ⊢; omega
      · have := one_pos he
        have := lex_len n _ (by have h1 := this.1; have h2 := this.2; simp at h1 h2 ⊢; omega) t ht
        omega
theorem texts_len (N : Nat) : ∀ (l : List Tok) (p : Option Tok), (∀ t ∈ l, (oneText t).length ≤ N) → (texts p l).length ≤ l.length * (N + 4)
  | [], p, _ => by cases p <;> simp [texts]
  | t :: l, p, h => by
    have h1 := h t (by simp)
    have h2 := texts_len N l (some t) (fun t ht => h t (by simp [ht]))
    rw [List.length_cons, Nat.add_mul, Nat.one_mul]
    cases p with
    | none => simp only [texts, List.length_append]; omega
    | some p =>
      simp only [texts, List.length_append]
      split <;> simp <;> omega
theorem valid_n {t : Tok} (h : Valid t) : -9223372036854775808 ≤ t.2.2 ∧ t.2.2 ≤ 9223372036854775807 := by
  rcases h with ⟨x, _, rfl⟩ | ⟨x, _, rfl⟩ | ⟨x, _, rfl⟩ | ⟨x, _, _, rfl⟩ | ⟨x, n, _, _, _, rfl⟩ | ⟨x, q, hq, _, rfl⟩ | ⟨c, _, rfl⟩ | rfl <;> dsimp only <;> omega
end Wn
namespace Go.Proofs.YtjlejiphpbaonaaGreatDoor
theorem fine_text {l : List Wn.Tok} (h : ∀ t ∈ l, Fine t) : (Wn.text l).length ≤ l.length * 1048600 := Wn.texts_len 1048596 l none (fun t ht => (h t ht).one)
theorem lex_fine {l : List UInt8} (h : l.length ≤ 1048576) : ∀ t ∈ Wn.lex l, Fine t := fun t ht =>
  ⟨Wn.lex_len 1048576 l h t ht, Wn.valid_n (Wn.lex_valid _ l (Nat.le_refl _) t ht)⟩
end Go.Proofs.YtjlejiphpbaonaaGreatDoor
set_option maxRecDepth 20000
namespace Go.Proofs.YtjlejiphpbaonaaGreatDoor
open Go.ChangeShapes Go.WideShapes Go.RowKit Go.Deep
section
variable {H : Type} {enc : TypeId × Value → H} {w : World} {base : Nat} {spare : Nat → Bool} {held : Bool}
/-- numbers as Go has them -/
def Nums (t : Wn.Tok) : Prop := -9223372036854775808 ≤ t.2.2 ∧ t.2.2 ≤ 9223372036854775807
theorem cells_tok : Tryz.prog.cellsOf 47 = 3 := by kernel_rfl
/-- three cells that read as a token -/
theorem open_cells {n : Nat} {cs : List Value} {x : DataW H × List MemPlace} (h : DataW.trod enc Tryz.prog w base spare held n 47 cs = some x) :
    ∃ t : Wn.Tok, cs = [.int .i64 t.1, .string (Wn.str t.2.1), .int .i64 t.2.2] ∧ Nums t ∧ t.2.1.length ≤ maxLen ∧ x.2 = [] := by
  obtain ⟨ys, n', hn', hy, hlen, hyl, hf⟩ := DataW.trod_struct Tryz.underlying47 h
  have h0 := hf 0 _ rfl
  have h1 := hf 1 _ rfl
  have h2 := hf 2 _ rfl
  rw [show Tryz.prog.cellsOf _ = 1 by kernel_rfl] at h0 h1 h2
  match cs, hlen.trans cells_tok with
  | [c0, c1, c2], _ =>
    match ys, hyl with
    | [y0, y1, y2], _ =>
      obtain ⟨a, ha, hx0, _⟩ := DataW.trod_int (k := .i64) Tryz.underlying3 h0
      obtain ⟨s, hs, hx1, hsz⟩ := DataW.trod_string Tryz.underlying9 h1
      obtain ⟨c, hc, hx2, hwf⟩ := DataW.trod_int (k := .i64) Tryz.underlying3 h2
      simp at ha hs hc hx0 hx1 hx2
      refine ⟨(a, s.data.toList, c), ?_, bounds_i64 hwf, ?_, ?_⟩
      · rw [ha, hs, hc]; rfl
      · simpa using hsz
      · rw [hy, hx0, hx1, hx2]; rfl
theorem spot_none {a : Addr} {v : Value} (h : w.cell? a = some v) : a = ⟨a.block, a.off, none⟩ := by
  obtain ⟨b, o, sp⟩ := a
  cases sp with
  | none => rfl
  | some k =>
    unfold World.cell? at h
    dsimp only at h
    split at h
    · simp at h
    · cases h
/-- a slice of tokens -/
theorem open_toks {r : Reach} {b0 : Nat} {v : Value} {d : DataW H} {p : List MemPlace} (hv : Value.okWide Tryz.prog w r b0 67 v) (h : DataW.Trod enc Tryz.prog w base spare held 67 v d p) :
    ∃ l : List Wn.Tok, Toks w v l ∧ (∀ t ∈ l, Nums t ∧ t.2.1.length ≤ maxLen) := by
  obtain ⟨a0, len0, cap0, rfl⟩ := okWide_slice Tryz.underlying67 hv
  obtain ⟨fuel, h⟩ := h
  rcases open_slice Tryz.underlying67 h with ⟨h0, _⟩ | ⟨a, len, cap, m, n, D, Pl, hcs, hb, hl, hm, hmm, _, hx⟩
  · simp [Value.cells] at h0
    obtain ⟨rfl, rfl, rfl⟩ := h0
    exact ⟨[], Toks.nil w, by simp⟩
  · simp [Value.cells] at hcs
    obtain ⟨rfl, rfl, rfl⟩ := hcs
    have hlm : len0 ≤ m := by rw [hmm]; split <;> omega
    have hT : ∀ i, ∃ t : Wn.Tok, i < len0 → (Nums t ∧ t.2.1.length ≤ maxLen) ∧ (∃ b off, a = ⟨b, off, none⟩ ∧ TokIn w b (off + i * 3) t) := by
      intro i
      by_cases hi : i < len0
      · obtain ⟨cs', hc, ht⟩ := hx i (by omega)
        obtain ⟨t, hcs, hn, hz, _⟩ := open_cells ht
        rw [cells_tok] at hc
        obtain ⟨_, _, hat⟩ := World.cells?_some hc
        rw [hcs] at hat
        have h0 := hat 0 (by omega)
        have h1 := hat 1 (by omega)
        have h2 := hat 2 (by omega)
        have hsp : a = ⟨a.block, a.off, none⟩ := by
          -- the first cell of the first token
          obtain ⟨cs0, hc0, ht0⟩ := hx 0 (by omega)
          obtain ⟨t0, hcs0, _⟩ := open_cells ht0
          rw [cells_tok] at hc0
          obtain ⟨_, _, hat0⟩ := World.cells?_some hc0
          rw [hcs0] at hat0
          have := hat0 0 (by omega)
          exact spot_none (v := .int .i64 t0.1) (by simpa [Addr.add] using this)
        refine ⟨t, fun _ => ⟨⟨hn, hz⟩, a.block, a.off, hsp, ?_⟩⟩
        rw [hsp] at h0 h1 h2
        rw [add_plain, add_plain] at h0 h1 h2
        exact ⟨by simpa using h0, by simpa using h1, by simpa using h2⟩
      · exact ⟨(0, [], 0), fun h => absurd h hi⟩
    obtain ⟨T, hT⟩ := Classical.axiomOfChoice hT
    have hlen : ((List.range len0).map T).length = len0 := by simp
    have hget : ∀ i t, ((List.range len0).map T)[i]? = some t → i < len0 ∧ T i = t := by
      intro i t h
      have hi : i < len0 := by have := (List.getElem?_eq_some_iff.1 h).1; simpa using this
      refine ⟨hi, ?_⟩
      simpa [List.getElem?_eq_getElem, hi] using h
    refine ⟨(List.range len0).map T, ⟨some a, cap0, by rw [hlen], by rw [hlen]; exact hl, hm, fun i t ht => ?_⟩, fun t ht => ?_⟩
    · obtain ⟨hi, rfl⟩ := hget i t ht
      obtain ⟨_, b, off, ha, hin⟩ := hT i hi
      exact ⟨b, off, by rw [ha], hin⟩
    · obtain ⟨i, hg⟩ := List.getElem?_of_mem ht
      obtain ⟨hi, rfl⟩ := hget i t hg
      exact (hT i hi).1
theorem open_nil {v : Value} {d : DataW H} {p : List MemPlace} (h : DataW.Trod enc Tryz.prog w base spare held 67 v d p) (n c : Nat) (hv : v = .slice none n c) : c = 0 := by
  obtain ⟨fuel, h⟩ := h
  subst hv
  rcases open_slice Tryz.underlying67 h with ⟨h0, _⟩ | ⟨a, len, cap, m, n, D, Pl, hcs, _⟩
  · simp [Value.cells] at h0; exact h0.2
  · simp [Value.cells] at hcs
/-- a token by value -/
theorem open_tok {r : Reach} {b0 : Nat} {v : Value} {d : DataW H} {p : List MemPlace} (hv : Value.okWide Tryz.prog w r b0 47 v) (h : DataW.Trod enc Tryz.prog w base spare held 47 v d p) :
    ∃ t : Wn.Tok, v = .agg #[.int .i64 t.1, .string (Wn.str t.2.1), .int .i64 t.2.2] ∧ Nums t ∧ t.2.1.length ≤ maxLen := by
  obtain ⟨cs, rfl, _⟩ := okWide_struct Tryz.underlying47 hv
  obtain ⟨fuel, h⟩ := h
  obtain ⟨t, hcs, h1, h2, _⟩ := open_cells h
  refine ⟨t, ?_, h1, h2⟩
  congr 1
  cases cs; simpa [Value.cells] using hcs
end
section
variable {H : Type} {enc : TypeId × Value → H}
theorem laidOut : laidOutB Tryz.prog = true := by kernel_rfl
/-- an argument reads afterwards as it read before -/
theorem again {t : TypeId} (hr : Tryz.prog.readableRec t = true) (hrow : t < Tryz.prog.types.size) {W W' : World} {v : Value} {d : DataW H} {ps : List MemPlace}
    (h : DataW.Trod enc Tryz.prog W 0 (fun _ => true) true t v d ps) (hb : Below W.heap.size W W') (hlt : ∀ x ∈ ps, x.block < W.heap.size) {sp : Nat → Bool} (hsp : ∀ p ∈ ps, sp p.block = true) :
    DataW.Trod enc Tryz.prog W' 0 sp true t v d ps :=
  WideElems.Trod_stays laidOut hr hrow h (fun x hx => hb.same (hlt x hx)) hsp
end
end Go.Proofs.YtjlejiphpbaonaaGreatDoor
set_option maxRecDepth 20000
namespace Wn
/-- the comment that stands behind each token -/
def cmtA : List UInt8 := [47, 42, 32, 105, 116, 39, 115, 32, 34, 120, 32, 42, 47]
def cmtB : List UInt8 := [47, 42, 42, 47]
def someBlanks : List UInt8 := [32, 9, 10, 12, 13, 10, 32, 32, 9, 32]
theorem lex_cmtA (R : List UInt8) : lex (cmtA ++ R) = lex R := by
  rw [lex_comment (l := cmtA ++ R) rfl]
  rfl
theorem lex_cmtB (R : List UInt8) : lex (cmtB ++ R) = lex R := by
  rw [lex_comment (l := cmtB ++ R) rfl]
  rfl
/-- a token's text, or blanks -/
def piece (n : Nat) (t : Tok) : List UInt8 := if t.1 = 8 then someBlanks.take (n + 1) else oneText t
def spreadA (l : List Tok) : List UInt8 := l.flatMap fun t => oneText t ++ cmtA
def spreadB (n : Nat) (l : List Tok) : List UInt8 := l.flatMap fun t => piece n t ++ cmtB
theorem lex_spreadA : ∀ l : List Tok, (∀ t ∈ l, Valid t) → lex (spreadA l) = l
  | [], _ => by rfl
  | t :: l, h => by
    have e : spreadA (t :: l) = oneText t ++ (cmtA ++ spreadA l) := by simp [spreadA]
    rw [e, read_valid (h t (by simp)) (follows_slash t rfl), lex_cmtA, lex_spreadA l (fun u hu => h u (by simp [hu]))]
/-- blanks ahead of a comment -/
theorem read_blanks (n : Nat) (hn : n ≤ 9) (R : List UInt8) : lex (someBlanks.take (n + 1) ++ (cmtB ++ R)) = (8, [10], 0) :: lex R := by
  have hb : blank (cmtB ++ R) = false := rfl
  have hr : runLen blank (someBlanks.take (n + 1) ++ (cmtB ++ R)) = n + 1 := by
    rw [run_app ho_blank _ hb]
    have : ∀ n, n ≤ 9 → runLen blank (someBlanks.take (n + 1)) = n + 1 := by decide +kernel
    exact this n hn
  have hne : someBlanks.take (n + 1) = 32 :: (someBlanks.drop 1).take n := by simp [someBlanks]
  have hlen : n + 1 = (someBlanks.take (n + 1)).length := by simp [someBlanks]; omega
  rw [lex_step (t := (8, [10], 0)) (k := n + 1) (by rw [hne]; simp) (by rw [hne]; exact commentBegins_head (by simp [hd])) ?_]
  · rw [drop_len _ _ _ hlen, lex_cmtB]
  · unfold one
    rw [if_pos (by rw [hne]; simp [blank_iff, hd]), hr]
theorem valid_white {t : Tok} (h : Valid t) (h8 : t.1 = 8) : t = (8, [10], 0) := by
  rcases h with ⟨x, _, rfl⟩ | ⟨x, _, rfl⟩ | ⟨x, _, rfl⟩ | ⟨x, _, _, rfl⟩ | ⟨x, n, _, _, _, rfl⟩ | ⟨x, q, hq, _, rfl⟩ | ⟨c, _, rfl⟩ | rfl <;> simp at h8 ⊢
theorem lex_spreadB (n : Nat) (hn : n ≤ 9) : ∀ l : List Tok, (∀ t ∈ l, Valid t) → lex (spreadB n l) = l
  | [], _ => by rfl
  | t :: l, h => by
    have e : spreadB n (t :: l) = piece n t ++ (cmtB ++ spreadB n l) := by simp [spreadB]
    have ih := lex_spreadB n hn l (fun u hu => h u (by simp [hu]))
    rw [e]
    unfold piece
    split
    · rename_i h8
      rw [read_blanks n hn, ih, valid_white (h t (by simp)) h8]
    · rw [read_valid (h t (by simp)) (follows_slash t rfl), lex_cmtB, ih]
theorem spreadA_len (N : Nat) : ∀ l : List Tok, (∀ t ∈ l, (oneText t).length ≤ N) → (spreadA l).length ≤ l.length * (N + 13)
  | [], _ => by simp [spreadA]
  | t :: l, h => by
    have e : spreadA (t :: l) = oneText t ++ (cmtA ++ spreadA l) := by simp [spreadA]
    have h1 := h t (by simp)
    have ih := spreadA_len N l (fun u hu => h u (by simp [hu]))
    have hc : cmtA.length = 13 := rfl
    rw [e, List.length_append, List.length_append, List.length_cons, Nat.succ_mul]
    omega
theorem piece_len {N n : Nat} {t : Tok} (h : (oneText t).length ≤ N) : (piece n t).length ≤ N + 10 := by
  unfold piece
  split
  · simp [someBlanks]; omega
  · omega
theorem spreadB_len (N n : Nat) : ∀ l : List Tok, (∀ t ∈ l, (oneText t).length ≤ N) → (spreadB n l).length ≤ l.length * (N + 14)
  | [], _ => by simp [spreadB]
  | t :: l, h => by
    have e : spreadB n (t :: l) = piece n t ++ (cmtB ++ spreadB n l) := by simp [spreadB]
    have h1 := piece_len (n := n) (h t (by simp))
    have ih := spreadB_len N n l (fun u hu => h u (by simp [hu]))
    have hc : cmtB.length = 4 := rfl
    rw [e, List.length_append, List.length_append, List.length_cons, Nat.succ_mul]
    omega
theorem spreadA_snoc (l : List Tok) (t : Tok) : spreadA (l ++ [t]) = spreadA l ++ (oneText t ++ cmtA) := by simp [spreadA]
theorem spreadB_snoc (n : Nat) (l : List Tok) (t : Tok) : spreadB n (l ++ [t]) = spreadB n l ++ (piece n t ++ cmtB) := by simp [spreadB]
end Wn
