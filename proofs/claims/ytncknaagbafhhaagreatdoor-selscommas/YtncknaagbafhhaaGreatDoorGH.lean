/- Valid tokens, and how they are read from their texts: plain mathematics. A valid token, and what may follow it: it is read from its text. Plain mathematics. Numbers and delimiters are read from their texts; so is every valid token. Plain mathematics. Tokens that are written one behind the other are read again as they were. Plain mathematics. Tokens that may be, written one behind the other, are read again as they were. Plain mathematics. How long the tokens of a text are, and the text of tokens. Plain mathematics. Arguments of a row that are tokens: what the reading of a row's argument says of the memory. -/
import Derived.Test.YtncknaagbafhhaaGreatDoorGA
import Derived.Test.YtncknaagbafhhaaGreatDoorGF
import Derived.Test.YtncknaagbafhhaaGreatDoorGG
import Derived.Carry
import Derived.WideKeyArgs
import Derived.ChangeSame
import Derived.Lib.SmallJoins
set_option maxRecDepth 20000
namespace Wn
def Names (x : List UInt8) : Prop := runLen nameByte x = x.length
def IsName (x : List UInt8) : Prop := nameBegins x = true ∧ Names x
def DelimB (c : UInt8) : Prop := blank [c] = false ∧ digit [c] = false ∧ nameStart [c] = false
def Unit (x : List UInt8) : Prop := x = [] ∨ x = [37] ∨ IsName x
/-- no quote q and no line end -/
def Clean (q : Int) (x : List UInt8) : Prop := ∀ b ∈ x, (b.toNat : Int) ≠ q ∧ b ≠ 10 ∧ b ≠ 12 ∧ b ≠ 13
def Valid (t : Tok) : Prop :=
  (∃ x, IsName x ∧ t = (1, x, 0)) ∨ (∃ x, IsName x ∧ t = (2, x, 0)) ∨ (∃ x, IsName x ∧ t = (3, x, 0)) ∨ (∃ x, Names x ∧ x ≠ [] ∧ t = (4, x, 0)) ∨
  (∃ x n, -999999999 ≤ n ∧ n ≤ 999999999 ∧ Unit x ∧ t = (5, x, n)) ∨ (∃ x q, (q = 34 ∨ q = 39) ∧ Clean q x ∧ t = (6, x, q)) ∨ (∃ c, DelimB c ∧ t = (7, [c], 0)) ∨ t = (8, [10], 0)
theorem Valid.ident (x : List UInt8) (h : IsName x) : Valid (1, x, 0) := .inl ⟨x, h, rfl⟩
theorem Valid.func (x : List UInt8) (h : IsName x) : Valid (2, x, 0) := .inr (.inl ⟨x, h, rfl⟩)
theorem Valid.at_ (x : List UInt8) (h : IsName x) : Valid (3, x, 0) := .inr (.inr (.inl ⟨x, h, rfl⟩))
theorem Valid.hash (x : List UInt8) (h : Names x) (h0 : x ≠ []) : Valid (4, x, 0) := .inr (.inr (.inr (.inl ⟨x, h, h0, rfl⟩)))
theorem Valid.num (x : List UInt8) (n : Int) (h1 : -999999999 ≤ n) (h2 : n ≤ 999999999) (h : Unit x) : Valid (5, x, n) := .inr (.inr (.inr (.inr (.inl ⟨x, n, h1, h2, h, rfl⟩))))
theorem Valid.str (x : List UInt8) (q : Int) (h1 : q = 34 ∨ q = 39) (h : Clean q x) : Valid (6, x, q) := .inr (.inr (.inr (.inr (.inr (.inl ⟨x, q, h1, h, rfl⟩)))))
theorem Valid.delim (c : UInt8) (h : DelimB c) : Valid (7, [c], 0) := .inr (.inr (.inr (.inr (.inr (.inr (.inl ⟨c, h, rfl⟩))))))
theorem Valid.white : Valid (8, [10], 0) := .inr (.inr (.inr (.inr (.inr (.inr (.inr rfl))))))
theorem runLen_cons (f : List UInt8 → Bool) (b : UInt8) (l : List UInt8) : runLen f (b :: l) = if f (b :: l) then runLen f l + 1 else 0 := rfl
theorem runLen_take (f : List UInt8 → Bool) (hf : HeadOnly f) : ∀ l : List UInt8, runLen f (l.take (runLen f l)) = runLen f l
  | [] => rfl
  | b :: l => by
    rw [runLen_cons]
    by_cases h : f (b :: l) = true
    · rw [if_pos h, List.take_succ_cons, runLen_cons, show f (b :: l.take (runLen f l)) = f (b :: l) from hf _ _ _, if_pos h, runLen_take f hf l]
    · rw [if_neg h]; rfl
theorem names_take (l : List UInt8) : Names (l.take (runLen nameByte l)) := by
  unfold Names
  rw [runLen_take _ ho_name, List.length_take, Nat.min_eq_left (runLen_le _ _)]
theorem nameBegins_cons2 (b c : UInt8) (l m : List UInt8) : nameBegins (b :: c :: l) = nameBegins (b :: c :: m) := rfl
theorem isName_take {l : List UInt8} (h : nameBegins l = true) : IsName (l.take (runLen nameByte l)) := by
  refine ⟨?_, names_take l⟩
  match l, h with
  | [], h => exact absurd h (by decide)
  | [b], h =>
    have hb := nameBegins_byte h
    have : runLen nameByte [b] = 1 := by rw [runLen_cons, if_pos hb]; rfl
    rw [this]; exact h
  | b :: c :: l, h =>
    have hb := nameBegins_byte h
    by_cases hc : nameByte (c :: l) = true
    · have : runLen nameByte (b :: c :: l) = runLen nameByte l + 2 := by
        rw [runLen_cons, if_pos hb, runLen_cons, if_pos hc]
      rw [this, List.take_succ_cons, List.take_succ_cons, nameBegins_cons2 b c _ l]; exact h
    · have hr : runLen nameByte (b :: c :: l) = 1 := by
        rw [runLen_cons, if_pos hb, runLen_cons, if_neg hc]
      rw [hr]
      unfold nameBegins at h ⊢
      have e : hd (b :: c :: l) = hd (List.take 1 (b :: c :: l)) := rfl
      rw [← e]
      split
      · rename_i h45
        rw [if_pos h45] at h
        exfalso
        apply hc
        simp only [List.drop_succ_cons, List.drop_zero] at h
        unfold nameByte
        simp only [Bool.or_eq_true] at h ⊢
        rcases h with h | h
        · exact .inl (.inl h)
        · exact .inr h
      · rename_i h45
        rw [if_neg h45] at h
        exact h
theorem unit_take (l : List UInt8) : Unit (l.take (unitLen l)) := by
  unfold unitLen
  split
  · rename_i h
    right; left
    cases l with
    | nil => simp [hd] at h
    | cons b l =>
      simp [hd] at h
      have : b = 37 := by apply UInt8.toNat.inj; simpa using Int.ofNat.inj h
      subst this; rfl
  · split
    · rename_i h; exact .inr (.inr (isName_take h))
    · left; simp
theorem clean_take (q : Int) : ∀ (l : List UInt8) (k : Nat), quoteLen q l = some k → Clean q (l.take k)
  | [], k, h => by simp [quoteLen] at h
  | b :: l, k, h => by
    unfold quoteLen at h
    split at h
    · cases h
    · rename_i hl
      split at h
      · simp at h; subst h; intro b hb; simp at hb
      · rename_i hq
        cases hr : quoteLen q l with
        | none => rw [hr] at h; cases h
        | some j =>
          rw [hr] at h; simp at h; subst h
          intro c hc
          rw [List.take_succ_cons, List.mem_cons] at hc
          rcases hc with rfl | hc
          · simp only [lineEnd, hd, Bool.or_eq_true, beq_iff_eq, not_or] at hl hq
            refine ⟨hq, ?_, ?_, ?_⟩ <;> rintro rfl <;> simp at hl
          · exact clean_take q l j hr c hc
/-- a token of a text is valid -/
theorem one_valid {l : List UInt8} (h : l ≠ []) : Valid (one l).1 := by
  unfold one
  split
  · exact .white
  · rename_i hbl
    split
    · rename_i k hk
      refine .str _ _ ?_ ?_
      · unfold strLen at hk
        split at hk
        · rename_i hq; unfold quote at hq; simpa using hq
        · cases hk
      · unfold strLen at hk
        split at hk
        · exact clean_take _ _ _ hk
        · cases hk
    · split
      · rename_i h35
        simp only [Bool.and_eq_true] at h35
        unfold named
        refine .hash _ (names_take _) ?_
        have := runLen_pos h35.2 (by decide)
        intro he
        have h2 := runLen_le nameByte (l.drop 1)
        have := congrArg List.length he
        rw [List.length_take, List.length_nil] at this
        omega
      · split
        · rename_i h64
          simp only [Bool.and_eq_true] at h64
          exact .at_ _ (isName_take h64.2)
        · split
          · unfold number numTok
            split
            · have := numVal_bounds (l.drop 1) 0 (by omega) (by omega)
              exact .num _ _ (by (first | rw [if_pos rfl] | rw [if_neg (by decide)]); omega) (by (first | rw [if_pos rfl] | rw [if_neg (by decide)]); omega) (unit_take _)
            · have := numVal_bounds l 0 (by omega) (by omega)
              exact .num _ _ (by (first | rw [if_pos rfl] | rw [if_neg (by decide)]); omega) (by (first | rw [if_pos rfl] | rw [if_neg (by decide)]); omega) (unit_take _)
          · rename_i hnu
            split
            · rename_i hn
              unfold word
              split
              · exact .func _ (isName_take hn)
              · exact .ident _ (isName_take hn)
            · rename_i hn
              cases l with
              | nil => exact absurd rfl h
              | cons c l =>
                refine .delim c ⟨?_, ?_, ?_⟩
                · have : blank [c] = blank (c :: l) := rfl
                  rw [this]; simpa using hbl
                · have : digit [c] = digit (c :: l) := rfl
                  rw [this]
                  unfold numberBegins at hnu
                  simp only [Bool.or_eq_true, not_or] at hnu
                  simpa using hnu.1
                · have e : nameStart [c] = nameStart (c :: l) := rfl
                  rw [e]
                  unfold nameBegins at hn
                  split at hn
                  · rename_i h45
                    have : hd (c :: l) = 45 := by simpa using h45
                    simp [nameStart, this]
                  · simpa using hn
theorem lex_valid : ∀ (n : Nat) (l : List UInt8), l.length ≤ n → ∀ t ∈ lex l, Valid t
  | 0, l, hn, t, ht => by
    have : l = [] := List.length_eq_zero_iff.1 (by omega)
    subst this; simp [lex, lexF] at ht
  | n + 1, l, hn, t, ht => by
    by_cases he : l.drop (skip l) = []
    · rw [lex_end he] at ht; simp at ht
    · rw [lex_cons he, List.mem_cons] at ht
      rcases ht with rfl | ht
      · exact one_valid he
      · have := one_pos he
        refine lex_valid n _ ?_ t ht
        have h1 := this.1
        have h2 := this.2
        simp at h1 h2 ⊢; omega
theorem may_valid {t : Tok} (h : may t = true) : Valid t := by
  unfold may at h
  have h' : lex (oneText t) = [t] := by simpa using h
  exact lex_valid _ (oneText t) (Nat.le_refl _) t (by rw [h']; simp)
end Wn
set_option maxRecDepth 20000
namespace Wn
def Follows (t : Tok) (R : List UInt8) : Prop :=
  (t.1 = 1 → nameByte R = false ∧ hd R ≠ 40) ∧ (t.1 = 3 → nameByte R = false) ∧ (t.1 = 4 → nameByte R = false) ∧
  (t.1 = 5 → t.2.1 = [] → digit R = false ∧ hd R ≠ 37 ∧ nameBegins R = false) ∧ (t.1 = 5 → t.2.1 ≠ [] → t.2.1 ≠ [37] → nameByte R = false) ∧
  (t.1 = 7 → t.2.1 = [35] → nameByte R = false) ∧ (t.1 = 7 → t.2.1 = [64] → nameBegins R = false) ∧
  (t.1 = 7 → t.2.1 = [45] → digit R = false ∧ nameStart R = false ∧ hd R ≠ 45) ∧ (t.1 = 7 → t.2.1 = [47] → hd R ≠ 42) ∧ (t.1 = 8 → blank R = false)
theorem nameStart_iff (l : List UInt8) : nameStart l = true ↔ (65 ≤ hd l ∧ hd l ≤ 90) ∨ (97 ≤ hd l ∧ hd l ≤ 122) ∨ hd l = 95 ∨ 128 ≤ hd l := by
  unfold nameStart; simp [or_assoc]
theorem digit_iff (l : List UInt8) : digit l = true ↔ 48 ≤ hd l ∧ hd l ≤ 57 := by unfold digit; simp
theorem nameByte_iff (l : List UInt8) : nameByte l = true ↔ nameStart l = true ∨ digit l = true ∨ hd l = 45 := by unfold nameByte; simp [or_assoc]
theorem blank_iff (l : List UInt8) : blank l = true ↔ hd l = 32 ∨ hd l = 9 ∨ hd l = 10 ∨ hd l = 12 ∨ hd l = 13 := by unfold blank lineEnd; simp [or_assoc]
theorem quote_iff (l : List UInt8) : quote l = true ↔ hd l = 34 ∨ hd l = 39 := by unfold quote; simp
theorem false_iff_not {b : Bool} : b = false ↔ ¬ b = true := by cases b <;> simp
/-- what the head of a name is not -/
theorem head_name {l : List UInt8} (h : nameStart l = true ∨ hd l = 45) : blank l = false ∧ quote l = false ∧ hd l ≠ 35 ∧ hd l ≠ 64 ∧ digit l = false ∧ hd l ≠ 47 := by
  rw [nameStart_iff] at h
  rw [false_iff_not, false_iff_not, false_iff_not, blank_iff, quote_iff, digit_iff]
  omega
theorem nameBegins_head {l : List UInt8} (h : nameBegins l = true) : nameStart l = true ∨ hd l = 45 := by
  unfold nameBegins at h
  split at h
  · rename_i h45; right; simpa using h45
  · left; exact h
theorem isName_cases {x : List UInt8} (h : IsName x) : (∃ b y, x = b :: y ∧ nameStart (b :: y) = true ∧ hd (b :: y) ≠ 45) ∨ (∃ b c y, x = b :: c :: y ∧ hd (b :: c :: y) = 45 ∧ (nameStart (c :: y) = true ∨ hd (c :: y) = 45)) := by
  obtain ⟨h, _⟩ := h
  match x, h with
  | [], h => exact absurd h (by decide)
  | [b], h =>
    left
    unfold nameBegins at h
    split at h
    · rename_i h45; exact absurd h (by simp [hd, nameStart])
    · rename_i h45; exact ⟨b, [], rfl, h, by simpa using h45⟩
  | b :: c :: y, h =>
    unfold nameBegins at h
    split at h
    · rename_i h45
      right
      refine ⟨b, c, y, rfl, by simpa using h45, ?_⟩
      simpa using h
    · rename_i h45; left; exact ⟨b, c :: y, rfl, h, by simpa using h45⟩
theorem isName_app {x : List UInt8} (h : IsName x) (R : List UInt8) : nameBegins (x ++ R) = true ∧ numberBegins (x ++ R) = false ∧ (nameStart (x ++ R) = true ∨ hd (x ++ R) = 45) ∧ x ≠ [] := by
  rcases isName_cases h with ⟨b, y, rfl, h1, h2⟩ | ⟨b, c, y, rfl, h1, h2⟩
  · have h1' : nameStart (b :: y ++ R) = true := h1
    have h2' : hd (b :: y ++ R) ≠ 45 := h2
    have hn := head_name (.inl h1')
    refine ⟨?_, ?_, .inl h1', by simp⟩
    · unfold nameBegins; rw [if_neg (by simpa using h2')]; exact h1'
    · unfold numberBegins; rw [hn.2.2.2.2.1, beq_eq_false_iff_ne.2 h2']; rfl
  · have h1' : hd (b :: c :: y ++ R) = 45 := h1
    have hn := head_name (.inr h1')
    have h2' : nameStart ((b :: c :: y ++ R).drop 1) = true ∨ hd ((b :: c :: y ++ R).drop 1) = 45 := h2
    have hn2 := head_name h2'
    refine ⟨?_, ?_, .inr h1', by simp⟩
    · unfold nameBegins; rw [if_pos (by simpa using h1')]; simpa using h2'
    · unfold numberBegins; rw [hn.2.2.2.2.1, hn2.2.2.2.2.1]; simp
theorem strLen_noquote {l : List UInt8} (h : quote l = false) : strLen l = none := by unfold strLen; rw [h]; rfl
theorem one_name {x : List UInt8} (h : IsName x) (R : List UInt8) : one (x ++ R) = word (x ++ R) := by
  obtain ⟨h1, h2, h3, _⟩ := isName_app h R
  have hn := head_name h3
  unfold one
  rw [if_neg (by rw [hn.1]; decide), strLen_noquote hn.2.1]
  dsimp only
  rw [if_neg (by simp [hn.2.2.1]), if_neg (by simp [hn.2.2.2.1]), if_neg (by rw [h2]; decide), if_pos h1]
theorem names_app {x : List UInt8} (h : Names x) {R : List UInt8} (hR : nameByte R = false) : runLen nameByte (x ++ R) = x.length := by
  rw [run_app ho_name R hR, h]
theorem commentBegins_head {l : List UInt8} (h : hd l ≠ 47) : commentBegins l = false := by unfold commentBegins; simp [h]
/-- read one token, then the rest -/
theorem lex_step {l : List UInt8} {t : Tok} {k : Nat} (hne : l ≠ []) (hc : commentBegins l = false) (h : one l = (t, k)) : lex l = t :: lex (l.drop k) := by
  have hs := skip_no hc
  have he : l.drop (skip l) ≠ [] := by rw [hs]; exact hne
  rw [lex_cons he, hs, List.drop_zero, h]
theorem drop_len (x R : List UInt8) (k : Nat) (h : k = x.length) : (x ++ R).drop k = R := by subst h; simp
theorem take_len (x R : List UInt8) (k : Nat) (h : k = x.length) : (x ++ R).take k = x := by subst h; simp
theorem read_ident {x : List UInt8} (h : IsName x) {R : List UInt8} (hR : nameByte R = false) (h40 : hd R ≠ 40) : lex (x ++ R) = (1, x, 0) :: lex R := by
  obtain ⟨h1, h2, h3, h4⟩ := isName_app h R
  have hn := head_name h3
  have hr := names_app h.2 hR
  rw [lex_step (t := (1, x, 0)) (k := x.length) (by simp [h4]) (commentBegins_head hn.2.2.2.2.2) ?_, drop_len _ _ _ rfl]
  rw [one_name h]; unfold word
  rw [hr, drop_len _ _ _ rfl, take_len _ _ _ rfl, if_neg (by simpa using h40)]
theorem read_func {x : List UInt8} (h : IsName x) (R : List UInt8) : lex (x ++ 40 :: R) = (2, x, 0) :: lex R := by
  obtain ⟨h1, h2, h3, h4⟩ := isName_app h (40 :: R)
  have hn := head_name h3
  have hr := names_app h.2 (R := 40 :: R) (by simp [nameByte, nameStart, digit, hd])
  rw [lex_step (t := (2, x, 0)) (k := x.length + 1) (by simp [h4]) (commentBegins_head hn.2.2.2.2.2) ?_]
  · rw [show x ++ 40 :: R = (x ++ [40]) ++ R by simp, drop_len _ _ _ (by simp)]
  · rw [one_name h]; unfold word
    rw [hr, drop_len _ _ _ rfl, take_len _ _ _ rfl, if_pos (by simp [hd])]
theorem one_at {x : List UInt8} (h : nameBegins x = true) : one (64 :: x) = named 3 (64 :: x) := by
  unfold one
  rw [if_neg (by simp [blank, lineEnd, hd]), strLen_noquote (by simp [quote, hd])]
  dsimp only
  rw [if_neg (by simp [hd]), if_pos (by simp [hd, h])]
theorem one_hash {x : List UInt8} (h : nameByte x = true) : one (35 :: x) = named 4 (35 :: x) := by
  unfold one
  rw [if_neg (by simp [blank, lineEnd, hd]), strLen_noquote (by simp [quote, hd])]
  dsimp only
  rw [if_pos (by simp [hd, h])]
theorem read_at {x : List UInt8} (h : IsName x) {R : List UInt8} (hR : nameByte R = false) : lex (64 :: x ++ R) = (3, x, 0) :: lex R := by
  obtain ⟨h1, _, _, _⟩ := isName_app h R
  have hr := names_app h.2 hR
  rw [lex_step (t := (3, x, 0)) (k := x.length + 1) (by simp) (commentBegins_head (by simp [hd])) ?_]
  · rw [drop_len _ _ _ (by simp)]
  · rw [List.cons_append, one_at h1]; unfold named
    rw [List.drop_succ_cons, List.drop_zero, hr, take_len _ _ _ rfl]
theorem read_hash {x : List UInt8} (h : Names x) (h0 : x ≠ []) {R : List UInt8} (hR : nameByte R = false) : lex (35 :: x ++ R) = (4, x, 0) :: lex R := by
  have hr := names_app h hR
  have hx : nameByte (x ++ R) = true := by
    cases hb : nameByte (x ++ R)
    · rw [runLen_no hb] at hr
      exact absurd (List.length_eq_zero_iff.1 hr.symm) h0
    · rfl
  rw [lex_step (t := (4, x, 0)) (k := x.length + 1) (by simp) (commentBegins_head (by simp [hd])) ?_]
  · rw [drop_len _ _ _ (by simp)]
  · rw [List.cons_append, one_hash hx]; unfold named
    rw [List.drop_succ_cons, List.drop_zero, hr, take_len _ _ _ rfl]
theorem quote_clean (q : Int) : ∀ (x : List UInt8) (c : UInt8) (R : List UInt8), Clean q x → (c.toNat : Int) = q → q = 34 ∨ q = 39 → quoteLen q (x ++ c :: R) = some x.length
  | [], c, R, _, hc, hq => by
    rw [List.nil_append]
    unfold quoteLen
    rw [if_neg (by simp [lineEnd, hd]; omega), if_pos (by simpa [hd] using hc)]; rfl
  | b :: x, c, R, hx, hc, hq => by
    rw [List.cons_append]
    unfold quoteLen
    obtain ⟨h1, h2, h3, h4⟩ := hx b (by simp)
    have hl : lineEnd (b :: (x ++ c :: R)) = false := by
      simp only [lineEnd, hd, Bool.or_eq_false_iff, beq_eq_false_iff_ne, ne_eq]
      refine ⟨⟨?_, ?_⟩, ?_⟩ <;> intro h
      · exact h2 (UInt8.toNat.inj (by simpa using Int.ofNat.inj h))
      · exact h3 (UInt8.toNat.inj (by simpa using Int.ofNat.inj h))
      · exact h4 (UInt8.toNat.inj (by simpa using Int.ofNat.inj h))
    rw [if_neg (by rw [hl]; decide), if_neg (by simpa [hd] using h1), quote_clean q x c R (fun d hd => hx d (by simp [hd])) hc hq]
    rfl
theorem read_str {x : List UInt8} (c : UInt8) (hc : c = 34 ∨ c = 39) (hx : Clean (c.toNat : Int) x) (R : List UInt8) : lex (c :: x ++ c :: R) = (6, x, (c.toNat : Int)) :: lex R := by
  have hq : (c.toNat : Int) = 34 ∨ (c.toNat : Int) = 39 := by rcases hc with rfl | rfl <;> simp
  rw [lex_step (t := (6, x, (c.toNat : Int))) (k := x.length + 2) (by simp) (commentBegins_head (by simp [hd]; omega)) ?_]
  · rw [show c :: x ++ c :: R = (c :: x ++ [c]) ++ R by simp, drop_len _ _ _ (by simp)]
  · have hs : strLen (c :: x ++ c :: R) = some x.length := by
      unfold strLen
      rw [if_pos (by rw [quote_iff]; simpa [hd] using hq)]
      rw [List.cons_append, List.drop_succ_cons, List.drop_zero]
      exact quote_clean _ x c R hx rfl hq
    unfold one
    rw [if_neg (by rw [blank_iff]; simp [hd]; omega), hs]
    dsimp only
    rw [List.cons_append, List.drop_succ_cons, List.drop_zero, take_len _ _ _ rfl]
    rfl
theorem read_white {R : List UInt8} (hR : blank R = false) : lex (10 :: R) = (8, [10], 0) :: lex R := by
  rw [lex_step (t := (8, [10], 0)) (k := 1) (by simp) (commentBegins_head (by simp [hd])) ?_]
  · rfl
  · unfold one
    rw [if_pos (by simp [blank_iff, hd]), runLen_cons, if_pos (by simp [blank_iff, hd]), runLen_no hR]
end Wn
set_option maxRecDepth 20000
namespace Wn
def Digits (x : List UInt8) : Prop := ∀ b ∈ x, 48 ≤ b.toNat ∧ b.toNat ≤ 57
theorem digits_run : ∀ {x : List UInt8}, Digits x → ∀ {R : List UInt8}, digit R = false → runLen digit (x ++ R) = x.length
  | [], _, R, hR => by rw [List.nil_append, runLen_no hR]; rfl
  | b :: x, hx, R, hR => by
    have hb := hx b (by simp)
    rw [List.cons_append, runLen_cons, if_pos (by rw [digit_iff]; simp [hd]; omega), digits_run (fun c hc => hx c (by simp [hc])) hR]
    simp
theorem numVal_app : ∀ {x : List UInt8}, Digits x → ∀ (n : Int) (R : List UInt8), numVal n (x ++ R) = numVal (numVal n x) R
  | [], _, n, R => rfl
  | b :: x, hx, n, R => by
    have hb := hx b (by simp)
    have h1 : digit (b :: (x ++ R)) = true := by rw [digit_iff]; simp [hd]; omega
    have h2 : digit (b :: x) = true := by rw [digit_iff]; simp [hd]; omega
    rw [List.cons_append]
    conv => lhs; unfold numVal
    conv => rhs; arg 1; unfold numVal
    rw [if_pos h1, if_pos h2, numVal_app (fun c hc => hx c (by simp [hc]))]
    rfl
theorem decDigits_digits : ∀ (k u : Nat), u < 10 ^ (k + 1) → Digits (Go.Lib.decDigits u)
  | 0, u, h => by
    rw [Go.Lib.decDigits, dif_pos (by simpa using h)]
    intro b hb
    simp at hb; subst hb
    have : u < 10 := by simpa using h
    simp; omega
  | k + 1, u, h => by
    rw [Go.Lib.decDigits]
    split
    · rename_i hu
      intro b hb
      simp at hb; subst hb
      simp; omega
    · intro b hb
      rw [List.mem_append] at hb
      rcases hb with hb | hb
      · exact decDigits_digits k (u / 10) (by rw [Nat.pow_succ] at h; omega) b hb
      · simp at hb; subst hb
        have : u % 10 < 10 := Nat.mod_lt _ (by omega)
        simp; omega
theorem decDigits_val : ∀ (k u : Nat), u < 10 ^ (k + 1) → u ≤ 999999999 → numVal 0 (Go.Lib.decDigits u) = (u : Int)
  | 0, u, h, _ => by
    have hu : u < 10 := by simpa using h
    rw [Go.Lib.decDigits, dif_pos hu]
    unfold numVal
    rw [if_pos (by rw [digit_iff]; simp [hd]; omega)]
    simp [numVal, hd]; omega
  | k + 1, u, h, hm => by
    rw [Go.Lib.decDigits]
    split
    · rename_i hu
      unfold numVal
      rw [if_pos (by rw [digit_iff]; simp [hd]; omega)]
      simp [numVal, hd]; omega
    · have hk : u / 10 < 10 ^ (k + 1) := by rw [Nat.pow_succ] at h; omega
      have ih := decDigits_val k (u / 10) hk (by omega)
      have hlt : u % 10 < 10 := Nat.mod_lt _ (by omega)
      rw [numVal_app (decDigits_digits k _ hk), ih]
      unfold numVal
      rw [if_pos (by rw [digit_iff]; simp [hd]; omega)]
      simp [numVal, hd]; omega
theorem decDigits_ne (u : Nat) : Go.Lib.decDigits u ≠ [] := by
  rw [Go.Lib.decDigits]; split <;> simp
theorem unit_head {x : List UInt8} (h : Unit x) {R : List UInt8} (hR : x = [] → digit R = false ∧ hd R ≠ 37 ∧ nameBegins R = false) (hN : x ≠ [] → x ≠ [37] → nameByte R = false) :
    digit (x ++ R) = false ∧ unitLen (x ++ R) = x.length := by
  rcases h with rfl | rfl | h
  · obtain ⟨h1, h2, h3⟩ := hR rfl
    refine ⟨h1, ?_⟩
    unfold unitLen
    rw [List.nil_append, if_neg (by simpa using h2), if_neg (by rw [h3]; decide)]; rfl
  · refine ⟨by simp [digit, hd], ?_⟩
    unfold unitLen
    rw [if_pos (by simp [hd])]; rfl
  · obtain ⟨h1, _, h3, h4⟩ := isName_app h R
    have hn := head_name h3
    have hx37 : x ≠ [37] := by
      rintro rfl
      exact absurd h.1 (by decide)
    refine ⟨hn.2.2.2.2.1, ?_⟩
    unfold unitLen
    rw [if_neg, if_pos h1, names_app h.2 (hN h4 hx37)]
    rw [nameStart_iff] at h3
    simp; omega
theorem one_num {l : List UInt8} (h : numberBegins l = true) : one l = number l := by
  have hh : digit l = true ∨ hd l = 45 := by
    unfold numberBegins at h
    simp only [Bool.or_eq_true, Bool.and_eq_true, beq_iff_eq] at h
    rcases h with h | h
    · exact .inl h
    · exact .inr h.1
  have hb : blank l = false := by rw [false_iff_not, blank_iff]; rw [digit_iff] at hh; omega
  have hq : quote l = false := by rw [false_iff_not, quote_iff]; rw [digit_iff] at hh; omega
  rw [digit_iff] at hh
  unfold one
  rw [if_neg (by rw [hb]; decide), strLen_noquote hq]
  dsimp only
  rw [if_neg (by simp; omega), if_neg (by simp; omega), if_pos h]
theorem read_num {x : List UInt8} {n : Int} (h0 : -999999999 ≤ n) (h1 : n ≤ 999999999) (hx : Unit x) {R : List UInt8} (hR : x = [] → digit R = false ∧ hd R ≠ 37 ∧ nameBegins R = false) (hN : x ≠ [] → x ≠ [37] → nameByte R = false) :
    lex (Go.Lib.itoa n ++ x ++ R) = (5, x, n) :: lex R := by
  obtain ⟨hd1, hu⟩ := unit_head hx hR hN
  unfold Go.Lib.itoa
  split
  · rename_i hneg
    have hk : n.natAbs < 10 ^ (8 + 1) := by omega
    have hD := decDigits_digits 8 _ hk
    have hV := decDigits_val 8 _ hk (by omega)
    have hne := decDigits_ne n.natAbs
    generalize Go.Lib.decDigits n.natAbs = D at *
    have hdig : digit (D ++ (x ++ R)) = true := by
      cases D with
      | nil => exact absurd rfl hne
      | cons b D => have := hD b (by simp); rw [digit_iff]; simp [hd]; omega
    have hrun := digits_run hD hd1
    have e : 45 :: D ++ x ++ R = 45 :: (D ++ (x ++ R)) := by simp
    rw [e]
    rw [lex_step (t := (5, x, n)) (k := 1 + D.length + x.length) (by simp) (commentBegins_head (by simp [hd])) ?_]
    · rw [show 45 :: (D ++ (x ++ R)) = (45 :: D ++ x) ++ R by simp, drop_len _ _ _ (by simp; omega)]
    · rw [one_num (by unfold numberBegins; simp [hd, hdig])]
      unfold number
      rw [if_pos (by simp [hd]), List.drop_succ_cons, List.drop_zero, hrun]
      unfold numTok
      have ed : (45 :: (D ++ (x ++ R))).drop (1 + D.length) = x ++ R := by
        rw [show 45 :: (D ++ (x ++ R)) = (45 :: D) ++ (x ++ R) by simp, drop_len _ _ _ (by simp; omega)]
      rw [ed, hu, take_len _ _ _ rfl, if_pos rfl, List.drop_succ_cons, List.drop_zero, numVal_app hD, numVal_no _ _ hd1, hV]
      have : - (n.natAbs : Int) = n := by omega
      rw [this]
  · rename_i hneg
    have hk : n.toNat < 10 ^ (8 + 1) := by omega
    have hD := decDigits_digits 8 _ hk
    have hV := decDigits_val 8 _ hk (by omega)
    have hne := decDigits_ne n.toNat
    generalize Go.Lib.decDigits n.toNat = D at *
    have hdig : digit (D ++ (x ++ R)) = true := by
      cases D with
      | nil => exact absurd rfl hne
      | cons b D => have := hD b (by simp); rw [digit_iff]; simp [hd]; omega
    have hrun := digits_run hD hd1
    have h45 : (hd (D ++ (x ++ R)) == 45) = false := by rw [digit_iff] at hdig; simp; omega
    have h47 : hd (D ++ (x ++ R)) ≠ 47 := by rw [digit_iff] at hdig; omega
    rw [List.append_assoc]
    rw [lex_step (t := (5, x, n)) (k := D.length + x.length) (by simp [hne]) (commentBegins_head h47) ?_]
    · rw [show D ++ (x ++ R) = (D ++ x) ++ R by simp, drop_len _ _ _ (by simp)]
    · rw [one_num (by unfold numberBegins; rw [hdig]; rfl)]
      unfold number
      rw [if_neg (by rw [h45]; decide), hrun]
      unfold numTok
      rw [drop_len _ _ _ rfl, hu, take_len _ _ _ rfl, if_neg (by decide), numVal_app hD, numVal_no _ _ hd1, hV]
      have : (n.toNat : Int) = n := by omega
      rw [this]
/-- the head of a delimiter -/
theorem delim_head {c : UInt8} (h : DelimB c) (R : List UInt8) : blank (c :: R) = false ∧ digit (c :: R) = false ∧ nameStart (c :: R) = false := h
theorem one_delim {c : UInt8} (h : DelimB c) {R : List UInt8} (hs : strLen (c :: R) = none) (h35 : c = 35 → nameByte R = false) (h64 : c = 64 → nameBegins R = false) (h45 : c = 45 → digit R = false ∧ nameStart R = false ∧ hd R ≠ 45) :
    one (c :: R) = ((7, [c], 0), 1) := by
  obtain ⟨h1, h2, h3⟩ := delim_head h R
  have hc : ∀ k : UInt8, hd (c :: R) = (k.toNat : Int) → c = k := fun k hk => UInt8.toNat.inj (by simpa [hd] using Int.ofNat.inj hk)
  unfold one
  rw [if_neg (by rw [h1]; decide), hs]
  dsimp only
  rw [if_neg, if_neg, if_neg, if_neg]
  · rfl
  · intro hn
    rcases nameBegins_head hn with hh | hh
    · rw [h3] at hh; cases hh
    · obtain ⟨_, k2, k3⟩ := h45 (hc 45 hh)
      unfold nameBegins at hn
      rw [if_pos (by simpa using hh), List.drop_succ_cons, List.drop_zero, k2] at hn
      simp at hn; exact k3 hn
  · intro hn
    unfold numberBegins at hn
    rw [h2] at hn
    simp at hn
    have := (h45 (hc 45 hn.1)).1
    rw [hn.2] at this; cases this
  · simp only [Bool.and_eq_true, beq_iff_eq, List.drop_succ_cons, List.drop_zero]
    rintro ⟨h, h'⟩
    rw [h64 (hc 64 h)] at h'; cases h'
  · simp only [Bool.and_eq_true, beq_iff_eq, List.drop_succ_cons, List.drop_zero]
    rintro ⟨h, h'⟩
    rw [h35 (hc 35 h)] at h'; cases h'
theorem read_quote {c : UInt8} (hc : c = 34 ∨ c = 39) (R : List UInt8) : lex (c :: 47 :: 42 :: 10 :: 42 :: 47 :: R) = (7, [c], 0) :: lex R := by
  have hs : strLen (c :: 47 :: 42 :: 10 :: 42 :: 47 :: R) = none := by rcases hc with rfl | rfl <;> rfl
  have hD : DelimB c := by rcases hc with rfl | rfl <;> exact ⟨rfl, rfl, rfl⟩
  have ho := one_delim hD hs (by rcases hc with rfl | rfl <;> exact fun h => absurd h (by decide)) (by rcases hc with rfl | rfl <;> exact fun h => absurd h (by decide)) (by rcases hc with rfl | rfl <;> exact fun h => absurd h (by decide))
  have h47 : hd (c :: 47 :: 42 :: 10 :: 42 :: 47 :: R) ≠ 47 := by rcases hc with rfl | rfl <;> simp [hd]
  rw [lex_step (by simp) (commentBegins_head h47) ho, List.drop_succ_cons, List.drop_zero, lex_comment (l := 47 :: 42 :: 10 :: 42 :: 47 :: R) rfl]
  rfl
theorem read_delim {c : UInt8} (h : DelimB c) (hq : ¬ (c = 34 ∨ c = 39)) {R : List UInt8} (h35 : c = 35 → nameByte R = false) (h64 : c = 64 → nameBegins R = false) (h45 : c = 45 → digit R = false ∧ nameStart R = false ∧ hd R ≠ 45) (h47 : c = 47 → hd R ≠ 42) :
    lex (c :: R) = (7, [c], 0) :: lex R := by
  have hc : ∀ k : UInt8, hd (c :: R) = (k.toNat : Int) → c = k := fun k hk => UInt8.toNat.inj (by simpa [hd] using Int.ofNat.inj hk)
  have hs : strLen (c :: R) = none := strLen_noquote (by
    rw [false_iff_not, quote_iff]
    rintro (h | h)
    · exact hq (.inl (hc 34 h))
    · exact hq (.inr (hc 39 h)))
  have hcb : commentBegins (c :: R) = false := by
    unfold commentBegins
    rw [List.drop_succ_cons, List.drop_zero, Bool.and_eq_false_iff]
    by_cases h : c = 47
    · right; simpa using h47 h
    · left; rw [beq_eq_false_iff_ne]; exact fun hh => h (hc 47 hh)
  rw [lex_step (by simp) hcb (one_delim h hs h35 h64 h45)]
  rfl
/-- every valid token is read from its text, if what follows lets it -/
theorem read_valid {t : Tok} (h : Valid t) {R : List UInt8} (hF : Follows t R) : lex (oneText t ++ R) = t :: lex R := by
  obtain ⟨f1, f3, f4, f5, f5', f35, f64, f45, f47, f8⟩ := hF
  rcases h with ⟨x, h, rfl⟩ | ⟨x, h, rfl⟩ | ⟨x, h, rfl⟩ | ⟨x, h, h0, rfl⟩ | ⟨x, n, h0, h1, h, rfl⟩ | ⟨x, q, hq, h, rfl⟩ | ⟨c, h, rfl⟩ | rfl
  · exact read_ident h (f1 rfl).1 (f1 rfl).2
  · rw [show oneText (2, x, 0) = x ++ [40] from rfl, List.append_assoc]; exact read_func h R
  · exact read_at h (f3 rfl)
  · exact read_hash h h0 (f4 rfl)
  · exact read_num h0 h1 h (f5 rfl) (f5' rfl)
  · rcases hq with rfl | rfl
    · rw [show oneText (6, x, 34) = 34 :: x ++ [34] from rfl, List.append_assoc]; exact read_str 34 (.inl rfl) h R
    · rw [show oneText (6, x, 39) = 39 :: x ++ [39] from rfl, List.append_assoc]; exact read_str 39 (.inr rfl) h R
  · by_cases hq : c = 34 ∨ c = 39
    · have e : oneText (7, [c], 0) = [c, 47, 42, 10, 42, 47] := by
        show delimText (7, [c], 0) = _
        unfold delimText
        rw [if_pos (by rcases hq with rfl | rfl <;> simp)]; rfl
      rw [e]; exact read_quote hq R
    · have e : oneText (7, [c], 0) = [c] := by
        show delimText (7, [c], 0) = _
        unfold delimText
        rw [if_neg (by simpa using hq)]
      rw [e]
      exact read_delim h hq (fun hc => f35 rfl (by rw [hc])) (fun hc => f64 rfl (by rw [hc])) (fun hc => f45 rfl (by rw [hc])) (fun hc => f47 rfl (by rw [hc]))
  · exact read_white (f8 rfl)
theorem follows_nil (t : Tok) : Follows t [] := by
  refine ⟨?_, ?_, ?_, ?_, ?_, ?_, ?_, ?_, ?_, ?_⟩ <;> intros <;> decide
theorem valid_may {t : Tok} (h : Valid t) : may t = true := by
  have := read_valid h (follows_nil t)
  rw [List.append_nil] at this
  unfold may; rw [this]; simp [lex, lexF]
end Wn
set_option maxRecDepth 20000
namespace Wn
end Wn
set_option maxRecDepth 20000
namespace Wn
end Wn
set_option maxRecDepth 20000
namespace Wn
theorem one_len {l : List UInt8} (h : l ≠ []) : (one l).1.2.1.length ≤ l.length := by
  have hl : 1 ≤ l.length := by cases l with
    | nil => exact absurd rfl h
    | cons b l => simp
  unfold one
  split
  · exact hl
  · split
    · simp; omega
    · split
      · unfold named; simp; omega
      · split
        · unfold named; simp; omega
        · split
          · unfold number numTok; split <;> (simp; omega)
          · split
            · unfold word; split <;> (simp; omega)
            · simp; omega
theorem lex_len : ∀ (n : Nat) (l : List UInt8), l.length ≤ n → ∀ t ∈ lex l, t.2.1.length ≤ n
  | 0, l, hn, t, ht => by
    have : l = [] := List.length_eq_zero_iff.1 (by omega)
    subst this; simp [lex, lexF] at ht
  | n + 1, l, hn, t, ht => by
    by_cases he : l.drop (skip l) = []
    · rw [lex_end he] at ht; simp at ht
    · rw [lex_cons he, List.mem_cons] at ht
      rcases ht with rfl | ht
      · have := one_len he
        simp at this ⊢; omega
      · have := one_pos he
        have := lex_len n _ (by have h1 := this.1; have h2 := this.2; simp at h1 h2 ⊢; omega) t ht
        omega
theorem valid_n {t : Tok} (h : Valid t) : -9223372036854775808 ≤ t.2.2 ∧ t.2.2 ≤ 9223372036854775807 := by
  rcases h with ⟨x, _, rfl⟩ | ⟨x, _, rfl⟩ | ⟨x, _, rfl⟩ | ⟨x, _, _, rfl⟩ | ⟨x, n, _, _, _, rfl⟩ | ⟨x, q, hq, _, rfl⟩ | ⟨c, _, rfl⟩ | rfl <;> dsimp only <;> omega
end Wn
namespace Go.Proofs.YtncknaagbafhhaaGreatDoor
theorem lex_fine {l : List UInt8} (h : l.length ≤ 1048576) : ∀ t ∈ Wn.lex l, Fine t := fun t ht =>
  ⟨Wn.lex_len 1048576 l h t ht, Wn.valid_n (Wn.lex_valid _ l (Nat.le_refl _) t ht)⟩
end Go.Proofs.YtncknaagbafhhaaGreatDoor
set_option maxRecDepth 20000
namespace Go.Proofs.YtncknaagbafhhaaGreatDoor
open Go.ChangeShapes Go.WideShapes Go.RowKit Go.Deep
section
variable {H : Type} {enc : TypeId × Value → H} {w : World} {base : Nat} {spare : Nat → Bool} {held : Bool}
/-- numbers as Go has them -/
def Nums (t : Wn.Tok) : Prop := -9223372036854775808 ≤ t.2.2 ∧ t.2.2 ≤ 9223372036854775807
end
section
variable {H : Type} {enc : TypeId × Value → H}
theorem laidOut : laidOutB Tryz.prog = true := by kernel_rfl
/-- an argument reads afterwards as it read before -/
theorem again {t : TypeId} (hr : Tryz.prog.readableRec t = true) (hrow : t < Tryz.prog.types.size) {W W' : World} {v : Value} {d : DataW H} {ps : List MemPlace}
    (h : DataW.Trod enc Tryz.prog W 0 (fun _ => true) true t v d ps) (hb : Below W.heap.size W W') (hlt : ∀ x ∈ ps, x.block < W.heap.size) {sp : Nat → Bool} (hsp : ∀ p ∈ ps, sp p.block = true) :
    DataW.Trod enc Tryz.prog W' 0 sp true t v d ps :=
  WideElems.Trod_stays laidOut hr hrow h (fun x hx => hb.same (hlt x hx)) hsp
end
end Go.Proofs.YtncknaagbafhhaaGreatDoor
