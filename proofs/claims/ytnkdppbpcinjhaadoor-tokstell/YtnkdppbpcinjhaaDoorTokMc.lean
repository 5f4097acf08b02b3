/- A valid token, and what may follow it: it is read from its text. Plain mathematics. -/
import Derived.Test.YtnkdppbpcinjhaaDoorTokMb
set_option maxRecDepth 20000
namespace Wn
def Follows (t : Tok) (R : List UInt8) : Prop :=
  (t.1 = 1 → nameByte R = false ∧ hd R ≠ 40) ∧ (t.1 = 3 → nameByte R = false) ∧ (t.1 = 4 → nameByte R = false) ∧
  (t.1 = 5 → t.2.1 = [] → digit R = false ∧ hd R ≠ 37 ∧ nameBegins R = false) ∧ (t.1 = 5 → t.2.1 ≠ [] → t.2.1 ≠ [37] → nameByte R = false) ∧
  (t.1 = 7 → t.2.1 = [35] → nameByte R = false) ∧ (t.1 = 7 → t.2.1 = [64] → nameBegins R = false) ∧
  (t.1 = 7 → t.2.1 = [45] → digit R = false ∧ nameStart R = false ∧ hd R ≠ 45) ∧ (t.1 = 7 → t.2.1 = [47] → hd R ≠ 42) ∧ (t.1 = 8 → blank R = false)
theorem nameStart_iff (l : List UInt8) : nameStart l = true ↔ (65 ≤ hd l ∧ hd l ≤ 90) ∨ (97 ≤ hd l ∧ hd l ≤ 122) ∨ hd l = 95 ∨ 128 ≤ hd l := by
  unfold nameStart; simp [or_assoc]
theorem digit_iff (l : List UInt8) : digit l = true ↔ 48 ≤ hd l ∧ hd l ≤ 57 := by unfold digit; simp
theorem nameByte_iff (l : List UInt8) : nameByte l = true ↔ nameStart l = true ∨ digit l = true ∨ hd l = 45 := by unfold nameByte; simp [or_assoc]
theorem blank_iff (l : List UInt8) : blank l = true ↔ hd l = 32 ∨ hd l = 9 ∨ hd l = 10 ∨ hd l = 12 ∨ hd l = 13 := by unfold blank lineEnd; simp [or_assoc]
theorem quote_iff (l : List UInt8) : quote l = true ↔ hd l = 34 ∨ hd l = 39 := by unfold quote; simp
theorem false_iff_not {b : Bool} : b = false ↔ ¬ b = true := by cases b <;> simp
/-- what the head of a name is not -/
theorem head_name {l : List UInt8} (h : nameStart l = true ∨ hd l = 45) : blank l = false ∧ quote l = false ∧ hd l ≠ 35 ∧ hd l ≠ 64 ∧ digit l = false ∧ hd l ≠ 47 := by
  rw [nameStart_iff] at h
  rw [false_iff_not, false_iff_not, false_iff_not, blank_iff, quote_iff, digit_iff]
  omega
theorem nameBegins_head {l : List UInt8} (h : nameBegins l = true) : nameStart l = true ∨ hd l = 45 := by
  unfold nameBegins at h
  split at h
  · rename_i h45; right; simpa using h45
  · left; exact h
theorem isName_cases {x : List UInt8} (h : IsName x) : (∃ b y, x = b :: y ∧ nameStart (b :: y) = true ∧ hd (b :: y) ≠ 45) ∨ (∃ b c y, x = b :: c :: y ∧ hd (b :: c :: y) = 45 ∧ (nameStart (c :: y) = true ∨ hd (c :: y) = 45)) := by
  obtain ⟨h, _⟩ := h
  match x, h with
  | [], h => exact absurd h (by decide)
  | [b], h =>
    left
    unfold nameBegins at h
    split at h
    · rename_i h45; exact absurd h (by simp [hd, nameStart])
    · rename_i h45; exact ⟨b, [], rfl, h, by simpa using h45⟩
  | b :: c :: y, h =>
    unfold nameBegins at h
    split at h
    · rename_i h45
      right
      refine ⟨b, c, y, rfl, by simpa using h45, ?_⟩
      simpa using h
    · rename_i h45; left; exact ⟨b, c :: y, rfl, h, by simpa using h45⟩
theorem isName_app {x : List UInt8} (h : IsName x) (R : List UInt8) : nameBegins (x ++ R) = true ∧ numberBegins (x ++ R) = false ∧ (nameStart (x ++ R) = true ∨ hd (x ++ R) = 45) ∧ x ≠ [] := by
  rcases isName_cases h with ⟨b, y, rfl, h1, h2⟩ | ⟨b, c, y, rfl, h1, h2⟩
  · have h1' : nameStart (b :: y ++ R) = true := h1
    have h2' : hd (b :: y ++ R) ≠ 45 := h2
    have hn := head_name (.inl h1')
    refine ⟨?_, ?_, .inl h1', by simp⟩
    · unfold nameBegins; rw [if_neg (by simpa using h2')]; exact h1'
    · unfold numberBegins; rw [hn.2.2.2.2.1, beq_eq_false_iff_ne.2 h2']; rfl
  · have h1' : hd (b :: c :: y ++ R) = 45 := h1
    have hn := head_name (.inr h1')
    have h2' : nameStart ((b :: c :: y ++ R).drop 1) = true ∨ hd ((b :: c :: y ++ R).drop 1) = 45 := h2
    have hn2 := head_name h2'
    refine ⟨?_, ?_, .inr h1', by simp⟩
    · unfold nameBegins; rw [if_pos (by simpa using h1')]; simpa using h2'
    · unfold numberBegins; rw [hn.2.2.2.2.1, hn2.2.2.2.2.1]; simp
theorem strLen_noquote {l : List UInt8} (h : quote l = false) : strLen l = none := by unfold strLen; rw [h]; rfl
theorem one_name {x : List UInt8} (h : IsName x) (R : List UInt8) : one (x ++ R) = word (x ++ R) := by
  obtain ⟨h1, h2, h3, _⟩ := isName_app h R
  have hn := head_name h3
  unfold one
  rw [if_neg (by rw [hn.1]; decide), strLen_noquote hn.2.1]
  dsimp only
  rw [if_neg (by simp [hn.2.2.1]), if_neg (by simp [hn.2.2.2.1]), if_neg (by rw [h2]; decide), if_pos h1]
theorem names_app {x : List UInt8} (h : Names x) {R : List UInt8} (hR : nameByte R = false) : runLen nameByte (x ++ R) = x.length := by
  rw [run_app ho_name R hR, h]
theorem commentBegins_head {l : List UInt8} (h : hd l ≠ 47) : commentBegins l = false := by unfold commentBegins; simp [h]
/-- read one token, then the rest -/
theorem lex_step {l : List UInt8} {t : Tok} {k : Nat} (hne : l ≠ []) (hc : commentBegins l = false) (h : one l = (t, k)) : lex l = t :: lex (l.drop k) := by
  have hs := skip_no hc
  have he : l.drop (skip l) ≠ [] := by rw [hs]; exact hne
  rw [lex_cons he, hs, List.drop_zero, h]
theorem drop_len (x R : List UInt8) (k : Nat) (h : k = x.length) : (x ++ R).drop k = R := by subst h; simp
theorem take_len (x R : List UInt8) (k : Nat) (h : k = x.length) : (x ++ R).take k = x := by subst h; simp
theorem read_ident {x : List UInt8} (h : IsName x) {R : List UInt8} (hR : nameByte R = false) (h40 : hd R ≠ 40) : lex (x ++ R) = (1, x, 0) :: lex R := by
  obtain ⟨h1, h2, h3, h4⟩ := isName_app h R
  have hn := head_name h3
  have hr := names_app h.2 hR
  rw [lex_step (t := (1, x, 0)) (k := x.length) (by simp [h4]) (commentBegins_head hn.2.2.2.2.2) ?_, drop_len _ _ _ rfl]
  rw [one_name h]; unfold word
  rw [hr, drop_len _ _ _ rfl, take_len _ _ _ rfl, if_neg (by simpa using h40)]
theorem read_func {x : List UInt8} (h : IsName x) (R : List UInt8) : lex (x ++ 40 :: R) = (2, x, 0) :: lex R := by
  obtain ⟨h1, h2, h3, h4⟩ := isName_app h (40 :: R)
  have hn := head_name h3
  have hr := names_app h.2 (R := 40 :: R) (by simp [nameByte, nameStart, digit, hd])
  rw [lex_step (t := (2, x, 0)) (k := x.length + 1) (by simp [h4]) (commentBegins_head hn.2.2.2.2.2) ?_]
  · rw [show x ++ 40 :: R = (x ++ [40]) ++ R by simp, drop_len _ _ _ (by simp)]
  · rw [one_name h]; unfold word
    rw [hr, drop_len _ _ _ rfl, take_len _ _ _ rfl, if_pos (by simp [hd])]
theorem one_at {x : List UInt8} (h : nameBegins x = true) : one (64 :: x) = named 3 (64 :: x) := by
  unfold one
  rw [if_neg (by simp [blank, lineEnd, hd]), strLen_noquote (by simp [quote, hd])]
  dsimp only
  rw [if_neg (by simp [hd]), if_pos (by simp [hd, h])]
theorem one_hash {x : List UInt8} (h : nameByte x = true) : one (35 :: x) = named 4 (35 :: x) := by
  unfold one
  rw [if_neg (by simp [blank, lineEnd, hd]), strLen_noquote (by simp [quote, hd])]
  dsimp only
  rw [if_pos (by simp [hd, h])]
theorem read_at {x : List UInt8} (h : IsName x) {R : List UInt8} (hR : nameByte R = false) : lex (64 :: x ++ R) = (3, x, 0) :: lex R := by
  obtain ⟨h1, _, _, _⟩ := isName_app h R
  have hr := names_app h.2 hR
  rw [lex_step (t := (3, x, 0)) (k := x.length + 1) (by simp) (commentBegins_head (by simp [hd])) ?_]
  · rw [drop_len _ _ _ (by simp)]
  · rw [List.cons_append, one_at h1]; unfold named
    rw [List.drop_succ_cons, List.drop_zero, hr, take_len _ _ _ rfl]
theorem read_hash {x : List UInt8} (h : Names x) (h0 : x ≠ []) {R : List UInt8} (hR : nameByte R = false) : lex (35 :: x ++ R) = (4, x, 0) :: lex R := by
  have hr := names_app h hR
  have hx : nameByte (x ++ R) = true := by
    cases hb : nameByte (x ++ R)
    · rw [runLen_no hb] at hr
      exact absurd (List.length_eq_zero_iff.1 hr.symm) h0
    · rfl
  rw [lex_step (t := (4, x, 0)) (k := x.length + 1) (by simp) (commentBegins_head (by simp [hd])) ?_]
  · rw [drop_len _ _ _ (by simp)]
  · rw [List.cons_append, one_hash hx]; unfold named
    rw [List.drop_succ_cons, List.drop_zero, hr, take_len _ _ _ rfl]
theorem quote_clean (q : Int) : ∀ (x : List UInt8) (c : UInt8) (R : List UInt8), Clean q x → (c.toNat : Int) = q → q = 34 ∨ q = 39 → quoteLen q (x ++ c :: R) = some x.length
  | [], c, R, _, hc, hq => by
    rw [List.nil_append]
    unfold quoteLen
    rw [if_neg (by simp [lineEnd, hd]; omega), if_pos (by simpa [hd] using hc)]; rfl
  | b :: x, c, R, hx, hc, hq => by
    rw [List.cons_append]
    unfold quoteLen
    obtain ⟨h1, h2, h3, h4⟩ := hx b (by simp)
    have hl : lineEnd (b :: (x ++ c :: R)) = false := by
      simp only [lineEnd, hd, Bool.or_eq_false_iff, beq_eq_false_iff_ne, ne_eq]
      refine ⟨⟨?_, ?_⟩, ?_⟩ <;> intro h
      · exact h2 (UInt8.toNat.inj (by simpa using Int.ofNat.inj h))
      · exact h3 (UInt8.toNat.inj (by simpa using Int.ofNat.inj h))
      · exact h4 (UInt8.toNat.inj (by simpa using Int.ofNat.inj h))
    rw [if_neg (by rw [hl]; decide), if_neg (by simpa [hd] using h1), quote_clean q x c R (fun d hd => hx d (by simp [hd])) hc hq]
    rfl
theorem read_str {x : List UInt8} (c : UInt8) (hc : c = 34 ∨ c = 39) (hx : Clean (c.toNat : Int) x) (R : List UInt8) : lex (c :: x ++ c :: R) = (6, x, (c.toNat : Int)) :: lex R := by
  have hq : (c.toNat : Int) = 34 ∨ (c.toNat : Int) = 39 := by rcases hc with rfl | rfl <;> simp
  rw [lex_step (t := (6, x, (c.toNat : Int))) (k := x.length + 2) (by simp) (commentBegins_head (by simp [hd]; omega)) ?_]
  · rw [show c :: x ++ c :: R = (c :: x ++ [c]) ++ R by simp, drop_len _ _ _ (by simp)]
  · have hs : strLen (c :: x ++ c :: R) = some x.length := by
      unfold strLen
      rw [if_pos (by rw [quote_iff]; simpa [hd] using hq)]
      rw [List.cons_append, List.drop_succ_cons, List.drop_zero]
      exact quote_clean _ x c R hx rfl hq
    unfold one
    rw [if_neg (by rw [blank_iff]; simp [hd]; omega), hs]
    dsimp only
    rw [List.cons_append, List.drop_succ_cons, List.drop_zero, take_len _ _ _ rfl]
    rfl
theorem read_white {R : List UInt8} (hR : blank R = false) : lex (10 :: R) = (8, [10], 0) :: lex R := by
  rw [lex_step (t := (8, [10], 0)) (k := 1) (by simp) (commentBegins_head (by simp [hd])) ?_]
  · rfl
  · unfold one
    rw [if_pos (by simp [blank_iff, hd]), runLen_cons, if_pos (by simp [blank_iff, hd]), runLen_no hR]
end Wn
