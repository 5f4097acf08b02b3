/- Tokens with a comment behind each, and with other blanks in the place of blanks, are read as they were. Plain mathematics. -/
import Derived.Test.YtjmocdoimiomdaaGreatDoorGH
set_option maxRecDepth 20000
namespace Wn
/-- the comment that stands behind each token -/
def cmtA : List UInt8 := [47, 42, 32, 105, 116, 39, 115, 32, 34, 120, 32, 42, 47]
def cmtB : List UInt8 := [47, 42, 42, 47]
def someBlanks : List UInt8 := [32, 9, 10, 12, 13, 10, 32, 32, 9, 32]
theorem lex_cmtA (R : List UInt8) : lex (cmtA ++ R) = lex R := by
  rw [lex_comment (l := cmtA ++ R) rfl]
  rfl
theorem lex_cmtB (R : List UInt8) : lex (cmtB ++ R) = lex R := by
  rw [lex_comment (l := cmtB ++ R) rfl]
  rfl
/-- a token's text, or blanks -/
def piece (n : Nat) (t : Tok) : List UInt8 := if t.1 = 8 then someBlanks.take (n + 1) else oneText t
def spreadA (l : List Tok) : List UInt8 := l.flatMap fun t => oneText t ++ cmtA
def spreadB (n : Nat) (l : List Tok) : List UInt8 := l.flatMap fun t => piece n t ++ cmtB
theorem lex_spreadA : ∀ l : List Tok, (∀ t ∈ l, Valid t) → lex (spreadA l) = l
  | [], _ => by rfl
  | t :: l, h => by
    have e : spreadA (t :: l) = oneText t ++ (cmtA ++ spreadA l) := by simp [spreadA]
    rw [e, read_valid (h t (by simp)) (follows_slash t rfl), lex_cmtA, lex_spreadA l (fun u hu => h u (by simp [hu]))]
/-- blanks ahead of a comment -/
theorem read_blanks (n : Nat) (hn : n ≤ 9) (R : List UInt8) : lex (someBlanks.take (n + 1) ++ (cmtB ++ R)) = (8, [10], 0) :: lex R := by
  have hb : blank (cmtB ++ R) = false := rfl
  have hr : runLen blank (someBlanks.take (n + 1) ++ (cmtB ++ R)) = n + 1 := by
    rw [run_app ho_blank _ hb]
    have : ∀ n, n ≤ 9 → runLen blank (someBlanks.take (n + 1)) = n + 1 := by decide +kernel
    exact this n hn
  have hne : someBlanks.take (n + 1) = 32 :: (someBlanks.drop 1).take n := by simp [someBlanks]
  have hlen : n + 1 = (someBlanks.take (n + 1)).length := by simp [someBlanks]; omega
  rw [lex_step (t := (8, [10], 0)) (k := n + 1) (by rw [hne]; simp) (by rw [hne]; exact commentBegins_head (by simp [hd])) ?_]
  · rw [drop_len _ _ _ hlen, lex_cmtB]
  · unfold one
    rw [if_pos (by rw [hne]; simp [blank_iff, hd]), hr]
theorem valid_white {t : Tok} (h : Valid t) (h8 : t.1 = 8) : t = (8, [10], 0) := by
  rcases h with ⟨x, _, rfl⟩ | ⟨x, _, rfl⟩ | ⟨x, _, rfl⟩ | ⟨x, _, _, rfl⟩ | ⟨x, n, _, _, _, rfl⟩ | ⟨x, q, hq, _, rfl⟩ | ⟨c, _, rfl⟩ | rfl <;> simp at h8 ⊢
theorem lex_spreadB (n : Nat) (hn : n ≤ 9) : ∀ l : List Tok, (∀ t ∈ l, Valid t) → lex (spreadB n l) = l
  | [], _ => by rfl
  | t :: l, h => by
    have e : spreadB n (t :: l) = piece n t ++ (cmtB ++ spreadB n l) := by simp [spreadB]
    have ih := lex_spreadB n hn l (fun u hu => h u (by simp [hu]))
    rw [e]
    unfold piece
    split
    · rename_i h8
      rw [read_blanks n hn, ih, valid_white (h t (by simp)) h8]
    · rw [read_valid (h t (by simp)) (follows_slash t rfl), lex_cmtB, ih]
theorem spreadA_len (N : Nat) : ∀ l : List Tok, (∀ t ∈ l, (oneText t).length ≤ N) → (spreadA l).length ≤ l.length * (N + 13)
  | [], _ => by simp [spreadA]
  | t :: l, h => by
    have e : spreadA (t :: l) = oneText t ++ (cmtA ++ spreadA l) := by simp [spreadA]
    have h1 := h t (by simp)
    have ih := spreadA_len N l (fun u hu => h u (by simp [hu]))
    have hc : cmtA.length = 13 := rfl
    rw [e, List.length_append, List.length_append, List.length_cons, Nat.succ_mul]
    omega
theorem piece_len {N n : Nat} {t : Tok} (h : (oneText t).length ≤ N) : (piece n t).length ≤ N + 10 := by
  unfold piece
  split
  · simp [someBlanks]; omega
  · omega
theorem spreadB_len (N n : Nat) : ∀ l : List Tok, (∀ t ∈ l, (oneText t).length ≤ N) → (spreadB n l).length ≤ l.length * (N + 14)
  | [], _ => by simp [spreadB]
  | t :: l, h => by
    have e : spreadB n (t :: l) = piece n t ++ (cmtB ++ spreadB n l) := by simp [spreadB]
    have h1 := piece_len (n := n) (h t (by simp))
    have ih := spreadB_len N n l (fun u hu => h u (by simp [hu]))
    have hc : cmtB.length = 4 := rfl
    rw [e, List.length_append, List.length_append, List.length_cons, Nat.succ_mul]
    omega
theorem spreadA_snoc (l : List Tok) (t : Tok) : spreadA (l ++ [t]) = spreadA l ++ (oneText t ++ cmtA) := by simp [spreadA]
theorem spreadB_snoc (n : Nat) (l : List Tok) (t : Tok) : spreadB n (l ++ [t]) = spreadB n l ++ (piece n t ++ cmtB) := by simp [spreadB]
end Wn
