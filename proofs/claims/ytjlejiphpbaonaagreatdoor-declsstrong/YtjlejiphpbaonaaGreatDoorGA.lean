/- plain mathematics The token at the head of a text, and the tokens of a text: plain mathematics. The tokens of a text: plain mathematics. Tokens of two texts, one behind the other: plain mathematics. The text of a token: plain mathematics (with the library's numeral of an int). -/
import Derived.Lib.ItoaNum
set_option maxRecDepth 20000
namespace Wn
def hd (l : List UInt8) : Int := match l with | [] => -1 | b :: _ => (b.toNat : Int)
theorem hd_ge (l : List UInt8) : -1 ≤ hd l := by cases l <;> simp [hd]
theorem hd_le (l : List UInt8) : hd l ≤ 255 := by
  cases l with
  | nil => simp [hd]
  | cons b l => have := b.toNat_lt; simp [hd]; omega
/-- the bytes from a place on -/
def sfx (s : ByteArray) (i : Nat) : List UInt8 := s.data.toList.drop i
theorem sfx_out (s : ByteArray) (i : Nat) (h : s.size ≤ i) : sfx s i = [] := by
  unfold sfx; rw [List.drop_of_length_le (by simpa using h)]
theorem sfx_in (s : ByteArray) (i : Nat) (h : i < s.size) : sfx s i = s[i] :: sfx s (i + 1) := by
  unfold sfx; rw [List.drop_eq_getElem_cons (by simpa using h)]; rfl
theorem sfx_length (s : ByteArray) (i : Nat) : (sfx s i).length = s.size - i := by
  unfold sfx; simp
theorem sfx_drop (s : ByteArray) (i k : Nat) : (sfx s i).drop k = sfx s (i + k) := by
  unfold sfx; rw [List.drop_drop]
theorem hd_out (s : ByteArray) (i : Nat) (h : s.size ≤ i) : hd (sfx s i) = -1 := by rw [sfx_out s i h]; rfl
theorem hd_in (s : ByteArray) (i : Nat) (h : i < s.size) : hd (sfx s i) = (s[i].toNat : Int) := by rw [sfx_in s i h]; rfl
def lineEnd (l : List UInt8) : Bool := hd l == 10 || hd l == 12 || hd l == 13
def blank (l : List UInt8) : Bool := hd l == 32 || hd l == 9 || lineEnd l
def digit (l : List UInt8) : Bool := decide (48 ≤ hd l) && decide (hd l ≤ 57)
def nameStart (l : List UInt8) : Bool :=
  decide (65 ≤ hd l) && decide (hd l ≤ 90) || decide (97 ≤ hd l) && decide (hd l ≤ 122) || hd l == 95 || decide (128 ≤ hd l)
def nameByte (l : List UInt8) : Bool := nameStart l || digit l || hd l == 45
def quote (l : List UInt8) : Bool := hd l == 34 || hd l == 39
def commentBegins (l : List UInt8) : Bool := hd l == 47 && hd (l.drop 1) == 42
def nameBegins (l : List UInt8) : Bool :=
  if hd l == 45 then nameStart (l.drop 1) || hd (l.drop 1) == 45 else nameStart l
def numberBegins (l : List UInt8) : Bool := digit l || hd l == 45 && digit (l.drop 1)
/-- how many bytes at the head each satisfy -/
def runLen (p : List UInt8 → Bool) : List UInt8 → Nat
  | [] => 0
  | b :: l => if p (b :: l) then runLen p l + 1 else 0
theorem runLen_le (p : List UInt8 → Bool) : ∀ l, runLen p l ≤ l.length
  | [] => Nat.le_refl _
  | b :: l => by unfold runLen; have := runLen_le p l; split <;> simp <;> omega
theorem runLen_yes {p : List UInt8 → Bool} {s : ByteArray} {i : Nat} (h : p (sfx s i) = true) (h0 : p [] = false) :
    i < s.size ∧ runLen p (sfx s i) = runLen p (sfx s (i + 1)) + 1 := by
  by_cases hi : i < s.size
  · refine ⟨hi, ?_⟩
    rw [sfx_in s i hi] at h ⊢
    conv => lhs; unfold runLen
    rw [if_pos h]
  · rw [sfx_out s i (by omega), h0] at h; cases h
theorem runLen_no {p : List UInt8 → Bool} {l : List UInt8} (h : p l = false) : runLen p l = 0 := by
  cases l with
  | nil => rfl
  | cons b l => unfold runLen; rw [if_neg (by rw [h]; decide)]
/-- bytes to the end of the next close of a comment, or to the end -/
def closeLen : List UInt8 → Nat
  | [] => 0
  | b :: l => if hd (b :: l) == 42 && hd l == 47 then 2 else closeLen l + 1
theorem closeLen_le : ∀ l, closeLen l ≤ l.length
  | [] => Nat.le_refl _
  | b :: l => by
    unfold closeLen
    have := closeLen_le l
    split
    · rename_i h
      cases l with
      | nil => simp [hd] at h
      | cons c l => simp
    · simp; omega
theorem closeLen_out (s : ByteArray) (i : Nat) (h : s.size ≤ i) : closeLen (sfx s i) = 0 := by rw [sfx_out s i h]; rfl
theorem closeLen_yes (s : ByteArray) (i : Nat) (h : i < s.size) (hc : (hd (sfx s i) == 42 && hd (sfx s (i + 1)) == 47) = true) : closeLen (sfx s i) = 2 := by
  rw [sfx_in s i h] at hc ⊢
  conv => lhs; unfold closeLen
  rw [if_pos hc]
theorem closeLen_no (s : ByteArray) (i : Nat) (h : i < s.size) (hc : (hd (sfx s i) == 42 && hd (sfx s (i + 1)) == 47) = false) : closeLen (sfx s i) = closeLen (sfx s (i + 1)) + 1 := by
  rw [sfx_in s i h] at hc ⊢
  conv => lhs; unfold closeLen
  rw [if_neg (by rw [hc]; decide)]
/-- how many bytes stand ahead of the closing quote; none if a line end or the end comes first -/
def quoteLen (q : Int) : List UInt8 → Option Nat
  | [] => none
  | b :: l => if lineEnd (b :: l) then none else if hd (b :: l) == q then some 0 else (quoteLen q l).map (· + 1)
/-- where the second quote stands behind the first; none if no string begins here -/
def strLen (l : List UInt8) : Option Nat := if quote l then quoteLen (hd l) (l.drop 1) else none
theorem quoteLen_out (q : Int) (s : ByteArray) (i : Nat) (h : s.size ≤ i) : quoteLen q (sfx s i) = none := by rw [sfx_out s i h]; rfl
theorem quoteLen_line (q : Int) (s : ByteArray) (i : Nat) (h : i < s.size) (hl : lineEnd (sfx s i) = true) : quoteLen q (sfx s i) = none := by
  rw [sfx_in s i h] at hl ⊢
  conv => lhs; unfold quoteLen
  rw [if_pos hl]
theorem quoteLen_yes (q : Int) (s : ByteArray) (i : Nat) (h : i < s.size) (hl : lineEnd (sfx s i) = false) (hq : (hd (sfx s i) == q) = true) : quoteLen q (sfx s i) = some 0 := by
  rw [sfx_in s i h] at hl hq ⊢
  conv => lhs; unfold quoteLen
  rw [if_neg (by rw [hl]; decide), if_pos hq]
theorem quoteLen_no (q : Int) (s : ByteArray) (i : Nat) (h : i < s.size) (hl : lineEnd (sfx s i) = false) (hq : (hd (sfx s i) == q) = false) : quoteLen q (sfx s i) = (quoteLen q (sfx s (i + 1))).map (· + 1) := by
  rw [sfx_in s i h] at hl hq ⊢
  conv => lhs; unfold quoteLen
  rw [if_neg (by rw [hl]; decide), if_neg (by rw [hq]; decide)]
theorem quoteLen_lt (q : Int) : ∀ (l : List UInt8) (k : Nat), quoteLen q l = some k → k < l.length
  | [], k, h => by simp [quoteLen] at h
  | b :: l, k, h => by
    unfold quoteLen at h
    split at h
    · cases h
    · split at h
      · simp at h; subst h; simp
      · cases hr : quoteLen q l with
        | none => rw [hr] at h; cases h
        | some j => rw [hr] at h; simp at h; subst h; have := quoteLen_lt q l j hr; simp; omega
/-- the number that a run of digits denotes, limited -/
def numVal (n : Int) : List UInt8 → Int
  | [] => n
  | b :: l => if digit (b :: l) then numVal (min (n * 10 + hd (b :: l) - 48) 999999999) l else n
theorem numVal_yes (n : Int) (s : ByteArray) (i : Nat) (h : digit (sfx s i) = true) : numVal n (sfx s i) = numVal (min (n * 10 + hd (sfx s i) - 48) 999999999) (sfx s (i + 1)) := by
  by_cases hi : i < s.size
  · rw [sfx_in s i hi] at h ⊢
    conv => lhs; unfold numVal
    rw [if_pos h]
  · rw [sfx_out s i (by omega)] at h; cases h
theorem numVal_no (n : Int) (l : List UInt8) (h : digit l = false) : numVal n l = n := by
  cases l with
  | nil => rfl
  | cons b l => unfold numVal; rw [if_neg (by rw [h]; decide)]
theorem digit_hd {l : List UInt8} (h : digit l = true) : 48 ≤ hd l ∧ hd l ≤ 57 := by
  unfold digit at h; simpa using h
theorem numVal_bounds : ∀ (l : List UInt8) (n : Int), 0 ≤ n → n ≤ 999999999 → 0 ≤ numVal n l ∧ numVal n l ≤ 999999999
  | [], n, h0, h1 => ⟨h0, h1⟩
  | b :: l, n, h0, h1 => by
    unfold numVal
    split
    · rename_i h
      have := digit_hd h
      exact numVal_bounds l _ (by omega) (by omega)
    · exact ⟨h0, h1⟩
theorem commentBegins_two {s : ByteArray} {i : Nat} (h : commentBegins (sfx s i) = true) : i + 2 ≤ s.size := by
  unfold commentBegins at h
  simp only [Bool.and_eq_true, beq_iff_eq, sfx_drop] at h
  by_cases hi : i + 1 < s.size
  · omega
  · have := hd_out s (i + 1) (by omega); omega
/-- how many bytes the unit of a number takes -/
def unitLen (l : List UInt8) : Nat := if hd l == 37 then 1 else if nameBegins l then runLen nameByte l else 0
theorem unitLen_le (l : List UInt8) : unitLen l ≤ l.length := by
  unfold unitLen
  split
  · rename_i h
    cases l with
    | nil => simp [hd] at h
    | cons b l => simp
  · split
    · exact runLen_le _ _
    · omega
theorem extract_same (s : ByteArray) (p : Nat) : s.extract p p = ⟨#[]⟩ := by
  apply ByteArray.ext
  rw [ByteArray.data_extract]
  simp
  omega
theorem extract_sfx (s : ByteArray) (p q : Nat) : s.extract p q = ⟨((sfx s p).take (q - p)).toArray⟩ := by
  apply ByteArray.ext
  rw [ByteArray.data_extract]
  apply Array.toList_inj.1
  simp [sfx, List.extract_eq_take_drop]
/-- how many bytes of comments stand at the head -/
def skipF : Nat → List UInt8 → Nat
  | 0, _ => 0
  | f + 1, l => if commentBegins l then 2 + closeLen (l.drop 2) + skipF f (l.drop (2 + closeLen (l.drop 2))) else 0
def skip (l : List UInt8) : Nat := skipF l.length l
theorem skipF_more : ∀ (f g : Nat) (l : List UInt8), l.length ≤ f → l.length ≤ g → skipF f l = skipF g l
  | 0, 0, _, _, _ => rfl
  | 0, g + 1, l, hf, _ => by
    have : l = [] := List.length_eq_zero_iff.1 (by omega)
    subst this; simp [skipF, commentBegins, hd]
  | f + 1, 0, l, _, hg => by
    have : l = [] := List.length_eq_zero_iff.1 (by omega)
    subst this; simp [skipF, commentBegins, hd]
  | f + 1, g + 1, l, hf, hg => by
    unfold skipF
    split
    · rw [skipF_more f g _ (by simp; omega) (by simp; omega)]
    · rfl
theorem skip_yes {l : List UInt8} (h : commentBegins l = true) : skip l = 2 + closeLen (l.drop 2) + skip (l.drop (2 + closeLen (l.drop 2))) := by
  cases l with
  | nil => simp [commentBegins, hd] at h
  | cons b l =>
    unfold skip
    conv => lhs; rw [List.length_cons]; unfold skipF
    rw [if_pos h, skipF_more l.length _ _ (by simp; omega) (Nat.le_refl _)]
theorem skip_no {l : List UInt8} (h : commentBegins l = false) : skip l = 0 := by
  unfold skip
  cases l.length with
  | zero => rfl
  | succ n => unfold skipF; rw [if_neg (by rw [h]; decide)]
/-- the place where a string that begins at i has its second quote, or -1 -/
def place (i : Nat) : Option Nat → Int
  | none => -1
  | some k => ((i + k : Nat) : Int)
theorem place_succ (i : Nat) (o : Option Nat) : place i (o.map (· + 1)) = place (i + 1) o := by
  cases o with
  | none => rfl
  | some k => simp only [place, Option.map_some]; omega
end Wn
set_option maxRecDepth 20000
namespace Wn
/-- a token: its kind, its text, its number -/
abbrev Tok := Int × List UInt8 × Int
def named (k : Int) (l : List UInt8) : Tok × Nat := ((k, (l.drop 1).take (runLen nameByte (l.drop 1)), 0), runLen nameByte (l.drop 1) + 1)
def numTok (neg : Bool) (d : Nat) (l : List UInt8) : Tok × Nat :=
  ((5, (l.drop d).take (unitLen (l.drop d)), if neg then - numVal 0 (l.drop 1) else numVal 0 l), d + unitLen (l.drop d))
def number (l : List UInt8) : Tok × Nat :=
  if hd l == 45 then numTok true (1 + runLen digit (l.drop 1)) l else numTok false (runLen digit l) l
def word (l : List UInt8) : Tok × Nat :=
  if hd (l.drop (runLen nameByte l)) == 40 then ((2, l.take (runLen nameByte l), 0), runLen nameByte l + 1) else ((1, l.take (runLen nameByte l), 0), runLen nameByte l)
/-- the token at the head of a text that is not empty and does not begin with a comment, and how many bytes it takes -/
def one (l : List UInt8) : Tok × Nat :=
  if blank l then ((8, [10], 0), runLen blank l)
  else match strLen l with
  | some k => ((6, (l.drop 1).take k, hd l), k + 2)
  | none =>
    if hd l == 35 && nameByte (l.drop 1) then named 4 l
    else if hd l == 64 && nameBegins (l.drop 1) then named 3 l
    else if numberBegins l then number l
    else if nameBegins l then word l
    else ((7, l.take 1, 0), 1)
end Wn
set_option maxRecDepth 20000
namespace Wn
theorem runLen_pos {p : List UInt8 → Bool} {l : List UInt8} (h : p l = true) (h0 : p [] = false) : 1 ≤ runLen p l := by
  cases l with
  | nil => rw [h0] at h; cases h
  | cons b l => unfold runLen; rw [if_pos h]; omega
theorem strLen_lt {l : List UInt8} {k : Nat} (h : strLen l = some k) : k + 2 ≤ l.length := by
  unfold strLen at h
  split at h
  · have := quoteLen_lt _ _ _ h
    simp at this; omega
  · cases h
theorem numberBegins_digit {l : List UInt8} (h : numberBegins l = true) (h45 : (hd l == 45) = false) : digit l = true := by
  unfold numberBegins at h; rw [h45] at h; simpa using h
theorem nameBegins_byte {l : List UInt8} (h : nameBegins l = true) : nameByte l = true := by
  unfold nameBegins at h
  unfold nameByte
  split at h
  · rename_i h45; rw [h45]; simp
  · rw [h]; simp
/-- a token takes at least one byte, and no more than there are -/
theorem one_pos {l : List UInt8} (h : l ≠ []) : 1 ≤ (one l).2 ∧ (one l).2 ≤ l.length := by
  have hl : 1 ≤ l.length := by cases l with
    | nil => exact absurd rfl h
    | cons b l => simp
  unfold one
  split
  · rename_i hb; exact ⟨runLen_pos hb (by decide), runLen_le _ _⟩
  · split
    · rename_i k hk; have := strLen_lt hk; exact ⟨by simp, by simpa using this⟩
    · split
      · unfold named; have := runLen_le nameByte (l.drop 1); simp at this ⊢; omega
      · split
        · unfold named; have := runLen_le nameByte (l.drop 1); simp at this ⊢; omega
        · split
          · rename_i hn
            unfold number numTok
            split
            · have h1 := runLen_le digit (l.drop 1)
              have h2 := unitLen_le (l.drop (1 + runLen digit (l.drop 1)))
              simp at h1 h2 ⊢; omega
            · rename_i h45
              have h0 := runLen_pos (numberBegins_digit hn (by simpa using h45)) (by decide)
              have h1 := runLen_le digit l
              have h2 := unitLen_le (l.drop (runLen digit l))
              simp at h1 h2 ⊢; omega
          · split
            · rename_i hn
              have h0 := runLen_pos (nameBegins_byte hn) (by decide)
              have h1 := runLen_le nameByte l
              unfold word
              split
              · rename_i h40
                have : runLen nameByte l < l.length := by
                  by_cases hlt : runLen nameByte l < l.length
                  · exact hlt
                  · rw [List.drop_of_length_le (by omega)] at h40; simp [hd] at h40
                simp; omega
              · simp; omega
            · simp; omega
theorem skipF_le : ∀ (f : Nat) (l : List UInt8), skipF f l ≤ l.length
  | 0, _ => Nat.zero_le _
  | f + 1, l => by
    unfold skipF
    split
    · rename_i hc
      have h2 : 2 ≤ l.length := by
        unfold commentBegins at hc
        match l, hc with
        | [], hc => simp [hd] at hc
        | [b], hc => simp [hd] at hc
        | b :: c :: l, _ => simp
      have h1 := closeLen_le (l.drop 2)
      have h3 := skipF_le f (l.drop (2 + closeLen (l.drop 2)))
      simp at h1 h3; omega
    · omega
theorem skip_le (l : List UInt8) : skip l ≤ l.length := skipF_le _ _
/-- the tokens of a text -/
def lexF : Nat → List UInt8 → List Tok
  | 0, _ => []
  | f + 1, l => if l.drop (skip l) = [] then [] else (one (l.drop (skip l))).1 :: lexF f ((l.drop (skip l)).drop (one (l.drop (skip l))).2)
def lex (l : List UInt8) : List Tok := lexF l.length l
theorem lexF_more : ∀ (f g : Nat) (l : List UInt8), l.length ≤ f → l.length ≤ g → lexF f l = lexF g l
  | 0, 0, _, _, _ => rfl
  | 0, g + 1, l, hf, _ => by
    have : l = [] := List.length_eq_zero_iff.1 (by omega)
    subst this; simp [lexF]
  | f + 1, 0, l, _, hg => by
    have : l = [] := List.length_eq_zero_iff.1 (by omega)
    subst this; simp [lexF]
  | f + 1, g + 1, l, hf, hg => by
    unfold lexF
    split
    · rfl
    · rename_i hne
      have h1 := one_pos hne
      have h2 : ((l.drop (skip l)).drop (one (l.drop (skip l))).2).length + 1 ≤ l.length := by
        have := h1.2; simp at this ⊢; omega
      rw [lexF_more f g _ (by omega) (by omega)]
theorem lex_end {l : List UInt8} (h : l.drop (skip l) = []) : lex l = [] := by
  unfold lex
  cases l.length with
  | zero => rfl
  | succ n => unfold lexF; rw [if_pos h]
theorem lex_cons {l : List UInt8} (h : l.drop (skip l) ≠ []) : lex l = (one (l.drop (skip l))).1 :: lex ((l.drop (skip l)).drop (one (l.drop (skip l))).2) := by
  have h1 := one_pos h
  have h2 : ((l.drop (skip l)).drop (one (l.drop (skip l))).2).length + 1 ≤ l.length := by
    have := h1.2; simp at this ⊢; omega
  unfold lex
  cases hn : l.length with
  | zero => omega
  | succ n =>
    conv => lhs; unfold lexF
    rw [if_neg h, lexF_more n _ _ (by omega) (Nat.le_refl _)]
theorem lexF_length : ∀ (f : Nat) (l : List UInt8), (lexF f l).length ≤ l.length
  | 0, _ => Nat.zero_le _
  | f + 1, l => by
    unfold lexF
    split
    · simp
    · rename_i hne
      have h1 := one_pos hne
      have h2 := lexF_length f ((l.drop (skip l)).drop (one (l.drop (skip l))).2)
      have := h1.2
      simp at this h2 ⊢; omega
theorem lex_length (l : List UInt8) : (lex l).length ≤ l.length := lexF_length _ _
end Wn
set_option maxRecDepth 20000
namespace Wn
theorem hd_app {p : List UInt8} (h : p ≠ []) (v : List UInt8) : hd (p ++ v) = hd p := by
  cases p with
  | nil => exact absurd rfl h
  | cons b p => rfl
/-- a look that asks for the head alone -/
def HeadOnly (f : List UInt8 → Bool) : Prop := ∀ (b : UInt8) (l m : List UInt8), f (b :: l) = f (b :: m)
theorem ho_blank : HeadOnly blank := fun _ _ _ => rfl
theorem ho_name : HeadOnly nameByte := fun _ _ _ => rfl
theorem ho_digit : HeadOnly digit := fun _ _ _ => rfl
theorem ho_start : HeadOnly nameStart := fun _ _ _ => rfl
theorem ho_line : HeadOnly lineEnd := fun _ _ _ => rfl
theorem ho_quote : HeadOnly quote := fun _ _ _ => rfl
theorem HeadOnly.app {f : List UInt8 → Bool} (hf : HeadOnly f) {p : List UInt8} (h : p ≠ []) (v : List UInt8) : f (p ++ v) = f p := by
  cases p with
  | nil => exact absurd rfl h
  | cons b p => exact hf b _ _
theorem run_app {f : List UInt8 → Bool} (hf : HeadOnly f) (v : List UInt8) (hv : f v = false) : ∀ p : List UInt8, runLen f (p ++ v) = runLen f p
  | [] => by rw [List.nil_append, runLen_no hv]; rfl
  | b :: p => by
    have e : f (b :: (p ++ v)) = f (b :: p) := hf b _ _
    rw [List.cons_append]
    unfold runLen
    rw [e, run_app hf v hv p]
theorem quote_app (q : Int) (v : List UInt8) : ∀ p : List UInt8, 10 ∈ p → quoteLen q (p ++ v) = quoteLen q p
  | [], h => by simp at h
  | b :: p, h => by
    rw [List.cons_append]
    unfold quoteLen
    have e1 : lineEnd (b :: (p ++ v)) = lineEnd (b :: p) := rfl
    have e2 : hd (b :: (p ++ v)) = hd (b :: p) := rfl
    rw [e1, e2]
    split
    · rfl
    · rename_i hl
      split
      · rfl
      · have hb : b ≠ 10 := fun hb => hl (by subst hb; rfl)
        rw [quote_app q v p (by simpa [Ne.symm hb] using h)]
theorem close_app (v : List UInt8) : ∀ p : List UInt8, (∃ r, p = r ++ [42, 47, 10]) → closeLen (p ++ v) = closeLen p ∧ closeLen p < p.length
  | [], h => by obtain ⟨r, h⟩ := h; simp at h
  | b :: p, h => by
    obtain ⟨r, h⟩ := h
    rw [List.cons_append]
    unfold closeLen
    cases r with
    | nil =>
      simp at h
      obtain ⟨rfl, rfl⟩ := h
      refine ⟨rfl, by decide⟩
    | cons c r =>
      simp at h
      obtain ⟨rfl, rfl⟩ := h
      have ih := close_app v (r ++ [42, 47, 10]) ⟨r, rfl⟩
      have e : hd (r ++ [42, 47, 10] ++ v) = hd (r ++ [42, 47, 10]) := hd_app (by simp) v
      have e2 : hd (b :: (r ++ [42, 47, 10] ++ v)) = hd (b :: (r ++ [42, 47, 10])) := rfl
      rw [e, e2]
      split
      · refine ⟨rfl, ?_⟩; simp
      · refine ⟨by rw [ih.1], ?_⟩
        have := ih.2
        simp at this ⊢; omega
/-- a comment at the head is nothing -/
theorem lex_comment {l : List UInt8} (h : commentBegins l = true) : lex l = lex (l.drop (2 + closeLen (l.drop 2))) := by
  have hs := skip_yes h
  have hd : l.drop (skip l) = (l.drop (2 + closeLen (l.drop 2))).drop (skip (l.drop (2 + closeLen (l.drop 2)))) := by rw [List.drop_drop, hs]
  generalize l.drop (2 + closeLen (l.drop 2)) = m at *
  by_cases he : l.drop (skip l) = []
  · rw [lex_end he, lex_end (l := m) (by rw [← hd]; exact he)]
  · rw [lex_cons he, lex_cons (l := m) (by rw [← hd]; exact he), ← hd]
theorem head_not {v : List UInt8} (h : hd v = 47) : blank v = false ∧ nameByte v = false ∧ digit v = false ∧ nameStart v = false := by
  refine ⟨?_, ?_, ?_, ?_⟩ <;> simp [blank, nameByte, digit, nameStart, lineEnd, h]
theorem drop_app {p : List UInt8} {k : Nat} (h : k ≤ p.length) (v : List UInt8) : (p ++ v).drop k = p.drop k ++ v := by
  rw [List.drop_append_of_le_length h]
theorem take_app {p : List UInt8} {k : Nat} (h : k ≤ p.length) (v : List UInt8) : (p ++ v).take k = p.take k := by
  rw [List.take_append_of_le_length h]
theorem hd_drop_app {p : List UInt8} {v : List UInt8} (hv : hd v = 47) (k : Nat) (hk : k ≤ p.length) : hd ((p ++ v).drop k) = hd (p.drop k) ∨ (p.drop k = [] ∧ hd ((p ++ v).drop k) = 47) := by
  rw [drop_app hk]
  by_cases h : p.drop k = []
  · right; rw [h]; exact ⟨rfl, hv⟩
  · left; exact hd_app h v
/-- the token at the head is the same whatever stands behind a text that ends with a line's end, if that begins with a slash -/
theorem one_app {p v : List UInt8} (hp : ∃ r, p = r ++ [10]) (hv : hd v = 47) : one (p ++ v) = one p := by
  obtain ⟨vb, vn, vd, vs⟩ := head_not hv
  have hne : p ≠ [] := by obtain ⟨r, h⟩ := hp; rw [h]; simp
  have hmem : 10 ∈ p := by obtain ⟨r, h⟩ := hp; rw [h]; simp
  have hl1 : 1 ≤ p.length := by cases p with
    | nil => exact absurd rfl hne
    | cons b p => simp
  have h0 := hd_app hne v
  have d1 : (p ++ v).drop 1 = p.drop 1 ++ v := drop_app hl1 v
  -- either a line's end alone, or one more byte
  by_cases h1 : p.drop 1 = []
  · have : p = [10] := by
      obtain ⟨r, rfl⟩ := hp
      cases r with
      | nil => rfl
      | cons c r => simp at h1
    subst this
    unfold one
    rw [show blank ([10] ++ v) = true from rfl, show blank [10] = true from rfl, if_pos rfl, if_pos rfl, run_app ho_blank v vb]
  · have eb := ho_blank.app hne v
    have h1d : hd ((p ++ v).drop 1) = hd (p.drop 1) := by rw [d1]; exact hd_app h1 v
    have en1 : nameByte ((p ++ v).drop 1) = nameByte (p.drop 1) := by rw [d1]; exact ho_name.app h1 v
    have es1 : nameStart ((p ++ v).drop 1) = nameStart (p.drop 1) := by rw [d1]; exact ho_start.app h1 v
    have ed1 : digit ((p ++ v).drop 1) = digit (p.drop 1) := by rw [d1]; exact ho_digit.app h1 v
    have ed : digit (p ++ v) = digit p := ho_digit.app hne v
    have es : nameStart (p ++ v) = nameStart p := ho_start.app hne v
    have m1 : 10 ∈ p.drop 1 := by
      obtain ⟨r, rfl⟩ := hp
      cases r with
      | nil => simp at h1
      | cons c r => simp
    have est : strLen (p ++ v) = strLen p := by
      unfold strLen
      rw [ho_quote.app hne v, h0, d1, quote_app _ v _ m1]
    have enb : nameBegins (p ++ v) = nameBegins p := by unfold nameBegins; rw [h0, es1, h1d, es]
    have enu : numberBegins (p ++ v) = numberBegins p := by unfold numberBegins; rw [h0, ed, ed1]
    -- names that begin behind the head
    have nb1 : nameBegins ((p ++ v).drop 1) = nameBegins (p.drop 1) := by
      rw [d1]
      unfold nameBegins
      rw [hd_app h1 v]
      by_cases h2 : (p.drop 1).drop 1 = []
      · have e10 : p.drop 1 = [10] := by
          obtain ⟨r, rfl⟩ := hp
          match r, h1, h2 with
          | [], h1, _ => simp at h1
          | [c], _, _ => rfl
          | c :: d :: r, _, h2 => simp at h2
        rw [e10]; rfl
      · have hl2 : 1 ≤ (p.drop 1).length := by cases hq : p.drop 1 with
          | nil => exact absurd hq h1
          | cons b q => simp
        rw [drop_app hl2 v, ho_start.app h2 v, hd_app h2 v, ho_start.app h1 v]
    -- units behind digits
    have un : ∀ k, k < p.length → unitLen ((p ++ v).drop k) = unitLen (p.drop k) ∧ k + unitLen (p.drop k) ≤ p.length := by
      intro k hk
      refine ⟨?_, by have := unitLen_le (p.drop k); simp at this; omega⟩
      rw [drop_app (by omega)]
      have hq : p.drop k ≠ [] := by intro h; rw [List.drop_eq_nil_iff] at h; omega
      have hq10 : ∃ r, p.drop k = r ++ [10] := by
        obtain ⟨r, rfl⟩ := hp
        refine ⟨r.drop k, ?_⟩
        rw [List.drop_append_of_le_length (by simp at hk; omega)]
      generalize p.drop k = q at hq hq10
      unfold unitLen
      rw [hd_app hq v, run_app ho_name v vn]
      have : nameBegins (q ++ v) = nameBegins q := by
        unfold nameBegins
        rw [hd_app hq v, ho_start.app hq v]
        by_cases h2 : q.drop 1 = []
        · have e10 : q = [10] := by
            obtain ⟨r, rfl⟩ := hq10
            cases r with
            | nil => rfl
            | cons c r => simp at h2
          rw [e10]; rfl
        · have hl2 : 1 ≤ q.length := by cases q with
            | nil => exact absurd rfl hq
            | cons b q => simp
          rw [drop_app hl2 v, ho_start.app h2 v, hd_app h2 v]
      rw [this]
    -- a run of digits, or of a name's bytes, ends ahead of the line's end
    have lt : ∀ (f : List UInt8 → Bool), HeadOnly f → f [10] = false → ∀ q : List UInt8, (∃ r, q = r ++ [10]) → runLen f q < q.length := by
      intro f hf h10 q
      induction q with
      | nil => rintro ⟨r, h⟩; simp at h
      | cons b q ih =>
        rintro ⟨r, h⟩
        unfold runLen
        split
        · rename_i hb
          cases r with
          | nil =>
            simp at h
            obtain ⟨rfl, rfl⟩ := h
            rw [h10] at hb; cases hb
          | cons c r =>
            simp at h
            have := ih ⟨r, h.2⟩
            simp; omega
        · simp
    have h10' : ∃ r, p.drop 1 = r ++ [10] := by
      obtain ⟨r, rfl⟩ := hp
      cases r with
      | nil => simp at h1
      | cons c r => exact ⟨r, rfl⟩
    have ltn := lt nameByte ho_name (by decide) p hp
    have ltd := lt digit ho_digit (by decide) p hp
    have ltn1 := lt nameByte ho_name (by decide) _ h10'
    have ltd1 := lt digit ho_digit (by decide) _ h10'
    have nm : ∀ k, named k (p ++ v) = named k p := by
      intro k
      unfold named
      rw [d1, run_app ho_name v vn, take_app (by omega)]
    have nu : number (p ++ v) = number p := by
      unfold number numTok
      rw [h0, d1, run_app ho_digit v vd, run_app ho_digit v vd]
      have hlen1 : (p.drop 1).length = p.length - 1 := by simp
      have nv : ∀ (n : Int) (q : List UInt8), (∃ r, q = r ++ [10]) → numVal n (q ++ v) = numVal n q := by
        intro n q
        induction q generalizing n with
        | nil => rintro ⟨r, h⟩; simp at h
        | cons b q ih =>
          rintro ⟨r, h⟩
          rw [List.cons_append]
          unfold numVal
          rw [show digit (b :: (q ++ v)) = digit (b :: q) from rfl, show hd (b :: (q ++ v)) = hd (b :: q) from rfl]
          split
          · rename_i hb
            cases r with
            | nil => simp at h; obtain ⟨rfl, rfl⟩ := h; exact absurd hb (by decide)
            | cons c r => simp at h; exact ih _ ⟨r, h.2⟩
          · rfl
      split
      · have hk := un (1 + runLen digit (p.drop 1)) (by omega)
        rw [hk.1, nv 0 _ h10', nv 0 _ hp]
        rw [drop_app (by omega), take_app (by rw [List.length_drop]; omega)]
      · have hk := un (runLen digit p) (by omega)
        rw [hk.1, nv 0 _ h10', nv 0 _ hp]
        rw [drop_app (by omega), take_app (by rw [List.length_drop]; omega)]
    have wo : word (p ++ v) = word p := by
      unfold word
      rw [run_app ho_name v vn, take_app (by omega)]
      have : (p.drop (runLen nameByte p)) ≠ [] := by intro h; rw [List.drop_eq_nil_iff] at h; omega
      rw [drop_app (by omega), hd_app this v]
    have t1 : (p ++ v).take 1 = p.take 1 := take_app hl1 v
    unfold one
    rw [eb, run_app ho_blank v vb, est, h0, en1, nb1, nm, nm, enu, nu, enb, wo, t1]
    split
    · rfl
    · split
      · rename_i k hk
        have := strLen_lt hk
        rw [d1, take_app (by simp; omega)]
      · rfl
/-- suffixes of a text that ends with a comment's end and a line's end -/
theorem sfx_tail {u p : List UInt8} (hu : ∃ s, u = s ++ [10, 42, 47, 10]) (hp : p <:+ u) (hne : p ≠ []) : ∃ r, p = r ++ [10] := by
  obtain ⟨s, rfl⟩ := hu
  obtain ⟨r, hr⟩ := hp
  refine ⟨p.dropLast, ?_⟩
  have hl : p.getLast hne = 10 := by
    have h1 : (r ++ p).getLast (by simp [hne]) = p.getLast hne := List.getLast_append_of_ne_nil _ hne
    rw [← h1]
    have : (r ++ p).getLast? = some 10 := by rw [hr]; simp
    rw [List.getLast?_eq_some_getLast (by simp [hne])] at this
    simpa using this
  rw [← hl]
  exact (List.dropLast_concat_getLast hne).symm
theorem sfx_comment {u p : List UInt8} (hu : ∃ s, u = s ++ [10, 42, 47, 10]) (hp : p <:+ u) (hc : commentBegins p = true) : ∃ r, p.drop 2 = r ++ [42, 47, 10] := by
  obtain ⟨s, rfl⟩ := hu
  obtain ⟨r, hr⟩ := hp
  have hlen : r.length + p.length = s.length + 4 := by have := congrArg List.length hr; simpa using this
  by_cases h4 : p.length ≤ 4
  · exfalso
    have hd : p = [10, 42, 47, 10].drop (4 - p.length) := by
      have := congrArg (List.drop r.length) hr
      rw [List.drop_left, List.drop_append, List.drop_of_length_le (by omega), List.nil_append] at this
      rw [show 4 - p.length = r.length - s.length by omega]
      exact this
    have : p = [] ∨ p = [10] ∨ p = [47, 10] ∨ p = [42, 47, 10] ∨ p = [10, 42, 47, 10] := by
      generalize hk : 4 - p.length = k at hd
      have hk4 : k ≤ 4 := by omega
      match k, hk4 with
      | 0, _ => simp [hd]
      | 1, _ => simp [hd]
      | 2, _ => simp [hd]
      | 3, _ => simp [hd]
      | 4, _ => simp [hd]
    rcases this with rfl | rfl | rfl | rfl | rfl <;> exact absurd hc (by decide)
  · have := congrArg (List.drop (r.length + 2)) hr
    rw [← List.drop_drop, List.drop_left, List.drop_append] at this
    rw [this]
    by_cases hs : r.length + 2 ≤ s.length
    · rw [show r.length + 2 - s.length = 0 by omega]
      exact ⟨s.drop (r.length + 2) ++ [10], by simp⟩
    · rw [show r.length + 2 - s.length = 1 by omega, List.drop_of_length_le (by omega)]
      exact ⟨[], rfl⟩
theorem skip_app {u : List UInt8} (hu : ∃ s, u = s ++ [10, 42, 47, 10]) (v : List UInt8) (hv : hd v = 47) : ∀ (n : Nat) (p : List UInt8), p.length ≤ n → p <:+ u → p ≠ [] → skip (p ++ v) = skip p ∧ skip p < p.length
  | 0, p, hn, _, hne => absurd (List.length_eq_zero_iff.1 (by omega)) hne
  | n + 1, p, hn, hp, hne => by
    have hl1 : 1 ≤ p.length := by cases p with
      | nil => exact absurd rfl hne
      | cons b p => simp
    have hcb : commentBegins (p ++ v) = commentBegins p := by
      unfold commentBegins
      rw [hd_app hne v, drop_app hl1 v]
      by_cases h1 : p.drop 1 = []
      · obtain ⟨r, hr⟩ := sfx_tail hu hp hne
        have : p = [10] := by
          subst hr
          cases r with
          | nil => rfl
          | cons c r => simp at h1
        rw [this]; rfl
      · rw [hd_app h1 v]
    cases hc : commentBegins p
    · rw [skip_no hc, skip_no (by rw [hcb, hc])]
      exact ⟨rfl, by omega⟩
    · have h2 := sfx_comment hu hp hc
      have hcl := close_app v _ h2
      have hl2 : 2 ≤ p.length := by
        obtain ⟨r, hr⟩ := h2
        have := congrArg List.length hr
        simp at this; omega
      have hk : 2 + closeLen (p.drop 2) < p.length := by have := hcl.2; simp at this; omega
      have hrest : p.drop (2 + closeLen (p.drop 2)) ≠ [] := by intro h; rw [List.drop_eq_nil_iff] at h; omega
      have ih := skip_app hu v hv n (p.drop (2 + closeLen (p.drop 2))) (by simp; omega) ((List.drop_suffix _ _).trans hp) hrest
      rw [skip_yes hc, skip_yes (by rw [hcb, hc]), drop_app hl2 v, hcl.1, drop_app (by omega) v, ih.1]
      refine ⟨rfl, ?_⟩
      have := ih.2
      simp at this; omega
theorem lex_app {u : List UInt8} (hu : ∃ s, u = s ++ [10, 42, 47, 10]) (v : List UInt8) (hv : hd v = 47) : ∀ (n : Nat) (p : List UInt8), p.length ≤ n → p <:+ u → lex (p ++ v) = lex p ++ lex v
  | 0, p, hn, _ => by
    have : p = [] := List.length_eq_zero_iff.1 (by omega)
    subst this; rfl
  | n + 1, p, hn, hp => by
    by_cases hne : p = []
    · subst hne; rfl
    · obtain ⟨hs, hlt⟩ := skip_app hu v hv p.length p (Nat.le_refl _) hp hne
      have hr : p.drop (skip p) ≠ [] := by intro h; rw [List.drop_eq_nil_iff] at h; omega
      have h10 := sfx_tail hu ((List.drop_suffix (skip p) p).trans hp) hr
      have ho := one_app h10 hv
      have hpos := one_pos hr
      have e1 : (p ++ v).drop (skip (p ++ v)) = p.drop (skip p) ++ v := by rw [hs, drop_app (by omega)]
      rw [lex_cons hr, lex_cons (l := p ++ v) (by rw [e1]; simp [hr]), e1, ho, drop_app hpos.2]
      rw [lex_app hu v hv n _ (by have := hpos.1; simp; omega) (((List.drop_suffix _ _).trans (List.drop_suffix _ _)).trans hp)]
      rfl
/-- the tokens of a text that ends with a comment, and of another one behind it -/
theorem lex_both (s t : List UInt8) : lex (s ++ [10, 42, 47, 10, 47, 42, 120, 42, 47] ++ t) = lex (s ++ [10, 42, 47, 10]) ++ lex t := by
  have h := lex_app (u := s ++ [10, 42, 47, 10]) ⟨s, rfl⟩ ([47, 42, 120, 42, 47] ++ t) rfl _ _ (Nat.le_refl _) (List.suffix_refl _)
  have e : s ++ [10, 42, 47, 10, 47, 42, 120, 42, 47] ++ t = s ++ [10, 42, 47, 10] ++ ([47, 42, 120, 42, 47] ++ t) := by simp
  rw [e, h, lex_comment (l := [47, 42, 120, 42, 47] ++ t) rfl]
  rfl
end Wn
set_option maxRecDepth 20000
namespace Wn
def strText (t : Tok) : List UInt8 := if t.2.2 = 39 then 39 :: t.2.1 ++ [39] else 34 :: t.2.1 ++ [34]
def delimText (t : Tok) : List UInt8 := if t.2.1 = [34] ∨ t.2.1 = [39] then t.2.1 ++ [47, 42, 10, 42, 47] else t.2.1
/-- the text of a token -/
def oneText (t : Tok) : List UInt8 :=
  if t.1 = 1 then t.2.1 else if t.1 = 2 then t.2.1 ++ [40] else if t.1 = 3 then 64 :: t.2.1 else if t.1 = 4 then 35 :: t.2.1
  else if t.1 = 5 then Go.Lib.itoa t.2.2 ++ t.2.1 else if t.1 = 6 then strText t else if t.1 = 7 then delimText t else if t.1 = 8 then [10] else []
theorem decDigits_len : ∀ (k u : Nat), u < 10 ^ (k + 1) → (Go.Lib.decDigits u).length ≤ k + 1
  | 0, u, h => by
    rw [Go.Lib.decDigits, dif_pos (by simpa using h)]; simp
  | k + 1, u, h => by
    rw [Go.Lib.decDigits]
    split
    · simp
    · have := decDigits_len k (u / 10) (by rw [Nat.pow_succ] at h; omega)
      simp; omega
theorem itoa_len {n : Int} (h0 : -9223372036854775808 ≤ n) (h1 : n ≤ 9223372036854775807) : (Go.Lib.itoa n).length ≤ 20 := by
  unfold Go.Lib.itoa
  split
  · have := decDigits_len 18 n.natAbs (by omega); simp; omega
  · have := decDigits_len 18 n.toNat (by omega); omega
theorem oneText_len (t : Tok) (h0 : -9223372036854775808 ≤ t.2.2) (h1 : t.2.2 ≤ 9223372036854775807) : (oneText t).length ≤ t.2.1.length + 20 := by
  have := itoa_len h0 h1
  unfold oneText strText delimText
  repeat' split
  all_goals simp
  all_goals omega
/-- a list of bytes as a Go string -/
def str (l : List UInt8) : ByteArray := ⟨l.toArray⟩
theorem str_append (a b : List UInt8) : str a ++ str b = str (a ++ b) := by
  apply ByteArray.ext; simp [str, ByteArray.data_append]
theorem str_toList (s : ByteArray) : str s.data.toList = s := rfl
theorem toList_str (l : List UInt8) : (str l).data.toList = l := rfl
theorem str_size (l : List UInt8) : (str l).size = l.length := by simp [str, ByteArray.size]
theorem str_inj {a b : List UInt8} (h : str a = str b) : a = b := by
  have := congrArg (fun s : ByteArray => s.data.toList) h
  simpa [toList_str] using this
end Wn
