/- plain mathematics -/
set_option maxRecDepth 20000
namespace Wn
def hd (l : List UInt8) : Int := match l with | [] => -1 | b :: _ => (b.toNat : Int)
theorem hd_ge (l : List UInt8) : -1 ≤ hd l := by cases l <;> simp [hd]
theorem hd_le (l : List UInt8) : hd l ≤ 255 := by
  cases l with
  | nil => simp [hd]
  | cons b l => have := b.toNat_lt; simp [hd]; omega
/-- the bytes from a place on -/
def sfx (s : ByteArray) (i : Nat) : List UInt8 := s.data.toList.drop i
theorem sfx_out (s : ByteArray) (i : Nat) (h : s.size ≤ i) : sfx s i = [] := by
  unfold sfx; rw [List.drop_of_length_le (by simpa using h)]
theorem sfx_in (s : ByteArray) (i : Nat) (h : i < s.size) : sfx s i = s[i] :: sfx s (i + 1) := by
  unfold sfx; rw [List.drop_eq_getElem_cons (by simpa using h)]; rfl
theorem sfx_length (s : ByteArray) (i : Nat) : (sfx s i).length = s.size - i := by
  unfold sfx; simp
theorem sfx_drop (s : ByteArray) (i k : Nat) : (sfx s i).drop k = sfx s (i + k) := by
  unfold sfx; rw [List.drop_drop]
theorem hd_out (s : ByteArray) (i : Nat) (h : s.size ≤ i) : hd (sfx s i) = -1 := by rw [sfx_out s i h]; rfl
theorem hd_in (s : ByteArray) (i : Nat) (h : i < s.size) : hd (sfx s i) = (s[i].toNat : Int) := by rw [sfx_in s i h]; rfl
def lineEnd (l : List UInt8) : Bool := hd l == 10 || hd l == 12 || hd l == 13
def blank (l : List UInt8) : Bool := hd l == 32 || hd l == 9 || lineEnd l
def digit (l : List UInt8) : Bool := decide (48 ≤ hd l) && decide (hd l ≤ 57)
def nameStart (l : List UInt8) : Bool :=
  decide (65 ≤ hd l) && decide (hd l ≤ 90) || decide (97 ≤ hd l) && decide (hd l ≤ 122) || hd l == 95 || decide (128 ≤ hd l)
def nameByte (l : List UInt8) : Bool := nameStart l || digit l || hd l == 45
def quote (l : List UInt8) : Bool := hd l == 34 || hd l == 39
def commentBegins (l : List UInt8) : Bool := hd l == 47 && hd (l.drop 1) == 42
def nameBegins (l : List UInt8) : Bool :=
  if hd l == 45 then nameStart (l.drop 1) || hd (l.drop 1) == 45 else nameStart l
def numberBegins (l : List UInt8) : Bool := digit l || hd l == 45 && digit (l.drop 1)
/-- how many bytes at the head each satisfy -/
def runLen (p : List UInt8 → Bool) : List UInt8 → Nat
  | [] => 0
  | b :: l => if p (b :: l) then runLen p l + 1 else 0
theorem runLen_le (p : List UInt8 → Bool) : ∀ l, runLen p l ≤ l.length
  | [] => Nat.le_refl _
  | b :: l => by unfold runLen; have := runLen_le p l; split <;> simp <;> omega
theorem runLen_yes {p : List UInt8 → Bool} {s : ByteArray} {i : Nat} (h : p (sfx s i) = true) (h0 : p [] = false) :
    i < s.size ∧ runLen p (sfx s i) = runLen p (sfx s (i + 1)) + 1 := by
  by_cases hi : i < s.size
  · refine ⟨hi, ?_⟩
    rw [sfx_in s i hi] at h ⊢
    conv => lhs; unfold runLen
    rw [if_pos h]
  · rw [sfx_out s i (by omega), h0] at h; cases h
theorem runLen_no {p : List UInt8 → Bool} {l : List UInt8} (h : p l = false) : runLen p l = 0 := by
  cases l with
  | nil => rfl
  | cons b l => unfold runLen; rw [if_neg (by rw [h]; decide)]
/-- bytes to the end of the next close of a comment, or to the end -/
def closeLen : List UInt8 → Nat
  | [] => 0
  | b :: l => if hd (b :: l) == 42 && hd l == 47 then 2 else closeLen l + 1
theorem closeLen_le : ∀ l, closeLen l ≤ l.length
  | [] => Nat.le_refl _
  | b :: l => by
    unfold closeLen
    have := closeLen_le l
    split
    · rename_i h
      cases l with
      | nil => simp [hd] at h
      | cons c l => simp
    · simp; omega
theorem closeLen_out (s : ByteArray) (i : Nat) (h : s.size ≤ i) : closeLen (sfx s i) = 0 := by rw [sfx_out s i h]; rfl
theorem closeLen_yes (s : ByteArray) (i : Nat) (h : i < s.size) (hc : (hd (sfx s i) == 42 && hd (sfx s (i + 1)) == 47) = true) : closeLen (sfx s i) = 2 := by
  rw [sfx_in s i h] at hc ⊢
  conv => lhs; unfold closeLen
  rw [if_pos hc]
theorem closeLen_no (s : ByteArray) (i : Nat) (h : i < s.size) (hc : (hd (sfx s i) == 42 && hd (sfx s (i + 1)) == 47) = false) : closeLen (sfx s i) = closeLen (sfx s (i + 1)) + 1 := by
  rw [sfx_in s i h] at hc ⊢
  conv => lhs; unfold closeLen
  rw [if_neg (by rw [hc]; decide)]
/-- how many bytes stand ahead of the closing quote; none if a line end or the end comes first -/
def quoteLen (q : Int) : List UInt8 → Option Nat
  | [] => none
  | b :: l => if lineEnd (b :: l) then none else if hd (b :: l) == q then some 0 else (quoteLen q l).map (· + 1)
/-- where the second quote stands behind the first; none if no string begins here -/
def strLen (l : List UInt8) : Option Nat := if quote l then quoteLen (hd l) (l.drop 1) else none
theorem quoteLen_out (q : Int) (s : ByteArray) (i : Nat) (h : s.size ≤ i) : quoteLen q (sfx s i) = none := by rw [sfx_out s i h]; rfl
theorem quoteLen_line (q : Int) (s : ByteArray) (i : Nat) (h : i < s.size) (hl : lineEnd (sfx s i) = true) : quoteLen q (sfx s i) = none := by
  rw [sfx_in s i h] at hl ⊢
  conv => lhs; unfold quoteLen
  rw [if_pos hl]
theorem quoteLen_yes (q : Int) (s : ByteArray) (i : Nat) (h : i < s.size) (hl : lineEnd (sfx s i) = false) (hq : (hd (sfx s i) == q) = true) : quoteLen q (sfx s i) = some 0 := by
  rw [sfx_in s i h] at hl hq ⊢
  conv => lhs; unfold quoteLen
  rw [if_neg (by rw [hl]; decide), if_pos hq]
theorem quoteLen_no (q : Int) (s : ByteArray) (i : Nat) (h : i < s.size) (hl : lineEnd (sfx s i) = false) (hq : (hd (sfx s i) == q) = false) : quoteLen q (sfx s i) = (quoteLen q (sfx s (i + 1))).map (· + 1) := by
  rw [sfx_in s i h] at hl hq ⊢
  conv => lhs; unfold quoteLen
  rw [if_neg (by rw [hl]; decide), if_neg (by rw [hq]; decide)]
theorem quoteLen_lt (q : Int) : ∀ (l : List UInt8) (k : Nat), quoteLen q l = some k → k < l.length
  | [], k, h => by simp [quoteLen] at h
  | b :: l, k, h => by
    unfold quoteLen at h
    split at h
    · cases h
    · split at h
      · simp at h; subst h; simp
      · cases hr : quoteLen q l with
        | none => rw [hr] at h; cases h
        | some j => rw [hr] at h; simp at h; subst h; have := quoteLen_lt q l j hr; simp; omega
/-- the number that a run of digits denotes, limited -/
def numVal (n : Int) : List UInt8 → Int
  | [] => n
  | b :: l => if digit (b :: l) then numVal (min (n * 10 + hd (b :: l) - 48) 999999999) l else n
theorem numVal_yes (n : Int) (s : ByteArray) (i : Nat) (h : digit (sfx s i) = true) : numVal n (sfx s i) = numVal (min (n * 10 + hd (sfx s i) - 48) 999999999) (sfx s (i + 1)) := by
  by_cases hi : i < s.size
  · rw [sfx_in s i hi] at h ⊢
    conv => lhs; unfold numVal
    rw [if_pos h]
  · rw [sfx_out s i (by omega)] at h; cases h
theorem numVal_no (n : Int) (l : List UInt8) (h : digit l = false) : numVal n l = n := by
  cases l with
  | nil => rfl
  | cons b l => unfold numVal; rw [if_neg (by rw [h]; decide)]
theorem digit_hd {l : List UInt8} (h : digit l = true) : 48 ≤ hd l ∧ hd l ≤ 57 := by
  unfold digit at h; simpa using h
theorem numVal_bounds : ∀ (l : List UInt8) (n : Int), 0 ≤ n → n ≤ 999999999 → 0 ≤ numVal n l ∧ numVal n l ≤ 999999999
  | [], n, h0, h1 => ⟨h0, h1⟩
  | b :: l, n, h0, h1 => by
    unfold numVal
    split
    · rename_i h
      have := digit_hd h
      exact numVal_bounds l _ (by omega) (by omega)
    · exact ⟨h0, h1⟩
theorem commentBegins_two {s : ByteArray} {i : Nat} (h : commentBegins (sfx s i) = true) : i + 2 ≤ s.size := by
  unfold commentBegins at h
  simp only [Bool.and_eq_true, beq_iff_eq, sfx_drop] at h
  by_cases hi : i + 1 < s.size
  · omega
  · have := hd_out s (i + 1) (by omega); omega
/-- how many bytes the unit of a number takes -/
def unitLen (l : List UInt8) : Nat := if hd l == 37 then 1 else if nameBegins l then runLen nameByte l else 0
theorem unitLen_le (l : List UInt8) : unitLen l ≤ l.length := by
  unfold unitLen
  split
  · rename_i h
    cases l with
    | nil => simp [hd] at h
    | cons b l => simp
  · split
    · exact runLen_le _ _
    · omega
theorem extract_same (s : ByteArray) (p : Nat) : s.extract p p = ⟨#[]⟩ := by
  apply ByteArray.ext
  rw [ByteArray.data_extract]
  simp
  omega
theorem extract_sfx (s : ByteArray) (p q : Nat) : s.extract p q = ⟨((sfx s p).take (q - p)).toArray⟩ := by
  apply ByteArray.ext
  rw [ByteArray.data_extract]
  apply Array.toList_inj.1
  simp [sfx, List.extract_eq_take_drop]
/-- how many bytes of comments stand at the head -/
def skipF : Nat → List UInt8 → Nat
  | 0, _ => 0
  | f + 1, l => if commentBegins l then 2 + closeLen (l.drop 2) + skipF f (l.drop (2 + closeLen (l.drop 2))) else 0
def skip (l : List UInt8) : Nat := skipF l.length l
theorem skipF_more : ∀ (f g : Nat) (l : List UInt8), l.length ≤ f → l.length ≤ g → skipF f l = skipF g l
  | 0, 0, _, _, _ => rfl
  | 0, g + 1, l, hf, _ => by
    have : l = [] := List.length_eq_zero_iff.1 (by omega)
    subst this; simp [skipF, commentBegins, hd]
  | f + 1, 0, l, _, hg => by
    have : l = [] := List.length_eq_zero_iff.1 (by omega)
    subst this; simp [skipF, commentBegins, hd]
  | f + 1, g + 1, l, hf, hg => by
    unfold skipF
    split
    · rw [skipF_more f g _ (by simp; omega) (by simp; omega)]
    · rfl
theorem skip_yes {l : List UInt8} (h : commentBegins l = true) : skip l = 2 + closeLen (l.drop 2) + skip (l.drop (2 + closeLen (l.drop 2))) := by
  cases l with
  | nil => simp [commentBegins, hd] at h
  | cons b l =>
    unfold skip
    conv => lhs; rw [List.length_cons]; unfold skipF
    rw [if_pos h, skipF_more l.length _ _ (by simp; omega) (Nat.le_refl _)]
theorem skip_no {l : List UInt8} (h : commentBegins l = false) : skip l = 0 := by
  unfold skip
  cases l.length with
  | zero => rfl
  | succ n => unfold skipF; rw [if_neg (by rw [h]; decide)]
/-- the place where a string that begins at i has its second quote, or -1 -/
def place (i : Nat) : Option Nat → Int
  | none => -1
  | some k => ((i + k : Nat) : Int)
theorem place_succ (i : Nat) (o : Option Nat) : place i (o.map (· + 1)) = place (i + 1) o := by
  cases o with
  | none => rfl
  | some k => simp only [place, Option.map_some]; omega
end Wn
