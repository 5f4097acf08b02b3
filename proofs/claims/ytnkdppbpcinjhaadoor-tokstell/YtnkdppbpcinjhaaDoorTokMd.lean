/- Numbers and delimiters are read from their texts; so is every valid token. Plain mathematics. -/
import Derived.Test.YtnkdppbpcinjhaaDoorTokMc
set_option maxRecDepth 20000
namespace Wn
def Digits (x : List UInt8) : Prop := ∀ b ∈ x, 48 ≤ b.toNat ∧ b.toNat ≤ 57
theorem digits_run : ∀ {x : List UInt8}, Digits x → ∀ {R : List UInt8}, digit R = false → runLen digit (x ++ R) = x.length
  | [], _, R, hR => by rw [List.nil_append, runLen_no hR]; rfl
  | b :: x, hx, R, hR => by
    have hb := hx b (by simp)
    rw [List.cons_append, runLen_cons, if_pos (by rw [digit_iff]; simp [hd]; omega), digits_run (fun c hc => hx c (by simp [hc])) hR]
    simp
theorem numVal_app : ∀ {x : List UInt8}, Digits x → ∀ (n : Int) (R : List UInt8), numVal n (x ++ R) = numVal (numVal n x) R
  | [], _, n, R => rfl
  | b :: x, hx, n, R => by
    have hb := hx b (by simp)
    have h1 : digit (b :: (x ++ R)) = true := by rw [digit_iff]; simp [hd]; omega
    have h2 : digit (b :: x) = true := by rw [digit_iff]; simp [hd]; omega
    rw [List.cons_append]
    conv => lhs; unfold numVal
    conv => rhs; arg 1; unfold numVal
    rw [if_pos h1, if_pos h2, numVal_app (fun c hc => hx c (by simp [hc]))]
    rfl
theorem decDigits_digits : ∀ (k u : Nat), u < 10 ^ (k + 1) → Digits (Go.Lib.decDigits u)
  | 0, u, h => by
    rw [Go.Lib.decDigits, dif_pos (by simpa using h)]
    intro b hb
    simp at hb; subst hb
    have : u < 10 := by simpa using h
    simp; omega
  | k + 1, u, h => by
    rw [Go.Lib.decDigits]
    split
    · rename_i hu
      intro b hb
      simp at hb; subst hb
      simp; omega
    · intro b hb
      rw [List.mem_append] at hb
      rcases hb with hb | hb
      · exact decDigits_digits k (u / 10) (by rw [Nat.pow_succ] at h; omega) b hb
      · simp at hb; subst hb
        have : u % 10 < 10 := Nat.mod_lt _ (by omega)
        simp; omega
theorem decDigits_val : ∀ (k u : Nat), u < 10 ^ (k + 1) → u ≤ 999999999 → numVal 0 (Go.Lib.decDigits u) = (u : Int)
  | 0, u, h, _ => by
    have hu : u < 10 := by simpa using h
    rw [Go.Lib.decDigits, dif_pos hu]
    unfold numVal
    rw [if_pos (by rw [digit_iff]; simp [hd]; omega)]
    simp [numVal, hd]; omega
  | k + 1, u, h, hm => by
    rw [Go.Lib.decDigits]
    split
    · rename_i hu
      unfold numVal
      rw [if_pos (by rw [digit_iff]; simp [hd]; omega)]
      simp [numVal, hd]; omega
    · have hk : u / 10 < 10 ^ (k + 1) := by rw [Nat.pow_succ] at h; omega
      have ih := decDigits_val k (u / 10) hk (by omega)
      have hlt : u % 10 < 10 := Nat.mod_lt _ (by omega)
      rw [numVal_app (decDigits_digits k _ hk), ih]
      unfold numVal
      rw [if_pos (by rw [digit_iff]; simp [hd]; omega)]
      simp [numVal, hd]; omega
theorem decDigits_ne (u : Nat) : Go.Lib.decDigits u ≠ [] := by
  rw [Go.Lib.decDigits]; split <;> simp
theorem unit_head {x : List UInt8} (h : Unit x) {R : List UInt8} (hR : x = [] → digit R = false ∧ hd R ≠ 37 ∧ nameBegins R = false) (hN : x ≠ [] → x ≠ [37] → nameByte R = false) :
    digit (x ++ R) = false ∧ unitLen (x ++ R) = x.length := by
  rcases h with rfl | rfl | h
  · obtain ⟨h1, h2, h3⟩ := hR rfl
    refine ⟨h1, ?_⟩
    unfold unitLen
    rw [List.nil_append, if_neg (by simpa using h2), if_neg (by rw [h3]; decide)]; rfl
  · refine ⟨by simp [digit, hd], ?_⟩
    unfold unitLen
    rw [if_pos (by simp [hd])]; rfl
  · obtain ⟨h1, _, h3, h4⟩ := isName_app h R
    have hn := head_name h3
    have hx37 : x ≠ [37] := by
      rintro rfl
      exact absurd h.1 (by decide)
    refine ⟨hn.2.2.2.2.1, ?_⟩
    unfold unitLen
    rw [if_neg, if_pos h1, names_app h.2 (hN h4 hx37)]
    rw [nameStart_iff] at h3
    simp; omega
theorem one_num {l : List UInt8} (h : numberBegins l = true) : one l = number l := by
  have hh : digit l = true ∨ hd l = 45 := by
    unfold numberBegins at h
    simp only [Bool.or_eq_true, Bool.and_eq_true, beq_iff_eq] at h
    rcases h with h | h
    · exact .inl h
    · exact .inr h.1
  have hb : blank l = false := by rw [false_iff_not, blank_iff]; rw [digit_iff] at hh; omega
  have hq : quote l = false := by rw [false_iff_not, quote_iff]; rw [digit_iff] at hh; omega
  rw [digit_iff] at hh
  unfold one
  rw [if_neg (by rw [hb]; decide), strLen_noquote hq]
  dsimp only
  rw [if_neg (by simp; omega), if_neg (by simp; omega), if_pos h]
theorem read_num {x : List UInt8} {n : Int} (h0 : -999999999 ≤ n) (h1 : n ≤ 999999999) (hx : Unit x) {R : List UInt8} (hR : x = [] → digit R = false ∧ hd R ≠ 37 ∧ nameBegins R = false) (hN : x ≠ [] → x ≠ [37] → nameByte R = false) :
    lex (Go.Lib.itoa n ++ x ++ R) = (5, x, n) :: lex R := by
  obtain ⟨hd1, hu⟩ := unit_head hx hR hN
  unfold Go.Lib.itoa
  split
  · rename_i hneg
    have hk : n.natAbs < 10 ^ (8 + 1) := by omega
    have hD := decDigits_digits 8 _ hk
    have hV := decDigits_val 8 _ hk (by omega)
    have hne := decDigits_ne n.natAbs
    generalize Go.Lib.decDigits n.natAbs = D at *
    have hdig : digit (D ++ (x ++ R)) = true := by
      cases D with
      | nil => exact absurd rfl hne
      | cons b D => have := hD b (by simp); rw [digit_iff]; simp [hd]; omega
    have hrun := digits_run hD hd1
    have e : 45 :: D ++ x ++ R = 45 :: (D ++ (x ++ R)) := by simp
    rw [e]
    rw [lex_step (t := (5, x, n)) (k := 1 + D.length + x.length) (by simp) (commentBegins_head (by simp [hd])) ?_]
    · rw [show 45 :: (D ++ (x ++ R)) = (45 :: D ++ x) ++ R by simp, drop_len _ _ _ (by simp; omega)]
    · rw [one_num (by unfold numberBegins; simp [hd, hdig])]
      unfold number
      rw [if_pos (by simp [hd]), List.drop_succ_cons, List.drop_zero, hrun]
      unfold numTok
      have ed : (45 :: (D ++ (x ++ R))).drop (1 + D.length) = x ++ R := by
        rw [show 45 :: (D ++ (x ++ R)) = (45 :: D) ++ (x ++ R) by simp, drop_len _ _ _ (by simp; omega)]
      rw [ed, hu, take_len _ _ _ rfl, if_pos rfl, List.drop_succ_cons, List.drop_zero, numVal_app hD, numVal_no _ _ hd1, hV]
      have : - (n.natAbs : Int) = n := by omega
      rw [this]
  · rename_i hneg
    have hk : n.toNat < 10 ^ (8 + 1) := by omega
    have hD := decDigits_digits 8 _ hk
    have hV := decDigits_val 8 _ hk (by omega)
    have hne := decDigits_ne n.toNat
    generalize Go.Lib.decDigits n.toNat = D at *
    have hdig : digit (D ++ (x ++ R)) = true := by
      cases D with
      | nil => exact absurd rfl hne
      | cons b D => have := hD b (by simp); rw [digit_iff]; simp [hd]; omega
    have hrun := digits_run hD hd1
    have h45 : (hd (D ++ (x ++ R)) == 45) = false := by rw [digit_iff] at hdig; simp; omega
    have h47 : hd (D ++ (x ++ R)) ≠ 47 := by rw [digit_iff] at hdig; omega
    rw [List.append_assoc]
    rw [lex_step (t := (5, x, n)) (k := D.length + x.length) (by simp [hne]) (commentBegins_head h47) ?_]
    · rw [show D ++ (x ++ R) = (D ++ x) ++ R by simp, drop_len _ _ _ (by simp)]
    · rw [one_num (by unfold numberBegins; rw [hdig]; rfl)]
      unfold number
      rw [if_neg (by rw [h45]; decide), hrun]
      unfold numTok
      rw [drop_len _ _ _ rfl, hu, take_len _ _ _ rfl, if_neg (by decide), numVal_app hD, numVal_no _ _ hd1, hV]
      have : (n.toNat : Int) = n := by omega
      rw [this]
/-- the head of a delimiter -/
theorem delim_head {c : UInt8} (h : DelimB c) (R : List UInt8) : blank (c :: R) = false ∧ digit (c :: R) = false ∧ nameStart (c :: R) = false := h
theorem one_delim {c : UInt8} (h : DelimB c) {R : List UInt8} (hs : strLen (c :: R) = none) (h35 : c = 35 → nameByte R = false) (h64 : c = 64 → nameBegins R = false) (h45 : c = 45 → digit R = false ∧ nameStart R = false ∧ hd R ≠ 45) :
    one (c :: R) = ((7, [c], 0), 1) := by
  obtain ⟨h1, h2, h3⟩ := delim_head h R
  have hc : ∀ k : UInt8, hd (c :: R) = (k.toNat : Int) → c = k := fun k hk => UInt8.toNat.inj (by simpa [hd] using Int.ofNat.inj hk)
  unfold one
  rw [if_neg (by rw [h1]; decide), hs]
  dsimp only
  rw [if_neg, if_neg, if_neg, if_neg]
  · rfl
  · intro hn
    rcases nameBegins_head hn with hh | hh
    · rw [h3] at hh; cases hh
    · obtain ⟨_, k2, k3⟩ := h45 (hc 45 hh)
      unfold nameBegins at hn
      rw [if_pos (by simpa using hh), List.drop_succ_cons, List.drop_zero, k2] at hn
      simp at hn; exact k3 hn
  · intro hn
    unfold numberBegins at hn
    rw [h2] at hn
    simp at hn
    have := (h45 (hc 45 hn.1)).1
    rw [hn.2] at this; cases this
  · simp only [Bool.and_eq_true, beq_iff_eq, List.drop_succ_cons, List.drop_zero]
    rintro ⟨h, h'⟩
    rw [h64 (hc 64 h)] at h'; cases h'
  · simp only [Bool.and_eq_true, beq_iff_eq, List.drop_succ_cons, List.drop_zero]
    rintro ⟨h, h'⟩
    rw [h35 (hc 35 h)] at h'; cases h'
theorem read_quote {c : UInt8} (hc : c = 34 ∨ c = 39) (R : List UInt8) : lex (c :: 47 :: 42 :: 10 :: 42 :: 47 :: R) = (7, [c], 0) :: lex R := by
  have hs : strLen (c :: 47 :: 42 :: 10 :: 42 :: 47 :: R) = none := by rcases hc with rfl | rfl <;> rfl
  have hD : DelimB c := by rcases hc with rfl | rfl <;> exact ⟨rfl, rfl, rfl⟩
  have ho := one_delim hD hs (by rcases hc with rfl | rfl <;> exact fun h => absurd h (by decide)) (by rcases hc with rfl | rfl <;> exact fun h => absurd h (by decide)) (by rcases hc with rfl | rfl <;> exact fun h => absurd h (by decide))
  have h47 : hd (c :: 47 :: 42 :: 10 :: 42 :: 47 :: R) ≠ 47 := by rcases hc with rfl | rfl <;> simp [hd]
  rw [lex_step (by simp) (commentBegins_head h47) ho, List.drop_succ_cons, List.drop_zero, lex_comment (l := 47 :: 42 :: 10 :: 42 :: 47 :: R) rfl]
  rfl
theorem read_delim {c : UInt8} (h : DelimB c) (hq : ¬ (c = 34 ∨ c = 39)) {R : List UInt8} (h35 : c = 35 → nameByte R = false) (h64 : c = 64 → nameBegins R = false) (h45 : c = 45 → digit R = false ∧ nameStart R = false ∧ hd R ≠ 45) (h47 : c = 47 → hd R ≠ 42) :
    lex (c :: R) = (7, [c], 0) :: lex R := by
  have hc : ∀ k : UInt8, hd (c :: R) = (k.toNat : Int) → c = k := fun k hk => UInt8.toNat.inj (by simpa [hd] using Int.ofNat.inj hk)
  have hs : strLen (c :: R) = none := strLen_noquote (by
    rw [false_iff_not, quote_iff]
    rintro (h | h)
    · exact hq (.inl (hc 34 h))
    · exact hq (.inr (hc 39 h)))
  have hcb : commentBegins (c :: R) = false := by
    unfold commentBegins
    rw [List.drop_succ_cons, List.drop_zero, Bool.and_eq_false_iff]
    by_cases h : c = 47
    · right; simpa using h47 h
    · left; rw [beq_eq_false_iff_ne]; exact fun hh => h (hc 47 hh)
  rw [lex_step (by simp) hcb (one_delim h hs h35 h64 h45)]
  rfl
/-- every valid token is read from its text, if what follows lets it -/
theorem read_valid {t : Tok} (h : Valid t) {R : List UInt8} (hF : Follows t R) : lex (oneText t ++ R) = t :: lex R := by
  obtain ⟨f1, f3, f4, f5, f5', f35, f64, f45, f47, f8⟩ := hF
  rcases h with ⟨x, h, rfl⟩ | ⟨x, h, rfl⟩ | ⟨x, h, rfl⟩ | ⟨x, h, h0, rfl⟩ | ⟨x, n, h0, h1, h, rfl⟩ | ⟨x, q, hq, h, rfl⟩ | ⟨c, h, rfl⟩ | rfl
  · exact read_ident h (f1 rfl).1 (f1 rfl).2
  · rw [show oneText (2, x, 0) = x ++ [40] from rfl, List.append_assoc]; exact read_func h R
  · exact read_at h (f3 rfl)
  · exact read_hash h h0 (f4 rfl)
  · exact read_num h0 h1 h (f5 rfl) (f5' rfl)
  · rcases hq with rfl | rfl
    · rw [show oneText (6, x, 34) = 34 :: x ++ [34] from rfl, List.append_assoc]; exact read_str 34 (.inl rfl) h R
    · rw [show oneText (6, x, 39) = 39 :: x ++ [39] from rfl, List.append_assoc]; exact read_str 39 (.inr rfl) h R
  · by_cases hq : c = 34 ∨ c = 39
    · have e : oneText (7, [c], 0) = [c, 47, 42, 10, 42, 47] := by
        show delimText (7, [c], 0) = _
        unfold delimText
        rw [if_pos (by rcases hq with rfl | rfl <;> simp)]; rfl
      rw [e]; exact read_quote hq R
    · have e : oneText (7, [c], 0) = [c] := by
        show delimText (7, [c], 0) = _
        unfold delimText
        rw [if_neg (by simpa using hq)]
      rw [e]
      exact read_delim h hq (fun hc => f35 rfl (by rw [hc])) (fun hc => f64 rfl (by rw [hc])) (fun hc => f45 rfl (by rw [hc])) (fun hc => f47 rfl (by rw [hc]))
  · exact read_white (f8 rfl)
theorem follows_nil (t : Tok) : Follows t [] := by
  refine ⟨?_, ?_, ?_, ?_, ?_, ?_, ?_, ?_, ?_, ?_⟩ <;> intros <;> decide
theorem follows_slash (t : Tok) {R : List UInt8} (h : hd R = 47) : Follows t R := by
  obtain ⟨h1, h2, h3, h4⟩ := head_not h
  have h5 : nameBegins R = false := by
    unfold nameBegins; rw [if_neg (by simp [h]), h4]
  refine ⟨fun _ => ⟨h2, by omega⟩, fun _ => h2, fun _ => h2, fun _ _ => ⟨h3, by omega, h5⟩, fun _ _ _ => h2, fun _ _ => h2, fun _ _ => h5, fun _ _ => ⟨h3, h4, by omega⟩, fun _ _ => by omega, fun _ => h1⟩
theorem valid_may {t : Tok} (h : Valid t) : may t = true := by
  have := read_valid h (follows_nil t)
  rw [List.append_nil] at this
  unfold may; rw [this]; simp [lex, lexF]
end Wn
