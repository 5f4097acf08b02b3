/- The numbers of an nth, written, are read as they were, within bounds. -/
import Derived.Test.YtncknaagbafhhaaGreatDoorHA
set_option linter.unusedVariables false
set_option linter.unusedSimpArgs false
set_option maxRecDepth 20000
namespace Wn
theorem whole_get {α : Type} {p : Fs → Option (α × Fs)} {f : Fs} {x : α} (h : wholeF p f = some x) : ∃ r, p (dropB f) = some (x, r) ∧ dropB r = .nil := by
  unfold wholeF at h
  split at h
  · rename_i y r e
    split at h
    · simp at h; subst h; exact ⟨r, e, by assumption⟩
    · cases h
  · cases h
theorem one_ok (t : Tok) (r : Fs) (hk : kindOf t = 1) (h : Ok 0 r) : Ok 0 (.cons 1 t .nil r) := by
  refine ⟨.inl ⟨rfl, rfl, hk, ?_⟩, h⟩
  unfold closes; simp [isBlk]
theorem kindOf_num (x : List UInt8) (n : Int) : kindOf (5, x, n) = 1 := by unfold kindOf; simp [dlm]
theorem kindOf_plus : kindOf (7, [43], 0) = 1 := by decide
theorem read_lex {s : List UInt8} {f : Fs} (h : lex s = flat f) (hok : Ok 0 f) (hd : depth f ≤ 60) : readF s = some f := by
  unfold readF; rw [h]; exact parse_flat hok hd
theorem lex_nil : lex [] = [] := rfl
theorem nth_readb {b : Int} (h0 : -999999999 ≤ b) (h1 : b ≤ 999999999) : readF (Go.Lib.itoa b) = some (.cons 1 (5, [], b) .nil .nil) := by
  refine read_lex ?_ (one_ok _ _ (kindOf_num _ _) trivial) (by simp [depth, isBlk])
  have := read_num (x := []) (R := []) h0 h1 (.inl rfl) (fun _ => by decide) (fun h => absurd rfl h)
  simpa [flat, lex_nil] using this
theorem isName_of {x : List UInt8} (h1 : nameBegins x = true) (h2 : runLen nameByte x = x.length) : IsName x := ⟨h1, h2⟩
theorem n_name : IsName [110] := isName_of (by decide) (by decide)
theorem nth_read0 {a : Int} (h0 : -999999999 ≤ a) (h1 : a ≤ 999999999) : readF (Go.Lib.itoa a ++ [110]) = some (.cons 1 (5, [110], a) .nil .nil) := by
  refine read_lex ?_ (one_ok _ _ (kindOf_num _ _) trivial) (by simp [depth, isBlk])
  have := read_num (x := [110]) (R := []) h0 h1 (.inr (.inr n_name)) (fun h => by simp at h) (fun _ _ => by decide)
  simpa [flat, lex_nil] using this
theorem nth_readp {a b : Int} (h0 : -999999999 ≤ a) (h1 : a ≤ 999999999) (h2 : -999999999 ≤ b) (h3 : b ≤ 999999999) :
    readF (Go.Lib.itoa a ++ [110] ++ 43 :: Go.Lib.itoa b) = some (.cons 1 (5, [110], a) .nil (.cons 1 (7, [43], 0) .nil (.cons 1 (5, [], b) .nil .nil))) := by
  refine read_lex ?_ (one_ok _ _ (kindOf_num _ _) (one_ok _ _ kindOf_plus (one_ok _ _ (kindOf_num _ _) trivial))) (by simp [depth, isBlk])
  have e1 := read_num (x := [110]) (R := 43 :: Go.Lib.itoa b) h0 h1 (.inr (.inr n_name)) (fun h => by simp at h) (fun _ _ => by rw [false_iff_not, nameByte_iff, nameStart_iff, digit_iff]; simp [hd])
  have e2 := read_delim (c := 43) (R := Go.Lib.itoa b) (by unfold DelimB; decide) (by decide) (fun h => by simp at h) (fun h => by simp at h) (fun h => by simp at h) (fun h => by simp at h)
  have e3 := read_num (x := []) (R := []) h2 h3 (.inl rfl) (fun _ => by decide) (fun h => absurd rfl h)
  rw [e1, e2]
  simpa [flat, lex_nil] using e3
theorem names_digits : ∀ {D : List UInt8}, Digits D → Names D
  | [], _ => rfl
  | b :: l, h => by
    have hb := h b (by simp)
    have ih := names_digits (D := l) (fun c hc => h c (by simp [hc]))
    unfold Names at ih ⊢
    rw [runLen_cons, if_pos (by rw [nameByte_iff, digit_iff]; right; left; simp [hd]; omega), ih]
    rfl
theorem ncut_name {D : List UInt8} (h : Digits D) : IsName (110 :: 45 :: D) := by
  constructor
  · unfold nameBegins nameStart; simp [hd]
  · have := names_digits h
    unfold Names at this ⊢
    rw [runLen_cons, if_pos (by rw [nameByte_iff, nameStart_iff]; left; simp [hd]), runLen_cons, if_pos (by rw [nameByte_iff]; right; right; simp [hd]), this]
    rfl
theorem dec_digits {u : Nat} (h : u ≤ 999999999) : Digits (Go.Lib.decDigits u) := decDigits_digits 8 u (by omega)
theorem nth_readm {a : Int} {u : Nat} (h0 : -999999999 ≤ a) (h1 : a ≤ 999999999) (hu : u ≤ 999999999) :
    readF (Go.Lib.itoa a ++ [110] ++ 45 :: Go.Lib.decDigits u) = some (.cons 1 (5, 110 :: 45 :: Go.Lib.decDigits u, a) .nil .nil) := by
  refine read_lex ?_ (one_ok _ _ (kindOf_num _ _) trivial) (by simp [depth, isBlk])
  have := read_num (x := 110 :: 45 :: Go.Lib.decDigits u) (R := []) h0 h1 (.inr (.inr (ncut_name (dec_digits hu)))) (fun h => by simp at h) (fun _ _ => by decide)
  simpa [flat, lex_nil] using this
theorem decN_app (l : List UInt8) (c : UInt8) : decN (l ++ [c]) = decN l * 10 + ((c.toNat : Int) - 48) := by simp [decN, List.foldl_append]
theorem decN_dec (u : Nat) : decN (Go.Lib.decDigits u) = (u : Int) := by
  induction u using Nat.strongRecOn with
  | _ u ih =>
    by_cases h : u < 10
    · rw [Go.Lib.decDigits, dif_pos h]
      have : (48 + u) % 256 = 48 + u := Nat.mod_eq_of_lt (by omega)
      simp [decN, this]
      omega
    · have hlt : u % 10 < 10 := Nat.mod_lt _ (by omega)
      have : (48 + u % 10) % 256 = 48 + u % 10 := Nat.mod_eq_of_lt (by omega)
      rw [Go.Lib.decDigits, dif_neg h, decN_app, ih (u / 10) (by omega)]
      simp [this]
      omega
theorem all_digB {D : List UInt8} (h : Digits D) : D.all digB = true := by
  rw [List.all_eq_true]
  intro c hc
  have := h c hc
  simp [digB, this]
theorem dec_len4 (u : Nat) : (Go.Lib.decDigits u).length ≤ 4 ↔ u ≤ 9999 := by
  rw [Go.Lib.decDigits_length]
  constructor
  · intro h
    have h1 := Go.Lib.lt_pow_nDigits u
    have h2 : 10 ^ Go.Lib.nDigits u ≤ 10 ^ 4 := Nat.pow_le_pow_right (by omega) h
    omega
  · intro h
    rw [Go.Lib.nDigits]
    split
    · omega
    · rw [Go.Lib.nDigits]
      split
      · omega
      · rw [Go.Lib.nDigits]
        split
        · omega
        · rw [Go.Lib.nDigits_small (by omega)]
          omega
theorem num4_dec {u : Nat} (h : u ≤ 999999999) : num4 (Go.Lib.decDigits u) = if u ≤ 9999 then some (u : Int) else none := by
  unfold num4
  have h1 : 1 ≤ (Go.Lib.decDigits u).length := List.length_pos_iff.2 (decDigits_ne u)
  by_cases hu : u ≤ 9999
  · rw [if_pos ⟨h1, (dec_len4 u).2 hu, all_digB (dec_digits h)⟩, if_pos hu, decN_dec]
  · rw [if_neg (fun hh => hu ((dec_len4 u).1 hh.2.1)), if_neg hu]
/-- the text of an nth -/
def nthTx (a b : Int) : List UInt8 := Go.Lib.itoa a ++ [110] ++ (if 0 < b then 43 :: Go.Lib.itoa b else if b < 0 then Go.Lib.itoa b else [])
theorem trim_num (x : List UInt8) (n : Int) : trimF (.cons 1 (5, x, n) .nil .nil) = .cons 1 (5, x, n) .nil .nil := by simp [trimF, dropB, rtrim, blankV]
theorem nthb_some {b : Int} (h0 : -999999999 ≤ b) (h1 : b ≤ 999999999) : ∃ f, readF (Go.Lib.itoa b) = some f ∧ nthF (trimF f) = if few b then some (0, b) else none := by
  refine ⟨_, nth_readb h0 h1, ?_⟩
  rw [trim_num]
  simp [nthF, wholeF, dropB, blankV, nthR, tokF, nthT]
  simp [few]
theorem nth_some {a b : Int} (h0 : -999999999 ≤ a) (h1 : a ≤ 999999999) (h2 : -999999999 ≤ b) (h3 : b ≤ 999999999) : ∃ f, readF (nthTx a b) = some f ∧ nthF (trimF f) = if few a && few b then some (a, b) else none := by
  unfold nthTx
  by_cases hp : 0 < b
  · rw [if_pos hp]
    refine ⟨_, nth_readp h0 h1 h2 h3, ?_⟩
    simp [trimF, rtrim, nthF, wholeF, dropB, blankV, nthR, tokF, nthT, plusR, signF, signV, dlm, show 0 ≤ b by omega]
  · rw [if_neg hp]
    by_cases hm : b < 0
    · rw [if_pos hm]
      obtain ⟨u, rfl⟩ : ∃ u : Nat, b = -(u : Int) := ⟨b.natAbs, by omega⟩
      rw [Go.Lib.itoa_neg u (by omega)]
      refine ⟨_, nth_readm h0 h1 (by omega), ?_⟩
      rw [trim_num]
      by_cases hu : u ≤ 9999
      · simp [nthF, wholeF, dropB, blankV, nthR, tokF, nthT, nthC, cutN, num4_dec (show u ≤ 999999999 by omega), hu]
      · have : few (-(u : Int)) = false := by simp [few]; omega
        simp [nthF, wholeF, dropB, blankV, nthR, tokF, nthT, nthC, cutN, num4_dec (show u ≤ 999999999 by omega), hu, this]
    · rw [if_neg hm, List.append_nil]
      have hb0 : b = 0 := by omega
      subst hb0
      refine ⟨_, nth_read0 h0 h1, ?_⟩
      rw [trim_num]
      simp [nthF, wholeF, dropB, blankV, nthR, tokF, nthT, plusR, signF]
end Wn
