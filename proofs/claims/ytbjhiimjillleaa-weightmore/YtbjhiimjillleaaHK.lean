/- The numbers of an nth, written, are read as they were, within bounds. A simple selector within a not: how its text is read. Plain mathematics. A selector of one simple selector, and the same within a not. Plain mathematics. A compound selector and a combinator ahead of a complex selector: how they are read. Plain mathematics. -/
import Derived.Test.YtbjhiimjillleaaHA
set_option linter.unusedVariables false
set_option linter.unusedSimpArgs false
set_option maxRecDepth 20000
namespace Wn
theorem whole_get {α : Type} {p : Fs → Option (α × Fs)} {f : Fs} {x : α} (h : wholeF p f = some x) : ∃ r, p (dropB f) = some (x, r) ∧ dropB r = .nil := by
  unfold wholeF at h
  split at h
  · rename_i y r e
    split at h
    · simp at h; subst h; exact ⟨r, e, by assumption⟩
    · cases h
  · cases h
theorem one_ok (t : Tok) (r : Fs) (hk : kindOf t = 1) (h : Ok 0 r) : Ok 0 (.cons 1 t .nil r) := by
  refine ⟨.inl ⟨rfl, rfl, hk, ?_⟩, h⟩
  unfold closes; simp [isBlk]
theorem kindOf_num (x : List UInt8) (n : Int) : kindOf (5, x, n) = 1 := by unfold kindOf; simp [dlm]
theorem kindOf_plus : kindOf (7, [43], 0) = 1 := by decide
theorem read_lex {s : List UInt8} {f : Fs} (h : lex s = flat f) (hok : Ok 0 f) (hd : depth f ≤ 60) : readF s = some f := by
  unfold readF; rw [h]; exact parse_flat hok hd
theorem lex_nil : lex [] = [] := rfl
theorem nth_readb {b : Int} (h0 : -999999999 ≤ b) (h1 : b ≤ 999999999) : readF (Go.Lib.itoa b) = some (.cons 1 (5, [], b) .nil .nil) := by
  refine read_lex ?_ (one_ok _ _ (kindOf_num _ _) trivial) (by simp [depth, isBlk])
  have := read_num (x := []) (R := []) h0 h1 (.inl rfl) (fun _ => by decide) (fun h => absurd rfl h)
  simpa [flat, lex_nil] using this
theorem isName_of {x : List UInt8} (h1 : nameBegins x = true) (h2 : runLen nameByte x = x.length) : IsName x := ⟨h1, h2⟩
theorem n_name : IsName [110] := isName_of (by decide) (by decide)
theorem nth_read0 {a : Int} (h0 : -999999999 ≤ a) (h1 : a ≤ 999999999) : readF (Go.Lib.itoa a ++ [110]) = some (.cons 1 (5, [110], a) .nil .nil) := by
  refine read_lex ?_ (one_ok _ _ (kindOf_num _ _) trivial) (by simp [depth, isBlk])
  have := read_num (x := [110]) (R := []) h0 h1 (.inr (.inr n_name)) (fun h => by simp at h) (fun _ _ => by decide)
  simpa [flat, lex_nil] using this
theorem nth_readp {a b : Int} (h0 : -999999999 ≤ a) (h1 : a ≤ 999999999) (h2 : -999999999 ≤ b) (h3 : b ≤ 999999999) :
    readF (Go.Lib.itoa a ++ [110] ++ 43 :: Go.Lib.itoa b) = some (.cons 1 (5, [110], a) .nil (.cons 1 (7, [43], 0) .nil (.cons 1 (5, [], b) .nil .nil))) := by
  refine read_lex ?_ (one_ok _ _ (kindOf_num _ _) (one_ok _ _ kindOf_plus (one_ok _ _ (kindOf_num _ _) trivial))) (by simp [depth, isBlk])
  have e1 := read_num (x := [110]) (R := 43 :: Go.Lib.itoa b) h0 h1 (.inr (.inr n_name)) (fun h => by simp at h) (fun _ _ => by rw [false_iff_not, nameByte_iff, nameStart_iff, digit_iff]; simp [hd])
  have e2 := read_delim (c := 43) (R := Go.Lib.itoa b) (by unfold DelimB; decide) (by decide) (fun h => by simp at h) (fun h => by simp at h) (fun h => by simp at h) (fun h => by simp at h)
  have e3 := read_num (x := []) (R := []) h2 h3 (.inl rfl) (fun _ => by decide) (fun h => absurd rfl h)
  rw [e1, e2]
  simpa [flat, lex_nil] using e3
theorem names_digits : ∀ {D : List UInt8}, Digits D → Names D
  | [], _ => rfl
  | b :: l, h => by
    have hb := h b (by simp)
    have ih := names_digits (D := l) (fun c hc => h c (by simp [hc]))
    unfold Names at ih ⊢
    rw [runLen_cons, if_pos (by rw [nameByte_iff, digit_iff]; right; left; simp [hd]; omega), ih]
    rfl
theorem ncut_name {D : List UInt8} (h : Digits D) : IsName (110 :: 45 :: D) := by
  constructor
  · unfold nameBegins nameStart; simp [hd]
  · have := names_digits h
    unfold Names at this ⊢
    rw [runLen_cons, if_pos (by rw [nameByte_iff, nameStart_iff]; left; simp [hd]), runLen_cons, if_pos (by rw [nameByte_iff]; right; right; simp [hd]), this]
    rfl
theorem dec_digits {u : Nat} (h : u ≤ 999999999) : Digits (Go.Lib.decDigits u) := decDigits_digits 8 u (by omega)
theorem nth_readm {a : Int} {u : Nat} (h0 : -999999999 ≤ a) (h1 : a ≤ 999999999) (hu : u ≤ 999999999) :
    readF (Go.Lib.itoa a ++ [110] ++ 45 :: Go.Lib.decDigits u) = some (.cons 1 (5, 110 :: 45 :: Go.Lib.decDigits u, a) .nil .nil) := by
  refine read_lex ?_ (one_ok _ _ (kindOf_num _ _) trivial) (by simp [depth, isBlk])
  have := read_num (x := 110 :: 45 :: Go.Lib.decDigits u) (R := []) h0 h1 (.inr (.inr (ncut_name (dec_digits hu)))) (fun h => by simp at h) (fun _ _ => by decide)
  simpa [flat, lex_nil] using this
theorem decN_app (l : List UInt8) (c : UInt8) : decN (l ++ [c]) = decN l * 10 + ((c.toNat : Int) - 48) := by simp [decN, List.foldl_append]
theorem decN_dec (u : Nat) : decN (Go.Lib.decDigits u) = (u : Int) := by
  induction u using Nat.strongRecOn with
  | _ u ih =>
    by_cases h : u < 10
    · rw [Go.Lib.decDigits, dif_pos h]
      have : (48 + u) % 256 = 48 + u := Nat.mod_eq_of_lt (by omega)
      simp [decN, this]
      omega
    · have hlt : u % 10 < 10 := Nat.mod_lt _ (by omega)
      have : (48 + u % 10) % 256 = 48 + u % 10 := Nat.mod_eq_of_lt (by omega)
      rw [Go.Lib.decDigits, dif_neg h, decN_app, ih (u / 10) (by omega)]
      simp [this]
      omega
theorem all_digB {D : List UInt8} (h : Digits D) : D.all digB = true := by
  rw [List.all_eq_true]
  intro c hc
  have := h c hc
  simp [digB, this]
theorem dec_len4 (u : Nat) : (Go.Lib.decDigits u).length ≤ 4 ↔ u ≤ 9999 := by
  rw [Go.Lib.decDigits_length]
  constructor
  · intro h
    have h1 := Go.Lib.lt_pow_nDigits u
    have h2 : 10 ^ Go.Lib.nDigits u ≤ 10 ^ 4 := Nat.pow_le_pow_right (by omega) h
    omega
  · intro h
    rw [Go.Lib.nDigits]
    split
    · omega
    · rw [Go.Lib.nDigits]
      split
      · omega
      · rw [Go.Lib.nDigits]
        split
        · omega
        · rw [Go.Lib.nDigits_small (by omega)]
          omega
theorem num4_dec {u : Nat} (h : u ≤ 999999999) : num4 (Go.Lib.decDigits u) = if u ≤ 9999 then some (u : Int) else none := by
  unfold num4
  have h1 : 1 ≤ (Go.Lib.decDigits u).length := List.length_pos_iff.2 (decDigits_ne u)
  by_cases hu : u ≤ 9999
  · rw [if_pos ⟨h1, (dec_len4 u).2 hu, all_digB (dec_digits h)⟩, if_pos hu, decN_dec]
  · rw [if_neg (fun hh => hu ((dec_len4 u).1 hh.2.1)), if_neg hu]
/-- the text of an nth -/
def nthTx (a b : Int) : List UInt8 := Go.Lib.itoa a ++ [110] ++ (if 0 < b then 43 :: Go.Lib.itoa b else if b < 0 then Go.Lib.itoa b else [])
theorem trim_num (x : List UInt8) (n : Int) : trimF (.cons 1 (5, x, n) .nil .nil) = .cons 1 (5, x, n) .nil .nil := by simp [trimF, dropB, rtrim, blankV]
theorem nthb_some {b : Int} (h0 : -999999999 ≤ b) (h1 : b ≤ 999999999) : ∃ f, readF (Go.Lib.itoa b) = some f ∧ nthF (trimF f) = if few b then some (0, b) else none := by
  refine ⟨_, nth_readb h0 h1, ?_⟩
  rw [trim_num]
  simp [nthF, wholeF, dropB, blankV, nthR, tokF, nthT]
  simp [few]
theorem nth_some {a b : Int} (h0 : -999999999 ≤ a) (h1 : a ≤ 999999999) (h2 : -999999999 ≤ b) (h3 : b ≤ 999999999) : ∃ f, readF (nthTx a b) = some f ∧ nthF (trimF f) = if few a && few b then some (a, b) else none := by
  unfold nthTx
  by_cases hp : 0 < b
  · rw [if_pos hp]
    refine ⟨_, nth_readp h0 h1 h2 h3, ?_⟩
    simp [trimF, rtrim, nthF, wholeF, dropB, blankV, nthR, tokF, nthT, plusR, signF, signV, dlm, show 0 ≤ b by omega]
  · rw [if_neg hp]
    by_cases hm : b < 0
    · rw [if_pos hm]
      obtain ⟨u, rfl⟩ : ∃ u : Nat, b = -(u : Int) := ⟨b.natAbs, by omega⟩
      rw [Go.Lib.itoa_neg u (by omega)]
      refine ⟨_, nth_readm h0 h1 (by omega), ?_⟩
      rw [trim_num]
      by_cases hu : u ≤ 9999
      · simp [nthF, wholeF, dropB, blankV, nthR, tokF, nthT, nthC, cutN, num4_dec (show u ≤ 999999999 by omega), hu]
      · have : few (-(u : Int)) = false := by simp [few]; omega
        simp [nthF, wholeF, dropB, blankV, nthR, tokF, nthT, nthC, cutN, num4_dec (show u ≤ 999999999 by omega), hu, this]
    · rw [if_neg hm, List.append_nil]
      have hb0 : b = 0 := by omega
      subst hb0
      refine ⟨_, nth_read0 h0 h1, ?_⟩
      rw [trim_num]
      simp [nthF, wholeF, dropB, blankV, nthR, tokF, nthT, plusR, signF]
end Wn
set_option linter.unusedVariables false
set_option linter.unusedSimpArgs false
set_option maxRecDepth 20000
namespace Wn
theorem head_not41 {v : List UInt8} (h : hd v = 41) : blank v = false ∧ nameByte v = false ∧ digit v = false ∧ nameStart v = false := by
  refine ⟨?_, ?_, ?_, ?_⟩ <;> rw [false_iff_not] <;> simp [blank_iff, nameByte_iff, nameStart_iff, digit_iff, h]
theorem follows_close (t : Tok) {R : List UInt8} (h : hd R = 41) : Follows t R := by
  obtain ⟨h1, h2, h3, h4⟩ := head_not41 h
  have h5 : nameBegins R = false := by
    unfold nameBegins; rw [if_neg (by simp [h]), h4]
  refine ⟨fun _ => ⟨h2, by omega⟩, fun _ => h2, fun _ => h2, fun _ _ => ⟨h3, by omega, h5⟩, fun _ _ _ => h2, fun _ _ => h2, fun _ _ => h5, fun _ _ => ⟨h3, h4, by omega⟩, fun _ _ => by omega, fun _ => h1⟩
theorem follows_texts_end (E : List UInt8) (hE : ∀ t, Follows t E) : ∀ (l : List Tok) (a : Tok), Valid a → (∀ t ∈ l, Valid t) → Follows a (texts (some a) l ++ E)
  | [], a, _, _ => hE a
  | b :: l, a, ha, hl => by
    rw [texts_some]
    cases hap : apart (oneText a ++ oneText b) a b
    · rw [if_neg (by decide), List.nil_append, text_cons, List.append_assoc]
      have hb := hl b (by simp)
      exact follows_app hb (follows_of_two ha hb (apart_false hap)) (follows_texts_end E hE l b hb (fun t ht => hl t (by simp [ht])))
    · rw [if_pos rfl]
      exact follows_slash a rfl
theorem lex_text_end (E : List UInt8) (hE : ∀ t, Follows t E) : ∀ l : List Tok, (∀ t ∈ l, Valid t) → lex (text l ++ E) = l ++ lex E
  | [], _ => rfl
  | a :: l, h => by
    have ha := h a (by simp)
    have hl : ∀ t ∈ l, Valid t := fun t ht => h t (by simp [ht])
    rw [text_cons, List.append_assoc, read_valid ha (follows_texts_end E hE l a ha hl), List.cons_append]
    congr 1
    have ih := lex_text_end E hE l hl
    cases l with
    | nil => rfl
    | cons b l =>
      rw [texts_some]
      cases hap : apart (oneText a ++ oneText b) a b
      · rw [if_neg (by decide), List.nil_append]; exact ih
      · rw [if_pos rfl, List.append_assoc, lex_comment (l := [47, 42, 42, 47] ++ (text (b :: l) ++ E)) rfl]
        exact ih
/-- what a reader takes is not deeper than this, and closes no bracket -/
def Eat (d : Nat) (f r : Fs) : Prop := depth f ≤ max d (depth r) ∧ (Ok 0 f → Ok 0 r ∧ (Ok 5 r → Ok 5 f))
theorem Eat.refl (f : Fs) : Eat 0 f f := ⟨by omega, fun h => ⟨h, id⟩⟩
theorem Eat.trans {d e : Nat} {f g r : Fs} (h : Eat d f g) (k : Eat e g r) : Eat (max d e) f r := by
  obtain ⟨h1, h2⟩ := h
  obtain ⟨k1, k2⟩ := k
  exact ⟨by omega, fun h0 => ⟨(k2 (h2 h0).1).1, fun h5 => (h2 h0).2 ((k2 (h2 h0).1).2 h5)⟩⟩
theorem Eat.mono {d e : Nat} {f r : Fs} (h : Eat d f r) (hd : d ≤ e) : Eat e f r := ⟨by have := h.1; omega, h.2⟩
theorem Eat.cons {t : Tok} {x r : Fs} (h : t ≠ dlm [41]) : Eat 0 (.cons 1 t x r) r := by
  refine ⟨by simp [depth, isBlk], fun ⟨h0, h1⟩ => ⟨h1, fun h5 => ?_⟩⟩
  rcases h0 with ⟨_, h2, h3, _⟩ | ⟨h2, _⟩
  · exact ⟨.inl ⟨rfl, h2, h3, by unfold closes; simp [closeB, h]⟩, h5⟩
  · simp [isBlk] at h2
theorem Eat.block {k : Int} {t : Tok} {x r : Fs} {d : Nat} (hk : isBlk k = true) (hx : depth x ≤ d) : Eat (1 + d) (.cons k t x r) r := by
  refine ⟨by simp [depth, hk]; omega, fun ⟨h0, h1⟩ => ⟨h1, fun h5 => ?_⟩⟩
  rcases h0 with ⟨h2, _⟩ | h2
  · subst h2; simp [isBlk] at hk
  · exact ⟨.inr h2, h5⟩
theorem Eat.drop : ∀ f : Fs, Eat 0 f (dropB f)
  | .nil => Eat.refl _
  | .cons k t x r => by
    rw [dropB]
    split
    · rename_i h
      obtain ⟨rfl, h8⟩ := blankV_iff.1 h
      exact (Eat.cons (by rintro rfl; simp [dlm] at h8)).trans (Eat.drop r)
    · exact Eat.refl _
theorem Eat.nil {d : Nat} {f r : Fs} (h : Eat d f r) (hr : dropB r = .nil) : depth f ≤ d ∧ (Ok 0 f → Ok 5 f) := by
  have := h.trans (Eat.drop r)
  rw [hr] at this
  exact ⟨by simpa [depth] using this.1, fun h0 => (this.2 h0).2 trivial⟩
theorem tok_eat {kind : Int} (hk : kind ≠ 7) {f : Fs} {p : Tok × Fs} (h : tokF kind f = some p) : Eat 0 f p.2 := by
  cases f with
  | nil => simp [tokF] at h
  | cons k t x r =>
    rw [tokF] at h
    split at h
    · rename_i hc
      obtain ⟨rfl, hc⟩ := hc
      cases h
      exact Eat.cons (by rintro rfl; simp [dlm] at hc; omega)
    · cases h
theorem sign_eat {s : List UInt8} (hs : s ≠ [41]) {f r : Fs} (h : signF s f = some r) : Eat 0 f r := by
  cases f with
  | nil => simp [signF] at h
  | cons k t x r' =>
    rw [signF] at h
    split at h
    · rename_i hc
      simp [signV] at hc
      obtain ⟨rfl, rfl⟩ := hc
      cases h
      exact Eat.cons (by intro e; simp [dlm] at e; exact hs e)
    · cases h
theorem val_eat {kind : Int} (hk : isBlk kind = true) {f : Fs} {p : (Tok × Fs) × Fs} {d : Nat} (h : valF kind f = some p) (hd : depth p.1.2 ≤ d) : Eat (1 + d) f p.2 := by
  cases f with
  | nil => simp [valF] at h
  | cons k t x r =>
    rw [valF] at h
    split at h
    · rename_i hc
      subst hc
      cases h
      exact Eat.block hk hd
    · cases h
theorem plus_eat {f : Fs} {p : Int × Fs} (h : plusR f = some p) : Eat 0 f p.2 := by
  unfold plusR at h
  split at h
  · cases h; exact Eat.refl _
  · rename_i r hr
    split at h
    · cases h
    · rename_i t r' ht
      split at h
      · cases h
        exact (sign_eat (by decide) hr).trans (tok_eat (p := (t, r')) (by decide) ht)
      · cases h
theorem nth_eat {f : Fs} {p : (Int × Int) × Fs} (h : nthR f = some p) : Eat 0 f p.2 := by
  unfold nthR at h
  split at h
  · rename_i q hq
    have e := tok_eat (by decide) hq
    unfold nthT at h
    split at h
    · cases h; exact e
    · split at h
      · cases hp : plusR q.2 with
        | none => rw [hp] at h; cases h
        | some m => rw [hp] at h; cases h; exact e.trans (plus_eat hp)
      · cases hc : nthC q.1.2.1 with
        | none => rw [hc] at h; cases h
        | some m => rw [hc] at h; cases h; exact e
  · split at h
    · cases h
    · rename_i q hq
      have e := tok_eat (by decide) hq
      cases hw : nthW q.1.2.1 with
      | none => rw [hw] at h; cases h
      | some m => rw [hw] at h; cases h; exact e
theorem nthF_depth {f : Fs} {p : Int × Int} (h : nthF f = some p) : depth f ≤ 0 := by
  unfold nthF at h
  cases hw : wholeF nthR f with
  | none => rw [hw] at h; cases h
  | some q =>
    obtain ⟨r, h1, h2⟩ := whole_get hw
    exact (((Eat.drop f).trans (nth_eat h1)).nil h2).1
theorem attr_eat {f : Fs} {p : Sm × Fs} (h : attrR f = some p) : Eat 0 f p.2 := by
  unfold attrR at h
  split at h
  · cases h
  · rename_i q hq
    have e := (tok_eat (by decide) hq).trans (Eat.drop q.2)
    split at h
    · cases h; exact e
    · rename_i r hr
      have e2 := (e.trans (sign_eat (by decide) hr)).trans (Eat.drop r)
      unfold attrV at h
      cases h6 : tokF 6 (dropB r) with
      | some m => rw [h6] at h; cases h; exact e2.trans (tok_eat (by decide) h6)
      | none =>
        rw [h6] at h
        cases h1 : tokF 1 (dropB r) with
        | none => simp [h1] at h
        | some m => simp [h1] at h; subst h; exact e2.trans (tok_eat (by decide) h1)
theorem attrF_depth {f : Fs} {x : Sm} (h : attrF f = some x) : depth f ≤ 0 := by
  obtain ⟨r, h1, h2⟩ := whole_get h
  exact (((Eat.drop f).trans (attr_eat h1)).nil h2).1
theorem colon_eat {nt : Fs → Option Sm} {d : Nat} (hnt : ∀ f x, nt f = some x → depth f ≤ d) {f : Fs} {p : Sm × Fs} (h : colonG nt f = some p) : Eat (1 + d) f p.2 := by
  unfold colonG at h
  cases hv : valF 5 f with
  | some q =>
    rw [hv] at h
    dsimp only at h
    cases hf : funcG nt q.1.1.2.1 q.1.2 with
    | none => rw [hf] at h; cases h
    | some y =>
      rw [hf] at h; cases h
      refine val_eat (by decide) hv ?_
      unfold funcG at hf
      split at hf
      · cases hn : nthF q.1.2 with
        | none => rw [hn] at hf; cases hf
        | some z => have := nthF_depth hn; omega
      · split at hf
        · cases hn : nt q.1.2 with
          | none => rw [hn] at hf; cases hf
          | some z => exact hnt _ _ hn
        · cases hf
  | none =>
    rw [hv] at h
    dsimp only at h
    cases ht : tokF 1 f with
    | none => rw [ht] at h; cases h
    | some q =>
      rw [ht] at h
      dsimp only at h
      cases hs : stateW q.1.2.1 with
      | none => rw [hs] at h; cases h
      | some y => rw [hs] at h; cases h; exact (tok_eat (by decide) ht).mono (by omega)
theorem later_eat {nt : Fs → Option Sm} {d : Nat} (hnt : ∀ f x, nt f = some x → depth f ≤ d) {f : Fs} {p : Sm × Fs} (h : laterG nt f = some (some p)) : Eat (1 + d) f p.2 := by
  unfold laterG at h
  cases h4 : tokF 4 f with
  | some q => rw [h4] at h; cases h; exact (tok_eat (by decide) h4).mono (by omega)
  | none =>
    rw [h4] at h
    dsimp only at h
    cases h46 : signF [46] f with
    | some r =>
      rw [h46] at h
      dsimp only at h
      cases h1 : tokF 1 r with
      | none => rw [h1] at h; cases h
      | some q => rw [h1] at h; cases h; exact ((sign_eat (by decide) h46).trans (tok_eat (by decide) h1)).mono (by omega)
    | none =>
      rw [h46] at h
      dsimp only at h
      cases h3 : valF 3 f with
      | some q =>
        rw [h3] at h
        dsimp only at h
        cases ha : attrF q.1.2 with
        | none => rw [ha] at h; cases h
        | some y => rw [ha] at h; cases h; exact (val_eat (by decide) h3 (attrF_depth ha)).mono (by omega)
      | none =>
        rw [h3] at h
        dsimp only at h
        cases h58 : signF [58] f with
        | none => rw [h58] at h; cases h
        | some r =>
          rw [h58] at h
          dsimp only at h
          cases hs : signF [58] r with
          | some _ => rw [hs] at h; cases h
          | none =>
            rw [hs] at h
            dsimp only at h
            cases hc : colonG nt r with
            | none => rw [hc] at h; cases h
            | some q => rw [hc] at h; cases h; exact ((sign_eat (by decide) h58).trans (colon_eat hnt hc)).mono (by omega)
theorem elem_eat {f : Fs} {p : Sm × Fs} (h : elemF f = some p) : Eat 0 f p.2 := by
  unfold elemF at h
  cases hs : signF [42] f with
  | some r => rw [hs] at h; cases h; exact sign_eat (by decide) hs
  | none =>
    rw [hs] at h
    dsimp only at h
    cases ht : tokF 1 f with
    | none => rw [ht] at h; cases h
    | some q => rw [ht] at h; cases h; exact tok_eat (by decide) ht
theorem simp_eat {nt : Fs → Option Sm} {d : Nat} (hnt : ∀ f x, nt f = some x → depth f ≤ d) {b : Bool} {f : Fs} {p : Sm × Fs} (h : simpG nt b f = some (some p)) : Eat (1 + d) f p.2 := by
  unfold simpG at h
  split at h
  · cases he : elemF f with
    | some q => rw [he] at h; cases h; exact (elem_eat he).mono (by omega)
    | none => rw [he] at h; exact later_eat hnt h
  · exact later_eat hnt h
theorem notR_some {f : Fs} {p : Sm × Fs} (h : notR f = some p) : simpG notNo true f = some (some p) := by
  unfold notR at h
  split at h
  · rename_i h1; cases h; exact h1
  · cases h
theorem inNot_depth : ∀ (f : Fs) (x : Sm), inNot f = some x → depth f ≤ 1 := fun f x h => by
  obtain ⟨r, h1, h2⟩ := whole_get h
  exact (((Eat.drop f).trans (simp_eat (d := 0) (nt := notNo) (fun _ _ h => by cases h) (notR_some h1))).nil h2).1
/-- with and without a not within -/
theorem colon_not {f : Fs} {p : Sm × Fs} (h : colonG inNot f = some p) : (p.1.k ≠ 11 → colonG notNo f = some p) ∧ (p.1.k = 11 → colonG notNo f = none) := by
  unfold colonG at h ⊢
  cases hv : valF 5 f with
  | some q =>
    rw [hv] at h
    dsimp only at h ⊢
    unfold funcG at h ⊢
    split at h
    · rename_i hn
      rw [if_pos hn]
      cases hn : nthF q.1.2 with
      | none => rw [hn] at h; cases h
      | some z => rw [hn] at h; cases h; exact ⟨fun _ => rfl, fun h => by simp at h⟩
    · rename_i hn
      rw [if_neg hn]
      split at h
      · rename_i hm
        rw [if_pos hm]
        cases hi : inNot q.1.2 with
        | none => rw [hi] at h; cases h
        | some z => rw [hi] at h; cases h; exact ⟨fun h => absurd rfl h, fun _ => rfl⟩
      · cases h
  | none =>
    rw [hv] at h
    dsimp only at h ⊢
    cases ht : tokF 1 f with
    | none => rw [ht] at h; cases h
    | some q =>
      rw [ht] at h
      dsimp only at h ⊢
      cases hs : stateW q.1.2.1 with
      | none => rw [hs] at h; cases h
      | some y =>
        rw [hs] at h; cases h
        refine ⟨fun _ => rfl, fun h => ?_⟩
        exfalso
        unfold stateW at hs
        split at hs
        · cases hs; simp [sBare] at h
        · split at hs
          · cases hs; simp [sBare] at h
          · split at hs
            · cases hs; simp at h
            · split at hs
              · cases hs; simp [sNam] at h
              · cases hs
theorem attrF_kind {f : Fs} {x : Sm} (h : attrF f = some x) : x.k ≠ 11 := by
  obtain ⟨r, h1, _⟩ := whole_get h
  unfold attrR at h1
  split at h1
  · cases h1
  · split at h1
    · cases h1; simp [sNam]
    · rename_i r' _
      cases hv : attrV (dropB r') with
      | none => rw [hv] at h1; cases h1
      | some q => rw [hv] at h1; cases h1; simp
theorem later_not {f : Fs} {p : Sm × Fs} (h : laterG inNot f = some (some p)) : (p.1.k ≠ 11 → laterG notNo f = some (some p)) ∧ (p.1.k = 11 → laterG notNo f = none) := by
  unfold laterG at h ⊢
  cases h4 : tokF 4 f with
  | some q => rw [h4] at h; cases h; exact ⟨fun _ => rfl, fun h => by simp [sNam] at h⟩
  | none =>
    rw [h4] at h
    dsimp only at h ⊢
    cases h46 : signF [46] f with
    | some r =>
      rw [h46] at h
      dsimp only at h ⊢
      cases h1 : tokF 1 r with
      | none => rw [h1] at h; cases h
      | some q => rw [h1] at h; cases h; exact ⟨fun _ => rfl, fun h => by simp [sNam] at h⟩
    | none =>
      rw [h46] at h
      dsimp only at h ⊢
      cases h3 : valF 3 f with
      | some q =>
        rw [h3] at h
        dsimp only at h ⊢
        cases ha : attrF q.1.2 with
        | none => rw [ha] at h; cases h
        | some y => rw [ha] at h; cases h; exact ⟨fun _ => rfl, fun h => absurd h (attrF_kind ha)⟩
      | none =>
        rw [h3] at h
        dsimp only at h ⊢
        cases h58 : signF [58] f with
        | none => rw [h58] at h; cases h
        | some r =>
          rw [h58] at h
          dsimp only at h ⊢
          cases hs : signF [58] r with
          | some _ => rw [hs] at h; cases h
          | none =>
            rw [hs] at h
            dsimp only at h ⊢
            cases hc : colonG inNot r with
            | none => rw [hc] at h; cases h
            | some q =>
              rw [hc] at h; cases h
              obtain ⟨c1, c2⟩ := colon_not hc
              exact ⟨fun hk => by rw [c1 hk]; rfl, fun hk => by rw [c2 hk]; rfl⟩
theorem simp_not {f : Fs} {p : Sm × Fs} (h : simpG inNot true f = some (some p)) : (p.1.k ≠ 11 → notR f = some p) ∧ (p.1.k = 11 → notR f = none) := by
  unfold notR
  unfold simpG at h ⊢
  rw [if_pos rfl] at h ⊢
  cases he : elemF f with
  | some q =>
    rw [he] at h; cases h
    refine ⟨fun _ => rfl, fun h => ?_⟩
    exfalso
    unfold elemF at he
    cases hs : signF [42] f with
    | some r => rw [hs] at he; cases he; simp [sBare] at h
    | none =>
      rw [hs] at he
      dsimp only at he
      cases ht : tokF 1 f with
      | none => rw [ht] at he; cases he
      | some q => rw [ht] at he; cases he; simp [sNam] at h
  | none =>
    rw [he] at h
    dsimp only at h ⊢
    obtain ⟨c1, c2⟩ := later_not h
    exact ⟨fun hk => by rw [c1 hk], fun hk => by rw [c2 hk]⟩
end Wn
set_option linter.unusedVariables false
set_option linter.unusedSimpArgs false
set_option maxRecDepth 20000
namespace Wn
theorem cuts_single {p : Int → Tok → Bool} : ∀ {f g : Fs}, cuts p f = [g] → g = f
  | .nil, g, h => by simp [cuts] at h; exact h.symm
  | .cons k t x r, g, h => by
    rw [cuts] at h
    split at h
    · simp at h; exact absurd h.2 (cuts_ne p r)
    · cases hc : cuts p r with
      | nil => exact absurd hc (cuts_ne p r)
      | cons a l =>
        rw [hc] at h
        simp at h
        obtain ⟨rfl, rfl⟩ := h
        rw [cuts_single hc]
theorem selsF_self {f : Fs} (hc : cuts (signV [44]) f = [f]) : selsF f = (cplxF f).map fun c => [c] := by
  unfold selsF
  rw [hc, if_pos (by simp)]
  simp only [allF]
  cases cplxF f <;> rfl
theorem allF_length {α : Type} {p : Fs → Option α} : ∀ {l : List Fs} {m : List α}, allF p l = some m → m.length = l.length
  | [], m, h => by simp [allF] at h; subst h; rfl
  | f :: l, m, h => by
    rw [allF] at h
    cases hp : p f with
    | none => rw [hp] at h; cases h
    | some x =>
      rw [hp] at h
      dsimp only at h
      cases ha : allF p l with
      | none => rw [ha] at h; cases h
      | some y => rw [ha] at h; cases h; simp [allF_length ha]
theorem sels_one {f : Fs} {c : Cx} (h : selsF f = some [c]) : cplxF f = some c ∧ cuts (signV [44]) f = [f] := by
  have h0 := h
  unfold selsF at h
  split at h
  · have hl := allF_length h
    obtain ⟨g, hg⟩ := List.length_eq_one_iff.1 hl.symm
    have := cuts_single hg
    subst this
    rw [selsF_self hg] at h0
    cases hc : cplxF g with
    | none => rw [hc] at h0; cases h0
    | some y => rw [hc] at h0; simp at h0; exact ⟨by rw [h0], hg⟩
  · cases h
theorem comp_nil {n : Nat} {b : Bool} {f r : Fs} (h : compR n b f = some ([], r)) : simpR b f = some none ∧ r = f := by
  unfold compR at h
  split at h
  · cases h
  · rename_i hs; cases h; exact ⟨hs, rfl⟩
  · rename_i p hp
    split at h
    · cases h
    · rename_i m
      cases hc : compR m false p.2 with
      | none => rw [hc] at h; cases h
      | some q => rw [hc] at h; simp at h
theorem comp_one {n : Nat} {b : Bool} {f r : Fs} {x : Sm} (h : compR n b f = some ([x], r)) : simpR b f = some (some (x, r)) ∧ simpR false r = some none := by
  unfold compR at h
  split at h
  · cases h
  · cases h
  · rename_i p hp
    split at h
    · cases h
    · rename_i m
      cases hc : compR m false p.2 with
      | none => rw [hc] at h; cases h
      | some q =>
        rw [hc] at h
        simp at h
        obtain ⟨⟨rfl, h2⟩, h3⟩ := h
        obtain ⟨l, r'⟩ := q
        dsimp only at h2 h3
        subst h2 h3
        obtain ⟨h4, h5⟩ := comp_nil hc
        subst h5
        exact ⟨hp, h4⟩
theorem pseudo_nil {f r : Fs} (h : pseudoR f = some ([], r)) : r = f := by
  unfold pseudoR at h
  split at h
  · cases h; rfl
  · split at h
    · cases h; rfl
    · split at h
      · cases h
      · rename_i p _
        split at h
        · rename_i hp
          simp at h
          rw [h.1] at hp
          simp [isPseudo] at hp
        · cases h
theorem comb_zero {f : Fs} {q : Int × Fs} (h : combR f = some q) (h0 : q.1 = 0) : dropB f = .nil := by
  unfold combR at h
  split at h
  · assumption
  · split at h
    · rename_i p hp
      cases h
      unfold combS at hp
      split at hp
      · cases hp; cases h0
      · split at hp
        · cases hp; cases h0
        · split at hp
          · cases hp; cases h0
          · cases hp
    · split at h
      · cases h; cases h0
      · cases h
theorem cplxR_ne : ∀ {n : Nat} {c : Int} {f : Fs} {p : Cx × Fs}, cplxR n c f = some p → ∃ l m, p.1.1 = (c, l) :: m
  | 0, c, f, p, h => by simp [cplxR] at h
  | n + 1, c, f, p, h => by
    rw [cplxR] at h
    split at h
    · cases h
    · rename_i q _
      split at h
      · cases h; exact ⟨_, _, rfl⟩
      · split at h
        · cases h
        · rename_i m _
          split at h
          · cases h; exact ⟨_, _, rfl⟩
          · cases hc : cplxR n m.1 m.2 with
            | none => rw [hc] at h; cases h
            | some z => rw [hc] at h; cases h; exact ⟨_, _, rfl⟩
theorem cplx_lone {n : Nat} {c0 c : Int} {g r' : Fs} {x : Sm} (h : cplxR (n + 1) c0 g = some (([(c, [x])], []), r')) : c = c0 ∧ ∃ r, simpG inNot true g = some (some (x, r)) ∧ dropB r = .nil := by
  rw [cplxR] at h
  split at h
  · cases h
  · rename_i q hq
    split at h
    · rename_i hne
      simp only [Option.some.injEq, Prod.mk.injEq] at h
      exact absurd h.1.2 hne
    · rename_i hps
      have hps : q.1.2 = [] := by simpa using hps
      split at h
      · cases h
      · rename_i m hm
        split at h
        · rename_i h0
          simp only [Option.some.injEq, Prod.mk.injEq, List.cons.injEq, and_true] at h
          obtain ⟨⟨h1, h2⟩, h3⟩ := h
          refine ⟨h1.symm, ?_⟩
          have hd := comb_zero hm h0
          unfold partR at hq
          split at hq
          · cases hq
          · rename_i cp hcp
            split at hq
            · cases hq
            · rename_i ps hpseudo
              split at hq
              · cases hq
              · cases hq
                dsimp only at h2 hps hd
                obtain ⟨pl, pr⟩ := ps
                dsimp only at hps hd hpseudo
                subst hps
                have := pseudo_nil hpseudo
                subst this
                obtain ⟨cl, cr⟩ := cp
                dsimp only at h2 hd hcp
                subst h2
                exact ⟨_, (comp_one hcp).1, hd⟩
        · exfalso
          cases hc : cplxR n m.1 m.2 with
          | none => rw [hc] at h; cases h
          | some z =>
            rw [hc] at h
            obtain ⟨l, mm, he⟩ := cplxR_ne hc
            simp [he] at h
theorem sels_lone {f : Fs} {c : Int} {x : Sm} (h : selsF f = some [([(c, [x])], [])]) : c = 0 ∧ ∃ r, simpG inNot true (dropB f) = some (some (x, r)) ∧ dropB r = .nil := by
  obtain ⟨h1, _⟩ := sels_one h
  obtain ⟨r', h2, _⟩ := whole_get h1
  exact cplx_lone h2
/-- a not of values -/
def notV (f : Fs) : Fs := .cons 1 (dlm [58]) .nil (.cons 5 (2, [110, 111, 116], 0) f .nil)
theorem notV_trim (f : Fs) : trimF (notV f) = notV f := by simp [notV, trimF, dropB, rtrim, blankV, dlm]
theorem sels_notV (f : Fs) : selsF (notV f) = (inNot f).map fun y => [([(0, [⟨11, [], [], 0, 0, y.on .nil⟩])], [])] := by
  have hcut : cuts (signV [44]) (notV f) = [notV f] := by simp [notV, cuts, signV, dlm]
  have hs : simpR true (notV f) = (inNot f).map fun y => some (⟨11, [], [], 0, 0, y.on .nil⟩, .nil) := by
    simp only [simpR, simpG, elemF, laterG, notV, signF, signV, tokF, valF, dlm, colonG, funcG]
    cases hi : inNot f <;> simp [hi]
  have hd : dropB (notV f) = notV f := by simp [notV, dropB, blankV, dlm]
  rw [selsF_self hcut]
  unfold cplxF wholeF
  rw [hd, show (16 : Nat) = 15 + 1 from rfl, cplxR]
  unfold partR compR
  rw [hs]
  cases inNot f with
  | none => rfl
  | some y =>
    dsimp only [Option.map]
    rw [show compR 7 false .nil = some ([], .nil) from rfl]
    rfl
theorem read_notV {f : Fs} (hm : mayF f = true) (hd : depth f ≤ 59) (h5 : Ok 5 f) : readF ([58, 110, 111, 116, 40] ++ (textF f ++ [41])) = some (notV f) := by
  refine read_lex ?_ ⟨.inl ⟨rfl, rfl, by decide, by decide⟩, ⟨.inr ⟨by decide, by rfl, by rfl, h5⟩, trivial⟩⟩ ?_
  · have e1 := read_delim (c := 58) (R := [110, 111, 116, 40] ++ (textF f ++ [41])) (by unfold DelimB; decide) (by decide) (fun h => by simp at h) (fun h => by simp at h) (fun h => by simp at h) (fun h => by simp at h)
    have e2 := read_func (x := [110, 111, 116]) (isName_of (by decide) (by decide)) (textF f ++ [41])
    have e3 : lex (textF f ++ [41]) = flat f ++ lex [41] := lex_text_end [41] (fun t => follows_close t rfl) _ (all_valid (mayF_all hm))
    have e4 : lex [41] = [dlm [41]] := by decide
    have e1' : lex ([58, 110, 111, 116, 40] ++ (textF f ++ [41])) = _ := e1
    have e2' : lex ([110, 111, 116, 40] ++ (textF f ++ [41])) = _ := e2
    rw [e1', e2', e3, e4]
    simp [notV, flat, dlm, isBlk, opening, closeB]
  · simp [notV, depth, isBlk]; omega
/-- what is read of a not around the text of a lone simple selector -/
theorem not_around {s : List UInt8} {f0 : Fs} {c : Int} {x : Sm} (hr : readF s = some f0) (h : selsF (trimF f0) = some [([(c, [x])], [])]) :
    selsRead ([58, 110, 111, 116, 40] ++ (textF (trimF f0) ++ [41])) = if x.k = 11 then none else some [([(0, [⟨11, [], [], 0, 0, x.on .nil⟩])], [])] := by
  have hm := may_trim (may_read hr)
  obtain ⟨_, r, h1, h2⟩ := sels_lone h
  have he := ((Eat.drop (trimF f0)).trans (simp_eat inNot_depth h1)).nil h2
  have hok : Ok 0 (trimF f0) := by
    obtain ⟨l', hl⟩ := parse_some (mayF_parse hm)
    exact valsL_ok hl
  have hrd := read_notV hm (by have := he.1; simp at this; omega) (he.2 hok)
  unfold selsRead
  rw [hrd]
  dsimp only
  rw [notV_trim, sels_notV]
  obtain ⟨c1, c2⟩ := simp_not h1
  unfold inNot wholeF
  by_cases hk : x.k = 11
  · rw [if_pos hk, c2 hk]; rfl
  · rw [if_neg hk, c1 hk]; dsimp only; rw [if_pos h2]; rfl
end Wn
set_option linter.unusedVariables false
set_option linter.unusedSimpArgs false
set_option maxRecDepth 20000
namespace Wn
def setHead (c : Int) : List (Int × List Sm) → List (Int × List Sm)
  | [] => []
  | p :: l => (c, p.2) :: l
theorem cplxR_comb (n : Nat) (c c' : Int) (f : Fs) : cplxR n c' f = (cplxR n c f).map fun p => ((setHead c' p.1.1, p.1.2), p.2) := by
  cases n with
  | zero => rfl
  | succ n =>
    rw [cplxR, cplxR]
    cases partR f with
    | none => rfl
    | some p =>
      dsimp only
      split
      · rfl
      · cases combR p.2 with
        | none => rfl
        | some q =>
          dsimp only
          split
          · rfl
          · cases cplxR n q.1 q.2 <;> rfl
theorem cplxR_fuel : ∀ {n : Nat} {c : Int} {f : Fs} {p : Cx × Fs}, cplxR (n + 1) c f = some p → p.1.1.length ≤ n + 1 ∧ cplxR n c f = if p.1.1.length ≤ n then some p else none
  | 0, c, f, p, h => by
    obtain ⟨l, m, he⟩ := cplxR_ne h
    rw [cplxR] at h
    rw [cplxR]
    split at h
    · cases h
    · split at h
      · cases h; simp
      · split at h
        · cases h
        · split at h
          · cases h; simp
          · simp [cplxR] at h
  | n + 1, c, f, p, h => by
    rw [cplxR] at h
    rw [cplxR]
    cases hp : partR f with
    | none => rw [hp] at h; cases h
    | some q =>
      rw [hp] at h
      dsimp only at h ⊢
      split at h
      · rename_i hq
        rw [if_pos hq]
        cases h
        simp
      · rename_i hq
        rw [if_neg hq]
        cases hm : combR q.2 with
        | none => rw [hm] at h; cases h
        | some m =>
          rw [hm] at h
          dsimp only at h ⊢
          split at h
          · rename_i h0
            rw [if_pos h0]
            cases h
            simp
          · rename_i h0
            rw [if_neg h0]
            cases hc : cplxR (n + 1) m.1 m.2 with
            | none => rw [hc] at h; cases h
            | some z =>
              rw [hc] at h
              cases h
              obtain ⟨k1, k2⟩ := cplxR_fuel hc
              rw [k2]
              refine ⟨by simpa using k1, ?_⟩
              by_cases hl : z.1.1.length ≤ n
              · rw [if_pos hl]
                simp [hl]
              · rw [if_neg hl]
                simp [hl]
theorem sign_some {s : List UInt8} {f r : Fs} (h : signF s f = some r) : ∃ x, f = .cons 1 (dlm s) x r := by
  cases f with
  | nil => simp [signF] at h
  | cons k t x r' =>
    rw [signF] at h
    split at h
    · rename_i hc
      simp [signV] at hc
      obtain ⟨rfl, rfl⟩ := hc
      cases h
      exact ⟨x, rfl⟩
    · cases h
/-- a sign that begins no part -/
theorem sign_no_part {b : UInt8} (hb : b = 62 ∨ b = 43 ∨ b = 126) (x r : Fs) : partR (.cons 1 (dlm [b]) x r) = none := by
  rcases hb with rfl | rfl | rfl <;> simp [partR, compR, simpR, simpG, elemF, laterG, signF, signV, tokF, valF, dlm, pseudoR]
theorem cplxR_noSign {n : Nat} {c : Int} {f : Fs} {p : Cx × Fs} (h : cplxR (n + 1) c f = some p) : combS f = none := by
  have hp : partR f ≠ none := by
    intro e
    rw [cplxR, e] at h; cases h
  cases hc : combS f with
  | none => rfl
  | some q =>
    exfalso
    apply hp
    unfold combS at hc
    cases h1 : signF [62] f with
    | some r => obtain ⟨x, rfl⟩ := sign_some h1; exact sign_no_part (.inl rfl) x r
    | none =>
      rw [h1] at hc
      dsimp only at hc
      cases h2 : signF [43] f with
      | some r => obtain ⟨x, rfl⟩ := sign_some h2; exact sign_no_part (.inr (.inl rfl)) x r
      | none =>
        rw [h2] at hc
        dsimp only at hc
        cases h3 : signF [126] f with
        | some r => obtain ⟨x, rfl⟩ := sign_some h3; exact sign_no_part (.inr (.inr rfl)) x r
        | none => rw [h3] at hc; cases hc
/-- a.b ahead of values -/
def abV (X : Fs) : Fs := .cons 1 (1, [97], 0) .nil (.cons 1 (dlm [46]) .nil (.cons 1 (1, [98], 0) .nil X))
def abL : List Sm := [sNam 2 [97], sNam 4 [98]]
/-- what begins neither a simple selector nor a pseudo-element -/
def Stops (X : Fs) : Prop := simpR false X = some none ∧ signF [58] X = none
theorem part_ab {X : Fs} (h : Stops X) : partR (abV X) = some ((abL, []), X) := by
  have h1 : simpR true (abV X) = some (some (sNam 2 [97], .cons 1 (dlm [46]) .nil (.cons 1 (1, [98], 0) .nil X))) := by
    simp [simpR, simpG, elemF, abV, signF, signV, tokF, dlm, low, lowB]
  have h2 : simpR false (.cons 1 (dlm [46]) .nil (.cons 1 (1, [98], 0) .nil X)) = some (some (sNam 4 [98], X)) := by
    simp [simpR, simpG, laterG, signF, signV, tokF, dlm]
  have h3 : compR 8 true (abV X) = some (abL, X) := by
    rw [compR, h1]; dsimp only; rw [compR, h2]; dsimp only; rw [compR, h.1]; rfl
  unfold partR
  rw [h3]
  dsimp only
  unfold pseudoR
  rw [h.2]
  rfl
theorem sign_stops {b : UInt8} (hb : b = 62 ∨ b = 43 ∨ b = 126) (x r : Fs) : Stops (.cons 1 (dlm [b]) x r) := by
  rcases hb with rfl | rfl | rfl <;> simp [Stops, simpR, simpG, laterG, signF, signV, tokF, valF, dlm]
theorem blank_stops {f : Fs} (h : headB f = true) : Stops f := by
  cases f with
  | nil => simp [headB] at h
  | cons k t x r =>
    obtain ⟨rfl, h8⟩ := blankV_iff.1 (show blankV k t = true from h)
    have hs : ∀ s, signF s (.cons 1 t x r) = none := fun s => by
      simp [signF, signV]; rintro rfl; simp [dlm] at h8
    unfold Stops simpR simpG laterG
    rw [hs, hs]
    simp [tokF, valF, h8]
/-- how X goes on behind a.b: a combinator, and then f -/
theorem cplx_ab {X f : Fs} {comb : Int} (hs : Stops X) (hc : combR X = some (comb, f)) (h0 : comb ≠ 0) (n : Nat) :
    cplxR (n + 1) 0 (abV X) = (cplxR n comb f).map fun c => (((0, abL) :: c.1.1, c.1.2), c.2) := by
  rw [cplxR, part_ab hs]
  dsimp only
  rw [if_neg (by simp), hc]
  dsimp only
  rw [if_neg h0]
theorem comb_sign {b : UInt8} {comb : Int} (hb : (b = 62 ∧ comb = 2) ∨ (b = 43 ∧ comb = 3) ∨ (b = 126 ∧ comb = 4)) (x r : Fs) : combR (.cons 1 (dlm [b]) x r) = some (comb, dropB r) := by
  rcases hb with ⟨rfl, rfl⟩ | ⟨rfl, rfl⟩ | ⟨rfl, rfl⟩ <;> simp [combR, dropB, blankV, dlm, combS, signF, signV]
theorem comb_blank {X : Fs} (hb : headB X = true) (hn : dropB X ≠ .nil) (hs : combS (dropB X) = none) : combR X = some (1, dropB X) := by
  unfold combR
  rw [if_neg hn, hs]
  dsimp only
  rw [if_pos ((dropB_lt X).2 hb)]
theorem noneF_drop {f : Fs} (h : noneF (signV [44]) (dropB f)) : noneF (signV [44]) f := by
  induction f with
  | nil => exact h
  | cons k t x r _ ih =>
    rw [dropB] at h
    split at h
    · rename_i hb
      obtain ⟨rfl, h8⟩ := blankV_iff.1 hb
      exact ⟨by simp [signV]; rintro rfl; simp [dlm] at h8, ih h⟩
    · exact h
/-- the lone selector f, and a.b and a combinator ahead of it -/
theorem sels_ab {X f : Fs} {comb : Int} {c : Cx} (hs : Stops X) (hc : combR X = some (comb, f)) (h0 : comb ≠ 0) (hX : noneF (signV [44]) X) (hf : dropB f = f) (hsel : selsF f = some [c]) :
    selsF (abV X) = if 16 ≤ c.1.length then none else some [((0, abL) :: setHead comb c.1, c.2)] := by
  obtain ⟨h1, _⟩ := sels_one hsel
  obtain ⟨r, h2, h3⟩ := whole_get h1
  rw [hf] at h2
  obtain ⟨k1, k2⟩ := cplxR_fuel h2
  have hcut : cuts (signV [44]) (abV X) = [abV X] := cuts_self ⟨by decide, by decide, by decide, hX⟩
  have hd : dropB (abV X) = abV X := by simp [abV, dropB, blankV]
  rw [selsF_self hcut]
  unfold cplxF wholeF
  rw [hd, show (16 : Nat) = 15 + 1 from rfl, cplx_ab hs hc h0, cplxR_comb 15 0 comb, k2]
  dsimp only at k1 k2 ⊢
  by_cases hl : c.1.length ≤ 15
  · rw [if_pos hl, if_neg (by omega)]
    dsimp only [Option.map]
    rw [if_pos h3]
  · rw [if_neg hl, if_pos (by omega)]
    rfl
theorem rtrim_abV {X : Fs} : trimF (abV X) = abV (rtrim X) := by
  unfold trimF
  rw [show dropB (abV X) = abV X by simp [abV, dropB, blankV]]
  unfold abV
  rw [rtrim_tok _ _ (by decide), rtrim_tok _ _ (by decide), rtrim_tok _ _ (by decide)]
theorem ab_flat (X : Fs) : flat (abV X) = (1, [97], 0) :: dlm [46] :: (1, [98], 0) :: flat X := by simp [abV, flat]
theorem lex_ab {b : UInt8} (hb : b = 32 ∨ b = 62 ∨ b = 43 ∨ b = 126) (s : List UInt8) : lex ([97, 46, 98] ++ b :: s) = (1, [97], 0) :: dlm [46] :: (1, [98], 0) :: lex (b :: s) := by
  have e1 := read_ident (x := [97]) (isName_of (by decide) (by decide)) (R := 46 :: 98 :: b :: s) (by rw [false_iff_not, nameByte_iff, nameStart_iff, digit_iff]; simp [hd]) (by simp [hd])
  have e2 := read_delim (c := 46) (R := 98 :: b :: s) (by unfold DelimB; decide) (by decide) (fun h => by simp at h) (fun h => by simp at h) (fun h => by simp at h) (fun h => by simp at h)
  have e3 := read_ident (x := [98]) (isName_of (by decide) (by decide)) (R := b :: s) (by rw [false_iff_not, nameByte_iff, nameStart_iff, digit_iff]; rcases hb with rfl | rfl | rfl | rfl <;> simp [hd]) (by rcases hb with rfl | rfl | rfl | rfl <;> simp [hd])
  have e1' : lex ([97, 46, 98] ++ b :: s) = _ := e1
  have e3' : lex (98 :: b :: s) = _ := e3
  rw [e1', e2, e3']
  rfl
theorem lex_sign {b : UInt8} (hb : b = 62 ∨ b = 43 ∨ b = 126) (s : List UInt8) : lex (b :: s) = dlm [b] :: lex s := by
  refine read_delim ?_ ?_ ?_ ?_ ?_ ?_ <;> rcases hb with rfl | rfl | rfl
  all_goals first | (unfold DelimB; decide) | decide | (intro h; simp at h)
theorem lex_space (s : List UInt8) : lex (32 :: s) = if blank s then lex s else (8, [10], 0) :: lex s := by
  have hb : blank (32 :: s) = true := by rw [blank_iff]; simp [hd]
  have h1 : one (32 :: s) = ((8, [10], 0), runLen blank s + 1) := by
    unfold one; rw [if_pos hb, runLen_cons, if_pos hb]
  rw [lex_step (by simp) (commentBegins_head (by simp [hd])) h1, List.drop_succ_cons]
  split
  · rename_i h
    have hne : s ≠ [] := by rintro rfl; simp [blank, hd, lineEnd] at h
    have h2 : one s = ((8, [10], 0), runLen blank s) := by unfold one; rw [if_pos h]
    rw [lex_step hne (commentBegins_head (by rw [blank_iff] at h; omega)) h2]
  · rename_i h
    rw [runLen_no (by simpa using h)]; rfl
/-- what is read of a.b, a combinator and the text of a lone complex selector -/
theorem ahead_read {s : List UInt8} {b : UInt8} {comb : Int} {c : Cx} (hb : (b = 32 ∧ comb = 1) ∨ (b = 62 ∧ comb = 2) ∨ (b = 43 ∧ comb = 3) ∨ (b = 126 ∧ comb = 4)) (h : selsRead s = some [c]) :
    selsRead ([97, 46, 98] ++ b :: s) = if 16 ≤ c.1.length then none else some [((0, abL) :: setHead comb c.1, c.2)] := by
  unfold selsRead at h
  cases hr : readF s with
  | none => rw [hr] at h; cases h
  | some f0 =>
    rw [hr] at h
    dsimp only at h
    have hdd : dropB (trimF f0) = trimF f0 := by
      unfold trimF
      rw [dropB_rtrim]
      congr 1
      refine dropB_self fun k t x r e => blank_head e
    have hdr : dropB (rtrim f0) = trimF f0 := dropB_rtrim f0
    obtain ⟨h1, h2⟩ := sels_one h
    have hnone : noneF (signV [44]) (trimF f0) := cuts_none _ _ _ (by rw [h2]; simp)
    have hnone0 : noneF (signV [44]) (rtrim f0) := noneF_drop (by rw [hdr]; exact hnone)
    have hne : trimF f0 ≠ .nil := by
      intro e; rw [e, show selsF .nil = none by decide] at h; cases h
    have hns : combS (trimF f0) = none := by
      obtain ⟨r, h3, _⟩ := whole_get h1
      rw [hdd] at h3
      exact cplxR_noSign h3
    -- what X is
    have key : ∃ X, readF ([97, 46, 98] ++ b :: s) = some (abV X) ∧ Stops (rtrim X) ∧ combR (rtrim X) = some (comb, trimF f0) ∧ comb ≠ 0 ∧ noneF (signV [44]) (rtrim X) := by
      have hab : ∀ g : Fs, Ok 0 (abV .nil) := fun _ => one_ok _ _ (by decide) (one_ok _ _ (by decide) (one_ok _ _ (by decide) trivial))
      have lift : ∀ g : Fs, Ok 0 g → depth g ≤ 60 → lex (b :: s) = flat g ++ lex s → readF ([97, 46, 98] ++ b :: s) = some (abV (g.app f0)) := by
        intro g hg hdg hl
        unfold readF at hr ⊢
        rw [lex_ab (by rcases hb with ⟨h, _⟩ | ⟨h, _⟩ | ⟨h, _⟩ | ⟨h, _⟩ <;> simp [h]) s, hl]
        have := parse_both (f := abV g) (b := lex s) (n := 60) (one_ok _ _ (by decide) (one_ok _ _ (by decide) (one_ok _ _ (by decide) hg))) (by simp [abV, depth, isBlk]; exact hdg) hr
        rw [ab_flat] at this
        exact this
      rcases hb with ⟨rfl, rfl⟩ | hb
      · by_cases hbl : blank s = true
        · refine ⟨f0, by simpa [Fs.app] using lift .nil trivial (by simp [depth]) (by rw [lex_space, if_pos hbl]; simp [flat]), ?_⟩
          have hh : headB f0 = true := by
            have hne' : s ≠ [] := by rintro rfl; simp [blank, hd, lineEnd] at hbl
            have h2 : one s = ((8, [10], 0), runLen blank s) := by unfold one; rw [if_pos hbl]
            have e := lex_step hne' (commentBegins_head (by rw [blank_iff] at hbl; omega)) h2
            have hp := parse_prefix (l := lex s) (n := 60) hr
            rw [e] at hp
            obtain ⟨tl, htl⟩ := hp
            have hok : Ok 0 f0 := by obtain ⟨l', hl⟩ := parse_some (l := lex s) (n := 60) hr; exact valsL_ok hl
            cases f0 with
            | nil => simp [flat] at htl
            | cons k t x r =>
              obtain ⟨hk, _⟩ := hok
              rcases hk with ⟨rfl, rfl, _⟩ | ⟨hk, ht, hko, _⟩
              · simp [flat] at htl
                show blankV 1 t = true
                rw [← htl.1]; rfl
              · exfalso
                rw [flat_block t x r hk] at htl
                simp at htl
                rw [← htl.1] at hko
                have : kindOf (8, [10], 0) = 1 := by decide
                rw [this] at hko
                exact blk_ne hk hko.symm
          have hh' : headB (rtrim f0) = true := by
            rw [headB_rtrim]
            · exact hh
            · intro e
              apply hne
              unfold trimF; rw [e]; rfl
          exact ⟨blank_stops hh', by rw [comb_blank hh' (by rw [hdr]; exact hne) (by rw [hdr]; exact hns), hdr], by decide, hnone0⟩
        · refine ⟨.cons 1 (8, [10], 0) .nil f0, by simpa [Fs.app] using lift (.cons 1 (8, [10], 0) .nil .nil) (one_ok _ _ (by decide) trivial) (by simp [depth, isBlk]) (by rw [lex_space, if_neg hbl]; simp [flat]), ?_⟩
          have hrt : rtrim (.cons 1 (8, [10], 0) .nil f0) = .cons 1 (8, [10], 0) .nil (rtrim f0) := by
            rw [rtrim_blank _ _ (by decide), if_neg]
            intro e
            rw [rtrim_nil] at e
            apply hne; unfold trimF; rw [e]; rfl
          rw [hrt]
          have hd1 : dropB (.cons 1 (8, [10], 0) .nil (rtrim f0)) = trimF f0 := by rw [dropB, if_pos (by decide), hdr]
          exact ⟨blank_stops (by rfl), by rw [comb_blank (by rfl) (by rw [hd1]; exact hne) (by rw [hd1]; exact hns), hd1], by decide, ⟨by decide, hnone0⟩⟩
      · have hb' : b = 62 ∨ b = 43 ∨ b = 126 := by rcases hb with ⟨h, _⟩ | ⟨h, _⟩ | ⟨h, _⟩ <;> simp [h]
        have hk1 : kindOf (dlm [b]) = 1 := by rcases hb' with rfl | rfl | rfl <;> decide
        refine ⟨.cons 1 (dlm [b]) .nil f0, by simpa [Fs.app] using lift (.cons 1 (dlm [b]) .nil .nil) (one_ok _ _ hk1 trivial) (by simp [depth, isBlk]) (by rw [lex_sign hb']; simp [flat]), ?_⟩
        rw [rtrim_tok _ _ (by simp [dlm])]
        refine ⟨sign_stops hb' _ _, by rw [comb_sign hb, hdr], ?_, ?_, hnone0⟩
        · rcases hb with ⟨_, h⟩ | ⟨_, h⟩ | ⟨_, h⟩ <;> simp [h]
        · rcases hb' with rfl | rfl | rfl <;> decide
    obtain ⟨X, k1, k2, k3, k4, k5⟩ := key
    unfold selsRead
    rw [k1]
    dsimp only
    rw [rtrim_abV]
    exact sels_ab k2 k3 k4 k5 hdd h
end Wn
