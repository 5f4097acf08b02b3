/- Tokens of two texts, one behind the other: plain mathematics. -/
import Derived.Test.YtnkdppbpcinjhaaDoorTokM
set_option maxRecDepth 20000
namespace Wn
theorem hd_app {p : List UInt8} (h : p ≠ []) (v : List UInt8) : hd (p ++ v) = hd p := by
  cases p with
  | nil => exact absurd rfl h
  | cons b p => rfl
/-- a look that asks for the head alone -/
def HeadOnly (f : List UInt8 → Bool) : Prop := ∀ (b : UInt8) (l m : List UInt8), f (b :: l) = f (b :: m)
theorem ho_blank : HeadOnly blank := fun _ _ _ => rfl
theorem ho_name : HeadOnly nameByte := fun _ _ _ => rfl
theorem ho_digit : HeadOnly digit := fun _ _ _ => rfl
theorem ho_start : HeadOnly nameStart := fun _ _ _ => rfl
theorem ho_line : HeadOnly lineEnd := fun _ _ _ => rfl
theorem ho_quote : HeadOnly quote := fun _ _ _ => rfl
theorem HeadOnly.app {f : List UInt8 → Bool} (hf : HeadOnly f) {p : List UInt8} (h : p ≠ []) (v : List UInt8) : f (p ++ v) = f p := by
  cases p with
  | nil => exact absurd rfl h
  | cons b p => exact hf b _ _
theorem run_app {f : List UInt8 → Bool} (hf : HeadOnly f) (v : List UInt8) (hv : f v = false) : ∀ p : List UInt8, runLen f (p ++ v) = runLen f p
  | [] => by rw [List.nil_append, runLen_no hv]; rfl
  | b :: p => by
    have e : f (b :: (p ++ v)) = f (b :: p) := hf b _ _
    rw [List.cons_append]
    unfold runLen
    rw [e, run_app hf v hv p]
theorem quote_app (q : Int) (v : List UInt8) : ∀ p : List UInt8, 10 ∈ p → quoteLen q (p ++ v) = quoteLen q p
  | [], h => by simp at h
  | b :: p, h => by
    rw [List.cons_append]
    unfold quoteLen
    have e1 : lineEnd (b :: (p ++ v)) = lineEnd (b :: p) := rfl
    have e2 : hd (b :: (p ++ v)) = hd (b :: p) := rfl
    rw [e1, e2]
    split
    · rfl
    · rename_i hl
      split
      · rfl
      · have hb : b ≠ 10 := fun hb => hl (by subst hb; rfl)
        rw [quote_app q v p (by simpa [Ne.symm hb] using h)]
theorem close_app (v : List UInt8) : ∀ p : List UInt8, (∃ r, p = r ++ [42, 47, 10]) → closeLen (p ++ v) = closeLen p ∧ closeLen p < p.length
  | [], h => by obtain ⟨r, h⟩ := h; simp at h
  | b :: p, h => by
    obtain ⟨r, h⟩ := h
    rw [List.cons_append]
    unfold closeLen
    cases r with
    | nil =>
      simp at h
      obtain ⟨rfl, rfl⟩ := h
      refine ⟨rfl, by decide⟩
    | cons c r =>
      simp at h
      obtain ⟨rfl, rfl⟩ := h
      have ih := close_app v (r ++ [42, 47, 10]) ⟨r, rfl⟩
      have e : hd (r ++ [42, 47, 10] ++ v) = hd (r ++ [42, 47, 10]) := hd_app (by simp) v
      have e2 : hd (b :: (r ++ [42, 47, 10] ++ v)) = hd (b :: (r ++ [42, 47, 10])) := rfl
      rw [e, e2]
      split
      · refine ⟨rfl, ?_⟩; simp
      · refine ⟨by rw [ih.1], ?_⟩
        have := ih.2
        simp at this ⊢; omega
/-- a comment at the head is nothing -/
theorem lex_comment {l : List UInt8} (h : commentBegins l = true) : lex l = lex (l.drop (2 + closeLen (l.drop 2))) := by
  have hs := skip_yes h
  have hd : l.drop (skip l) = (l.drop (2 + closeLen (l.drop 2))).drop (skip (l.drop (2 + closeLen (l.drop 2)))) := by rw [List.drop_drop, hs]
  generalize l.drop (2 + closeLen (l.drop 2)) = m at *
  by_cases he : l.drop (skip l) = []
  · rw [lex_end he, lex_end (l := m) (by rw [← hd]; exact he)]
  · rw [lex_cons he, lex_cons (l := m) (by rw [← hd]; exact he), ← hd]
theorem head_not {v : List UInt8} (h : hd v = 47) : blank v = false ∧ nameByte v = false ∧ digit v = false ∧ nameStart v = false := by
  refine ⟨?_, ?_, ?_, ?_⟩ <;> simp [blank, nameByte, digit, nameStart, lineEnd, h]
theorem drop_app {p : List UInt8} {k : Nat} (h : k ≤ p.length) (v : List UInt8) : (p ++ v).drop k = p.drop k ++ v := by
  rw [List.drop_append_of_le_length h]
theorem take_app {p : List UInt8} {k : Nat} (h : k ≤ p.length) (v : List UInt8) : (p ++ v).take k = p.take k := by
  rw [List.take_append_of_le_length h]
theorem hd_drop_app {p : List UInt8} {v : List UInt8} (hv : hd v = 47) (k : Nat) (hk : k ≤ p.length) : hd ((p ++ v).drop k) = hd (p.drop k) ∨ (p.drop k = [] ∧ hd ((p ++ v).drop k) = 47) := by
  rw [drop_app hk]
  by_cases h : p.drop k = []
  · right; rw [h]; exact ⟨rfl, hv⟩
  · left; exact hd_app h v
/-- the token at the head is the same whatever stands behind a text that ends with a line's end, if that begins with a slash -/
theorem one_app {p v : List UInt8} (hp : ∃ r, p = r ++ [10]) (hv : hd v = 47) : one (p ++ v) = one p := by
  obtain ⟨vb, vn, vd, vs⟩ := head_not hv
  have hne : p ≠ [] := by obtain ⟨r, h⟩ := hp; rw [h]; simp
  have hmem : 10 ∈ p := by obtain ⟨r, h⟩ := hp; rw [h]; simp
  have hl1 : 1 ≤ p.length := by cases p with
    | nil => exact absurd rfl hne
    | cons b p => simp
  have h0 := hd_app hne v
  have d1 : (p ++ v).drop 1 = p.drop 1 ++ v := drop_app hl1 v
  -- either a line's end alone, or one more byte
  by_cases h1 : p.drop 1 = []
  · have : p = [10] := by
      obtain ⟨r, rfl⟩ := hp
      cases r with
      | nil => rfl
      | cons c r => simp at h1
    subst this
    unfold one
    rw [show blank ([10] ++ v) = true from rfl, show blank [10] = true from rfl, if_pos rfl, if_pos rfl, run_app ho_blank v vb]
  · have eb := ho_blank.app hne v
    have h1d : hd ((p ++ v).drop 1) = hd (p.drop 1) := by rw [d1]; exact hd_app h1 v
    have en1 : nameByte ((p ++ v).drop 1) = nameByte (p.drop 1) := by rw [d1]; exact ho_name.app h1 v
    have es1 : nameStart ((p ++ v).drop 1) = nameStart (p.drop 1) := by rw [d1]; exact ho_start.app h1 v
    have ed1 : digit ((p ++ v).drop 1) = digit (p.drop 1) := by rw [d1]; exact ho_digit.app h1 v
    have ed : digit (p ++ v) = digit p := ho_digit.app hne v
    have es : nameStart (p ++ v) = nameStart p := ho_start.app hne v
    have m1 : 10 ∈ p.drop 1 := by
      obtain ⟨r, rfl⟩ := hp
      cases r with
      | nil => simp at h1
      | cons c r => simp
    have est : strLen (p ++ v) = strLen p := by
      unfold strLen
      rw [ho_quote.app hne v, h0, d1, quote_app _ v _ m1]
    have enb : nameBegins (p ++ v) = nameBegins p := by unfold nameBegins; rw [h0, es1, h1d, es]
    have enu : numberBegins (p ++ v) = numberBegins p := by unfold numberBegins; rw [h0, ed, ed1]
    -- names that begin behind the head
    have nb1 : nameBegins ((p ++ v).drop 1) = nameBegins (p.drop 1) := by
      rw [d1]
      unfold nameBegins
      rw [hd_app h1 v]
      by_cases h2 : (p.drop 1).drop 1 = []
      · have e10 : p.drop 1 = [10] := by
          obtain ⟨r, rfl⟩ := hp
          match r, h1, h2 with
          | [], h1, _ => simp at h1
          | [c], _, _ => rfl
          | c :: d :: r, _, h2 => simp at h2
        rw [e10]; rfl
      · have hl2 : 1 ≤ (p.drop 1).length := by cases hq : p.drop 1 with
          | nil => exact absurd hq h1
          | cons b q => simp
        rw [drop_app hl2 v, ho_start.app h2 v, hd_app h2 v, ho_start.app h1 v]
    -- units behind digits
    have un : ∀ k, k < p.length → unitLen ((p ++ v).drop k) = unitLen (p.drop k) ∧ k + unitLen (p.drop k) ≤ p.length := by
      intro k hk
      refine ⟨?_, by have := unitLen_le (p.drop k); simp at this; omega⟩
      rw [drop_app (by omega)]
      have hq : p.drop k ≠ [] := by intro h; rw [List.drop_eq_nil_iff] at h; omega
      have hq10 : ∃ r, p.drop k = r ++ [10] := by
        obtain ⟨r, rfl⟩ := hp
        refine ⟨r.drop k, ?_⟩
        rw [List.drop_append_of_le_length (by simp at hk; omega)]
      generalize p.drop k = q at hq hq10
      unfold unitLen
      rw [hd_app hq v, run_app ho_name v vn]
      have : nameBegins (q ++ v) = nameBegins q := by
        unfold nameBegins
        rw [hd_app hq v, ho_start.app hq v]
        by_cases h2 : q.drop 1 = []
        · have e10 : q = [10] := by
            obtain ⟨r, rfl⟩ := hq10
            cases r with
            | nil => rfl
            | cons c r => simp at h2
          rw [e10]; rfl
        · have hl2 : 1 ≤ q.length := by cases q with
            | nil => exact absurd rfl hq
            | cons b q => simp
          rw [drop_app hl2 v, ho_start.app h2 v, hd_app h2 v]
      rw [this]
    -- a run of digits, or of a name's bytes, ends ahead of the line's end
    have lt : ∀ (f : List UInt8 → Bool), HeadOnly f → f [10] = false → ∀ q : List UInt8, (∃ r, q = r ++ [10]) → runLen f q < q.length := by
      intro f hf h10 q
      induction q with
      | nil => rintro ⟨r, h⟩; simp at h
      | cons b q ih =>
        rintro ⟨r, h⟩
        unfold runLen
        split
        · rename_i hb
          cases r with
          | nil =>
            simp at h
            obtain ⟨rfl, rfl⟩ := h
            rw [h10] at hb; cases hb
          | cons c r =>
            simp at h
            have := ih ⟨r, h.2⟩
            simp; omega
        · simp
    have h10' : ∃ r, p.drop 1 = r ++ [10] := by
      obtain ⟨r, rfl⟩ := hp
      cases r with
      | nil => simp at h1
      | cons c r => exact ⟨r, rfl⟩
    have ltn := lt nameByte ho_name (by decide) p hp
    have ltd := lt digit ho_digit (by decide) p hp
    have ltn1 := lt nameByte ho_name (by decide) _ h10'
    have ltd1 := lt digit ho_digit (by decide) _ h10'
    have nm : ∀ k, named k (p ++ v) = named k p := by
      intro k
      unfold named
      rw [d1, run_app ho_name v vn, take_app (by omega)]
    have nu : number (p ++ v) = number p := by
      unfold number numTok
      rw [h0, d1, run_app ho_digit v vd, run_app ho_digit v vd]
      have hlen1 : (p.drop 1).length = p.length - 1 := by simp
      have nv : ∀ (n : Int) (q : List UInt8), (∃ r, q = r ++ [10]) → numVal n (q ++ v) = numVal n q := by
        intro n q
        induction q generalizing n with
        | nil => rintro ⟨r, h⟩; simp at h
        | cons b q ih =>
          rintro ⟨r, h⟩
          rw [List.cons_append]
          unfold numVal
          rw [show digit (b :: (q ++ v)) = digit (b :: q) from rfl, show hd (b :: (q ++ v)) = hd (b :: q) from rfl]
          split
          · rename_i hb
            cases r with
            | nil => simp at h; obtain ⟨rfl, rfl⟩ := h; exact absurd hb (by decide)
            | cons c r => simp at h; exact ih _ ⟨r, h.2⟩
          · rfl
      split
      · have hk := un (1 + runLen digit (p.drop 1)) (by omega)
        rw [hk.1, nv 0 _ h10', nv 0 _ hp]
        rw [drop_app (by omega), take_app (by rw [List.length_drop]; omega)]
      · have hk := un (runLen digit p) (by omega)
        rw [hk.1, nv 0 _ h10', nv 0 _ hp]
        rw [drop_app (by omega), take_app (by rw [List.length_drop]; omega)]
    have wo : word (p ++ v) = word p := by
      unfold word
      rw [run_app ho_name v vn, take_app (by omega)]
      have : (p.drop (runLen nameByte p)) ≠ [] := by intro h; rw [List.drop_eq_nil_iff] at h; omega
      rw [drop_app (by omega), hd_app this v]
    have t1 : (p ++ v).take 1 = p.take 1 := take_app hl1 v
    unfold one
    rw [eb, run_app ho_blank v vb, est, h0, en1, nb1, nm, nm, enu, nu, enb, wo, t1]
    split
    · rfl
    · split
      · rename_i k hk
        have := strLen_lt hk
        rw [d1, take_app (by simp; omega)]
      · rfl
/-- suffixes of a text that ends with a comment's end and a line's end -/
theorem sfx_tail {u p : List UInt8} (hu : ∃ s, u = s ++ [10, 42, 47, 10]) (hp : p <:+ u) (hne : p ≠ []) : ∃ r, p = r ++ [10] := by
  obtain ⟨s, rfl⟩ := hu
  obtain ⟨r, hr⟩ := hp
  refine ⟨p.dropLast, ?_⟩
  have hl : p.getLast hne = 10 := by
    have h1 : (r ++ p).getLast (by simp [hne]) = p.getLast hne := List.getLast_append_of_ne_nil _ hne
    rw [← h1]
    have : (r ++ p).getLast? = some 10 := by rw [hr]; simp
    rw [List.getLast?_eq_some_getLast (by simp [hne])] at this
    simpa using this
  rw [← hl]
  exact (List.dropLast_concat_getLast hne).symm
theorem sfx_comment {u p : List UInt8} (hu : ∃ s, u = s ++ [10, 42, 47, 10]) (hp : p <:+ u) (hc : commentBegins p = true) : ∃ r, p.drop 2 = r ++ [42, 47, 10] := by
  obtain ⟨s, rfl⟩ := hu
  obtain ⟨r, hr⟩ := hp
  have hlen : r.length + p.length = s.length + 4 := by have := congrArg List.length hr; simpa using this
  by_cases h4 : p.length ≤ 4
  · exfalso
    have hd : p = [10, 42, 47, 10].drop (4 - p.length) := by
      have := congrArg (List.drop r.length) hr
      rw [List.drop_left, List.drop_append, List.drop_of_length_le (by omega), List.nil_append] at this
      rw [show 4 - p.length = r.length - s.length by omega]
      exact this
    have : p = [] ∨ p = [10] ∨ p = [47, 10] ∨ p = [42, 47, 10] ∨ p = [10, 42, 47, 10] := by
      generalize hk : 4 - p.length = k at hd
      have hk4 : k ≤ 4 := by omega
      match k, hk4 with
      | 0, _ => simp [hd]
      | 1, _ => simp [hd]
      | 2, _ => simp [hd]
      | 3, _ => simp [hd]
      | 4, _ => simp [hd]
    rcases this with rfl | rfl | rfl | rfl | rfl <;> exact absurd hc (by decide)
  · have := congrArg (List.drop (r.length + 2)) hr
    rw [← List.drop_drop, List.drop_left, List.drop_append] at this
    rw [this]
    by_cases hs : r.length + 2 ≤ s.length
    · rw [show r.length + 2 - s.length = 0 by omega]
      exact ⟨s.drop (r.length + 2) ++ [10], by simp⟩
    · rw [show r.length + 2 - s.length = 1 by omega, List.drop_of_length_le (by omega)]
      exact ⟨[], rfl⟩
theorem skip_app {u : List UInt8} (hu : ∃ s, u = s ++ [10, 42, 47, 10]) (v : List UInt8) (hv : hd v = 47) : ∀ (n : Nat) (p : List UInt8), p.length ≤ n → p <:+ u → p ≠ [] → skip (p ++ v) = skip p ∧ skip p < p.length
  | 0, p, hn, _, hne => absurd (List.length_eq_zero_iff.1 (by omega)) hne
  | n + 1, p, hn, hp, hne => by
    have hl1 : 1 ≤ p.length := by cases p with
      | nil => exact absurd rfl hne
      | cons b p => simp
    have hcb : commentBegins (p ++ v) = commentBegins p := by
      unfold commentBegins
      rw [hd_app hne v, drop_app hl1 v]
      by_cases h1 : p.drop 1 = []
      · obtain ⟨r, hr⟩ := sfx_tail hu hp hne
        have : p = [10] := by
          subst hr
          cases r with
          | nil => rfl
          | cons c r => simp at h1
        rw [this]; rfl
      · rw [hd_app h1 v]
    cases hc : commentBegins p
    · rw [skip_no hc, skip_no (by rw [hcb, hc])]
      exact ⟨rfl, by omega⟩
    · have h2 := sfx_comment hu hp hc
      have hcl := close_app v _ h2
      have hl2 : 2 ≤ p.length := by
        obtain ⟨r, hr⟩ := h2
        have := congrArg List.length hr
        simp at this; omega
      have hk : 2 + closeLen (p.drop 2) < p.length := by have := hcl.2; simp at this; omega
      have hrest : p.drop (2 + closeLen (p.drop 2)) ≠ [] := by intro h; rw [List.drop_eq_nil_iff] at h; omega
      have ih := skip_app hu v hv n (p.drop (2 + closeLen (p.drop 2))) (by simp; omega) ((List.drop_suffix _ _).trans hp) hrest
      rw [skip_yes hc, skip_yes (by rw [hcb, hc]), drop_app hl2 v, hcl.1, drop_app (by omega) v, ih.1]
      refine ⟨rfl, ?_⟩
      have := ih.2
      simp at this; omega
theorem lex_app {u : List UInt8} (hu : ∃ s, u = s ++ [10, 42, 47, 10]) (v : List UInt8) (hv : hd v = 47) : ∀ (n : Nat) (p : List UInt8), p.length ≤ n → p <:+ u → lex (p ++ v) = lex p ++ lex v
  | 0, p, hn, _ => by
    have : p = [] := List.length_eq_zero_iff.1 (by omega)
    subst this; rfl
  | n + 1, p, hn, hp => by
    by_cases hne : p = []
    · subst hne; rfl
    · obtain ⟨hs, hlt⟩ := skip_app hu v hv p.length p (Nat.le_refl _) hp hne
      have hr : p.drop (skip p) ≠ [] := by intro h; rw [List.drop_eq_nil_iff] at h; omega
      have h10 := sfx_tail hu ((List.drop_suffix (skip p) p).trans hp) hr
      have ho := one_app h10 hv
      have hpos := one_pos hr
      have e1 : (p ++ v).drop (skip (p ++ v)) = p.drop (skip p) ++ v := by rw [hs, drop_app (by omega)]
      rw [lex_cons hr, lex_cons (l := p ++ v) (by rw [e1]; simp [hr]), e1, ho, drop_app hpos.2]
      rw [lex_app hu v hv n _ (by have := hpos.1; simp; omega) (((List.drop_suffix _ _).trans (List.drop_suffix _ _)).trans hp)]
      rfl
/-- the tokens of a text that ends with a comment, and of another one behind it -/
theorem lex_both (s t : List UInt8) : lex (s ++ [10, 42, 47, 10, 47, 42, 120, 42, 47] ++ t) = lex (s ++ [10, 42, 47, 10]) ++ lex t := by
  have h := lex_app (u := s ++ [10, 42, 47, 10]) ⟨s, rfl⟩ ([47, 42, 120, 42, 47] ++ t) rfl _ _ (Nat.le_refl _) (List.suffix_refl _)
  have e : s ++ [10, 42, 47, 10, 47, 42, 120, 42, 47] ++ t = s ++ [10, 42, 47, 10] ++ ([47, 42, 120, 42, 47] ++ t) := by simp
  rw [e, h, lex_comment (l := [47, 42, 120, 42, 47] ++ t) rfl]
  rfl
end Wn
