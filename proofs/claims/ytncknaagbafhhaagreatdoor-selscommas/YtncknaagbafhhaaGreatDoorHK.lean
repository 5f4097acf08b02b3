/- A simple selector within a not: how its text is read. Plain mathematics. A selector of one simple selector, and the same within a not. Plain mathematics. A compound selector and a combinator ahead of a complex selector: how they are read. Plain mathematics. What was parsed of values of a text may be. Plain mathematics. Two selector lists, with a sign between. Plain mathematics. -/
import Derived.Test.YtncknaagbafhhaaGreatDoorSelAoM
set_option linter.unusedVariables false
set_option linter.unusedSimpArgs false
set_option maxRecDepth 20000
namespace Wn
/-- what a reader takes is not deeper than this, and closes no bracket -/
def Eat (d : Nat) (f r : Fs) : Prop := depth f ≤ max d (depth r) ∧ (Ok 0 f → Ok 0 r ∧ (Ok 5 r → Ok 5 f))
theorem Eat.refl (f : Fs) : Eat 0 f f := ⟨by omega, fun h => ⟨h, id⟩⟩
theorem Eat.trans {d e : Nat} {f g r : Fs} (h : Eat d f g) (k : Eat e g r) : Eat (max d e) f r := by
  obtain ⟨h1, h2⟩ := h
  obtain ⟨k1, k2⟩ := k
  exact ⟨by omega, fun h0 => ⟨(k2 (h2 h0).1).1, fun h5 => (h2 h0).2 ((k2 (h2 h0).1).2 h5)⟩⟩
theorem Eat.mono {d e : Nat} {f r : Fs} (h : Eat d f r) (hd : d ≤ e) : Eat e f r := ⟨by have := h.1; omega, h.2⟩
theorem Eat.cons {t : Tok} {x r : Fs} (h : t ≠ dlm [41]) : Eat 0 (.cons 1 t x r) r := by
  refine ⟨by simp [depth, isBlk], fun ⟨h0, h1⟩ => ⟨h1, fun h5 => ?_⟩⟩
  rcases h0 with ⟨_, h2, h3, _⟩ | ⟨h2, _⟩
  · exact ⟨.inl ⟨rfl, h2, h3, by unfold closes; simp [closeB, h]⟩, h5⟩
  · simp [isBlk] at h2
theorem Eat.block {k : Int} {t : Tok} {x r : Fs} {d : Nat} (hk : isBlk k = true) (hx : depth x ≤ d) : Eat (1 + d) (.cons k t x r) r := by
  refine ⟨by simp [depth, hk]; omega, fun ⟨h0, h1⟩ => ⟨h1, fun h5 => ?_⟩⟩
  rcases h0 with ⟨h2, _⟩ | h2
  · subst h2; simp [isBlk] at hk
  · exact ⟨.inr h2, h5⟩
theorem Eat.drop : ∀ f : Fs, Eat 0 f (dropB f)
  | .nil => Eat.refl _
  | .cons k t x r => by
    rw [dropB]
    split
    · rename_i h
      obtain ⟨rfl, h8⟩ := blankV_iff.1 h
      exact (Eat.cons (by rintro rfl; simp [dlm] at h8)).trans (Eat.drop r)
    · exact Eat.refl _
theorem Eat.nil {d : Nat} {f r : Fs} (h : Eat d f r) (hr : dropB r = .nil) : depth f ≤ d ∧ (Ok 0 f → Ok 5 f) := by
  have := h.trans (Eat.drop r)
  rw [hr] at this
  exact ⟨by simpa [depth] using this.1, fun h0 => (this.2 h0).2 trivial⟩
theorem notR_some {f : Fs} {p : Sm × Fs} (h : notR f = some p) : simpG notNo true f = some (some p) := by
  unfold notR at h
  split at h
  · rename_i h1; cases h; exact h1
  · cases h
end Wn
set_option linter.unusedVariables false
set_option linter.unusedSimpArgs false
set_option maxRecDepth 20000
namespace Wn
theorem selsF_self {f : Fs} (hc : cuts (signV [44]) f = [f]) : selsF f = (cplxF f).map fun c => [c] := by
  unfold selsF
  rw [hc, if_pos (by simp)]
  simp only [allF]
  cases cplxF f <;> rfl
theorem allF_length {α : Type} {p : Fs → Option α} : ∀ {l : List Fs} {m : List α}, allF p l = some m → m.length = l.length
  | [], m, h => by simp [allF] at h; subst h; rfl
  | f :: l, m, h => by
    rw [allF] at h
    cases hp : p f with
    | none => rw [hp] at h; cases h
    | some x =>
      rw [hp] at h
      dsimp only at h
      cases ha : allF p l with
      | none => rw [ha] at h; cases h
      | some y => rw [ha] at h; cases h; simp [allF_length ha]
/-- a not of values -/
def notV (f : Fs) : Fs := .cons 1 (dlm [58]) .nil (.cons 5 (2, [110, 111, 116], 0) f .nil)
end Wn
set_option linter.unusedVariables false
set_option linter.unusedSimpArgs false
set_option maxRecDepth 20000
namespace Wn
def setHead (c : Int) : List (Int × List Sm) → List (Int × List Sm)
  | [] => []
  | p :: l => (c, p.2) :: l
/-- a.b ahead of values -/
def abV (X : Fs) : Fs := .cons 1 (1, [97], 0) .nil (.cons 1 (dlm [46]) .nil (.cons 1 (1, [98], 0) .nil X))
def abL : List Sm := [sNam 2 [97], sNam 4 [98]]
/-- what begins neither a simple selector nor a pseudo-element -/
def Stops (X : Fs) : Prop := simpR false X = some none ∧ signF [58] X = none
end Wn
set_option linter.unusedVariables false
set_option linter.unusedSimpArgs false
set_option maxRecDepth 20000
namespace Wn
/-- a token that may be, whose text is not too long -/
def Qt (t : Tok) : Prop := may t = true ∧ t.2.1.length ≤ 100000
/-- values whose tokens are such -/
def Gd : Fs → Prop
  | .nil => True
  | .cons k t x r => (k = 1 → Qt t) ∧ (isBlk k = true → Gd x) ∧ Gd r
theorem gd_of : ∀ {f : Fs}, (∀ t ∈ flat f, Qt t) → Gd f
  | .nil, _ => trivial
  | .cons k t x r, h => by
    refine ⟨?_, ?_, gd_of (fun u hu => h u (by unfold flat; exact List.mem_append_right _ hu))⟩
    · rintro rfl; exact h t (by simp [flat])
    · intro hb
      exact gd_of (fun u hu => h u (by rw [flat_block _ _ _ hb]; simp [hu]))
theorem gd_may {f : Fs} (h : mayF f = true) (hs : ∀ t ∈ flat f, t.2.1.length ≤ 100000) : Gd f := gd_of fun t ht => ⟨List.all_eq_true.1 (mayF_all h) t ht, hs t ht⟩
theorem gd_dropB : ∀ {f : Fs}, Gd f → Gd (dropB f)
  | .nil, h => h
  | .cons k t x r, h => by
    rw [dropB]
    split
    · exact gd_dropB h.2.2
    · exact h
theorem gd_cuts {p : Int → Tok → Bool} : ∀ {f : Fs}, Gd f → ∀ g ∈ cuts p f, Gd g
  | .nil, _, g, hg => by simp [cuts] at hg; subst hg; trivial
  | .cons k t x r, h, g, hg => by
    rw [cuts] at hg
    split at hg
    · rcases List.mem_cons.1 hg with rfl | hg
      · trivial
      · exact gd_cuts h.2.2 g hg
    · cases hc : cuts p r with
      | nil => exact absurd hc (cuts_ne p r)
      | cons a l =>
        rw [hc] at hg
        have ih := gd_cuts (p := p) h.2.2
        rw [hc] at ih
        rcases List.mem_cons.1 hg with rfl | hg
        · exact ⟨h.1, h.2.1, ih a (by simp)⟩
        · exact ih g (by simp [hg])
theorem tok_gd {kind : Int} {f : Fs} {p : Tok × Fs} (h : tokF kind f = some p) (hf : Gd f) : Qt p.1 ∧ p.1.1 = kind ∧ Gd p.2 := by
  cases f with
  | nil => simp [tokF] at h
  | cons k t x r =>
    rw [tokF] at h
    split at h
    · rename_i hc; cases h; exact ⟨hf.1 hc.1, hc.2, hf.2.2⟩
    · cases h
theorem sign_gd {s : List UInt8} {f r : Fs} (h : signF s f = some r) (hf : Gd f) : Gd r := by
  cases f with
  | nil => simp [signF] at h
  | cons k t x r' =>
    rw [signF] at h
    split at h
    · cases h; exact hf.2.2
    · cases h
theorem val_gd {kind : Int} (hk : isBlk kind = true) {f : Fs} {p : (Tok × Fs) × Fs} (h : valF kind f = some p) (hf : Gd f) : Gd p.1.2 ∧ Gd p.2 := by
  cases f with
  | nil => simp [valF] at h
  | cons k t x r =>
    rw [valF] at h
    split at h
    · rename_i hc; subst hc; cases h; exact ⟨hf.2.1 hk, hf.2.2⟩
    · cases h
/-- a name that may be -/
theorem may_name {t : Tok} (h : may t = true) (h1 : t.1 = 1) : may (1, t.2.1, 0) = true ∧ IsName t.2.1 := by
  rcases may_valid h with ⟨x, hx, rfl⟩ | ⟨x, hx, rfl⟩ | ⟨x, hx, rfl⟩ | ⟨x, hx, _, rfl⟩ | ⟨x, n, _, _, hx, rfl⟩ | ⟨x, q, _, hx, rfl⟩ | ⟨c, hc, rfl⟩ | rfl
  · exact ⟨h, hx⟩
  all_goals simp at h1
theorem may_hash {t : Tok} (h : may t = true) (h1 : t.1 = 4) : may (4, t.2.1, 0) = true := by
  rcases may_valid h with ⟨x, hx, rfl⟩ | ⟨x, hx, rfl⟩ | ⟨x, hx, rfl⟩ | ⟨x, hx, _, rfl⟩ | ⟨x, n, _, _, hx, rfl⟩ | ⟨x, q, _, hx, rfl⟩ | ⟨c, hc, rfl⟩ | rfl
  case inr.inr.inr.inl => exact h
  all_goals simp at h1
theorem may_string {t : Tok} (h : may t = true) (h1 : t.1 = 6) : may (6, t.2.1, 34) = true ∨ may (6, t.2.1, 39) = true := by
  rcases may_valid h with ⟨x, hx, rfl⟩ | ⟨x, hx, rfl⟩ | ⟨x, hx, rfl⟩ | ⟨x, hx, _, rfl⟩ | ⟨x, n, _, _, hx, rfl⟩ | ⟨x, q, hq, hx, rfl⟩ | ⟨c, hc, rfl⟩ | rfl
  case inr.inr.inr.inr.inr.inl =>
    rcases hq with rfl | rfl
    · exact .inl h
    · exact .inr h
  all_goals simp at h1
theorem names_nth {x : List UInt8} (h : Names x) : ∀ c ∈ x, nameByte [c] = true := by
  induction x with
  | nil => intro c hc; simp at hc
  | cons b l ih =>
    unfold Names at h
    rw [runLen_cons] at h
    split at h
    · rename_i hb
      have hl : Names l := by unfold Names; simpa using h
      intro c hc
      rcases List.mem_cons.1 hc with rfl | hc
      · rw [show nameByte [c] = nameByte (c :: l) from rfl]; exact hb
      · exact ih hl c hc
    · simp at h
theorem names_of : ∀ {x : List UInt8}, (∀ c ∈ x, nameByte [c] = true) → Names x
  | [], _ => rfl
  | b :: l, h => by
    have ih := names_of (x := l) (fun c hc => h c (by simp [hc]))
    unfold Names at ih ⊢
    rw [runLen_cons, if_pos (show nameByte (b :: l) = true from h b (by simp)), ih]; rfl
/-- a string's text may stand in the other signs, where it is a name -/
theorem name_string {x : List UInt8} (h : Names x) : may (6, x, 34) = true := by
  refine valid_may (Valid.str x 34 (.inl rfl) fun b hb => ?_)
  have hn := names_nth h b hb
  rw [nameByte_iff, nameStart_iff, digit_iff] at hn
  simp only [hd] at hn
  refine ⟨by omega, ?_, ?_, ?_⟩ <;> rintro rfl <;> simp at hn
theorem lowB_toNat (c : UInt8) : ((lowB c).toNat : Int) = if 65 ≤ c.toNat ∧ c.toNat ≤ 90 then (c.toNat : Int) + 32 else c.toNat := by
  unfold lowB
  split
  · rw [UInt8.toNat_add]; simp; omega
  · rfl
theorem lowB_low (c : UInt8) : lowB (lowB c) = lowB c := by
  have h := lowB_toNat c
  rw [lowB]
  split
  · rename_i hc; exfalso; split at h <;> omega
  · rfl
theorem low_low (s : List UInt8) : low (low s) = low s := by
  unfold low; rw [List.map_map]; congr 1; funext c; exact lowB_low c
theorem nameStart_low (c : UInt8) (l m : List UInt8) : nameStart (lowB c :: l) = true ↔ nameStart (c :: m) = true := by
  rw [nameStart_iff, nameStart_iff]
  simp only [hd]
  have := lowB_toNat c
  split at this <;> omega
theorem digit_low (c : UInt8) (l m : List UInt8) : digit (lowB c :: l) = true ↔ digit (c :: m) = true := by
  rw [digit_iff, digit_iff]
  simp only [hd]
  have := lowB_toNat c
  split at this <;> omega
theorem hd45_low (c : UInt8) (l m : List UInt8) : hd (lowB c :: l) = 45 ↔ hd (c :: m) = 45 := by
  simp only [hd]
  have := lowB_toNat c
  split at this <;> omega
theorem name_low {x : List UInt8} (h : IsName x) : IsName (low x) := by
  refine ⟨?_, names_of fun c hc => ?_⟩
  · have h1 := h.1
    match x, h1 with
    | [], h1 => exact absurd h1 (by decide)
    | [b], h1 =>
      have e := hd45_low b [] []
      have s := nameStart_low b [] []
      simp only [low, List.map_cons, List.map_nil]
      unfold nameBegins at h1 ⊢
      by_cases h45 : hd [b] = 45
      · rw [if_pos (by simp [h45])] at h1; simp [nameStart, hd] at h1
      · rw [if_neg (by simp [h45])] at h1
        rw [if_neg (by simp [e, h45])]
        exact s.2 h1
    | b :: c :: l, h1 =>
      have e := hd45_low b (lowB c :: low l) (c :: l)
      have s := nameStart_low b (lowB c :: low l) (c :: l)
      have e2 := hd45_low c (low l) l
      have s2 := nameStart_low c (low l) l
      have hl : low (b :: c :: l) = lowB b :: lowB c :: low l := rfl
      rw [hl]
      unfold nameBegins at h1 ⊢
      by_cases h45 : hd (b :: c :: l) = 45
      · rw [if_pos (by simp [h45])] at h1
        rw [if_pos (by simp [e, h45])]
        simp only [List.drop_succ_cons, List.drop_zero, Bool.or_eq_true, beq_iff_eq] at h1 ⊢
        exact h1.imp s2.2 e2.2
      · rw [if_neg (by simp [h45])] at h1
        rw [if_neg (by simp [e, h45])]
        exact s.2 h1
  · obtain ⟨d, hd', rfl⟩ := List.mem_map.1 hc
    have hn := names_nth h.2 d hd'
    rw [nameByte_iff] at hn ⊢
    exact hn.imp (nameStart_low d [] []).2 (Or.imp (digit_low d [] []).2 (hd45_low d [] []).2)
/-- one that may be, and is no not; or a not of one that the reader of nots gives -/
def shQ (x : Sm) : Prop := x.n.length ≤ 100000 ∧ x.v.length ≤ 100000
def plQ (x : Sm) : Prop := mayPlain x = true ∧ shQ x
def Fine1 (nt : Fs → Option Sm) (x : Sm) : Prop := (x.l = .nil ∧ plQ x) ∨ ∃ f y, Gd f ∧ nt f = some y ∧ x = ⟨11, [], [], 0, 0, y.on .nil⟩
theorem elem_gd {f : Fs} {p : Sm × Fs} (h : elemF f = some p) (hf : Gd f) : (p.1.l = .nil ∧ plQ p.1) ∧ Gd p.2 := by
  unfold elemF at h
  cases hs : signF [42] f with
  | some r => rw [hs] at h; cases h; exact ⟨⟨rfl, show plQ (sBare 1) from ⟨by decide, by decide, by decide⟩⟩, sign_gd hs hf⟩
  | none =>
    rw [hs] at h
    dsimp only at h
    cases ht : tokF 1 f with
    | none => rw [ht] at h; cases h
    | some q =>
      rw [ht] at h; cases h
      obtain ⟨h1, h2, h3⟩ := tok_gd ht hf
      have hn := (may_name h1.1 h2).2
      exact ⟨⟨rfl, by simp [mayPlain, sNam, low_low, valid_may (Valid.ident _ (name_low hn))], by simpa [sNam, low] using h1.2, by simp [sNam]⟩, h3⟩
theorem attr_gd {f : Fs} {x : Sm} (h : attrF f = some x) (hf : Gd f) : (x.l = .nil ∧ plQ x) ∧ (x.k = 5 ∨ x.k = 6) := by
  obtain ⟨r0, h, _⟩ := whole_get h
  have hd := gd_dropB hf
  unfold attrR at h
  split at h
  · cases h
  · rename_i q hq
    obtain ⟨h1, h2, h3⟩ := tok_gd hq hd
    have hn := (may_name h1.1 h2).1
    split at h
    · cases h
      exact ⟨⟨rfl, by simp [mayPlain, sNam, hn], h1.2, by simp [sNam]⟩, .inl rfl⟩
    · rename_i r hr
      have hr' := gd_dropB (sign_gd hr (gd_dropB h3))
      unfold attrV at h
      cases h6 : tokF 6 (dropB r) with
      | some m =>
        rw [h6] at h; cases h
        obtain ⟨k1, k2, _⟩ := tok_gd h6 hr'
        exact ⟨⟨rfl, by simp only [mayPlain]; simp [hn, may_string k1.1 k2], h1.2, k1.2⟩, .inr rfl⟩
      | none =>
        rw [h6] at h
        cases h1' : tokF 1 (dropB r) with
        | none => simp [h1'] at h
        | some m =>
          simp [h1'] at h
          obtain ⟨rfl, rfl⟩ := h
          obtain ⟨k1, k2, _⟩ := tok_gd h1' hr'
          exact ⟨⟨rfl, by simp only [mayPlain]; simp [hn, name_string (may_name k1.1 k2).2.2], h1.2, k1.2⟩, .inr rfl⟩
theorem nth_few {f : Fs} {p : Int × Int} (h : nthF f = some p) : few p.1 = true ∧ few p.2 = true := by
  unfold nthF at h
  cases hw : wholeF nthR f with
  | none => rw [hw] at h; cases h
  | some q =>
    rw [hw] at h
    dsimp only at h
    split at h
    · rename_i hc; cases h; simpa using hc
    · cases h
theorem state_fine {n : List UInt8} {x : Sm} (h : stateW n = some x) (hl : n.length ≤ 100000) : (x.l = .nil ∧ plQ x) ∧ x.k ≠ 1 ∧ x.k ≠ 2 := by
  unfold stateW at h
  split at h
  · cases h; exact ⟨⟨rfl, by decide, by decide, by decide⟩, by decide, by decide⟩
  · split at h
    · cases h; exact ⟨⟨rfl, by decide, by decide, by decide⟩, by decide, by decide⟩
    · split at h
      · cases h; exact ⟨⟨rfl, by decide, by decide, by decide⟩, by decide, by decide⟩
      · split at h
        · rename_i hs; cases h; exact ⟨⟨rfl, by simp [mayPlain, sNam, hs], hl, by simp [sNam]⟩, by simp [sNam], by simp [sNam]⟩
        · cases h
theorem colon_gd {nt : Fs → Option Sm} {f : Fs} {p : Sm × Fs} (h : colonG nt f = some p) (hf : Gd f) : Fine1 nt p.1 ∧ p.1.k ≠ 1 ∧ p.1.k ≠ 2 ∧ Gd p.2 := by
  unfold colonG at h
  cases hv : valF 5 f with
  | some q =>
    rw [hv] at h
    dsimp only at h
    obtain ⟨g1, g2⟩ := val_gd (by decide) hv hf
    unfold funcG at h
    split at h
    · cases hn : nthF q.1.2 with
      | none => rw [hn] at h; cases h
      | some z =>
        rw [hn] at h; cases h
        obtain ⟨f1, f2⟩ := nth_few hn
        exact ⟨.inl ⟨rfl, by simp [mayPlain, f1, f2], by simp, by simp⟩, by simp, by simp, g2⟩
    · split at h
      · cases hi : nt q.1.2 with
        | none => rw [hi] at h; cases h
        | some z => rw [hi] at h; cases h; exact ⟨.inr ⟨_, _, g1, hi, rfl⟩, by simp, by simp, g2⟩
      · cases h
  | none =>
    rw [hv] at h
    dsimp only at h
    cases ht : tokF 1 f with
    | none => rw [ht] at h; cases h
    | some q =>
      rw [ht] at h
      dsimp only at h
      cases hs : stateW q.1.2.1 with
      | none => rw [hs] at h; cases h
      | some y =>
        rw [hs] at h; cases h
        obtain ⟨s1, s2, s3⟩ := state_fine hs (tok_gd ht hf).1.2
        exact ⟨.inl s1, s2, s3, (tok_gd ht hf).2.2⟩
theorem later_gd {nt : Fs → Option Sm} {f : Fs} {p : Sm × Fs} (h : laterG nt f = some (some p)) (hf : Gd f) : Fine1 nt p.1 ∧ p.1.k ≠ 1 ∧ p.1.k ≠ 2 ∧ Gd p.2 := by
  unfold laterG at h
  cases h4 : tokF 4 f with
  | some q =>
    rw [h4] at h; cases h
    obtain ⟨k1, k2, k3⟩ := tok_gd h4 hf
    exact ⟨.inl ⟨rfl, by simp [mayPlain, sNam, may_hash k1.1 k2], k1.2, by simp [sNam]⟩, by simp [sNam], by simp [sNam], k3⟩
  | none =>
    rw [h4] at h
    dsimp only at h
    cases h46 : signF [46] f with
    | some r =>
      rw [h46] at h
      dsimp only at h
      cases h1 : tokF 1 r with
      | none => rw [h1] at h; cases h
      | some q =>
        rw [h1] at h; cases h
        obtain ⟨k1, k2, k3⟩ := tok_gd h1 (sign_gd h46 hf)
        exact ⟨.inl ⟨rfl, by simp [mayPlain, sNam, (may_name k1.1 k2).1], k1.2, by simp [sNam]⟩, by simp [sNam], by simp [sNam], k3⟩
    | none =>
      rw [h46] at h
      dsimp only at h
      cases h3 : valF 3 f with
      | some q =>
        rw [h3] at h
        dsimp only at h
        cases ha : attrF q.1.2 with
        | none => rw [ha] at h; cases h
        | some y =>
          rw [ha] at h; cases h
          obtain ⟨g1, g2⟩ := val_gd (by decide) h3 hf
          obtain ⟨a1, a2⟩ := attr_gd ha g1
          exact ⟨.inl a1, by dsimp only; omega, by dsimp only; omega, g2⟩
      | none =>
        rw [h3] at h
        dsimp only at h
        cases h58 : signF [58] f with
        | none => rw [h58] at h; cases h
        | some r =>
          rw [h58] at h
          dsimp only at h
          cases hs : signF [58] r with
          | some _ => rw [hs] at h; cases h
          | none =>
            rw [hs] at h
            dsimp only at h
            cases hc : colonG nt r with
            | none => rw [hc] at h; cases h
            | some q => rw [hc] at h; cases h; exact colon_gd hc (sign_gd h58 hf)
theorem simp_gd {nt : Fs → Option Sm} {b : Bool} {f : Fs} {p : Sm × Fs} (h : simpG nt b f = some (some p)) (hf : Gd f) : Fine1 nt p.1 ∧ (b = false → p.1.k ≠ 1 ∧ p.1.k ≠ 2) ∧ Gd p.2 := by
  unfold simpG at h
  split at h
  · rename_i hb
    cases he : elemF f with
    | some q => rw [he] at h; cases h; obtain ⟨e1, e2⟩ := elem_gd he hf; exact ⟨.inl e1, by simp [hb], e2⟩
    | none => rw [he] at h; obtain ⟨e1, e2, e3, e4⟩ := later_gd h hf; exact ⟨e1, fun _ => ⟨e2, e3⟩, e4⟩
  · obtain ⟨e1, e2, e3, e4⟩ := later_gd h hf; exact ⟨e1, fun _ => ⟨e2, e3⟩, e4⟩
theorem inNot_gd {f : Fs} {y : Sm} (h : inNot f = some y) (hf : Gd f) : plQ y := by
  obtain ⟨r, h1, _⟩ := whole_get h
  rcases (simp_gd (notR_some h1) (gd_dropB hf)).1 with ⟨_, e⟩ | ⟨_, _, _, e, _⟩
  · exact e
  · cases e
/-- no text in it is too long -/
def shD (x : Sm) : Prop := shQ x ∧ ∀ y ∈ x.l.toL, shQ y
theorem fine_may {x : Sm} (h : Fine1 inNot x) : maySm x = true ∧ shD x := by
  rcases h with ⟨e1, e2, e3⟩ | ⟨f, y, hf, hy, rfl⟩
  · refine ⟨?_, e3, ?_⟩
    · unfold maySm; rw [e1]; exact e2
    · rw [e1]; simp [Ss.toL]
  · obtain ⟨h1, h2⟩ := inNot_gd hy hf
    refine ⟨?_, ⟨by simp, by simp⟩, ?_⟩
    · unfold maySm
      simp [Sm.on, Ss.toL, h1]
    · simpa [Sm.on, Ss.toL] using h2
theorem comp_gd : ∀ {n : Nat} {b : Bool} {f r : Fs} {l : List Sm}, compR n b f = some (l, r) → Gd f → l.length ≤ n ∧ Gd r ∧ (if b then ∀ x m, l = x :: m → maySm x = true ∧ m.all mayLater = true else l.all mayLater = true) ∧ ∀ x ∈ l, shD x
  | n, b, f, r, l, h, hf => by
    unfold compR at h
    split at h
    · cases h
    · cases h; exact ⟨by simp, hf, by cases b <;> simp, by simp⟩
    · rename_i p hp
      obtain ⟨g1, g2, g3⟩ := simp_gd hp hf
      obtain ⟨hm, hsd⟩ := fine_may g1
      split at h
      · cases h
      · rename_i n
        cases hc : compR n false p.2 with
        | none => rw [hc] at h; cases h
        | some q =>
          obtain ⟨m, r'⟩ := q
          rw [hc] at h
          cases h
          obtain ⟨i1, i2, i3, i4⟩ := comp_gd hc g3
          rw [if_neg (by decide)] at i3
          refine ⟨by simpa using i1, i2, ?_, fun y hy => (List.mem_cons.1 hy).elim (fun e => e ▸ hsd) (i4 y)⟩
          cases b with
          | true =>
            rw [if_pos rfl]
            intro x m' e
            cases e
            exact ⟨hm, i3⟩
          | false =>
            rw [if_neg (by decide)]
            obtain ⟨k1, k2⟩ := g2 rfl
            simp only [List.all_cons, i3, Bool.and_true]
            simp [mayLater, k1, k2, hm]
theorem comp_part {f r : Fs} {l : List Sm} (h : compR 8 true f = some (l, r)) (hf : Gd f) (e : Bool) (he : l = [] → e = true) : mayPart l e = true := by
  obtain ⟨i1, _, i3, _⟩ := comp_gd h hf
  rw [if_pos rfl] at i3
  cases l with
  | nil => exact he rfl
  | cons x m =>
    obtain ⟨j1, j2⟩ := i3 x m rfl
    simp only [mayPart, j1, j2, Bool.and_true, decide_eq_true_eq]
    simpa using i1
theorem pseudo_gd {f r : Fs} {s : List UInt8} (h : pseudoR f = some (s, r)) (hf : Gd f) : (s = [] ∨ isPseudo s = true) ∧ Gd r := by
  unfold pseudoR at h
  split at h
  · cases h; exact ⟨.inl rfl, hf⟩
  · rename_i r1 h1
    split at h
    · cases h; exact ⟨.inl rfl, hf⟩
    · rename_i r2 h2
      split at h
      · cases h
      · rename_i p hp
        split at h
        · rename_i hs; cases h; exact ⟨.inr hs, (tok_gd hp (sign_gd h2 (sign_gd h1 hf))).2.2⟩
        · cases h
theorem comb_gd {f r : Fs} {c : Int} (h : combR f = some (c, r)) (hf : Gd f) : Gd r ∧ (c = 0 ∨ (1 ≤ c ∧ c ≤ 4)) := by
  unfold combR at h
  have hd := gd_dropB hf
  split at h
  · cases h; exact ⟨trivial, .inl rfl⟩
  · split at h
    · rename_i p hp
      cases h
      have key : Gd p.2 ∧ (1 ≤ p.1 ∧ p.1 ≤ 4) := by
        unfold combS at hp
        split at hp
        · rename_i r hr; cases hp; exact ⟨sign_gd hr hd, by simp⟩
        · split at hp
          · rename_i r hr; cases hp; exact ⟨sign_gd hr hd, by simp⟩
          · split at hp
            · rename_i r hr; cases hp; exact ⟨sign_gd hr hd, by simp⟩
            · cases hp
      exact ⟨gd_dropB key.1, .inr key.2⟩
    · split at h
      · cases h; exact ⟨hd, .inr (by decide)⟩
      · cases h
theorem cplx_gd : ∀ {n : Nat} {comb : Int} {f : Fs} {p : Cx × Fs} (first : Bool), cplxR n comb f = some p → Gd f → (if first then comb = 0 else 1 ≤ comb ∧ comb ≤ 4) →
    1 ≤ p.1.1.length ∧ p.1.1.length ≤ n ∧ (p.1.2 = [] ∨ isPseudo p.1.2 = true) ∧ mayParts (decide (p.1.2 ≠ [])) first p.1.1 = true ∧ ∀ q ∈ p.1.1, ∀ x ∈ q.2, shD x
  | 0, _, _, _, _, h, _, _ => by cases h
  | n + 1, comb, f, p, first, h, hf, hc => by
    have hcomb : (if first = true then decide (comb = 0) else decide (1 ≤ comb ∧ comb ≤ 4)) = true := by cases first <;> simpa using hc
    rw [cplxR] at h
    split at h
    · cases h
    · rename_i q hq
      unfold partR at hq
      split at hq
      · cases hq
      · rename_i cp hcp
        split at hq
        · cases hq
        · rename_i ps hps
          split at hq
          · cases hq
          · rename_i hne
            cases hq
            obtain ⟨l, r⟩ := cp
            obtain ⟨s, r'⟩ := ps
            have gr := (comp_gd hcp hf).2.1
            have gs := (comp_gd hcp hf).2.2.2
            obtain ⟨p1, p2⟩ := pseudo_gd hps gr
            dsimp only at h hne p1 p2
            split at h
            · rename_i hs
              cases h
              refine ⟨by simp, by simp, p1, ?_, by simpa using gs⟩
              simp only [mayParts, hcomb, Bool.and_true, Bool.true_and]
              exact comp_part hcp hf _ (fun _ => by simp [hs])
            · rename_i hs
              have hs' : s = [] := by simpa using hs
              subst hs'
              have hl : l ≠ [] := fun e => hne ⟨e, rfl⟩
              split at h
              · cases h
              · rename_i m hm
                obtain ⟨m1, m2⟩ := comb_gd (c := m.1) (r := m.2) hm p2
                split at h
                · cases h
                  refine ⟨by simp, by simp, .inl rfl, ?_, by simpa using gs⟩
                  simp only [mayParts, hcomb, Bool.and_true, Bool.true_and]
                  exact comp_part hcp hf _ (fun e => absurd e hl)
                · rename_i h0
                  cases hr : cplxR n m.1 m.2 with
                  | none => rw [hr] at h; cases h
                  | some z =>
                    rw [hr] at h
                    cases h
                    obtain ⟨i1, i2, i3, i4, i5⟩ := cplx_gd false hr m1 (by rw [if_neg (by decide)]; rcases m2 with h | h; exact absurd h h0; exact h)
                    refine ⟨by simp, by simpa using i2, i3, ?_, fun q hq => (List.mem_cons.1 hq).elim (fun e => e ▸ gs) (i5 q)⟩
                    simp only [mayParts, hcomb, i4, Bool.and_true, Bool.true_and]
                    exact comp_part hcp hf _ (fun e => absurd e hl)
theorem cplxF_may {f : Fs} {c : Cx} (h : cplxF f = some c) (hf : Gd f) : mayCx c = true ∧ ∀ q ∈ c.1, ∀ x ∈ q.2, shD x := by
  obtain ⟨r, h1, _⟩ := whole_get h
  obtain ⟨i1, i2, i3, i4, i5⟩ := cplx_gd true h1 (gd_dropB hf) (by rw [if_pos rfl])
  refine ⟨?_, i5⟩
  unfold mayCx
  simp only [i4, Bool.and_true, Bool.and_eq_true, decide_eq_true_eq]
  refine ⟨⟨i1, i2⟩, ?_⟩
  simp only [Bool.or_eq_true, decide_eq_true_eq]
  exact i3
theorem allF_mem {α : Type} {p : Fs → Option α} : ∀ {l : List Fs} {m : List α}, allF p l = some m → ∀ x ∈ m, ∃ f ∈ l, p f = some x
  | [], m, h, x, hx => by simp [allF] at h; subst h; simp at hx
  | f :: l, m, h, x, hx => by
    rw [allF] at h
    cases hp : p f with
    | none => rw [hp] at h; cases h
    | some y =>
      rw [hp] at h
      dsimp only at h
      cases ha : allF p l with
      | none => rw [ha] at h; cases h
      | some z =>
        rw [ha] at h; cases h
        rcases List.mem_cons.1 hx with rfl | hx
        · exact ⟨f, by simp, hp⟩
        · obtain ⟨g, hg, e⟩ := allF_mem ha x hx; exact ⟨g, by simp [hg], e⟩
/-- what was parsed may be -/
theorem sels_may {f : Fs} {l : List Cx} (h : selsF f = some l) (hf : mayF f = true) (hs : ∀ t ∈ flat f, t.2.1.length ≤ 100000) : maySels l = true ∧ ∀ c ∈ l, ∀ q ∈ c.1, ∀ x ∈ q.2, shD x := by
  unfold selsF at h
  split at h
  · rename_i hl
    have e := allF_length h
    have hne : 1 ≤ (cuts (signV [44]) f).length := List.length_pos_iff.2 (cuts_ne _ _)
    have key : ∀ c ∈ l, mayCx c = true ∧ ∀ q ∈ c.1, ∀ x ∈ q.2, shD x := fun c hc => by
      obtain ⟨g, hg, hp⟩ := allF_mem h c hc
      exact cplxF_may hp (gd_cuts (gd_may hf hs) g hg)
    refine ⟨?_, fun c hc => (key c hc).2⟩
    unfold maySels
    simp only [Bool.and_eq_true, decide_eq_true_eq, List.all_eq_true]
    exact ⟨⟨by omega, by omega⟩, fun c hc => (key c hc).1⟩
  · cases h
end Wn
set_option linter.unusedVariables false
set_option linter.unusedSimpArgs false
set_option maxRecDepth 20000
namespace Wn
theorem cuts_sign (s : List UInt8) : ∀ f g : Fs, cuts (signV s) (f.app (.cons 1 (dlm s) .nil g)) = cuts (signV s) f ++ cuts (signV s) g
  | .nil, g => by rw [Fs.app, cuts_yes (by simp [signV])]; rfl
  | .cons k t x r, g => by
    have ih := cuts_sign s r g
    rw [Fs.app]
    by_cases h : signV s k t = true
    · rw [cuts_yes h, cuts_yes h, ih]; rfl
    · have h' : signV s k t = false := by simpa using h
      rw [cuts_no h', cuts_no h', ih]
      cases hc : cuts (signV s) r with
      | nil => exact absurd hc (cuts_ne _ _)
      | cons a l => rfl
theorem allF_app {α : Type} (p : Fs → Option α) : ∀ l m : List Fs, allF p (l ++ m) = (allF p l).bind fun x => (allF p m).map (x ++ ·)
  | [], m => by simp [allF]
  | f :: l, m => by
    rw [List.cons_append, allF, allF]
    cases p f with
    | none => rfl
    | some x =>
      dsimp only
      rw [allF_app p l m]
      cases allF p l with
      | none => rfl
      | some y => dsimp; cases allF p m <;> rfl
theorem join_two (s : List UInt8) (f g : Fs) : joinF s [f, g] = f.app (.cons 1 (dlm s) .nil g) := by
  simp [joinF]
theorem sels_some {f : Fs} {a : List Cx} (h : selsF f = some a) : allF cplxF (cuts (signV [44]) f) = some a ∧ (cuts (signV [44]) f).length = a.length ∧ a.length ≤ 32 := by
  unfold selsF at h
  split at h
  · have := allF_length h; exact ⟨h, this.symm, by omega⟩
  · cases h
theorem sels_join_some {f g : Fs} {a b : List Cx} (ha : selsF f = some a) (hb : selsF g = some b) : selsF (joinF [44] [f, g]) = if a.length + b.length ≤ 32 then some (a ++ b) else none := by
  obtain ⟨a1, a2, _⟩ := sels_some ha
  obtain ⟨b1, b2, _⟩ := sels_some hb
  unfold selsF
  rw [join_two, cuts_sign, List.length_append, a2, b2]
  split
  · rw [allF_app, a1, b1]; rfl
  · rfl
theorem sels_join_none {f g : Fs} (h : selsF f = none ∨ selsF g = none) : selsF (joinF [44] [f, g]) = none := by
  unfold selsF
  rw [join_two, cuts_sign, List.length_append]
  split
  · rename_i hl
    rw [allF_app]
    rcases h with h | h
    · unfold selsF at h; rw [if_pos (by omega)] at h; rw [h]; rfl
    · unfold selsF at h; rw [if_pos (by omega)] at h; rw [h]; cases allF cplxF (cuts (signV [44]) f) <;> rfl
  · rfl
theorem allF_get {α : Type} {p : Fs → Option α} : ∀ {l : List Fs} {m : List α}, allF p l = some m → ∀ (i : Nat) (g : Fs), l[i]? = some g → ∃ c, m[i]? = some c ∧ p g = some c
  | [], m, h, i, g, hg => by simp at hg
  | f :: l, m, h, i, g, hg => by
    rw [allF] at h
    cases hp : p f with
    | none => rw [hp] at h; cases h
    | some y =>
      rw [hp] at h
      dsimp only at h
      cases ha : allF p l with
      | none => rw [ha] at h; cases h
      | some z =>
        rw [ha] at h; cases h
        cases i with
        | zero => simp at hg; subst hg; exact ⟨y, rfl, hp⟩
        | succ i => obtain ⟨c, h1, h2⟩ := allF_get ha i g (by simpa using hg); exact ⟨c, by simpa using h1, h2⟩
theorem sels_each {f : Fs} {a : List Cx} (h : selsF f = some a) {i : Nat} {g : Fs} (hg : (cuts (signV [44]) f)[i]? = some g) : ∃ c, a[i]? = some c ∧ selsF g = some [c] := by
  obtain ⟨a1, _, _⟩ := sels_some h
  obtain ⟨c, h1, h2⟩ := allF_get a1 i g hg
  refine ⟨c, h1, ?_⟩
  rw [selsF_self (cuts_self (cuts_none _ _ _ (List.mem_of_getElem? hg))), h2]; rfl
end Wn
