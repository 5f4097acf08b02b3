/- Declarations, as mathematics of values: what is read, what is told, what may be. Declarations: what the verifier's own reader does, step by step. Plain mathematics. Declarations that may be: what they are told as may be, too. Plain mathematics. -/
import Derived.Test.YtjlejiphpbaonaaGreatDoorGY
import Derived.Test.YtjlejiphpbaonaaGreatDoorHA
set_option linter.unusedVariables false
set_option linter.unusedSimpArgs false
set_option maxRecDepth 20000
namespace Wn
abbrev Dl := List UInt8 × Fs × Bool
def custom (s : List UInt8) : Bool := decide (s.take 2 = [45, 45])
def proper (s : List UInt8) : List UInt8 := if custom s then s else low s
def importantB : List UInt8 := [105, 109, 112, 111, 114, 116, 97, 110, 116]
/-- is a value a name? -/
def idv (k : Int) (t : Tok) : Bool := decide (k = 1) && decide (t.1 = 1)
/-- is the last value one that p holds of? -/
def lastIs (p : Int → Tok → Bool) (f : Fs) : Bool := match f.drop (f.len - 1) with
  | .nil => false
  | .cons k t _ _ => p k t
def initF (f : Fs) : Fs := f.take (f.len - 1)
def anyF (p : Int → Tok → Bool) : Fs → Bool
  | .nil => false
  | .cons k t _ r => p k t || anyF p r
def strongV (k : Int) (t : Tok) : Bool := idv k t && decide (low t.2.1 = importantB)
/-- a value without the mark of important ones, and whether it had one -/
def cutF (g : Fs) : Fs × Bool :=
  if lastIs strongV g && lastIs (signV [33]) (trimF (initF g)) then (trimF (initF (trimF (initF g))), true) else (g, false)
def endV (k : Int) (t : Tok) : Bool := signV [33] k t || signV [59] k t
def isValF (g : Fs) : Bool := decide (0 < g.len) && decide ((trimF g).len = g.len) && !anyF endV g && decide (depth g ≤ 56)
def valueF (n : List UInt8) (g : Fs) : Option Dl := if isValF (cutF g).1 then some (proper n, (cutF g).1, (cutF g).2) else none
/-- the declaration that trimmed values are -/
def declF : Fs → Option Dl
  | .nil => none
  | .cons k t _ r => if idv k t then match trimF r with
    | .nil => none
    | .cons k2 t2 _ r2 => if signV [58] k2 t2 then valueF t.2.1 (trimF r2) else none
    else none
def parseD (f : Fs) : List Dl := (cuts (signV [59]) f).filterMap fun p => declF (trimF p)
def nameV (s : List UInt8) (r : Fs) : Fs := .cons 1 (1, s, 0) .nil r
def dlmV (s : List UInt8) (r : Fs) : Fs := .cons 1 (dlm s) .nil r
def strongF (b : Bool) : Fs := if b then dlmV [33] (nameV importantB .nil) else .nil
def valsOne (d : Dl) : Fs := nameV d.1 (dlmV [58] (d.2.1.app (strongF d.2.2)))
def valsD (l : List Dl) : Fs := joinF [59] (l.map valsOne)
def mayOne (d : Dl) : Bool := may (1, d.1, 0) && decide (d.1 = proper d.1) && isValF d.2.1 && mayF d.2.1
def mayD (l : List Dl) : Bool := l.all mayOne
-- what is last
theorem last_snoc (p : Int → Tok → Bool) : ∀ (f : Fs) (k : Int) (t : Tok) (x : Fs), (f.app (.cons k t x .nil)).drop ((f.app (.cons k t x .nil)).len - 1) = .cons k t x .nil ∧ (f.app (.cons k t x .nil)).take ((f.app (.cons k t x .nil)).len - 1) = f
  | .nil, k, t, x => ⟨rfl, rfl⟩
  | .cons k' t' x' r, k, t, x => by
    obtain ⟨h1, h2⟩ := last_snoc p r k t x
    have e : ((Fs.cons k' t' x' r).app (.cons k t x .nil)).len - 1 = ((r.app (.cons k t x .nil)).len - 1) + 1 := by simp only [Fs.app, Fs.len, Fs.len_app]; omega
    rw [e]
    simp only [Fs.app, Fs.drop, Fs.take]
    exact ⟨h1, by rw [h2]⟩
theorem lastIs_snoc (p : Int → Tok → Bool) (f : Fs) (k : Int) (t : Tok) (x : Fs) : lastIs p (f.app (.cons k t x .nil)) = p k t := by
  unfold lastIs; rw [(last_snoc p f k t x).1]
theorem initF_snoc (f : Fs) (k : Int) (t : Tok) (x : Fs) : initF (f.app (.cons k t x .nil)) = f := (last_snoc (fun _ _ => true) f k t x).2
theorem snoc_of : ∀ {f : Fs}, f ≠ .nil → ∃ (g : Fs) (k : Int) (t : Tok) (x : Fs), f = g.app (.cons k t x .nil)
  | .cons k t x .nil, _ => ⟨.nil, k, t, x, rfl⟩
  | .cons k t x (.cons k' t' x' r), _ => by
    obtain ⟨g, a, b, c, e⟩ := snoc_of (f := .cons k' t' x' r) (by simp)
    exact ⟨.cons k t x g, a, b, c, by rw [Fs.app, ← e]⟩
-- what is trimmed
theorem trim_of {f : Fs} (h : (trimF f).len = f.len) : trimF f = f := by
  have h1 := (rtrim_len (dropB f)).1
  have h2 := (dropB_len f).1
  have h3 : (trimF f).len = (rtrim (dropB f)).len := rfl
  have e1 : dropB f = f := by
    cases f with
    | nil => rfl
    | cons k t x r =>
      by_cases hb : blankV k t = true
      · have := (dropB_len r).1
        rw [dropB, if_pos hb] at h2 h1 h3
        simp only [Fs.len] at h h2
        omega
      · rw [dropB, if_neg hb]
  have e2 : ∀ g : Fs, (rtrim g).len = g.len → rtrim g = g := by
    intro g
    induction g with
    | nil => intro _; rfl
    | cons k t x r _ ih =>
      intro hl
      rw [rtrim] at hl ⊢
      cases hr : rtrim r with
      | nil =>
        rw [hr] at hl
        dsimp only at hl ⊢
        split at hl
        · simp [Fs.len] at hl
        · rename_i hb
          rw [if_neg hb]
          have : r = .nil := Fs.len_zero (by simpa [Fs.len] using hl.symm)
          rw [this]
      | cons k' t' x' r' =>
        rw [hr] at hl
        dsimp only at hl ⊢
        rw [← hr, ih (by rw [hr]; simpa [Fs.len] using hl)]
  unfold trimF at h ⊢
  rw [e1] at h ⊢
  exact e2 f h
/-- trimmed: the first and the last are no blanks -/
theorem trim_ends {f : Fs} (h1 : ∀ k t x r, f = .cons k t x r → blankV k t = false) (h2 : ∀ (g : Fs) (k : Int) (t : Tok) (x : Fs), f = g.app (.cons k t x .nil) → blankV k t = false) : trimF f = f := by
  unfold trimF
  rw [dropB_self h1]
  by_cases hf : f = .nil
  · subst hf; rfl
  · obtain ⟨g, k, t, x, rfl⟩ := snoc_of hf
    rw [rtrim_snoc, if_neg (by rw [h2 g k t x rfl]; simp)]
theorem app_snoc_inj {f g : Fs} {k k' : Int} {t t' : Tok} {x x' : Fs} (h : f.app (.cons k t x .nil) = g.app (.cons k' t' x' .nil)) : f = g ∧ k = k' ∧ t = t' ∧ x = x' := by
  have a := congrArg initF h
  rw [initF_snoc, initF_snoc] at a
  have b : (f.app (.cons k t x .nil)).drop ((f.app (.cons k t x .nil)).len - 1) = (g.app (.cons k' t' x' .nil)).drop ((g.app (.cons k' t' x' .nil)).len - 1) := congrArg (fun f : Fs => f.drop (f.len - 1)) h
  rw [(last_snoc (fun _ _ => true) f k t x).1, (last_snoc (fun _ _ => true) g k' t' x').1] at b
  injection b with b1 b2 b3
  exact ⟨a, b1, b2, b3⟩
theorem trim_firstlast {f : Fs} (h : trimF f = f) : (∀ k t x r, f = .cons k t x r → blankV k t = false) ∧ (∀ (g : Fs) (k : Int) (t : Tok) (x : Fs), f = g.app (.cons k t x .nil) → blankV k t = false) := by
  refine ⟨fun k t x r e => trim_head (f := f) (by rw [h]; exact e), fun g k t x e => ?_⟩
  refine trim_last (f := f) (i := f.len - 1) (x := x) ?_
  rw [h, e]
  exact (last_snoc (fun _ _ => true) g k t x).1
theorem cuts_sgn (s : List UInt8) : ∀ f g : Fs, cuts (signV s) (f.app (.cons 1 (dlm s) .nil g)) = cuts (signV s) f ++ cuts (signV s) g
  | .nil, g => by rw [Fs.app, cuts_yes (by simp [signV])]; rfl
  | .cons k t x r, g => by
    have ih := cuts_sgn s r g
    rw [Fs.app]
    by_cases h : signV s k t = true
    · rw [cuts_yes h, cuts_yes h, ih]; rfl
    · have h' : signV s k t = false := by simpa using h
      rw [cuts_no h', cuts_no h', ih]
      cases hc : cuts (signV s) r with
      | nil => exact absurd hc (cuts_ne _ _)
      | cons a l => rfl
theorem cuts_join (s : List UInt8) : ∀ l : List Fs, l ≠ [] → (∀ g ∈ l, cuts (signV s) g = [g]) → cuts (signV s) (joinF s l) = l
  | [], h, _ => absurd rfl h
  | [a], _, h => h a (by simp)
  | a :: b :: l, _, h => by
    rw [joinF, cuts_sgn, h a (by simp), cuts_join s (b :: l) (by simp) (fun g hg => h g (by simp [hg]))]
    rfl
theorem anyF_app (p : Int → Tok → Bool) : ∀ f g : Fs, anyF p (f.app g) = (anyF p f || anyF p g)
  | .nil, g => by simp [anyF, Fs.app]
  | .cons k t x r, g => by rw [Fs.app, anyF, anyF, anyF_app p r g, Bool.or_assoc]
theorem noneF_any {p : Int → Tok → Bool} : ∀ {f : Fs}, anyF p f = false → noneF p f
  | .nil, _ => trivial
  | .cons k t x r, h => by
    simp only [anyF, Bool.or_eq_false_iff] at h
    exact ⟨h.1, noneF_any h.2⟩
theorem anyF_none {p : Int → Tok → Bool} : ∀ {f : Fs}, noneF p f → anyF p f = false
  | .nil, _ => rfl
  | .cons k t x r, h => by
    obtain ⟨h1, h2⟩ := h
    simp [anyF, h1, anyF_none h2]
theorem anyF_end : ∀ f : Fs, anyF endV f = (anyF (signV [33]) f || anyF (signV [59]) f)
  | .nil => rfl
  | .cons k t x r => by
    rw [anyF, anyF, anyF, anyF_end r]
    unfold endV
    cases signV [33] k t <;> cases signV [59] k t <;> cases anyF (signV [33]) r <;> rfl
/-- what is told of a declaration that may be, cut at the signs -/
theorem one_cut {d : Dl} (h : isValF d.2.1 = true) : cuts (signV [59]) (valsOne d) = [valsOne d] := by
  have h0 : anyF (signV [59]) d.2.1 = false := by
    unfold isValF at h
    simp only [Bool.and_eq_true, Bool.not_eq_true', anyF_end, Bool.or_eq_false_iff] at h
    exact h.1.2.2
  refine cuts_self (noneF_any ?_)
  unfold valsOne nameV dlmV
  rw [anyF, anyF, anyF_app, h0]
  unfold strongF dlmV nameV
  cases d.2.2 <;> simp [anyF, signV, dlm, importantB]
theorem app_ne {f : Fs} (g : Fs) (h : f ≠ .nil) : f.app g ≠ .nil := by
  cases f with
  | nil => exact absurd rfl h
  | cons => simp [Fs.app]
theorem head_app {f g : Fs} {k : Int} {t : Tok} {x r : Fs} (hf : f ≠ .nil) (h : f.app g = .cons k t x r) : ∃ r', f = .cons k t x r' := by
  cases f with
  | nil => exact absurd rfl hf
  | cons k' t' x' r' =>
    rw [Fs.app] at h
    injection h with h1 h2 h3 h4
    subst h1 h2 h3
    exact ⟨_, rfl⟩
theorem isVal_parts {g : Fs} (h : isValF g = true) : g ≠ .nil ∧ trimF g = g ∧ anyF (signV [33]) g = false ∧ anyF (signV [59]) g = false ∧ depth g ≤ 56 := by
  unfold isValF at h
  simp only [Bool.and_eq_true, Bool.not_eq_true', anyF_end, Bool.or_eq_false_iff, decide_eq_true_eq] at h
  exact ⟨fun e => by rw [e] at h; simp [Fs.len] at h, trim_of h.1.1.2, h.1.2.1, h.1.2.2, h.2⟩
/-- a value, with the mark behind it or without, is cut as it was -/
theorem cut_back {g : Fs} (b : Bool) (h : isValF g = true) : cutF (g.app (strongF b)) = (g, b) := by
  obtain ⟨h0, h1, h2, _, _⟩ := isVal_parts h
  cases b
  · unfold strongF
    rw [if_neg (by decide), Fs.app_nil]
    unfold cutF
    have : lastIs (signV [33]) (trimF (initF g)) = false := by
      by_cases hn : trimF (initF g) = .nil
      · rw [hn]; rfl
      · obtain ⟨a, k, t, x, e⟩ := snoc_of hn
        rw [e, lastIs_snoc]
        obtain ⟨c, k', t', x', e'⟩ := snoc_of h0
        rw [e', initF_snoc] at e
        have h3 : anyF (signV [33]) c = false := by
          rw [e', anyF_app] at h2
          simp only [Bool.or_eq_false_iff] at h2
          exact h2.1
        have h4 : ∀ f : Fs, anyF (signV [33]) f = false → anyF (signV [33]) (rtrim f) = false := by
          intro f
          induction f with
          | nil => intro _; rfl
          | cons k t x r _ ih =>
            intro hf
            simp only [anyF, Bool.or_eq_false_iff] at hf
            have := ih hf.2
            rw [rtrim]
            cases hr : rtrim r with
            | nil => dsimp only; split <;> simp [anyF, hf.1]
            | cons k' t' x' r' => rw [hr] at this; dsimp only; rw [anyF, hf.1, this]; rfl
        have h5 : ∀ f : Fs, anyF (signV [33]) f = false → anyF (signV [33]) (dropB f) = false := by
          intro f
          induction f with
          | nil => intro _; rfl
          | cons k t x r _ ih =>
            intro hf
            rw [dropB]
            split
            · simp only [anyF, Bool.or_eq_false_iff] at hf; exact ih hf.2
            · exact hf
        have h6 : anyF (signV [33]) (trimF c) = false := h4 _ (h5 _ h3)
        rw [e, anyF_app] at h6
        simp only [anyF, Bool.or_eq_false_iff] at h6
        exact h6.2.1
    rw [this, Bool.and_false]
    rfl
  · obtain ⟨f1, f2⟩ := trim_firstlast h1
    unfold strongF
    rw [if_pos rfl]
    have e : g.app (dlmV [33] (nameV importantB .nil)) = (g.app (.cons 1 (dlm [33]) .nil .nil)).app (.cons 1 (1, importantB, 0) .nil .nil) := by rw [Fs.app_assoc]; rfl
    have e2 : trimF (g.app (.cons 1 (dlm [33]) .nil .nil)) = g.app (.cons 1 (dlm [33]) .nil .nil) := by
      refine trim_ends (fun k t x r hh => ?_) (fun a k t x hh => ?_)
      · obtain ⟨r', hh⟩ := head_app h0 hh
        exact f1 k t x r' hh
      · obtain ⟨_, rfl, rfl, _⟩ := app_snoc_inj hh
        rfl
    rw [e]
    unfold cutF
    rw [lastIs_snoc, initF_snoc, e2, lastIs_snoc, initF_snoc, h1]
    rfl
/-- a declaration that may be is read from what it is told as -/
theorem decl_back {d : Dl} (h : isValF d.2.1 = true) (hn : d.1 = proper d.1) : declF (trimF (valsOne d)) = some d := by
  obtain ⟨n, g, b⟩ := d
  dsimp only at h hn
  obtain ⟨h0, h1, h2, h3, h4⟩ := isVal_parts h
  obtain ⟨f1, f2⟩ := trim_firstlast h1
  have e1 : trimF (g.app (strongF b)) = g.app (strongF b) := by
    refine trim_ends (fun k t x r hh => ?_) (fun a k t x hh => ?_)
    · obtain ⟨r', hh⟩ := head_app h0 hh
      exact f1 k t x r' hh
    · cases b
      · unfold strongF at hh
        rw [if_neg (by decide), Fs.app_nil] at hh
        exact f2 a k t x hh
      · have e : g.app (strongF true) = (g.app (.cons 1 (dlm [33]) .nil .nil)).app (.cons 1 (1, importantB, 0) .nil .nil) := by rw [Fs.app_assoc]; rfl
        rw [e] at hh
        obtain ⟨_, rfl, rfl, _⟩ := app_snoc_inj hh
        rfl
  have ne1 : g.app (strongF b) ≠ .nil := app_ne _ h0
  obtain ⟨a, k, t, x, ha⟩ := snoc_of ne1
  have hbl : blankV k t = false := (trim_firstlast e1).2 a k t x ha
  have e2 : trimF (dlmV [58] (g.app (strongF b))) = dlmV [58] (g.app (strongF b)) := by
    refine trim_ends (fun k t x r hh => ?_) (fun c k' t' x' hh => ?_)
    · unfold dlmV at hh
      injection hh with q1 q2 _ _
      subst q1 q2; rfl
    · rw [ha] at hh
      have : dlmV [58] (a.app (.cons k t x .nil)) = (dlmV [58] a).app (.cons k t x .nil) := rfl
      rw [this] at hh
      obtain ⟨_, rfl, rfl, _⟩ := app_snoc_inj hh
      exact hbl
  have e3 : trimF (valsOne (n, g, b)) = valsOne (n, g, b) := by
    refine trim_ends (fun k t x r hh => ?_) (fun c k' t' x' hh => ?_)
    · unfold valsOne nameV at hh
      injection hh with q1 q2 _ _
      subst q1 q2; rfl
    · unfold valsOne at hh
      dsimp only at hh
      rw [ha] at hh
      have : nameV n (dlmV [58] (a.app (.cons k t x .nil))) = (nameV n (dlmV [58] a)).app (.cons k t x .nil) := rfl
      rw [this] at hh
      obtain ⟨_, rfl, rfl, _⟩ := app_snoc_inj hh
      exact hbl
  rw [e3]
  unfold valsOne nameV
  dsimp only
  rw [declF, if_pos (show idv 1 (1, n, 0) = true from rfl), e2]
  unfold dlmV
  dsimp only
  rw [if_pos (by simp [signV]), e1]
  unfold valueF
  rw [cut_back b h]
  dsimp only
  rw [if_pos h, ← hn]
theorem parse_back {l : List Dl} (h : ∀ d ∈ l, isValF d.2.1 = true ∧ d.1 = proper d.1) : parseD (valsD l) = l := by
  by_cases hl : l = []
  · subst hl; rfl
  unfold parseD valsD
  rw [cuts_join [59] _ (by simpa using hl) (fun g hg => by
    obtain ⟨d, hd, rfl⟩ := List.mem_map.1 hg
    exact one_cut (h d hd).1), List.filterMap_map]
  have : ∀ m : List Dl, (∀ d ∈ m, isValF d.2.1 = true ∧ d.1 = proper d.1) → m.filterMap ((fun p => declF (trimF p)) ∘ valsOne) = m := by
    intro m
    induction m with
    | nil => intro _; rfl
    | cons d m ih =>
      intro hm
      rw [List.filterMap_cons, Function.comp, decl_back (hm d (by simp)).1 (hm d (by simp)).2]
      dsimp only
      rw [ih (fun e he => hm e (by simp [he]))]
  exact this l h
/-- P7.1: of values with a sign between, the ones, and then the others -/
theorem parse_app (f g : Fs) : parseD (joinF [59] [f, g]) = parseD f ++ parseD g := by
  unfold parseD
  rw [show joinF [59] [f, g] = f.app (.cons 1 (dlm [59]) .nil g) from rfl, cuts_sgn, List.filterMap_append]
theorem parse_len (f : Fs) : (parseD f).length ≤ (cuts (signV [59]) f).length := List.length_filterMap_le _ _
end Wn
set_option linter.unusedVariables false
set_option linter.unusedSimpArgs false
set_option maxRecDepth 20000
namespace Wn
theorem take_front : ∀ (f g : Fs), (f.app g).take f.len = f
  | .nil, g => by rw [Fs.app]; exact Fs.take_zero g
  | .cons k t x r, g => by rw [Fs.app, Fs.len, Fs.take, take_front r g]
theorem rtrim_prefix : ∀ f : Fs, ∃ g, f = (rtrim f).app g
  | .nil => ⟨.nil, rfl⟩
  | .cons k t x r => by
    obtain ⟨g, e⟩ := rtrim_prefix r
    rw [rtrim]
    cases hr : rtrim r with
    | nil =>
      rw [hr] at e
      dsimp only
      split
      · exact ⟨.cons k t x r, rfl⟩
      · exact ⟨g, by rw [Fs.app, ← e]⟩
    | cons k' t' x' r' =>
      rw [hr] at e
      dsimp only
      exact ⟨g, by rw [Fs.app, ← e]⟩
/-- what is trimmed behind is a front of it -/
theorem rtrim_take (f : Fs) : rtrim f = f.take (rtrim f).len := by
  obtain ⟨g, e⟩ := rtrim_prefix f
  generalize rtrim f = a at *
  rw [e]; exact (take_front a g).symm
theorem take_take : ∀ (f : Fs) (i j : Nat), (f.take j).take i = f.take (min i j)
  | .nil, i, j => by rw [Fs.take_nil, Fs.take_nil, Fs.take_nil]
  | .cons k t x r, 0, j => by rw [Nat.zero_min, Fs.take_zero, Fs.take_zero]
  | .cons k t x r, i + 1, 0 => by rw [Fs.take_zero, Nat.min_zero, Fs.take_zero, Fs.take_nil]
  | .cons k t x r, i + 1, j + 1 => by rw [Fs.take, Fs.take, take_take r i j, Nat.add_min_add_right, Fs.take]
theorem take_self (g : Fs) (j : Nat) : g.take (g.take j).len = g.take j := by
  rw [Fs.take_len]
  by_cases h : j ≤ g.len
  · rw [Nat.min_eq_left h]
  · rw [Nat.min_eq_right (by omega), Fs.take_all g (Nat.le_refl _), Fs.take_all g (by omega)]
/-- a front of what begins with no blank is trimmed behind alone -/
theorem trim_front {f : Fs} (h : ∀ k t x r, f = .cons k t x r → blankV k t = false) (n : Nat) : trimF (f.take n) = rtrim (f.take n) := by
  unfold trimF
  rw [dropB_self]
  intro k t x r e
  cases f with
  | nil => rw [Fs.take_nil] at e; cases e
  | cons k' t' x' r' =>
    cases n with
    | zero => rw [Fs.take_zero] at e; cases e
    | succ n =>
      rw [Fs.take] at e
      injection e with e1 e2
      subst e1 e2
      exact h _ _ _ _ rfl
theorem rtrim_step {f : Fs} {n : Nat} {k : Int} {t : Tok} {x r : Fs} (h : f.drop n = .cons k t x r) : rtrim (f.take (n + 1)) = if blankV k t then rtrim (f.take n) else f.take (n + 1) := by
  have e : f.take (n + 1) = (f.take n).app (.cons k t x .nil) := by
    have hn : n < f.len := by
      have := Fs.len_drop f n
      rw [h] at this
      simp only [Fs.len] at this
      omega
    obtain ⟨k', t', x', e'⟩ := Fs.drop_cons hn
    rw [e'] at h
    injection h with h1 h2 h3 h4
    subst h1 h2 h3
    exact Fs.take_succ f e'
  rw [e, rtrim_snoc]
theorem lastIs_at {p : Int → Tok → Bool} {f : Fs} {n : Nat} {k : Int} {t : Tok} {x r : Fs} (h : f.drop n = .cons k t x r) : lastIs p (f.take (n + 1)) = p k t := by
  have hn : n < f.len := by
    have := Fs.len_drop f n
    rw [h] at this
    simp only [Fs.len] at this
    omega
  obtain ⟨k', t', x', e'⟩ := Fs.drop_cons hn
  rw [e'] at h
  injection h with h1 h2 h3 h4
  subst h1 h2 h3
  rw [Fs.take_succ f e', lastIs_snoc]
/-- how long the value of what is made important is; none: it is not -/
def strongR (g : Fs) : Option Nat :=
  if lastIs strongV g && lastIs (signV [33]) (rtrim (initF g)) then some (rtrim (initF (rtrim (initF g)))).len else none
theorem cut_strong {g : Fs} (h : trimF g = g) : cutF g = match strongR g with
    | some n => (g.take n, true)
    | none => (g, false) := by
  have h1 := (trim_firstlast h).1
  have e1 : trimF (initF g) = rtrim (initF g) := trim_front h1 _
  have e2 : ∃ m, rtrim (initF g) = g.take m := ⟨_, by rw [rtrim_take (initF g)]; unfold initF; rw [take_take]⟩
  obtain ⟨m, e2⟩ := e2
  have e3 : trimF (initF (rtrim (initF g))) = rtrim (initF (rtrim (initF g))) := by
    rw [e2]
    unfold initF
    rw [take_take]
    exact trim_front h1 _
  unfold cutF strongR
  rw [e1, e3]
  split
  · dsimp only
    congr 1
    have e4 : ∃ j, rtrim (initF (rtrim (initF g))) = g.take j := by
      have q := rtrim_take (initF (rtrim (initF g)))
      generalize (rtrim (initF (rtrim (initF g)))).len = n at q
      refine ⟨min (min n ((g.take m).len - 1)) m, ?_⟩
      rw [q, e2]
      unfold initF
      rw [take_take, take_take]
    obtain ⟨j, e4⟩ := e4
    rw [e4]
    exact (take_self g j).symm
  · rfl
theorem trim_rtrim (f : Fs) : trimF (rtrim f) = trimF f := by
  induction f with
  | nil => rfl
  | cons k t x r _ ih =>
    by_cases hb : blankV k t = true
    · rw [trim_cons x r hb]
      rw [rtrim]
      cases hr : rtrim r with
      | nil =>
        rw [hr] at ih
        dsimp only
        rw [if_pos hb]
        exact ih
      | cons k' t' x' r' =>
        rw [hr] at ih
        dsimp only
        rw [trim_cons x _ hb]
        exact ih
    · have hb' : blankV k t = false := by simpa using hb
      rw [rtrim_nil_iff hb']
      unfold trimF
      rw [dropB, if_neg hb, dropB, if_neg hb, rtrim_nil_iff hb', rtrim_nil_iff hb', rtrim_idem]
/-- the declaration that trimmed values are, by what stands behind the blanks behind its name -/
theorem decl_steps {k : Int} {t : Tok} {x r : Fs} : declF (.cons k t x r) = if idv k t then match dropB r with
    | .nil => none
    | .cons k2 t2 _ r2 => if signV [58] k2 t2 then valueF t.2.1 (trimF r2) else none
    else none := by
  rw [declF]
  split
  · unfold trimF
    cases hd : dropB r with
    | nil => rfl
    | cons k2 t2 x2 r2 =>
      rw [rtrim_nil_iff (blank_head hd)]
      dsimp only
      have := trim_rtrim r2
      unfold trimF at this
      rw [this]
  · rfl
/-- what trimmed values without the sign that ends a declaration are worth: the checks that are left -/
theorem isVal_less {g : Fs} (h : trimF g = g) (h59 : anyF (signV [59]) g = false) : isValF g = (decide (0 < g.len) && (!anyF (signV [33]) g && decide (depth g ≤ 56))) := by
  unfold isValF
  rw [h, anyF_end, h59]
  simp [Bool.and_assoc]
theorem anyF_rtrim {p : Int → Tok → Bool} : ∀ {f : Fs}, anyF p f = false → anyF p (rtrim f) = false
  | .nil, _ => rfl
  | .cons k t x r, hf => by
    simp only [anyF, Bool.or_eq_false_iff] at hf
    have := anyF_rtrim (f := r) hf.2
    rw [rtrim]
    cases hr : rtrim r with
    | nil => dsimp only; split <;> simp [anyF, hf.1]
    | cons k' t' x' r' => rw [hr] at this; dsimp only; rw [anyF, hf.1, this]; rfl
theorem anyF_dropB {p : Int → Tok → Bool} : ∀ {f : Fs}, anyF p f = false → anyF p (dropB f) = false
  | .nil, _ => rfl
  | .cons k t x r, hf => by
    rw [dropB]
    split
    · simp only [anyF, Bool.or_eq_false_iff] at hf; exact anyF_dropB hf.2
    · exact hf
theorem anyF_trim {p : Int → Tok → Bool} {f : Fs} (h : anyF p f = false) : anyF p (trimF f) = false := anyF_rtrim (anyF_dropB h)
theorem anyF_take {p : Int → Tok → Bool} : ∀ {f : Fs} (n : Nat), anyF p f = false → anyF p (f.take n) = false
  | .nil, n, _ => by rw [Fs.take_nil]; rfl
  | .cons k t x r, 0, _ => by rw [Fs.take_zero]; rfl
  | .cons k t x r, n + 1, h => by
    simp only [anyF, Bool.or_eq_false_iff] at h
    rw [Fs.take, anyF, h.1, anyF_take n h.2]; rfl
theorem anyF_drop {p : Int → Tok → Bool} : ∀ {f : Fs} (n : Nat), anyF p f = false → anyF p (f.drop n) = false
  | f, 0, h => by rw [Fs.drop_zero]; exact h
  | .nil, n + 1, _ => rfl
  | .cons k t x r, n + 1, h => by
    simp only [anyF, Bool.or_eq_false_iff] at h
    rw [Fs.drop]; exact anyF_drop n h.2
/-- what the verifier's reader makes of a trimmed value without that sign -/
def valueR (n : List UInt8) (g : Fs) : Option Dl :=
  let v := match strongR g with
    | some m => (g.take m, true)
    | none => (g, false)
  if decide (0 < v.1.len) && (!anyF (signV [33]) v.1 && decide (depth v.1 ≤ 56)) then some (proper n, v.1, v.2) else none
theorem value_read {n : List UInt8} {g : Fs} (h : trimF g = g) (h59 : anyF (signV [59]) g = false) : valueF n g = valueR n g := by
  have hc := cut_strong h
  unfold valueF valueR
  dsimp only
  rw [← hc]
  have h1 : trimF (cutF g).1 = (cutF g).1 := by
    unfold cutF
    split
    · exact trim_idem _
    · exact h
  have h2 : anyF (signV [59]) (cutF g).1 = false := by
    unfold cutF
    split
    · exact anyF_trim (anyF_take _ (anyF_trim (anyF_take _ h59)))
    · exact h59
  rw [isVal_less h1 h2]
end Wn
set_option linter.unusedVariables false
set_option linter.unusedSimpArgs false
set_option maxRecDepth 20000
namespace Wn
theorem flatD_app : ∀ f g : Fs, flat (f.app g) = flat f ++ flat g
  | .nil, g => rfl
  | .cons k t x r, g => by rw [Fs.app, flat, flat, flatD_app r g, List.append_assoc]
theorem okD_app {k : Int} : ∀ {f g : Fs}, Ok k f → Ok k g → Ok k (f.app g)
  | .nil, _, _, h => h
  | .cons _ _ _ _, _, h, h' => ⟨h.1, okD_app h.2 h'⟩
/-- values that may stand anywhere at the top -/
structure Fit (f : Fs) : Prop where
  ok : Ok 0 f
  depth : depth f ≤ 60
  may : (flat f).all may = true
theorem Fit.app {f g : Fs} (h : Fit f) (h' : Fit g) : Fit (f.app g) := ⟨okD_app h.ok h'.ok, by rw [depth_app]; have := h.depth; have := h'.depth; omega, by rw [flatD_app, List.all_append, h.may, h'.may]; rfl⟩
theorem Fit.nil : Fit .nil := ⟨trivial, Nat.zero_le _, rfl⟩
theorem Fit.one {t : Tok} (hk : kindOf t = 1) (hm : Wn.may t = true) : Fit (.cons 1 t .nil .nil) :=
  ⟨⟨.inl ⟨rfl, rfl, hk, by unfold closes; rw [show isBlk 0 = false from rfl]; rfl⟩, trivial⟩, by rw [depth_one]; exact Nat.zero_le _, by rw [flat_one]; simp [flat, hm]⟩
theorem Fit.of {f : Fs} (h : mayF f = true) : Fit f := ⟨(mayF_ok h).1, (mayF_ok h).2, mayF_all h⟩
theorem Fit.mayF {f : Fs} (h : Fit f) : Wn.mayF f = true := mayF_of h.ok h.depth h.may
theorem fit_semi : Fit (.cons 1 (dlm [59]) .nil .nil) := Fit.one (by decide) (by decide +kernel)
theorem fit_colon : Fit (.cons 1 (dlm [58]) .nil .nil) := Fit.one (by decide) (by decide +kernel)
theorem fit_bang : Fit (.cons 1 (dlm [33]) .nil .nil) := Fit.one (by decide) (by decide +kernel)
theorem fit_imp : Fit (.cons 1 (1, importantB, 0) .nil .nil) := Fit.one (by decide) (by decide +kernel)
theorem fit_strong (b : Bool) : Fit (strongF b) := by
  cases b
  · exact Fit.nil
  · exact fit_bang.app fit_imp
theorem fit_one {d : Dl} (h : mayOne d = true) : Fit (valsOne d) := by
  unfold mayOne at h
  simp only [Bool.and_eq_true, decide_eq_true_eq] at h
  have h1 : Fit (.cons 1 (1, d.1, 0) .nil .nil) := Fit.one rfl h.1.1.1
  exact (h1.app fit_colon).app ((Fit.of h.2).app (fit_strong d.2.2))
theorem fit_join : ∀ {l : List Fs}, (∀ g ∈ l, Fit g) → Fit (joinF [59] l)
  | [], _ => Fit.nil
  | [a], h => h a (by simp)
  | a :: b :: l, h => (h a (by simp)).app (fit_semi.app (fit_join (l := b :: l) (fun g hg => h g (by simp [hg]))))
theorem may_vals {l : List Dl} (h : mayD l = true) : mayF (valsD l) = true := by
  refine (fit_join fun g hg => ?_).mayF
  obtain ⟨d, hd, rfl⟩ := List.mem_map.1 hg
  exact fit_one (List.all_eq_true.1 h d hd)
theorem mayOne_parts {d : Dl} (h : mayOne d = true) : isValF d.2.1 = true ∧ d.1 = proper d.1 := by
  unfold mayOne at h
  simp only [Bool.and_eq_true, decide_eq_true_eq] at h
  exact ⟨h.1.2, h.1.1.2⟩
/-- P7.4: declarations that may be are parsed from their values as they were -/
theorem back {l : List Dl} (h : mayD l = true) : parseD (valsD l) = l := parse_back fun d hd => mayOne_parts (List.all_eq_true.1 h d hd)
theorem vals_trim {l : List Dl} (h : mayD l = true) : trimF (valsD l) = valsD l := by
  have ends : ∀ d ∈ l, (∀ k t x r, valsOne d = .cons k t x r → blankV k t = false) ∧ ∃ (g : Fs) (k : Int) (t : Tok) (x : Fs), valsOne d = g.app (.cons k t x .nil) ∧ blankV k t = false := fun d hd => by
    obtain ⟨h1, _⟩ := mayOne_parts (List.all_eq_true.1 h d hd)
    obtain ⟨h0, h2, _⟩ := isVal_parts h1
    refine ⟨fun k t x r e => ?_, ?_⟩
    · unfold valsOne nameV at e
      injection e with q1 q2
      subst q1 q2; rfl
    · obtain ⟨n, g, b⟩ := d
      dsimp only at h0 h2
      cases b
      · obtain ⟨a, k, t, x, e⟩ := snoc_of h0
        refine ⟨nameV n (dlmV [58] a), k, t, x, ?_, (trim_firstlast h2).2 a k t x e⟩
        unfold valsOne strongF
        dsimp only
        rw [if_neg (by decide), Fs.app_nil, e]
        rfl
      · refine ⟨nameV n (dlmV [58] (g.app (.cons 1 (dlm [33]) .nil .nil))), 1, (1, importantB, 0), .nil, ?_, rfl⟩
        unfold valsOne strongF nameV dlmV
        dsimp only
        rw [if_pos rfl]
        simp only [Fs.app, Fs.app_assoc]
  have key : ∀ m : List Dl, m ≠ [] → (∀ d ∈ m, d ∈ l) → (∀ k t x r, valsD m = .cons k t x r → blankV k t = false) ∧ ∃ (g : Fs) (k : Int) (t : Tok) (x : Fs), valsD m = g.app (.cons k t x .nil) ∧ blankV k t = false := by
    intro m
    induction m with
    | nil => intro h; exact absurd rfl h
    | cons d m ih =>
      intro _ hm
      obtain ⟨e1, e2⟩ := ends d (hm d (by simp))
      cases m with
      | nil => exact ⟨e1, e2⟩
      | cons d2 m =>
        obtain ⟨_, g, k, t, x, i1, i2⟩ := ih (by simp) (fun e he => hm e (by simp [he]))
        have hv : valsD (d :: d2 :: m) = (valsOne d).app (.cons 1 (dlm [59]) .nil (valsD (d2 :: m))) := rfl
        rw [hv]
        refine ⟨fun k t x r e => ?_, (valsOne d).app (.cons 1 (dlm [59]) .nil g), k, t, x, ?_, i2⟩
        · obtain ⟨r', e⟩ := head_app (by unfold valsOne nameV; simp) e
          exact e1 k t x r' e
        · rw [i1, Fs.app_assoc]; rfl
  by_cases hl : l = []
  · subst hl; rfl
  obtain ⟨k1, g, k, t, x, k2, k3⟩ := key l hl (fun _ h => h)
  refine trim_ends k1 fun a k' t' x' e => ?_
  rw [k2] at e
  obtain ⟨_, rfl, rfl, _⟩ := app_snoc_inj e
  exact k3
theorem custom_low {s : List UInt8} (h : custom (low s) = true) : custom s = true := by
  unfold custom low at *
  simp only [decide_eq_true_eq] at *
  match s with
  | [] => simp at h
  | [a] => simp at h
  | a :: b :: l =>
    simp only [List.map_cons, List.take_succ_cons, List.take_zero, List.cons.injEq, and_true] at h ⊢
    have low45 : ∀ c : UInt8, lowB c = 45 → c = 45 := by
      intro c hc
      unfold lowB at hc
      split at hc
      · rename_i hh
        have := congrArg UInt8.toNat hc
        rw [UInt8.toNat_add] at this
        simp at this
        omega
      · exact hc
    exact ⟨low45 a h.1, low45 b h.2⟩
theorem low_low (s : List UInt8) : low (low s) = low s := by
  unfold low
  rw [List.map_map]
  refine List.map_congr_left fun c _ => ?_
  simp only [Function.comp, lowB]
  split
  · rename_i h
    rw [if_neg]
    rw [UInt8.toNat_add]
    simp
    omega
  · rename_i h
    rfl
theorem proper_proper (s : List UInt8) : proper (proper s) = proper s := by
  unfold proper
  by_cases h : custom s = true
  · rw [if_pos h, if_pos h]
  · rw [if_neg h]
    split
    · rfl
    · exact low_low s
/-- what was parsed -/
theorem decl_parts {f : Fs} {d : Dl} (h : declF (trimF f) = some d) : isValF d.2.1 = true ∧ d.1 = proper d.1 := by
  cases hf : trimF f with
  | nil => rw [hf] at h; cases h
  | cons k t x r =>
    rw [hf, declF] at h
    split at h
    · cases hr : trimF r with
      | nil => rw [hr] at h; cases h
      | cons k2 t2 x2 r2 =>
        rw [hr] at h
        dsimp only at h
        split at h
        · unfold valueF at h
          split at h
          · rename_i hv
            cases h
            exact ⟨hv, (proper_proper _).symm⟩
          · cases h
        · cases h
    · cases h
end Wn
