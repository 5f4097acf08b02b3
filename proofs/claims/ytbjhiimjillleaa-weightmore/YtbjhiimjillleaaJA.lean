/- The second writing of the selectors' parser, held against the first one's mathematics. Plain mathematics. The second writing of the selectors' parser: compound selectors and complex ones, step by step. Plain mathematics. The second writing of an nth. Plain mathematics. -/
import Derived.Test.YtbjhiimjillleaaHK
set_option linter.unusedVariables false
set_option linter.unusedSimpArgs false
set_option maxRecDepth 20000
namespace Wn
theorem colon_conv {f : Fs} {p : Sm × Fs} (h : colonG notNo f = some p) : colonG inNot f = some p := by
  unfold colonG at h ⊢
  cases hv : valF 5 f with
  | some q =>
    rw [hv] at h
    dsimp only at h ⊢
    unfold funcG at h ⊢
    split at h
    · rename_i hn; rw [if_pos hn]; exact h
    · rename_i hn
      rw [if_neg hn]
      split at h
      · cases h
      · cases h
  | none => rw [hv] at h; exact h
theorem later_conv {f : Fs} {p : Sm × Fs} (h : laterG notNo f = some (some p)) : laterG inNot f = some (some p) := by
  unfold laterG at h ⊢
  cases h4 : tokF 4 f with
  | some q => rw [h4] at h; exact h
  | none =>
    rw [h4] at h
    dsimp only at h ⊢
    cases h46 : signF [46] f with
    | some r => rw [h46] at h; exact h
    | none =>
      rw [h46] at h
      dsimp only at h ⊢
      cases h3 : valF 3 f with
      | some q => rw [h3] at h; exact h
      | none =>
        rw [h3] at h
        dsimp only at h ⊢
        cases h58 : signF [58] f with
        | none => rw [h58] at h; cases h
        | some r =>
          rw [h58] at h
          dsimp only at h ⊢
          cases hs : signF [58] r with
          | some _ => rw [hs] at h; cases h
          | none =>
            rw [hs] at h
            dsimp only at h ⊢
            cases hc : colonG notNo r with
            | none => rw [hc] at h; cases h
            | some q => rw [hc] at h; rw [colon_conv hc]; exact h
theorem simp_conv {b : Bool} {f : Fs} {p : Sm × Fs} (h : simpG notNo b f = some (some p)) : simpG inNot b f = some (some p) := by
  unfold simpG at h ⊢
  split at h
  · rename_i hb
    rw [if_pos hb]
    cases he : elemF f with
    | some q => rw [he] at h; exact h
    | none => rw [he] at h; exact later_conv h
  · rename_i hb
    rw [if_neg hb]
    exact later_conv h
theorem rtrim_tail {k : Int} {t : Tok} {x r : Fs} (h : rtrim (.cons k t x r) = .cons k t x r) : rtrim r = r := by
  rw [rtrim] at h
  cases hr : rtrim r with
  | nil =>
    rw [hr] at h
    dsimp only at h
    split at h
    · cases h
    · cases h; rfl
  | cons k' t' x' r' => rw [hr] at h; cases h; rfl
theorem rtrim_drop : ∀ {f : Fs} (i : Nat), rtrim f = f → rtrim (f.drop i) = f.drop i
  | f, 0, h => by rw [Fs.drop_zero]; exact h
  | .nil, i + 1, h => rfl
  | .cons k t x r, i + 1, h => rtrim_drop (f := r) i (rtrim_tail h)
theorem trim_rtrim (f : Fs) : rtrim (trimF f) = trimF f := rtrim_idem _
theorem dropB_nil_of {f : Fs} (h : rtrim f = f) : dropB f = .nil ↔ f = .nil := by rw [← rtrim_nil, h]
/-- values without the blanks -/
def nbF : Fs → Fs
  | .nil => .nil
  | .cons k t x r => if blankV k t then nbF r else .cons k t x (nbF r)
theorem nbF_drop : ∀ f : Fs, nbF (dropB f) = nbF f
  | .nil => rfl
  | .cons k t x r => by
    rw [dropB]
    split
    · rename_i h; rw [nbF_drop r, nbF, if_pos h]
    · rfl
theorem nbF_cons {f : Fs} {k : Int} {t : Tok} {x r : Fs} (h : dropB f = .cons k t x r) : nbF f = .cons k t x (nbF r) := by
  rw [← nbF_drop, h, nbF, if_neg]
  rw [blank_head h]; decide
theorem nbF_nil {f : Fs} (h : dropB f = .nil) : nbF f = .nil := by rw [← nbF_drop, h]; rfl
def attrEnd (n : List UInt8) : Fs → Option Sm
  | .cons k t _ .nil => if k = 1 ∧ (t.1 = 1 ∨ t.1 = 6) then some ⟨6, n, t.2.1, 0, 0, .nil⟩ else none
  | _ => none
/-- an attribute, of values without blanks -/
def rattr (g : Fs) : Option Sm := match tokF 1 g with
  | none => none
  | some p => if p.2 = .nil then some (sNam 5 p.1.2.1) else match signF [61] p.2 with
    | none => none
    | some r => attrEnd p.1.2.1 r
theorem attr_nb (f : Fs) : attrF f = rattr (nbF f) := by
  unfold attrF wholeF attrR rattr
  cases hd : dropB f with
  | nil => rw [nbF_nil hd]; rfl
  | cons k t x r =>
    rw [nbF_cons hd]
    simp only [tokF]
    by_cases hc : k = 1 ∧ t.1 = 1
    · rw [if_pos hc, if_pos hc]
      dsimp only
      cases hr : dropB r with
      | nil => rw [nbF_nil hr]; rfl
      | cons k2 t2 x2 r2 =>
        rw [nbF_cons hr, if_neg (by simp)]
        simp only [signF]
        by_cases hs : signV [61] k2 t2 = true
        · rw [if_pos hs, if_pos hs]
          dsimp only
          unfold attrV
          cases h3 : dropB r2 with
          | nil => rw [nbF_nil h3]; rfl
          | cons k3 t3 x3 r3 =>
            rw [nbF_cons h3]
            simp only [tokF]
            cases h4 : dropB r3 with
            | nil =>
              rw [nbF_nil h4]
              simp only [attrEnd]
              by_cases e6 : k3 = 1 ∧ t3.1 = 6
              · rw [if_pos e6, if_pos (show k3 = 1 ∧ (t3.1 = 1 ∨ t3.1 = 6) from ⟨e6.1, .inr e6.2⟩)]; simp [h4]
              · rw [if_neg e6]
                by_cases e1 : k3 = 1 ∧ t3.1 = 1
                · rw [if_pos e1, if_pos (show k3 = 1 ∧ (t3.1 = 1 ∨ t3.1 = 6) from ⟨e1.1, .inl e1.2⟩)]; simp [h4]
                · rw [if_neg e1, if_neg (by rintro ⟨a, b | b⟩ <;> simp_all)]; rfl
            | cons k4 t4 x4 r4 =>
              rw [nbF_cons h4]
              simp only [attrEnd]
              by_cases e6 : k3 = 1 ∧ t3.1 = 6
              · rw [if_pos e6]; simp [h4]
              · rw [if_neg e6]
                by_cases e1 : k3 = 1 ∧ t3.1 = 1
                · rw [if_pos e1]; simp [h4]
                · rw [if_neg e1]; rfl
        · rw [if_neg hs, if_neg hs]
          dsimp only
          have hb := blank_head hr
          rw [if_neg]
          rw [dropB, if_neg (by rw [hb]; decide)]
          simp
    · rw [if_neg hc, if_neg hc]
/-- a simple selector, or it is wrong -/
def simpS (first : Bool) (f : Fs) : Option (Sm × Fs) := match simpG inNot first f with
  | some (some p) => some p
  | _ => none
theorem simpS_some {b : Bool} {f : Fs} {p : Sm × Fs} (h : simpS b f = some p) : simpG inNot b f = some (some p) := by
  unfold simpS at h
  split at h
  · rename_i h1; cases h; exact h1
  · cases h
/-- what the values of a not are, by a simple selector that may be a not -/
theorem inNot_simpS (f : Fs) : inNot f = match simpS true (trimF f) with
    | some (x, .nil) => if x.k = 11 then none else some x
    | _ => none := by
  unfold inNot
  rw [whole_trim not_fair]
  cases hs : simpS true (trimF f) with
  | some p =>
    obtain ⟨c1, c2⟩ := simp_not (simpS_some hs)
    by_cases hk : p.1.k = 11
    · rw [c2 hk]
      obtain ⟨x, r⟩ := p
      cases r with
      | nil => simp only at hk ⊢; rw [if_pos hk]
      | cons => rfl
    · rw [c1 hk]
      obtain ⟨x, r⟩ := p
      cases r with
      | nil => simp only at hk ⊢; rw [if_neg hk]
      | cons => rfl
  | none =>
    have : notR (trimF f) = none := by
      cases hn : notR (trimF f) with
      | none => rfl
      | some p =>
        have := simp_conv (notR_some hn)
        rw [simpS, this] at hs; cases hs
    rw [this]
/-- all were taken -/
def fin {α : Type} : Option (α × Fs) → Option α
  | some (x, .nil) => some x
  | _ => none
theorem cplxF_fin (f : Fs) : cplxF f = fin (cplxR 16 0 (trimF f)) := by
  unfold cplxF
  rw [whole_trim (cplx_fair 16 0)]
  rfl
theorem nth_fin (f : Fs) : wholeF nthR f = fin (nthR (trimF f)) := by rw [whole_trim nth_fair]; rfl
end Wn
set_option linter.unusedVariables false
set_option linter.unusedSimpArgs false
set_option maxRecDepth 20000
namespace Wn
def combV (k : Int) (t : Tok) : Bool := signV [62] k t || signV [43] k t || signV [126] k t
/-- does a compound selector end here? -/
def overF : Fs → Bool
  | .nil => true
  | .cons k t _ _ => blankV k t || combV k t
def dblF (f : Fs) : Bool := match signF [58] f with
  | none => false
  | some r => (signF [58] r).isSome
theorem dlm_inj {x y : List UInt8} (h : dlm x = dlm y) : x = y := by simpa [dlm] using h
theorem comb_other {k : Int} {t : Tok} (h : combV k t = true) (s : List UInt8) (h1 : s ≠ [62]) (h2 : s ≠ [43]) (h3 : s ≠ [126]) : signV s k t = false ∧ k = 1 ∧ t.1 = 7 := by
  simp only [combV, signV, Bool.or_eq_true, Bool.and_eq_true, decide_eq_true_eq] at h
  rcases h with (⟨hk, ht⟩ | ⟨hk, ht⟩) | ⟨hk, ht⟩ <;> subst hk ht <;> simp [signV, dlm] <;> intro e <;> simp_all
theorem over_simp {b : Bool} {g : Fs} (h : overF g = true) : simpG inNot b g = some none := by
  cases g with
  | nil => cases b <;> rfl
  | cons k t x r =>
    have h' : blankV k t = true ∨ combV k t = true := by simpa [overF] using h
    rcases h' with h' | h'
    · obtain ⟨rfl, h8⟩ := blankV_iff.1 h'
      have hs : ∀ s, signF s (.cons 1 t x r) = none := fun s => by simp [signF, signV]; rintro rfl; simp [dlm] at h8
      unfold simpG elemF laterG
      rw [hs, hs, hs]
      simp [tokF, valF, h8]
    · have hs : ∀ s, s ≠ [62] → s ≠ [43] → s ≠ [126] → signF s (.cons k t x r) = none := fun s h1 h2 h3 => by simp [signF, (comb_other h' s h1 h2 h3).1]
      obtain ⟨_, rfl, h7⟩ := comb_other h' [42] (by decide) (by decide) (by decide)
      unfold simpG elemF laterG
      rw [hs [42] (by decide) (by decide) (by decide), hs [46] (by decide) (by decide) (by decide), hs [58] (by decide) (by decide) (by decide)]
      simp [tokF, valF, h7]
theorem dbl_simp {b : Bool} {g : Fs} (h : dblF g = true) : simpG inNot b g = some none := by
  unfold dblF at h
  cases h1 : signF [58] g with
  | none => rw [h1] at h; cases h
  | some r =>
    rw [h1] at h
    dsimp only at h
    obtain ⟨r', h2⟩ := Option.isSome_iff_exists.1 h
    obtain ⟨x, rfl⟩ := sign_some h1
    have hl : laterG inNot (.cons 1 (dlm [58]) x r) = some none := by
      unfold laterG
      rw [h1]
      dsimp only
      rw [h2]
      simp [tokF, signF, signV, valF, dlm]
    have he : elemF (.cons 1 (dlm [58]) x r) = none := by simp [elemF, tokF, signF, signV, dlm]
    unfold simpG
    rw [he, hl]
    cases b <;> rfl
theorem dbl_no {g : Fs} (h : dblF g = false) : pseudoR g = some ([], g) := by
  unfold dblF at h
  unfold pseudoR
  cases h1 : signF [58] g with
  | none => rfl
  | some r =>
    rw [h1] at h
    dsimp only at h ⊢
    cases h2 : signF [58] r with
    | none => rfl
    | some r' => rw [h2] at h; cases h
theorem over_comb {g : Fs} (h : overF g = false) : combR g = none := by
  cases g with
  | nil => cases h
  | cons k t x r =>
    have h' : blankV k t = false ∧ combV k t = false := by simpa [overF] using h
    have hd : dropB (.cons k t x r) = .cons k t x r := by rw [dropB, if_neg (by rw [h'.1]; decide)]
    simp only [combV, Bool.or_eq_false_iff] at h'
    unfold combR
    rw [hd, if_neg (by simp)]
    have : combS (.cons k t x r) = none := by simp [combS, signF, h'.2.1.1, h'.2.1.2, h'.2.2]
    rw [this]
    simp
/-- what is known where acc was read from f, up to g -/
structure CJ (f : Fs) (acc : List Sm) (g : Fs) : Prop where
  eq : ∀ n, compR (acc.length + n) true f = (compR n (decide (acc = [])) g).map fun p => (acc ++ p.1, p.2)
  many : 9 ≤ acc.length → compR 8 true f = none
theorem CJ.start (f : Fs) : CJ f [] f := ⟨fun n => by simp, fun h => by simp at h⟩
theorem compR_step {n : Nat} {b : Bool} {g r : Fs} {x : Sm} (h : simpG inNot b g = some (some (x, r))) : compR (n + 1) b g = (compR n false r).map (fun q => (x :: q.1, q.2)) ∧ compR 0 b g = none := by
  constructor <;> rw [compR, simpR, h]
theorem CJ.next {f g r : Fs} {acc : List Sm} {x : Sm} (h : CJ f acc g) (hs : simpS (decide (acc = [])) g = some (x, r)) : CJ f (acc ++ [x]) r := by
  obtain ⟨s1, s2⟩ := compR_step (n := 0) (simpS_some hs)
  refine ⟨fun n => ?_, fun h9 => ?_⟩
  · rw [show (acc ++ [x]).length + n = acc.length + (n + 1) by simp; omega, h.eq, (compR_step (n := n) (simpS_some hs)).1]
    rw [show decide (acc ++ [x] = []) = false by simp]
    cases compR n false r <;> simp
  · by_cases h9' : 9 ≤ acc.length
    · exact h.many h9'
    · have e := h.eq 0
      rw [s2] at e
      simp at h9
      rw [show (8 : Nat) = acc.length + 0 by omega]; simpa using e
theorem compR_none {n : Nat} {b : Bool} {g : Fs} (h : simpG inNot b g = some none) : compR n b g = some ([], g) := by
  cases n <;> rw [compR, simpR, h]
theorem CJ.done {f g : Fs} {acc : List Sm} (h : CJ f acc g) (hg : simpG inNot (decide (acc = [])) g = some none) : compR 8 true f = if acc.length ≤ 8 then some (acc, g) else none := by
  split
  · rename_i h8
    have e := h.eq (8 - acc.length)
    rw [compR_none hg, show acc.length + (8 - acc.length) = 8 by omega] at e
    simpa using e
  · exact h.many (by omega)
/-- where what comes is wrong -/
theorem CJ.bad {f g : Fs} {acc : List Sm} (h : CJ f acc g) (ho : overF g = false) (hd : dblF g = false) (hs : simpS (decide (acc = [])) g = none) (n : Nat) (c : Int) : cplxR n c f = none := by
  cases n with
  | zero => rfl
  | succ n =>
    rw [cplxR]
    cases hg : simpG inNot (decide (acc = [])) g with
    | none =>
      have : compR 8 true f = none := by
        by_cases h8 : acc.length ≤ 8
        · have e := h.eq (8 - acc.length)
          rw [show acc.length + (8 - acc.length) = 8 by omega] at e
          rw [e]
          have : compR (8 - acc.length) (decide (acc = [])) g = none := by
            cases hn : 8 - acc.length <;> rw [compR, simpR, hg]
          rw [this]; rfl
        · exact h.many (by omega)
      unfold partR; rw [this]
    | some q =>
      cases q with
      | some p => rw [simpS, hg] at hs; cases hs
      | none =>
        have e := h.done hg
        by_cases h8 : acc.length ≤ 8
        · rw [if_pos h8] at e
          unfold partR
          rw [e]
          dsimp only
          rw [dbl_no hd]
          dsimp only
          by_cases ha : acc = []
          · rw [if_pos ⟨ha, rfl⟩]
          · rw [if_neg (fun h => ha h.1)]
            dsimp only
            rw [if_neg (by simp), over_comb ho]
        · rw [if_neg h8] at e
          unfold partR
          rw [e]
/-- what is known where the parts ps were read from f, up to g, with a combinator -/
def PI4 (f : Fs) (ps : List (Int × List Sm)) (comb : Int) (g : Fs) : Prop := cplxR 16 0 f = (cplxR (16 - ps.length) comb g).map fun c => ((ps ++ c.1.1, c.1.2), c.2)
theorem PI4.start (f : Fs) : PI4 f [] 0 f := by unfold PI4; simp
theorem PI4.full {f g : Fs} {ps : List (Int × List Sm)} {comb : Int} (h : PI4 f ps comb g) (hl : 16 ≤ ps.length) : cplxR 16 0 f = none := by
  unfold PI4 at h
  rw [show 16 - ps.length = 0 by omega] at h
  exact h
theorem PI4.none_of {f g : Fs} {ps : List (Int × List Sm)} {comb : Int} (h : PI4 f ps comb g) (hn : ∀ n c, cplxR n c g = none) : cplxR 16 0 f = none := by
  unfold PI4 at h
  rw [h, hn]; rfl
theorem PI4.noPart {f g : Fs} {ps : List (Int × List Sm)} {comb : Int} (h : PI4 f ps comb g) (hn : partR g = none) : cplxR 16 0 f = none :=
  h.none_of fun n c => by cases n with | zero => rfl | succ n => rw [cplxR, hn]
/-- the end behind a pseudo-element -/
theorem PI4.pseudo {f g r : Fs} {ps : List (Int × List Sm)} {comb : Int} {l : List Sm} {s : List UInt8} (h : PI4 f ps comb g) (hl : ps.length < 16) (hp : partR g = some ((l, s), r)) (hs : s ≠ []) : cplxR 16 0 f = some ((ps ++ [(comb, l)], s), r) := by
  unfold PI4 at h
  rw [h, show 16 - ps.length = 15 - ps.length + 1 by omega, cplxR, hp]
  dsimp only
  rw [if_pos hs]
  rfl
theorem PI4.last {f g : Fs} {ps : List (Int × List Sm)} {comb : Int} {l : List Sm} (h : PI4 f ps comb g) (hl : ps.length < 16) (hp : partR g = some ((l, []), .nil)) : cplxR 16 0 f = some ((ps ++ [(comb, l)], []), .nil) := by
  unfold PI4 at h
  rw [h, show 16 - ps.length = 15 - ps.length + 1 by omega, cplxR, hp]
  dsimp only
  rw [if_neg (by simp)]
  rfl
theorem PI4.next {f g r r' : Fs} {ps : List (Int × List Sm)} {comb c : Int} {l : List Sm} (h : PI4 f ps comb g) (hl : ps.length < 16) (hp : partR g = some ((l, []), r)) (hc : combR r = some (c, r')) (h0 : c ≠ 0) : PI4 f (ps ++ [(comb, l)]) c r' := by
  unfold PI4 at h ⊢
  rw [h, show 16 - ps.length = 15 - ps.length + 1 by omega, cplxR, hp]
  dsimp only
  rw [if_neg (by simp), hc]
  dsimp only
  rw [if_neg h0, show 16 - (ps ++ [(comb, l)]).length = 15 - ps.length by rw [List.length_append, List.length_singleton]; omega]
  cases cplxR (15 - ps.length) c r' <;> simp
/-- the combinator that comes behind a part -/
def rcomb (g : Fs) : Int × Fs := match combS (dropB g) with
  | some p => (p.1, dropB p.2)
  | none => (1, dropB g)
theorem rcomb_some {g : Fs} (ho : overF g = true) (hn : dropB g ≠ .nil) : combR g = some (rcomb g) := by
  unfold combR rcomb
  rw [if_neg hn]
  cases hc : combS (dropB g) with
  | some p => rfl
  | none =>
    dsimp only
    rw [if_pos]
    rw [dropB_lt]
    cases g with
    | nil => exact absurd rfl hn
    | cons k t x r =>
      show blankV k t = true
      have h' : blankV k t = true ∨ combV k t = true := by simpa [overF] using ho
      rcases h' with h' | h'
      · exact h'
      · exfalso
        obtain ⟨_, rfl, h7⟩ := comb_other h' [42] (by decide) (by decide) (by decide)
        have hb : blankV 1 t = false := by unfold blankV; simp; omega
        rw [dropB, if_neg (by rw [hb]; decide)] at hc
        simp only [combV, Bool.or_eq_true] at h'
        simp only [combS, signF] at hc
        by_cases h1 : signV [62] 1 t = true
        · rw [if_pos h1] at hc; cases hc
        · rw [if_neg h1] at hc
          dsimp only at hc
          by_cases h2 : signV [43] 1 t = true
          · rw [if_pos h2] at hc; cases hc
          · rw [if_neg h2] at hc
            dsimp only at hc
            by_cases h3 : signV [126] 1 t = true
            · rw [if_pos h3] at hc; cases hc
            · rcases h' with (h' | h') | h'
              · exact h1 h'
              · exact h2 h'
              · exact h3 h'
theorem rcomb_pos (g : Fs) : (rcomb g).1 ≠ 0 := by
  unfold rcomb
  cases hc : combS (dropB g) with
  | none => simp
  | some p =>
    dsimp only
    unfold combS at hc
    split at hc
    · cases hc; simp
    · split at hc
      · cases hc; simp
      · split at hc
        · cases hc; simp
        · cases hc
end Wn
set_option linter.unusedVariables false
set_option linter.unusedSimpArgs false
set_option maxRecDepth 20000
namespace Wn
def nthOne (t : Tok) : Option (Int × Int) := if t.2.1 = [] then some (0, t.2.2) else if t.2.1 = [110] then some (t.2.2, 0) else (nthC t.2.1).map fun n => (t.2.2, -n)
/-- an nth, of values that are trimmed -/
def rnth : Fs → Option (Int × Int)
  | .nil => none
  | .cons k t _ .nil => if k = 1 ∧ t.1 = 1 then nthW t.2.1 else if k = 1 ∧ t.1 = 5 then nthOne t else none
  | .cons k t _ (.cons k2 t2 _ (.cons k3 t3 _ .nil)) => if (k = 1 ∧ t.1 = 5 ∧ t.2.1 = [110]) ∧ signV [43] k2 t2 = true ∧ (k3 = 1 ∧ t3.1 = 5) ∧ t3.2.1 = [] ∧ 0 ≤ t3.2.2 then some (t.2.2, t3.2.2) else none
  | .cons _ _ _ (.cons _ _ _ .nil) => none
  | .cons _ _ _ (.cons _ _ _ (.cons _ _ _ (.cons _ _ _ _))) => none
theorem fin_cons {α : Type} (x : α) (k : Int) (t : Tok) (y r : Fs) : fin (some (x, .cons k t y r)) = none := rfl
theorem fin_nil {α : Type} (x : α) : fin (some (x, Fs.nil)) = some x := rfl
theorem fin_none {α : Type} : fin (none : Option (α × Fs)) = none := rfl
theorem nth_rnth (g : Fs) : fin (nthR g) = rnth g := by
  cases g with
  | nil => rfl
  | cons k t x r =>
    unfold nthR
    simp only [tokF]
    by_cases h5 : k = 1 ∧ t.1 = 5
    · have h1 : ¬ (k = 1 ∧ t.1 = 1) := by omega
      rw [if_pos h5]
      dsimp only
      unfold nthT
      cases r with
      | nil =>
        simp only [rnth, if_neg h1, if_pos h5, nthOne]
        split
        · rfl
        · split
          · rfl
          · cases nthC t.2.1 <;> rfl
      | cons k2 t2 x2 r2 =>
        have hA : ¬ t.2.1 = [110] → fin (if t.2.1 = [] then some ((0, t.2.2), Fs.cons k2 t2 x2 r2) else if t.2.1 = [110] then Option.map (fun p => ((t.2.2, p.1), p.2)) (plusR (.cons k2 t2 x2 r2)) else Option.map (fun n => ((t.2.2, -n), Fs.cons k2 t2 x2 r2)) (nthC t.2.1)) = none := by
          intro hn
          split
          · rfl
          · (try rw [if_neg hn]); cases nthC t.2.1 <;> rfl
        by_cases hn : t.2.1 = [110]
        · rw [if_neg (by rw [hn]; decide), if_pos hn]
          unfold plusR
          simp only [signF]
          by_cases hs : signV [43] k2 t2 = true
          · rw [if_pos hs]
            dsimp only
            cases r2 with
            | nil => rfl
            | cons k3 t3 x3 r3 =>
              simp only [tokF]
              by_cases h3 : k3 = 1 ∧ t3.1 = 5
              · rw [if_pos h3]
                dsimp only
                by_cases h0 : t3.2.1 = [] ∧ 0 ≤ t3.2.2
                · rw [if_pos h0]
                  cases r3 with
                  | nil => simp only [rnth]; rw [if_pos ⟨⟨h5.1, h5.2, hn⟩, hs, h3, h0⟩]; rfl
                  | cons => rfl
                · rw [if_neg h0]
                  cases r3 with
                  | nil => simp only [rnth]; rw [if_neg (fun h => h0 h.2.2.2)]; rfl
                  | cons => rfl
              · rw [if_neg h3]
                cases r3 with
                | nil => simp only [rnth]; rw [if_neg (fun h => h3 h.2.2.1)]; rfl
                | cons => rfl
          · rw [if_neg hs]
            dsimp only [Option.map]
            rw [fin_cons]
            cases r2 with
            | nil => rfl
            | cons k3 t3 x3 r3 =>
              cases r3 with
              | nil => simp only [rnth]; rw [if_neg (fun h => hs h.2.1)]
              | cons => rfl
        · rw [hA hn]
          cases r2 with
          | nil => rfl
          | cons k3 t3 x3 r3 =>
            cases r3 with
            | nil => simp only [rnth]; rw [if_neg (fun h => hn h.1.2.2)]
            | cons => rfl
    · rw [if_neg h5]
      dsimp only
      have hB : ∀ (k2 : Int) (t2 : Tok) (x2 r2 : Fs), rnth (.cons k t x (.cons k2 t2 x2 r2)) = none := by
        intro k2 t2 x2 r2
        cases r2 with
        | nil => rfl
        | cons k3 t3 x3 r3 =>
          cases r3 with
          | nil => simp only [rnth]; rw [if_neg (fun h => h5 ⟨h.1.1, h.1.2.1⟩)]
          | cons => rfl
      by_cases h1 : k = 1 ∧ t.1 = 1
      · rw [if_pos h1]
        dsimp only
        cases r with
        | nil => simp only [rnth]; rw [if_pos h1]; cases nthW t.2.1 <;> rfl
        | cons k2 t2 x2 r2 => rw [hB]; cases nthW t.2.1 <;> rfl
      · rw [if_neg h1]
        dsimp only
        cases r with
        | nil => simp only [rnth]; rw [if_neg h1, if_neg h5]; rfl
        | cons k2 t2 x2 r2 => rw [hB]; rfl
theorem nthF_rnth (f : Fs) : nthF f = match rnth (trimF f) with
    | none => none
    | some p => if few p.1 && few p.2 then some p else none := by
  unfold nthF; rw [nth_fin, nth_rnth]; cases rnth (trimF f) <;> rfl
end Wn
