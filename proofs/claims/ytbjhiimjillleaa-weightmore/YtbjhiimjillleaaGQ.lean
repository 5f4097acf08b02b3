/- What nest.Depth answers. What nest.Same, sameVal and slices.EqualFunc answer. What nest.allValid and May answer. What was parsed is told flat, and parsed again as it was: plain mathematics of values. Parsing that succeeds, and that does not; literal tokens. -/
import Derived.Test.YtbjhiimjillleaaGP
import Derived.Test.YtbjhiimjillleaaGM
set_option linter.unusedVariables false
set_option linter.unusedSimpArgs false
set_option maxRecDepth 20000
namespace Wn
theorem depth_le_size : ∀ f : Fs, depth f ≤ f.size
  | .nil => Nat.le_refl _
  | .cons k t x r => by
    have h1 := depth_le_size x
    have h2 := depth_le_size r
    simp only [depth, Fs.size]
    split <;> omega
end Wn
namespace Go.Proofs.Ytbjhiimjillleaa
open Go.RowKit Go.Sort
end Go.Proofs.Ytbjhiimjillleaa
set_option linter.unusedVariables false
set_option linter.unusedSimpArgs false
set_option maxRecDepth 20000
namespace Go.Proofs.Ytbjhiimjillleaa
open Go.RowKit Go.Sort
theorem str_dec {x y : ByteArray} {a b : List UInt8} (hx : x.toList = a) (hy : y.toList = b) : (x.toList == y.toList) = decide (a = b) := by rw [hx, hy]; rw [Bool.eq_iff_iff]; simp
end Go.Proofs.Ytbjhiimjillleaa
set_option linter.unusedVariables false
set_option linter.unusedSimpArgs false
set_option maxRecDepth 20000
namespace Wn
def mayF (f : Fs) : Bool := (flat f).all may && decide (parse (flat f) 60 = some f)
end Wn
namespace Go.Proofs.Ytbjhiimjillleaa
open Go.RowKit Go.Sort
theorem all_step' {l : List Wn.Tok} {j : Nat} {t : Wn.Tok} (h : l[j]? = some t) : (l.drop j).all Wn.may = (Wn.may t && (l.drop (j + 1)).all Wn.may) := by
  have hj : j < l.length := (List.getElem?_eq_some_iff.1 h).1
  rw [List.drop_eq_getElem_cons hj, List.all_cons]
  rw [List.getElem?_eq_getElem hj, Option.some.injEq] at h
  rw [h]
end Go.Proofs.Ytbjhiimjillleaa
set_option linter.unusedVariables false
set_option linter.unusedSimpArgs false
set_option maxRecDepth 20000
namespace Wn
/-- values as they may stand in a block of kind k -/
def Ok : Int → Fs → Prop
  | _, .nil => True
  | k, .cons k' t x r => ((k' = 1 ∧ x = .nil ∧ kindOf t = 1 ∧ closes t k = false) ∨ (isBlk k' = true ∧ t = blockTok k' (opening k' t) ∧ kindOf (opening k' t) = k' ∧ Ok k' x)) ∧ Ok k r
theorem closes_tok {t : Tok} {k : Int} (h : closes t k = true) : isBlk k = true ∧ t = dlm (closeB k) := by unfold closes at h; simpa using h
theorem kindOf_close (k : Int) : kindOf (dlm (closeB k)) = 1 := by
  unfold closeB
  split
  · decide
  · split <;> decide
theorem closes_no {t : Tok} {k : Int} (h : ¬ kindOf t = 1) : closes t k = false := by
  cases hc : closes t k
  · rfl
  · obtain ⟨_, rfl⟩ := closes_tok hc
    exact absurd (kindOf_close k) h
theorem kindOf_blk {t : Tok} (h : ¬ kindOf t = 1) : isBlk (kindOf t) = true := by
  rcases kindOf_cases t with h1 | ⟨h1, h2⟩
  · exact absurd h1 h
  · unfold isBlk; simp; omega
/-- the token that opens a block is told as it was -/
theorem opening_block {t : Tok} (h : ¬ kindOf t = 1) : opening (kindOf t) (blockTok (kindOf t) t) = t := by
  unfold opening blockTok
  by_cases h5 : kindOf t = 5
  · simp [h5]
  · rw [if_neg h5]
    have hk : ¬ t.1 = 2 := fun h2 => h5 (by unfold kindOf; rw [if_pos h2])
    unfold kindOf at h ⊢
    rw [if_neg hk] at h ⊢
    split
    · rename_i e; rw [e]; rfl
    · split
      · rename_i e; rw [e]; rfl
      · split
        · rename_i e; rw [e]; rfl
        · simp_all
theorem blk_ne {k : Int} (h : isBlk k = true) : ¬ k = 1 := by rintro rfl; simp [isBlk] at h
theorem flat_block {k : Int} (t : Tok) (x r : Fs) (hb : isBlk k = true) : flat (.cons k t x r) = opening k t :: (flat x ++ dlm (closeB k) :: flat r) := by
  simp [flat, blk_ne hb, hb]
theorem flat_one (t : Tok) (r : Fs) : flat (.cons 1 t .nil r) = t :: flat r := by simp [flat]
theorem depth_block {k : Int} (t : Tok) (x r : Fs) (hb : isBlk k = true) : depth (.cons k t x r) = max (1 + depth x) (depth r) := by simp [depth, hb]
theorem depth_one (t : Tok) (r : Fs) : depth (.cons 1 t .nil r) = depth r := by simp [depth, isBlk]
/-- what comes of parsing, step by step -/
theorem valsL_ind {M : Int → Nat → List Tok → Fs → List Tok → Prop}
    (hnil : ∀ k left, M k left [] .nil [])
    (hclose : ∀ k left l, isBlk k = true → M k left (dlm (closeB k) :: l) .nil l)
    (htok : ∀ k left t l f l', closes t k = false → kindOf t = 1 → valsL k left l = some (f, l') → M k left l f l' → M k left (t :: l) (.cons 1 t .nil f) l')
    (hblk : ∀ k left t l x l1 f l', closes t k = false → ¬ kindOf t = 1 → 0 < left → valsL (kindOf t) (left - 1) l = some (x, l1) → M (kindOf t) (left - 1) l x l1 → valsL k left l1 = some (f, l') → M k left l1 f l' → M k left (t :: l) (.cons (kindOf t) (blockTok (kindOf t) t) x f) l') :
    ∀ (n : Nat) (k : Int) (left : Nat) (l : List Tok) (f : Fs) (l' : List Tok), l.length ≤ n → valsL k left l = some (f, l') → M k left l f l'
  | n, k, left, [], f, l', _, h => by
    rw [valsL_nil] at h
    simp only [Option.some.injEq, Prod.mk.injEq] at h
    obtain ⟨rfl, rfl⟩ := h
    exact hnil k left
  | 0, k, left, t :: l, f, l', hl, _ => by simp at hl
  | n + 1, k, left, t :: l, f, l', hl, h => by
    simp only [List.length_cons] at hl
    rw [valsL_cons] at h
    cases hc : closes t k
    · rw [hc] at h
      simp only [Bool.false_eq_true, if_false] at h
      cases ho : oneVal t left l with
      | none => rw [ho] at h; cases h
      | some q =>
        rw [ho] at h
        dsimp only at h
        rw [Option.map_eq_some_iff] at h
        obtain ⟨p, hp, he⟩ := h
        simp only [Prod.mk.injEq] at he
        obtain ⟨rfl, rfl⟩ := he
        have hr := (oneVal_rest ho).1
        unfold oneVal at ho
        by_cases h1 : kindOf t = 1
        · rw [if_pos h1] at ho
          simp only [Option.some.injEq] at ho
          subst ho
          exact htok k left t l p.1 p.2 hc h1 hp (valsL_ind hnil hclose htok hblk n k left l p.1 p.2 (by omega) hp)
        · rw [if_neg h1] at ho
          by_cases h0 : left = 0
          · rw [if_pos h0] at ho; cases ho
          · rw [if_neg h0, Option.map_eq_some_iff] at ho
            obtain ⟨q', hq', rfl⟩ := ho
            dsimp only at hp hr ⊢
            exact hblk k left t l q'.1 q'.2 p.1 p.2 hc h1 (by omega) hq' (valsL_ind hnil hclose htok hblk n _ _ l q'.1 q'.2 (by omega) hq') hp (valsL_ind hnil hclose htok hblk n k left q'.2 p.1 p.2 (by omega) hp)
    · rw [hc] at h
      simp only [if_true, Option.some.injEq, Prod.mk.injEq] at h
      obtain ⟨rfl, rfl⟩ := h
      obtain ⟨hb, rfl⟩ := closes_tok hc
      exact hclose k left l hb
theorem valsL_ok {k : Int} {left : Nat} {l : List Tok} {f : Fs} {l' : List Tok} (h : valsL k left l = some (f, l')) : Ok k f :=
  valsL_ind (M := fun k _ _ f _ => Ok k f) (fun _ _ => trivial) (fun _ _ _ _ => trivial) (fun k left t l f l' hc h1 _ ih => ⟨.inl ⟨rfl, rfl, h1, hc⟩, ih⟩)
    (fun k left t l x l1 f l' hc h1 h0 _ ih1 _ ih2 => ⟨.inr ⟨kindOf_blk h1, by rw [opening_block h1], by rw [opening_block h1], ih1⟩, ih2⟩) _ k left l f l' (Nat.le_refl _) h
theorem valsL_depth {k : Int} {left : Nat} {l : List Tok} {f : Fs} {l' : List Tok} (h : valsL k left l = some (f, l')) : depth f ≤ left :=
  valsL_ind (M := fun _ left _ f _ => depth f ≤ left) (fun _ _ => Nat.zero_le _) (fun _ _ _ _ => Nat.zero_le _) (fun k left t l f l' hc h1 _ ih => by rw [depth_one]; exact ih)
    (fun k left t l x l1 f l' hc h1 h0 _ ih1 _ ih2 => by rw [depth_block _ _ _ (kindOf_blk h1)]; omega) _ k left l f l' (Nat.le_refl _) h
theorem valsL_size {k : Int} {left : Nat} {l : List Tok} {f : Fs} {l' : List Tok} (h : valsL k left l = some (f, l')) : f.size + l'.length ≤ l.length :=
  valsL_ind (M := fun _ _ l f l' => f.size + l'.length ≤ l.length) (fun _ _ => Nat.le_refl _) (fun _ _ _ _ => by simp [Fs.size]) (fun k left t l f l' hc h1 _ ih => by simp only [Fs.size, List.length_cons]; omega)
    (fun k left t l x l1 f l' hc h1 h0 _ ih1 _ ih2 => by simp only [Fs.size, List.length_cons]; omega) _ k left l f l' (Nat.le_refl _) h
theorem flat_len : ∀ f : Fs, (flat f).length ≤ 2 * f.size
  | .nil => Nat.le_refl _
  | .cons k t x r => by
    have h1 := flat_len x
    have h2 := flat_len r
    simp only [flat, Fs.size, List.length_append]
    split
    · simp; omega
    · split
      · simp; omega
      · simp; omega
/-- the tokens that were parsed are those that are told, but for last ones that were not there -/
theorem valsL_flat {k : Int} {left : Nat} {l : List Tok} {f : Fs} {l' : List Tok} (h : valsL k left l = some (f, l')) : (isBlk k = true ∧ l = flat f ++ dlm (closeB k) :: l') ∨ (l' = [] ∧ l <+: flat f) :=
  valsL_ind (M := fun k _ l f l' => (isBlk k = true ∧ l = flat f ++ dlm (closeB k) :: l') ∨ (l' = [] ∧ l <+: flat f)) (fun _ _ => .inr ⟨rfl, List.nil_prefix⟩) (fun k left l hb => .inl ⟨hb, rfl⟩)
    (fun k left t l f l' hc h1 _ ih => by
      rw [flat_one]
      rcases ih with ⟨hb, e⟩ | ⟨e, hp⟩
      · exact .inl ⟨hb, by rw [List.cons_append, ← e]⟩
      · exact .inr ⟨e, List.prefix_cons_inj t |>.2 hp⟩)
    (fun k left t l x l1 f l' hc h1 h0 hv1 ih1 hv2 ih2 => by
      rw [flat_block _ _ _ (kindOf_blk h1), opening_block h1]
      rcases ih1 with ⟨hb1, e1⟩ | ⟨rfl, hp1⟩
      · rcases ih2 with ⟨hb, e⟩ | ⟨e, hp⟩
        · exact .inl ⟨hb, by rw [e1, e]; simp⟩
        · refine .inr ⟨e, List.prefix_cons_inj t |>.2 ?_⟩
          rw [e1]
          exact (List.prefix_append_right_inj _).2 ((List.prefix_cons_inj _).2 hp)
      · rw [valsL_nil] at hv2
        simp only [Option.some.injEq, Prod.mk.injEq] at hv2
        obtain ⟨rfl, rfl⟩ := hv2
        exact .inr ⟨rfl, List.prefix_cons_inj t |>.2 (hp1.trans (List.prefix_append _ _))⟩) _ k left l f l' (Nat.le_refl _) h
theorem valsL_mem {k : Int} {left : Nat} {l : List Tok} {f : Fs} {l' : List Tok} (h : valsL k left l = some (f, l')) : (∀ t ∈ flat f, t ∈ l ∨ ∃ k, t = dlm (closeB k)) ∧ ∀ t ∈ l', t ∈ l :=
  valsL_ind (M := fun _ _ l f l' => (∀ t ∈ flat f, t ∈ l ∨ ∃ k, t = dlm (closeB k)) ∧ ∀ t ∈ l', t ∈ l) (fun _ _ => ⟨fun t ht => by simp [flat] at ht, fun t ht => by simp at ht⟩) (fun k left l hb => ⟨fun t ht => by simp [flat] at ht, fun t ht => List.mem_cons_of_mem _ ht⟩)
    (fun k left t l f l' hc h1 _ ih => ⟨fun u hu => by
      rw [flat_one, List.mem_cons] at hu
      rcases hu with rfl | hu
      · exact .inl List.mem_cons_self
      · exact (ih.1 u hu).imp (List.mem_cons_of_mem _) id, fun u hu => List.mem_cons_of_mem _ (ih.2 u hu)⟩)
    (fun k left t l x l1 f l' hc h1 h0 hv1 ih1 hv2 ih2 => ⟨fun u hu => by
      rw [flat_block _ _ _ (kindOf_blk h1), opening_block h1, List.mem_cons, List.mem_append, List.mem_cons] at hu
      rcases hu with rfl | hu | rfl | hu
      · exact .inl List.mem_cons_self
      · exact (ih1.1 u hu).imp (List.mem_cons_of_mem _) id
      · exact .inr ⟨_, rfl⟩
      · rcases ih2.1 u hu with h | h
        · exact .inl (List.mem_cons_of_mem _ (ih1.2 u h))
        · exact .inr h, fun u hu => List.mem_cons_of_mem _ (ih1.2 u (ih2.2 u hu))⟩) _ k left l f l' (Nat.le_refl _) h
/-- values that are told flat, and what stands behind them -/
theorem valsL_read : ∀ (f : Fs) (k : Int) (left : Nat) (R : List Tok), Ok k f → depth f ≤ left → valsL k left (flat f ++ R) = (valsL k left R).map fun p => (f.app p.1, p.2)
  | .nil, k, left, R, _, _ => by simp [flat, Fs.app]
  | .cons k' t x r, k, left, R, hok, hd => by
    obtain ⟨hc, hr⟩ := hok
    rcases hc with ⟨rfl, rfl, h1, h2⟩ | ⟨hb, ht, hk, hx⟩
    · rw [depth_one] at hd
      rw [flat_one, List.cons_append, valsL_cons, h2]
      simp only [Bool.false_eq_true, if_false]
      have ho : oneVal t left (flat r ++ R) = some (1, t, .nil, flat r ++ R) := by unfold oneVal; rw [if_pos h1]
      rw [ho]
      dsimp only
      rw [valsL_read r k left R hr hd]
      cases valsL k left R <;> simp [Fs.app]
    · rw [depth_block _ _ _ hb] at hd
      have hne : ¬ kindOf (opening k' t) = 1 := by rw [hk]; exact blk_ne hb
      rw [flat_block _ _ _ hb, List.cons_append, valsL_cons, closes_no hne]
      simp only [Bool.false_eq_true, if_false]
      have e : flat x ++ dlm (closeB k') :: flat r ++ R = flat x ++ (dlm (closeB k') :: (flat r ++ R)) := by simp
      have hcl : closes (dlm (closeB k')) k' = true := by unfold closes; simp [hb]
      have hin : valsL k' (left - 1) (flat x ++ dlm (closeB k') :: flat r ++ R) = some (x, flat r ++ R) := by
        rw [e, valsL_read x k' (left - 1) _ hx (by omega), valsL_cons, hcl]
        simp [Fs.app_nil]
      have ho : oneVal (opening k' t) left (flat x ++ dlm (closeB k') :: flat r ++ R) = some (k', t, x, flat r ++ R) := by
        unfold oneVal
        rw [if_neg hne, if_neg (by omega), hk, hin]
        simp [← ht]
      rw [ho]
      dsimp only
      rw [valsL_read r k left R hr (by omega)]
      cases valsL k left R <;> simp [Fs.app]
/-- not with less depth -/
theorem valsL_less : ∀ (f : Fs) (k : Int) (left : Nat) (R : List Tok), Ok k f → left < depth f → valsL k left (flat f ++ R) = none
  | .nil, k, left, R, _, h => by simp [depth] at h
  | .cons k' t x r, k, left, R, hok, hd => by
    obtain ⟨hc, hr⟩ := hok
    rcases hc with ⟨rfl, rfl, h1, h2⟩ | ⟨hb, ht, hk, hx⟩
    · rw [depth_one] at hd
      rw [flat_one, List.cons_append, valsL_cons, h2]
      simp only [Bool.false_eq_true, if_false]
      have ho : oneVal t left (flat r ++ R) = some (1, t, .nil, flat r ++ R) := by unfold oneVal; rw [if_pos h1]
      rw [ho]
      dsimp only
      rw [valsL_less r k left R hr hd]
      rfl
    · rw [depth_block _ _ _ hb] at hd
      have hne : ¬ kindOf (opening k' t) = 1 := by rw [hk]; exact blk_ne hb
      rw [flat_block _ _ _ hb, List.cons_append, valsL_cons, closes_no hne]
      simp only [Bool.false_eq_true, if_false]
      have e : flat x ++ dlm (closeB k') :: flat r ++ R = flat x ++ (dlm (closeB k') :: (flat r ++ R)) := by simp
      have hcl : closes (dlm (closeB k')) k' = true := by unfold closes; simp [hb]
      by_cases h0 : left = 0
      · have ho : oneVal (opening k' t) left (flat x ++ dlm (closeB k') :: flat r ++ R) = none := by
          unfold oneVal
          rw [if_neg hne, if_pos h0]
        rw [ho]
      · by_cases hdx : depth x ≤ left - 1
        · have hin : valsL k' (left - 1) (flat x ++ dlm (closeB k') :: flat r ++ R) = some (x, flat r ++ R) := by
            rw [e, valsL_read x k' (left - 1) _ hx hdx, valsL_cons, hcl]
            simp [Fs.app_nil]
          have ho : oneVal (opening k' t) left (flat x ++ dlm (closeB k') :: flat r ++ R) = some (k', t, x, flat r ++ R) := by
            unfold oneVal
            rw [if_neg hne, if_neg h0, hk, hin]
            simp [← ht]
          rw [ho]
          dsimp only
          rw [valsL_less r k left R hr (by omega)]
          rfl
        · have ho : oneVal (opening k' t) left (flat x ++ dlm (closeB k') :: flat r ++ R) = none := by
            unfold oneVal
            rw [if_neg hne, if_neg h0, hk, e, valsL_less x k' (left - 1) _ hx (by omega)]
            rfl
          rw [ho]
theorem parse_valsL' (l : List Tok) (n : Nat) : parse l n = (valsL 0 n l).map (·.1) := rfl
theorem parse_some {l : List Tok} {n : Nat} {f : Fs} (h : parse l n = some f) : ∃ l', valsL 0 n l = some (f, l') := by
  rw [parse_valsL', Option.map_eq_some_iff] at h
  obtain ⟨p, hp, rfl⟩ := h
  exact ⟨p.2, hp⟩
theorem parse_flat {f : Fs} {n : Nat} (hok : Ok 0 f) (hd : depth f ≤ n) : parse (flat f) n = some f := by
  have := valsL_read f 0 n [] hok hd
  rw [List.append_nil] at this
  rw [parse_valsL', this, valsL_nil]
  simp [Fs.app_nil]
theorem parse_less {f : Fs} {n : Nat} (hok : Ok 0 f) (hd : n < depth f) : parse (flat f) n = none := by
  have := valsL_less f 0 n [] hok hd
  rw [List.append_nil] at this
  rw [parse_valsL', this]
  rfl
theorem parse_both {f g : Fs} {b : List Tok} {n : Nat} (hok : Ok 0 f) (hd : depth f ≤ n) (h : parse b n = some g) : parse (flat f ++ b) n = some (f.app g) := by
  obtain ⟨l', hv⟩ := parse_some h
  rw [parse_valsL', valsL_read f 0 n b hok hd, hv]
  simp
theorem depth_app : ∀ f g : Fs, depth (f.app g) = max (depth f) (depth g)
  | .nil, g => by simp [Fs.app, depth]
  | .cons k t x r, g => by rw [Fs.app, depth, depth, depth_app r g]; omega
theorem may_close (k : Int) : may (dlm (closeB k)) = true := by
  unfold closeB
  split
  · decide +kernel
  · split <;> decide +kernel
theorem may_parsed {l : List Tok} {f : Fs} (h : parse l 60 = some f) (hm : l.all may = true) : mayF f = true := by
  obtain ⟨l', hv⟩ := parse_some h
  unfold mayF
  rw [parse_flat (valsL_ok hv) (valsL_depth hv)]
  simp only [decide_true, Bool.and_true]
  rw [List.all_eq_true] at hm ⊢
  intro t ht
  rcases (valsL_mem hv).1 t ht with h | ⟨k, rfl⟩
  · exact hm t h
  · exact may_close k
theorem parse_prefix {l : List Tok} {f : Fs} {n : Nat} (h : parse l n = some f) : l <+: flat f := by
  obtain ⟨l', hv⟩ := parse_some h
  rcases valsL_flat hv with ⟨hb, _⟩ | ⟨_, hp⟩
  · simp [isBlk] at hb
  · exact hp
theorem parse_size {l : List Tok} {f : Fs} {n : Nat} (h : parse l n = some f) : f.size ≤ l.length := by
  obtain ⟨l', hv⟩ := parse_some h
  have := valsL_size hv
  omega
end Wn
set_option linter.unusedVariables false
set_option linter.unusedSimpArgs false
set_option maxRecDepth 20000
namespace Wn
def nA : List Tok := [(2, [97], 0), (1, [98], 0), (7, [93], 0)]
def nF : Fs := .cons 5 (2, [97], 0) (.cons 1 (1, [98], 0) .nil (.cons 1 (7, [93], 0) .nil .nil)) .nil
def nB : List Tok := [(7, [40], 0), (7, [91], 0), (7, [123], 0), (1, [120], 0)]
def nG : Fs := .cons 2 (0, [], 0) (.cons 3 (0, [], 0) (.cons 4 (0, [], 0) (.cons 1 (1, [120], 0) .nil .nil) .nil) .nil) .nil
def nZ : Fs := .cons 0 (0, [], 0) .nil .nil
theorem lex_nA : lex [97, 40, 98, 93] = nA := by decide +kernel
theorem lex_nB : lex [40, 91, 123, 120] = nB := by decide +kernel
theorem parse_nA : parse nA 9 = some nF := by decide +kernel
theorem parse_nB2 : parse nB 2 = none := by decide +kernel
theorem parse_nB3 : parse nB 3 = some nG := by decide +kernel
theorem depth_nG : depth nG = 3 := by decide +kernel
theorem flat_nG : flat nG = [(7, [40], 0), (7, [91], 0), (7, [123], 0), (1, [120], 0), (7, [125], 0), (7, [93], 0), (7, [41], 0)] := by decide +kernel
theorem text_nG : text (flat nG) = [40, 91, 123, 120, 125, 93, 41] := by decide +kernel
theorem may_nG : mayF nG = true := by decide +kernel
theorem may_nZ : mayF nZ = false := by decide +kernel
theorem ne_nFG : decide (nF = nG) = false := by decide +kernel
end Wn
namespace Go.Proofs.Ytbjhiimjillleaa
open Go.RowKit Go.Sort
theorem fine_lit {l : List Wn.Tok} (h : (l.all fun t => decide (t.2.1.length ≤ 100000 ∧ -9223372036854775808 ≤ t.2.2 ∧ t.2.2 ≤ 9223372036854775807)) = true) : (∀ t ∈ l, Fine t) ∧ ∀ t ∈ l, ShortTok t := by
  simp only [List.all_eq_true, decide_eq_true_eq] at h
  exact ⟨fun t ht => ⟨by have := (h t ht).1; omega, (h t ht).2⟩, h⟩
theorem Vals.mk1 (w : World) (g : Nat) (hg : g = w.heap.size) (k : Int) (t : Wn.Tok) (x : Wn.Fs) (u : Value) (hu : Vals w u x) : Vals (w.alloc (.cells #[.int .i64 k, .int .i64 t.1, .string (Wn.str t.2.1), .int .i64 t.2.2, u] 80)) (.slice (some ⟨g, 0, none⟩) 1 1) (.cons k t x .nil) := by
  subst hg
  have hb := heap_alloc_new w (.cells #[.int .i64 k, .int .i64 t.1, .string (Wn.str t.2.1), .int .i64 t.2.2, u] 80)
  exact ⟨_, 1, rfl, Nat.le_refl _, by unfold maxLen; omega, fun h => (by cases h), fun _ => ⟨_, 0, rfl, VAt.mk trivial (cell_of_block (o := 0) hb) ⟨cell_of_block (o := 1) hb, cell_of_block (o := 2) hb, cell_of_block (o := 3) hb⟩ (cell_of_block (o := 4) hb) (hu.below ((Below.refl _ _).alloc (Nat.le_refl _) _)) trivial⟩⟩
end Go.Proofs.Ytbjhiimjillleaa
