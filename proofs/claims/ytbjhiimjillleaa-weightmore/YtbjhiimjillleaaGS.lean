/- The verifier's second writing of nest: what open, last, delim answer. The verifier's second writing of nest: what few and Small answer. The verifier's second writing of nest: what Same answers. -/
import Derived.Test.YtbjhiimjillleaaGR
set_option linter.unusedVariables false
set_option linter.unusedSimpArgs false
set_option maxRecDepth 20000
namespace Wn
/-- the kind of the block that a token opens; 0: none -/
def openK (t : Tok) : Int := if kindOf t = 1 then 0 else kindOf t
/-- is a token the last one of a kind? -/
def lastOf (t : Tok) (k : Int) : Bool := decide (t = dlm (closeB k))
end Wn
namespace Go.Proofs.Ytbjhiimjillleaa
open Go.RowKit Go.Sort
theorem openK_of {t : Wn.Tok} {c : Int} (h : Wn.openK t = c) : c = if t.1 = 2 then 5 else if t.1 = 7 ∧ t.2.2 = 0 then (if t.2.1 = [40] then 2 else if t.2.1 = [91] then 3 else if t.2.1 = [123] then 4 else 0) else 0 := by
  subst h
  obtain ⟨a, b, d⟩ := t
  unfold Wn.openK Wn.kindOf Wn.dlm
  simp only [Prod.mk.injEq]
  by_cases h2 : a = 2
  · simp [h2]
  · by_cases h7 : a = 7
    · by_cases h0 : d = 0
      · by_cases e1 : b = [40]
        · simp [h7, h0, e1]
        · by_cases e2 : b = [91]
          · simp [h7, h0, e2]
          · by_cases e3 : b = [123]
            · simp [h7, h0, e3]
            · simp [h7, h0, e1, e2, e3]
      · simp [h7, h0]
    · simp [h2, h7]
set_option maxHeartbeats 1000000 in
theorem ropen_any (t : Wn.Tok) (w : World) :
    Calls Try.prog 44 #[.agg #[.int .i64 t.1, .string (Wn.str t.2.1), .int .i64 t.2.2]] w fun e w' => e = .returned (.int .i64 (Wn.openK t)) ∧ Below w.heap.size w w' := by
  generalize hc : Wn.openK t = c
  have hc' := openK_of hc
  clear hc
  obtain ⟨tk, tx, tn⟩ := t
  dsimp only at *
  have hx := str_list tx
  generalize Wn.str tx = x at *
  subst hx
  have HC := Lib.hid hc'; clear hc'
  go_enter Try.func44, Try.ntmps44
  go_wp2
  all_goals
    go_ret
    refine ⟨ret_int ?_, (Below.refl _ _).alloc (Nat.le_refl _) _⟩
    rw [HC.out]
    simp_all
set_option maxHeartbeats 1000000 in
theorem rlast_any (t : Wn.Tok) (k : Int) (w : World) :
    Calls Try.prog 43 #[.agg #[.int .i64 t.1, .string (Wn.str t.2.1), .int .i64 t.2.2], .int .i64 k] w fun e w' => e = .returned (.bool (Wn.lastOf t k)) ∧ Below w.heap.size w w' := by
  have hc : Wn.lastOf t k = decide (t.1 = 7 ∧ t.2.1 = (if k = 3 then [93] else if k = 4 then [125] else [41]) ∧ t.2.2 = 0) := by unfold Wn.lastOf Wn.closeB; rw [decide_eq_decide]; exact tok_ext
  generalize Wn.lastOf t k = c at *
  obtain ⟨tk, tx, tn⟩ := t
  dsimp only at *
  have hx := str_list tx
  generalize Wn.str tx = x at *
  subst hx
  have HC := Lib.hid hc; clear hc
  go_enter Try.func43, Try.ntmps43
  go_wp2
  all_goals
    go_ret
    refine ⟨ret_bool ?_, (Below.refl _ _).alloc (Nat.le_refl _) _⟩
    rw [HC.out]
    first
      | (simp_all; done)
      | (rw [Bool.eq_iff_iff]; simp_all)
end Go.Proofs.Ytbjhiimjillleaa
set_option linter.unusedVariables false
set_option linter.unusedSimpArgs false
set_option maxRecDepth 20000
namespace Go.Proofs.Ytbjhiimjillleaa
open Go.RowKit Go.Sort
def Short100 (f : Wn.Fs) : Prop := f.all fun t => t.2.1.length ≤ 100
theorem all_drop {p : Wn.Tok → Prop} {f : Wn.Fs} {i : Nat} {k : Int} {t : Wn.Tok} {x : Wn.Fs} (h : f.drop i = .cons k t x (f.drop (i + 1))) (hs : (f.drop i).all p → f.all p) (ht : p t) (hx : x.all p) : (f.drop (i + 1)).all p → f.all p := fun hr => hs (by rw [h]; exact ⟨ht, hx, hr⟩)
def FewPost (f : Wn.Fs) (left : Int) (w : World) (e : Ending) (w' : World) : Prop := ∃ n : Int, e = .returned (.int .i64 n) ∧ -1 ≤ n ∧ n ≤ left ∧ (0 ≤ n → (f.size : Int) + n = left ∧ Short100 f) ∧ w = w'
end Go.Proofs.Ytbjhiimjillleaa
set_option linter.unusedVariables false
set_option linter.unusedSimpArgs false
set_option maxRecDepth 20000
namespace Go.Proofs.Ytbjhiimjillleaa
open Go.RowKit Go.Sort
end Go.Proofs.Ytbjhiimjillleaa
