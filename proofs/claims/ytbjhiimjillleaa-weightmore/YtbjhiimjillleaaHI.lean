/- What sels.Same answers. What validFields and meantOf answer. What validFields answers. -/
import Derived.Test.YtbjhiimjillleaaHH
import Derived.Test.YtbjhiimjillleaaGF
import Derived.Lib.QuietBelow
set_option linter.unusedVariables false
set_option linter.unusedSimpArgs false
set_option maxRecDepth 20000
namespace Go.Proofs.Ytbjhiimjillleaa
open Go.RowKit Go.Sort
theorem SsP.below {w w' : World} {ok : Nat → Prop} {v : Value} {f : Wn.Ss} (h : SsP w ok v f) (hb : Below w.heap.size w w') : SsP w' ok v f := h.same (fun b _ hl => hb.block b hl) (fun _ h _ => h)
theorem sm_eq (x y : Wn.Sm) : decide (x = y) = ((x.k == y.k) && ((x.n == y.n) && ((x.v == y.v) && ((x.a == y.a) && ((x.b == y.b) && decide (x.l.toL = y.l.toL)))))) := by
  cases x; cases y
  rw [Bool.eq_iff_iff]
  simp [Wn.Ss.toL_inj]
theorem toL_size : ∀ {f : Wn.Ss} {z : Wn.Sm}, z ∈ f.toL → z.l.size < f.size
  | .nil, z, h => by simp [Wn.Ss.toL] at h
  | .cons k n v a b x r, z, h => by
    simp only [Wn.Ss.toL, List.mem_cons] at h
    simp only [Wn.Ss.size]
    rcases h with rfl | h
    · simp only; omega
    · have := toL_size h; omega
end Go.Proofs.Ytbjhiimjillleaa
set_option linter.unusedVariables false
set_option linter.unusedSimpArgs false
set_option maxRecDepth 20000
namespace Wn
def meantS (x : Sm) : Sm :=
  if x.k = 2 ∨ x.k = 3 ∨ x.k = 4 ∨ x.k = 5 ∨ x.k = 7 then sNam x.k x.n
  else if x.k = 6 then ⟨6, x.n, x.v, 0, 0, .nil⟩ else if x.k = 8 then ⟨8, [], [], x.a, x.b, .nil⟩ else sBare x.k
def fieldsB (x : Sm) : Bool :=
  if x.k = 1 ∨ x.k = 9 ∨ x.k = 10 then true
  else if x.k = 2 then may (1, x.n, 0) && decide (low x.n = x.n)
  else if x.k = 3 then may (4, x.n, 0)
  else if x.k = 4 ∨ x.k = 5 then may (1, x.n, 0)
  else if x.k = 6 then may (1, x.n, 0) && (may (6, x.v, 34) || may (6, x.v, 39))
  else if x.k = 7 then isState x.n
  else if x.k = 8 then few x.a && few x.b
  else false
theorem mayPlain_eq (x : Sm) : mayPlain x = (decide (x = meantS x) && fieldsB x) := by
  unfold mayPlain meantS fieldsB
  by_cases h1 : x.k = 1
  · simp [h1]
  · by_cases h2 : x.k = 2
    · simp [h2, Bool.and_comm]
    · by_cases h3 : x.k = 3
      · simp [h3, Bool.and_comm]
      · by_cases h4 : x.k = 4
        · simp [h4, Bool.and_comm]
        · by_cases h5 : x.k = 5
          · simp [h5, Bool.and_comm]
          · by_cases h6 : x.k = 6
            · simp [h6, Bool.and_comm]
            · by_cases h7 : x.k = 7
              · simp [h7, Bool.and_comm]
              · by_cases h8 : x.k = 8
                · simp [h8, Bool.and_comm]
                · by_cases h9 : x.k = 9
                  · simp [h9]
                  · by_cases h10 : x.k = 10
                    · simp [h10]
                    · simp [h1, h2, h3, h4, h5, h6, h7, h8, h9, h10]
/-- no text is too long -/
def Ss.short : Ss → Prop
  | .nil => True
  | .cons _ n v _ _ x r => n.length ≤ 1048576 ∧ v.length ≤ 1048576 ∧ x.short ∧ r.short
def Sm.short (x : Sm) : Prop := x.n.length ≤ 1048576 ∧ x.v.length ≤ 1048576 ∧ x.l.short
theorem Ss.short_mem : ∀ {f : Ss} {z : Sm}, f.short → z ∈ f.toL → z.short
  | .nil, z, _, h => by simp [toL] at h
  | .cons k n v a b x r, z, hs, h => by
    simp only [toL, List.mem_cons] at h
    rcases h with rfl | h
    · exact ⟨hs.1, hs.2.1, hs.2.2.1⟩
    · exact short_mem hs.2.2.2 h
end Wn
namespace Go.Proofs.Ytbjhiimjillleaa
open Go.RowKit Go.Sort
end Go.Proofs.Ytbjhiimjillleaa
set_option linter.unusedVariables false
set_option linter.unusedSimpArgs false
set_option maxRecDepth 20000
namespace Go.Proofs.Ytbjhiimjillleaa
open Go.RowKit Go.Sort
theorem low_eq (n : List UInt8) : ((Wn.str (Wn.low n)).toList == (Wn.str n).toList) = decide (Wn.low n = n) := by
  rw [str_list, str_list, Bool.eq_iff_iff]; simp
end Go.Proofs.Ytbjhiimjillleaa
