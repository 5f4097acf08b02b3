/- What validPlain answers. What validSimple and validLater answer. What all answers: every member of a list holds. What validComb and validCompound answer. What validComplex answers. What sels.May answers. -/
import Derived.Test.YtbjhiimjillleaaHI
set_option linter.unusedVariables false
set_option linter.unusedSimpArgs false
set_option maxRecDepth 20000
namespace Wn
theorem meantS_l (x : Sm) : (meantS x).l = .nil := by
  unfold meantS
  split
  · rfl
  · split
    · rfl
    · split <;> rfl
end Wn
namespace Go.Proofs.Ytbjhiimjillleaa
open Go.RowKit Go.Sort
end Go.Proofs.Ytbjhiimjillleaa
set_option linter.unusedVariables false
set_option linter.unusedSimpArgs false
set_option maxRecDepth 20000
namespace Wn
theorem maySm_not {x : Sm} (h : x.k ≠ 11) : maySm x = mayPlain x := by
  unfold maySm
  split
  · rw [if_neg h]
  · rfl
theorem mayPlain_11 {x : Sm} (h : x.k = 11) : mayPlain x = false := by
  unfold mayPlain
  simp [h]
theorem maySm_len {x : Sm} (h : x.k = 11) (hl : x.l.len ≠ 1) : maySm x = false := by
  unfold maySm
  split
  · rename_i y hy
    exact absurd (by rw [← Ss.toL_length, hy]; rfl) hl
  · exact mayPlain_11 h
theorem Ss.one : ∀ {f : Ss}, f.len = 1 → ∃ y : Sm, f = y.on .nil ∧ f.toL = [y]
  | .nil, h => by simp [len] at h
  | .cons k n v a b x .nil, _ => ⟨⟨k, n, v, a, b, x⟩, rfl, rfl⟩
  | .cons k n v a b x (.cons _ _ _ _ _ _ _), h => by simp only [len] at h; omega
theorem maySm_one {x y : Sm} (h : x.k = 11) (hl : x.l.toL = [y]) : maySm x = (mayPlain y && decide (x = ⟨11, [], [], 0, 0, x.l⟩)) := by
  have e : x.l = y.on .nil := by rw [← Ss.ofL_toL x.l, hl]; rfl
  unfold maySm
  rw [hl]
  dsimp only
  rw [if_pos h]
  rw [e]
end Wn
namespace Go.Proofs.Ytbjhiimjillleaa
open Go.RowKit Go.Sort
end Go.Proofs.Ytbjhiimjillleaa
set_option linter.unusedVariables false
set_option linter.unusedSimpArgs false
set_option maxRecDepth 20000
namespace Go.Proofs.Ytbjhiimjillleaa
open Go.RowKit Go.Sort
end Go.Proofs.Ytbjhiimjillleaa
set_option linter.unusedVariables false
set_option linter.unusedSimpArgs false
set_option maxRecDepth 20000
namespace Go.Proofs.Ytbjhiimjillleaa
open Go.RowKit Go.Sort
theorem RK.P.tail {α : Type} {K : RK α} {w : World} {ok : Nat → Prop} {b o n cap : Nat} {x : α} {r : List α} (h : K.P w ok (.slice (some ⟨b, o, none⟩) n cap) (x :: r)) :
    K.P w ok (.slice (some ⟨b, o + K.sz, none⟩) r.length (cap - 1)) r := by
  obtain ⟨ao', cap', hv, h1, h2, h3, h4⟩ := h
  simp only [Value.slice.injEq] at hv
  obtain ⟨rfl, _, rfl⟩ := hv
  rw [List.length_cons] at h1
  obtain ⟨b', o', ha, hb, hlt, hx⟩ := h4 (by simp)
  simp only [Option.some.injEq, Addr.mk.injEq, and_true] at ha
  obtain ⟨rfl, rfl⟩ := ha
  refine ⟨_, _, rfl, by omega, by omega, fun h => (by cases h), fun _ => ⟨b, o + K.sz, rfl, hb, hlt, fun i y hi => ?_⟩⟩
  obtain ⟨cs, hr, hl⟩ := hx (i + 1) y (by rw [List.getElem?_cons_succ]; exact hi)
  refine ⟨cs, hr, ?_⟩
  rw [Nat.add_assoc, show K.sz + i * K.sz = (i + 1) * K.sz from by rw [Nat.add_mul]; omega]
  exact hl
theorem RK.P.none {α : Type} {K : RK α} {w : World} {ok : Nat → Prop} {ad : Addr} {l : List α} (h : l.length = 0) : K.P w ok (.slice (some ad) l.length 0) l :=
  ⟨_, _, rfl, by omega, by unfold maxLen; omega, fun h => (by cases h), fun h' => absurd (List.length_eq_zero_iff.1 h) h'⟩
end Go.Proofs.Ytbjhiimjillleaa
set_option linter.unusedVariables false
set_option linter.unusedSimpArgs false
set_option maxRecDepth 20000
namespace Go.Proofs.Ytbjhiimjillleaa
open Go.RowKit Go.Sort
end Go.Proofs.Ytbjhiimjillleaa
set_option linter.unusedVariables false
set_option linter.unusedSimpArgs false
set_option maxRecDepth 20000
namespace Wn
/-- no text in it is too long -/
def Cx.short (c : Cx) : Prop := ∀ p ∈ c.1, ∀ x ∈ p.2, Sm.short x
end Wn
namespace Go.Proofs.Ytbjhiimjillleaa
open Go.RowKit Go.Sort
end Go.Proofs.Ytbjhiimjillleaa
