/- What the reader's simple answers. What inNot answers. -/
import Derived.Test.YtnkhfggngdnjbaaHE
set_option linter.unusedVariables false
set_option linter.unusedSimpArgs false
set_option maxRecDepth 20000
namespace Go.Proofs.Ytnkhfggngdnjbaa
open Go.RowKit Go.Sort
end Go.Proofs.Ytnkhfggngdnjbaa
set_option linter.unusedVariables false
set_option linter.unusedSimpArgs false
set_option maxRecDepth 20000
namespace Wn
theorem whole_some {α : Type} {p : Fs → Option (α × Fs)} {f : Fs} {x : α} (h : wholeF p f = some x) : ∃ r, p (dropB f) = some (x, r) ∧ dropB r = .nil := by
  unfold wholeF at h
  split at h
  · rename_i y r e
    split at h
    · simp at h; subst h; exact ⟨r, e, by assumption⟩
    · cases h
  · cases h
theorem attrF_nil {f : Fs} {x : Sm} (h : attrF f = some x) : x.l = .nil := by
  obtain ⟨r, h, _⟩ := whole_some h
  unfold attrR at h
  split at h
  · cases h
  · split at h
    · simp at h; rw [← h.1]; rfl
    · rw [Option.map_eq_some_iff] at h; obtain ⟨q, _, h⟩ := h; simp at h; rw [← h.1]
theorem stateW_nil' {n : List UInt8} {x : Sm} (h : stateW n = some x) : x.l = .nil := by
  unfold stateW at h
  repeat' (first | (split at h) | (cases h; rfl) | (cases h))
theorem simpG_plain {first : Bool} {f : Fs} {x : Sm} {r : Fs} (h : simpG notNo first f = some (some (x, r))) : x.l = .nil := by
  have hlater : ∀ {f : Fs}, laterG notNo f = some (some (x, r)) → x.l = .nil := by
    intro f h
    unfold laterG at h
    split at h
    · simp at h; rw [← h.1]; rfl
    · split at h
      · rw [Option.map_eq_some_iff] at h; obtain ⟨q, _, h⟩ := h; simp at h; rw [← h.1]; rfl
      · split at h
        · rw [Option.map_eq_some_iff] at h; obtain ⟨q, hq, h⟩ := h; simp at h; rw [← h.1]; exact attrF_nil hq
        · split at h
          · cases h
          · split at h
            · cases h
            · rw [Option.map_eq_some_iff] at h; obtain ⟨q, hq, h⟩ := h; simp at h; subst h
              unfold colonG at hq
              split at hq
              · rw [Option.map_eq_some_iff] at hq; obtain ⟨y, hy, h⟩ := hq; simp at h; rw [← h.1]
                unfold funcG at hy
                split at hy
                · rw [Option.map_eq_some_iff] at hy; obtain ⟨z, _, hz⟩ := hy; rw [← hz]
                · split at hy
                  · simp [notNo] at hy
                  · cases hy
              · split at hq
                · cases hq
                · rw [Option.map_eq_some_iff] at hq; obtain ⟨y, hy, h⟩ := hq; simp at h; rw [← h.1]; exact stateW_nil' hy
  unfold simpG at h
  split at h
  · split at h
    · rename_i p he
      simp at h
      subst h
      unfold elemF at he
      split at he
      · simp at he; rw [← he.1]; rfl
      · rw [Option.map_eq_some_iff] at he; obtain ⟨q, _, h⟩ := he; simp at h; rw [← h.1]; rfl
    · exact hlater h
  · exact hlater h
end Wn
namespace Go.Proofs.Ytnkhfggngdnjbaa
open Go.RowKit Go.Sort
end Go.Proofs.Ytnkhfggngdnjbaa
