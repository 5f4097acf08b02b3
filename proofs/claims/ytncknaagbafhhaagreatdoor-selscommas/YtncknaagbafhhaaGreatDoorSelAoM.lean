/- The numbers of an nth, written, are read as they were, within bounds. -/
import Derived.Test.YtncknaagbafhhaaGreatDoorHA
set_option linter.unusedVariables false
set_option linter.unusedSimpArgs false
set_option maxRecDepth 20000
namespace Wn
theorem whole_get {α : Type} {p : Fs → Option (α × Fs)} {f : Fs} {x : α} (h : wholeF p f = some x) : ∃ r, p (dropB f) = some (x, r) ∧ dropB r = .nil := by
  unfold wholeF at h
  split at h
  · rename_i y r e
    split at h
    · simp at h; subst h; exact ⟨r, e, by assumption⟩
    · cases h
  · cases h
/-- the text of an nth -/
def nthTx (a b : Int) : List UInt8 := Go.Lib.itoa a ++ [110] ++ (if 0 < b then 43 :: Go.Lib.itoa b else if b < 0 then Go.Lib.itoa b else [])
end Wn
