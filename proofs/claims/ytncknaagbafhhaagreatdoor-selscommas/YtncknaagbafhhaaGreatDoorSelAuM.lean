/- What the laws of the fourth layer read of texts: facts that they share. -/
import Derived.Test.YtncknaagbafhhaaGreatDoorHK
import Derived.Test.YtncknaagbafhhaaGreatDoorHM
import Derived.Test.YtncknaagbafhhaaGreatDoorHL
import Derived.Test.YtncknaagbafhhaaGreatDoorKitCM
set_option linter.unusedVariables false
set_option linter.unusedSimpArgs false
set_option maxRecDepth 20000
namespace Wn
end Wn
namespace Go.Proofs.YtncknaagbafhhaaGreatDoor
open Go.RowKit Go.Sort
theorem short_of_read {s : List UInt8} {f : Wn.Fs} (h : Wn.readF s = some f) (hs : s.length ≤ 100000) : ∀ t ∈ Wn.flat f, ShortTok t := by
  obtain ⟨l', hv⟩ := Wn.parse_some h
  intro t ht
  rcases (Wn.valsL_mem hv).1 t ht with h | ⟨k, rfl⟩
  · exact ⟨Wn.lex_len 100000 s hs t h, Wn.valid_n (Wn.lex_valid _ s (Nat.le_refl _) t h)⟩
  · exact ⟨by have := Wn.closeB_len k; simp only [Wn.dlm]; omega, by simp [Wn.dlm], by simp [Wn.dlm]⟩
theorem short_trim {f : Wn.Fs} (h : ∀ t ∈ Wn.flat f, ShortTok t) : ∀ t ∈ Wn.flat (Wn.trimF f), ShortTok t := fun t ht => h t (Wn.dropB_flat f t (Wn.rtrim_flat _ t ht))
end Go.Proofs.YtncknaagbafhhaaGreatDoor
