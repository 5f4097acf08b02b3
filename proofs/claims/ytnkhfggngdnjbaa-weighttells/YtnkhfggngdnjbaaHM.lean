/- The verifier's second writing of selectors: what plain, simples, Same answer. The verifier's second writing of selectors: what Same answers. -/
import Derived.Test.YtnkhfggngdnjbaaHI
import Derived.Test.YtnkhfggngdnjbaaGS
import Derived.Lib.QuietBelow
import Derived.Test.YtnkhfggngdnjbaaHL
import Derived.BigQuiet
set_option linter.unusedVariables false
set_option linter.unusedSimpArgs false
set_option maxRecDepth 20000
namespace Wn
theorem Ss.toL_get : ∀ {f : Ss} {i : Nat} {k : Int} {n v : List UInt8} {a b : Int} {x r : Ss}, f.drop i = .cons k n v a b x r → f.toL[i]? = some ⟨k, n, v, a, b, x⟩
  | .nil, 0, k, n, v, a, b, x, r, h => by simp [Ss.drop] at h
  | .nil, i + 1, k, n, v, a, b, x, r, h => by simp [Ss.drop] at h
  | .cons k' n' v' a' b' x' r', 0, k, n, v, a, b, x, r, h => by rw [Ss.drop_zero] at h; cases h; rfl
  | .cons k' n' v' a' b' x' r', i + 1, k, n, v, a, b, x, r, h => by rw [Ss.drop] at h; simpa [Ss.toL] using Ss.toL_get h
theorem Ss.drop_lt {f : Ss} {i : Nat} {k : Int} {n v : List UInt8} {a b : Int} {x r : Ss} (h : f.drop i = .cons k n v a b x r) : x.size < f.size := by
  induction f generalizing i with
  | nil => cases i <;> simp [Ss.drop] at h
  | cons k' n' v' a' b' x' r' ih1 ih2 =>
    cases i with
    | zero => rw [Ss.drop_zero] at h; cases h; simp only [Ss.size]; omega
    | succ i => rw [Ss.drop] at h; have := ih2 h; simp only [Ss.size]; omega
end Wn
namespace Go.Proofs.Ytnkhfggngdnjbaa
open Go.RowKit Go.Sort
theorem SsP.at {w : World} {ok : Nat → Prop} {ao : Option Addr} {n cap : Nat} {f : Wn.Ss} (h : SsP w ok (.slice ao n cap) f) {i : Nat} {k : Int} {nm v : List UInt8} {a b : Int} {x r : Wn.Ss} (hd : f.drop i = .cons k nm v a b x r) :
    ∃ g o u, ao = some ⟨g, o, none⟩ ∧ w.cell? ⟨g, o + i * 6, none⟩ = some (.int .i64 k) ∧ w.cell? ⟨g, o + i * 6 + 1, none⟩ = some (.string (Wn.str nm)) ∧ w.cell? ⟨g, o + i * 6 + 2, none⟩ = some (.string (Wn.str v)) ∧ w.cell? ⟨g, o + i * 6 + 3, none⟩ = some (.int .i64 a) ∧ w.cell? ⟨g, o + i * 6 + 4, none⟩ = some (.int .i64 b) ∧ w.cell? ⟨g, o + i * 6 + 5, none⟩ = some u ∧ SsP w ok u x := by
  obtain ⟨g, o, cs, rfl, _, _, hR, hL⟩ := (SsP.k.1 h).at (Wn.Ss.toL_get hd)
  obtain ⟨u, rfl, hu⟩ := hR
  exact ⟨g, o, u, rfl, hL 0 _ rfl, hL 1 _ rfl, hL 2 _ rfl, hL 3 _ rfl, hL 4 _ rfl, hL 5 _ rfl, hu⟩
end Go.Proofs.Ytnkhfggngdnjbaa
set_option linter.unusedVariables false
set_option linter.unusedSimpArgs false
set_option maxRecDepth 20000
namespace Wn
theorem drop_at {α : Type} {l : List α} {i : Nat} {x : α} (h : l[i]? = some x) : l.drop i = x :: l.drop (i + 1) := by
  obtain ⟨h1, rfl⟩ := List.getElem?_eq_some_iff.1 h
  exact List.drop_eq_getElem_cons h1
theorem get_lt {α : Type} {l : List α} {i : Nat} (h : i < l.length) : ∃ x, l[i]? = some x := ⟨_, List.getElem?_eq_getElem h⟩
end Wn
namespace Go.Proofs.Ytnkhfggngdnjbaa
open Go.RowKit Go.Sort
end Go.Proofs.Ytnkhfggngdnjbaa
