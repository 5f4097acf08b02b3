/- Appending values at a step of a region that draws its order. -/
import Derived.Test.YtncknaagbafhhaaGreatDoorGR
import Derived.Maps.AppendAt
set_option linter.unusedVariables false
set_option linter.unusedSimpArgs false
set_option maxRecDepth 20000
namespace Go.Proofs.YtncknaagbafhhaaGreatDoor
open Go.RowKit Go.Sort
theorem VSrc.far {w w' : World} {g o n cap : Nat} {es : List (Int × Wn.Tok × Value)} {row : Option Nat} (h : VSrc w (.slice (some ⟨g, o, none⟩) n cap) es) (hg : w.grownBy w' row) (hne : row ≠ some g) : VSrc w' (.slice (some ⟨g, o, none⟩) n cap) es := by
  refine ⟨h.1, ?_⟩
  rcases h.2 with ⟨hv, _⟩ | ⟨ad, c, hv, hc⟩
  · cases hv
  · refine .inr ⟨ad, c, hv, fun j u hj => ?_⟩
    have := hc j u hj
    simp only [Value.slice.injEq, Option.some.injEq] at hv
    have hb : (ad.add j).block = g := by rw [← hv.1]; simp only [Addr.add]; split <;> rfl
    rw [← this]
    exact World.cell?_of_block (hg.block _ (World.block_lt_of_cell? w _ this) (by rw [hb]; exact fun e => hne e.symm))
/-- the blank that the law lays round its values -/
abbrev bE : Int × Wn.Tok × Value := (1, (8, [10], 0), .slice Option.none 0 0)
theorem VSrc.drew {w : World} {u : Value} {es : List (Int × Wn.Tok × Value)} (h : VSrc w u es) : VSrc w.drew u es := h.later (Nat.le_refl _) (Below.refl _ _).drew
theorem VSrc.alloc {w : World} {u : Value} {es : List (Int × Wn.Tok × Value)} (h : VSrc w u es) (o : Obj) : VSrc (w.alloc o) u es := h.later (Nat.le_refl _) ((Below.refl _ _).alloc (Nat.le_refl _) _)
theorem cell_late {W w1 : World} (hb : Below W.heap.size W w1) {a : Addr} {v : Value} (h : W.cell? a = some v) : w1.cell? a = some v := by
  rw [hb.cell (World.block_lt_of_cell? W _ h)]; exact h
end Go.Proofs.YtncknaagbafhhaaGreatDoor
