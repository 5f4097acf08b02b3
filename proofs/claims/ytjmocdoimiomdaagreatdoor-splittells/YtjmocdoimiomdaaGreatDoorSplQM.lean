/- Appending values at a step of a region that draws its order. -/
import Derived.Test.YtjmocdoimiomdaaGreatDoorGR
import Derived.Maps.AppendAt
set_option linter.unusedVariables false
set_option linter.unusedSimpArgs false
set_option maxRecDepth 20000
namespace Go.Proofs.YtjmocdoimiomdaaGreatDoor
open Go.RowKit Go.Sort
theorem step_append_v {w : World} {ops : Array Oper} {o : Oper} {a : Act} {K : Act → World → Prop} {Q : Exit → Act → World → Prop} {E : Prop} (hgd : o.guard = none) (s x : Operand)
    (ho : o.op = .call { callee := .builtin .append, args := #[s, x], argTypes := #[22, 22] })
    (base : Nat) (v u : Value) (l m : List (Int × Wn.Tok × Value)) (hs : a.eval s = v) (hx : a.eval x = u) (hown : w.ownsRow base 47 5 v l.length (valsCells l)) (hU : VSrc w u m)
    (hlen : l.length + m.length ≤ 1048576) (hbase : base ≤ w.heap.size)
    (h : ∀ v' w', w'.ownsRow base 47 5 v' (l ++ m).length (valsCells (l ++ m)) → w.grownBy w' v.ownBlock → K (a.put o.dst v') w') : if Region.wanted o (yielded ops a.tmps) = true then Oper.wp Tryz.prog o a w K Q else E := by
  have hw : Region.wanted o (yielded ops a.tmps) = true := by simp [Region.wanted, hgd]
  rw [if_pos hw]
  obtain ⟨i0, hi, hz0, hz1, hz2⟩ := info_parts info_val
  obtain ⟨h1c, hU⟩ := hU
  rcases hU with ⟨rfl, rfl⟩ | ⟨ad, cap, rfl, h3⟩
  · have hrun := run_append_owned_none (P := Tryz.prog) (w := w) base 22 o.type 47 i0 5 Tryz.underlying22 hi v _ _ hown
    have hk := h v w (by rw [List.append_nil]; exact hown) ⟨rfl, rfl, rfl, Nat.le_refl _, fun _ _ _ => rfl⟩
    unfold Oper.wp
    simp [execOp, ho, resolve, invoke, builtin, hs, hx, hrun, Result.andThen]
    exact hk
  · obtain ⟨v', w', hr, h2, h3', _, _⟩ := run_append_own_at (P := Tryz.prog) w base 22 o.type 47 i0 (.agg #[.int .i64 0, .int .i64 0, .string ⟨#[]⟩, .int .i64 0, .slice none 0 0]) 5 64 Tryz.underlying22 hi hz0 hz1 hz2 rfl (by decide) v _ _ hown ad m.length cap (valsCells m) (valsCells_length m) h3 h1c (by unfold maxLen; omega) (by omega) hbase
    have hk := h v' w' (by rw [List.length_append, valsCells_app]; exact h2) h3'
    unfold Oper.wp
    simp [execOp, ho, resolve, invoke, builtin, hs, hx, hr, Result.andThen]
    exact hk
theorem VSrc.far {w w' : World} {g o n cap : Nat} {es : List (Int × Wn.Tok × Value)} {row : Option Nat} (h : VSrc w (.slice (some ⟨g, o, none⟩) n cap) es) (hg : w.grownBy w' row) (hne : row ≠ some g) : VSrc w' (.slice (some ⟨g, o, none⟩) n cap) es := by
  refine ⟨h.1, ?_⟩
  rcases h.2 with ⟨hv, _⟩ | ⟨ad, c, hv, hc⟩
  · cases hv
  · refine .inr ⟨ad, c, hv, fun j u hj => ?_⟩
    have := hc j u hj
    simp only [Value.slice.injEq, Option.some.injEq] at hv
    have hb : (ad.add j).block = g := by rw [← hv.1]; simp only [Addr.add]; split <;> rfl
    rw [← this]
    exact World.cell?_of_block (hg.block _ (World.block_lt_of_cell? w _ this) (by rw [hb]; exact fun e => hne e.symm))
/-- the blank that the law lays round its values -/
abbrev bE : Int × Wn.Tok × Value := (1, (8, [10], 0), .slice Option.none 0 0)
theorem made1 (w : World) (n base : Nat) (hn : n = w.heap.size) (hb : base ≤ w.heap.size) : (w.alloc (.cells #[.int .i64 1, .int .i64 8, .string ⟨#[10]⟩, .int .i64 0, .slice none 0 0] 47)).ownsRow base 47 5 (.slice (some ⟨n, 0, none⟩) 1 1) [bE].length (valsCells [bE]) := by
  subst hn
  exact ⟨rfl, .inr ⟨w.heap.size, 1, _, rfl, hb, heap_alloc_new w _, Nat.le_refl _, by unfold maxLen; omega, rfl, rfl⟩⟩
theorem made2 (w : World) (n : Nat) (hn : n = w.heap.size) : VSrc (w.alloc (.cells #[.int .i64 1, .int .i64 8, .string ⟨#[10]⟩, .int .i64 0, .slice none 0 0, .int .i64 1, .int .i64 8, .string ⟨#[10]⟩, .int .i64 0, .slice none 0 0] 47)) (.slice (some ⟨n, 0, none⟩) 2 2) [bE, bE] := by
  subst hn
  refine ⟨fun c hc => by simp [valsCells, valCells] at hc; rcases hc with rfl | rfl | rfl | rfl | rfl | rfl | rfl | rfl | rfl | rfl <;> rfl, .inr ⟨_, 2, rfl, fun j u hj => ?_⟩⟩
  have hadd : (⟨w.heap.size, 0, none⟩ : Addr).add j = ⟨w.heap.size, j, none⟩ := by simp only [Addr.add]; split <;> simp_all
  rw [hadd, cell_of_block (o := j) (heap_alloc_new w _)]
  have e : Wn.str [10] = (⟨#[10]⟩ : ByteArray) := rfl
  simpa [valsCells, valCells, e] using hj
theorem VSrc.drew {w : World} {u : Value} {es : List (Int × Wn.Tok × Value)} (h : VSrc w u es) : VSrc w.drew u es := h.later (Nat.le_refl _) (Below.refl _ _).drew
theorem VSrc.alloc {w : World} {u : Value} {es : List (Int × Wn.Tok × Value)} (h : VSrc w u es) (o : Obj) : VSrc (w.alloc o) u es := h.later (Nat.le_refl _) ((Below.refl _ _).alloc (Nat.le_refl _) _)
theorem cell_late {W w1 : World} (hb : Below W.heap.size W w1) {a : Addr} {v : Value} (h : W.cell? a = some v) : w1.cell? a = some v := by
  rw [hb.cell (World.block_lt_of_cell? W _ h)]; exact h
end Go.Proofs.YtjmocdoimiomdaaGreatDoor
