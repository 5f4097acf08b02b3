/- What a unit, a string, a number, a word do to the scanner. What a string and a number do to the scanner. What a number does to the scanner. What the scanner's next token is: (*scanner).next. -/
import Derived.Test.YtbjhiimjillleaaGB
import Derived.Test.YtbjhiimjillleaaGA
set_option maxRecDepth 20000
namespace Go.Proofs.Ytbjhiimjillleaa
open Go.RowKit
/-- block r is a result's: three cells that may be written -/
structure Res (w : World) (r : Nat) : Prop where
  at_ : ∃ x y z, w.heap[r]? = some (.cells #[x, y, z] 75)
theorem Res.only {b r : Nat} {w w' : World} (h : Res w r) (ho : Only b w w') (hb : r ≠ b) : Res w' r := by
  obtain ⟨x, y, z, e⟩ := h.at_
  exact ⟨x, y, z, by rw [ho.block r (Array.getElem?_eq_some_iff.1 e).1 hb, e]⟩
theorem Res.cells {r : Nat} {w : World} (h : Res w r) : ∃ x y z, w.cell? ⟨r, 0, none⟩ = some x ∧ w.cell? ⟨r, 1, none⟩ = some y ∧ w.cell? ⟨r, 2, none⟩ = some z := by
  obtain ⟨x, y, z, e⟩ := h.at_
  exact ⟨x, y, z, by simp [World.cell?, e], by simp [World.cell?, e], by simp [World.cell?, e]⟩
theorem Res.frozen {r : Nat} {w : World} (h : Res w r) (o : Nat) : w.frozen? ⟨r, o, none⟩ = false := by
  obtain ⟨x, y, z, e⟩ := h.at_
  simp [World.frozen?, e]
theorem Res.new (w : World) (x y z : Value) : Res (w.alloc (.cells #[x, y, z] 75)) w.heap.size :=
  ⟨x, y, z, by show (w.heap.push _)[w.heap.size]? = _; simp⟩
/-- block r holds this token -/
def TokAt (w : World) (r : Nat) (x y z : Value) : Prop := w.heap[r]? = some (.cells #[x, y, z] 75)
theorem Res.set {r : Nat} {w : World} (h : Res w r) (x y z : Value) : TokAt (((w.setCell ⟨r, 0, none⟩ x).setCell ⟨r, 1, none⟩ y).setCell ⟨r, 2, none⟩ z) r x y z := by
  obtain ⟨x', y', z', e⟩ := h.at_
  unfold TokAt
  simp [World.setCell, Array.getElem?_modify, e]
theorem Res.drewN {r : Nat} {w : World} (h : Res w r) (n : Nat) : Res (w.drewN n) r := ⟨h.at_⟩
theorem Res.drew {r : Nat} {w : World} (h : Res w r) : Res w.drew r := ⟨h.at_⟩
theorem Res.other {r : Nat} {w : World} {a : Addr} (h : Res w r) (ha : a.block ≠ r) (v : Value) : Res (w.setCell a v) r := by
  obtain ⟨x, y, z, e⟩ := h.at_
  exact ⟨x, y, z, by rw [Below.heap_setCell _ _ _ _ (Ne.symm ha), e]⟩
theorem Res.alloc {r : Nat} {w : World} (h : Res w r) (o : Obj) : Res (w.alloc o) r := by
  obtain ⟨x, y, z, e⟩ := h.at_
  exact ⟨x, y, z, by rw [Below.heap_alloc _ _ _ (Array.getElem?_eq_some_iff.1 e).1, e]⟩
/-- a token that lies in a result's block is handed back -/
theorem ret_tok {fn : Func} {R : Ending → World → Prop} {a : Act} {W : World} {t : Tmp} {r : Nat} {x y z : Value} (hres : fn.results = #[.cell t 75]) (ht : a.tmps[t]?.getD undef = .pointer (some ⟨r, 0, none⟩)) (hd : a.defers = [])
    (hW : TokAt W r x y z) (h : R (.returned (.agg #[x, y, z])) W) : bodyPost Try.prog fn R .ret a W := by
  unfold TokAt at hW
  have k0 : W.cell? ⟨r, 0, none⟩ = some x := by simp [World.cell?, hW]
  have k1 : W.cell? ⟨r, 1, none⟩ = some y := by simp [World.cell?, hW]
  have k2 : W.cell? ⟨r, 2, none⟩ = some z := by simp [World.cell?, hW]
  exact bodyPost_ret (v := .agg #[x, y, z]) (by simp [results, hres, ht, go_sem, k0, k1, k2]) hd h
end Go.Proofs.Ytbjhiimjillleaa
set_option maxRecDepth 20000
namespace Go.Proofs.Ytbjhiimjillleaa
open Go.RowKit
end Go.Proofs.Ytbjhiimjillleaa
set_option maxRecDepth 20000
namespace Go.Proofs.Ytbjhiimjillleaa
open Go.RowKit
end Go.Proofs.Ytbjhiimjillleaa
set_option maxRecDepth 20000
namespace Go.Proofs.Ytbjhiimjillleaa
open Go.RowKit
def tokV (t : Wn.Tok) : Value := .agg #[.int .i64 t.1, .string ⟨t.2.1.toArray⟩, .int .i64 t.2.2]
/-- a token that lies in a result's block is handed back, with a bool -/
theorem ret_tok_ok {fn : Func} {R : Ending → World → Prop} {a : Act} {W : World} {t u : Tmp} {r : Nat} {x y z v : Value} (hres : fn.results = #[.cell t 75, .tmp u]) (ht : a.tmps[t]?.getD undef = .pointer (some ⟨r, 0, none⟩)) (hu : a.tmps[u]?.getD undef = v) (hd : a.defers = [])
    (hW : TokAt W r x y z) (h : R (.returned (.tuple #[.agg #[x, y, z], v])) W) : bodyPost Try.prog fn R .ret a W := by
  unfold TokAt at hW
  have k0 : W.cell? ⟨r, 0, none⟩ = some x := by simp [World.cell?, hW]
  have k1 : W.cell? ⟨r, 1, none⟩ = some y := by simp [World.cell?, hW]
  have k2 : W.cell? ⟨r, 2, none⟩ = some z := by simp [World.cell?, hW]
  exact bodyPost_ret (v := .tuple #[.agg #[x, y, z], v]) (by simp [results, hres, ht, hu, go_sem, k0, k1, k2]) hd h
end Go.Proofs.Ytbjhiimjillleaa
