/- The verifier's second writing of split, the state of its loops in memory: a list of lists, and the part that is gathered. -/
import Derived.Test.YtncknaagbafhhaaGreatDoorGY
set_option linter.unusedVariables false
set_option linter.unusedSimpArgs false
set_option maxRecDepth 20000
namespace Go.Proofs.YtncknaagbafhhaaGreatDoor
open Go.RowKit Go.Sort Go.Shelf
theorem VSrc.one (w : World) (n : Nat) (hn : n = w.heap.size) (k : Int) (t : Wn.Tok) (uo : Option Addr) (un uc : Nat) : VSrc (w.alloc (.cells #[.int .i64 k, .int .i64 t.1, .string (Wn.str t.2.1), .int .i64 t.2.2, .slice uo un uc] 80)) (.slice (some ⟨n, 0, none⟩) 1 1) [(k, t, .slice uo un uc)] := by
  subst hn
  refine ⟨fun c hc => by simp [valsCells, valCells] at hc; rcases hc with rfl | rfl | rfl | rfl | rfl <;> rfl, .inr ⟨_, 1, rfl, fun j u hj => ?_⟩⟩
  have hadd : (⟨w.heap.size, 0, none⟩ : Addr).add j = ⟨w.heap.size, j, none⟩ := by simp only [Addr.add]; split <;> simp_all
  rw [hadd, cell_of_block (o := j) (heap_alloc_new w _)]
  simpa [valsCells, valCells] using hj
/-- the list of lists vo is one's own, and its parts lie beside its row -/
structure OI (w W : World) (vo : Value) (us : List Value) (gs : List Wn.Fs) : Prop where
  below : Below w.heap.size w W
  own : W.ownsRow w.heap.size 22 1 vo us.length us
  each : Each W (fun b => vo.ownBlock ≠ some b) us gs
/-- and vp is the part that is gathered, all of it above P -/
structure PI (w W : World) (P : Nat) (vo : Value) (us : List Value) (gs : List Wn.Fs) (vp : Value) (es : List Ent) (acc : Wn.Fs) : Prop where
  below : Below w.heap.size w W
  lo : w.heap.size ≤ P
  hi : P ≤ W.heap.size
  own : W.ownsRow w.heap.size 22 1 vo us.length us
  lt : ∀ k, vo.ownBlock = some k → k < P
  each : Each W (fun b => b < P ∧ vo.ownBlock ≠ some b) us gs
  pown : W.ownsRow P 80 5 vp es.length (valsCells es)
  row : Row W (fun b => b < w.heap.size) es acc
section
variable {w W W' : World} {P : Nat} {vo vo' vp vp' : Value} {us : List Value} {gs : List Wn.Fs} {es : List Ent} {acc : Wn.Fs} {o : Obj}
theorem OI.start (w : World) : OI w (w.alloc (.cells #[] 22)) (.slice (some ⟨w.heap.size, 0, none⟩) 0 0) [] [] :=
  ⟨(Below.refl _ _).alloc (Nat.le_refl _) _, World.ownsRow_made w #[] 0 (Nat.le_refl _) (by unfold maxLen; omega) rfl, trivial⟩
theorem OI.list (h : OI w W vo us gs) : ListP W (fun _ => True) vo gs := ListP.ofRow h.own (h.each.map (fun _ _ hu => hu.any)) (fun _ _ => trivial)
theorem OI.fresh (h : OI w W vo us gs) : PI w (W.alloc (.cells #[] 80)) W.heap.size vo us gs (.slice (some ⟨W.heap.size, 0, none⟩) 0 0) [] .nil := by
  have hb : Below W.heap.size W (W.alloc (.cells #[] 80)) := (Below.refl _ _).alloc (Nat.le_refl _) _
  refine ⟨h.below.trans (hb.mono h.below.size), h.below.size, hb.size, ownsRow_later h.own hb, fun k hk => (h.own.lt k hk).2, h.each.map (fun u g hu => ?_), World.ownsRow_made W #[] 0 (Nat.le_refl _) (by unfold maxLen; omega) rfl, trivial⟩
  exact hu.same (fun b _ hl => hb.block b hl) (fun b hb' hl => ⟨hl, hb'⟩)
theorem PI.out (h : PI w W P vo us gs vp es acc) : OI w W vo us gs := ⟨h.below, h.own, h.each.map (fun u g hu => hu.mono (fun b hb _ => hb.2))⟩
theorem PI.later (h : PI w W P vo us gs vp es acc) (hb : Below W.heap.size W W') : PI w W' P vo us gs vp es acc :=
  ⟨h.below.trans (hb.mono h.below.size), h.lo, Nat.le_trans h.hi hb.size, ownsRow_later h.own hb, h.lt, h.each.map (fun u g hu => hu.below hb), ownsRow_later h.pown hb, h.row.same (fun b _ hl => hb.block b hl) (fun _ h _ => h)⟩
theorem PI.add {k : Int} {t : Wn.Tok} {u : Value} {x : Wn.Fs} (h : PI w W P vo us gs vp es acc) (hown : W'.ownsRow P 80 5 vp' (es ++ [(k, t, u)]).length (valsCells (es ++ [(k, t, u)]))) (hg : W.grownBy W' vp.ownBlock) (hu : ValsP W (fun b => b < w.heap.size) u x) :
    PI w W' P vo us gs vp' (es ++ [(k, t, u)]) (acc.app (.cons k t x .nil)) := by
  have hpb : ∀ k, vp.ownBlock = some k → P ≤ k := fun k hk => (h.pown.lt k hk).1
  have hhi := h.hi
  have hlo := h.lo
  have hsame : ∀ b, b < P → W'.heap[b]? = W.heap[b]? := fun b hb => hg.block b (by omega) (fun e => by have := hpb b e.symm; omega)
  refine ⟨Below.grown h.below hg h.below.size (fun k hk => by have := hpb k hk; omega), hlo, Nat.le_trans hhi hg.size, h.own.kept hg ?_, h.lt, h.each.map (fun u g hu => hu.same (fun b hb _ => hsame b hb.1) (fun _ h _ => h)), hown, ?_⟩
  · cases hvo : vo.ownBlock with
    | none => exact .inl rfl
    | some k => exact .inr (fun e => by have a := h.lt k hvo; have b := hpb k e.symm; omega)
  · exact Row.app (h.row.same (fun b hb _ => hsame b (by omega)) (fun _ h _ => h)) ⟨rfl, rfl, hu.same (fun b hb _ => hsame b (by omega)) (fun _ h _ => h), trivial⟩
theorem PI.cut (h : PI w W P vo us gs vp es acc) (hown : W'.ownsRow w.heap.size 22 1 vo' (us.length + 1) (us ++ [vp])) (hg : (W.alloc o).grownBy W' vo.ownBlock) (hat : vo'.ownBlock = vo.ownBlock ∨ vo'.ownBlock = some (W.alloc o).heap.size) :
    OI w W' vo' (us ++ [vp]) (gs ++ [acc]) := by
  have hb : Below W.heap.size W (W.alloc o) := (Below.refl _ _).alloc (Nat.le_refl _) _
  have hob : ∀ k, vo.ownBlock = some k → w.heap.size ≤ k ∧ k < P := fun k e => ⟨(h.own.lt k e).1, h.lt k e⟩
  have hlo := h.lo
  have hhi := h.hi
  have hW : ∀ b, b < W.heap.size → vo.ownBlock ≠ some b → W'.heap[b]? = W.heap[b]? := fun b hl hne => (hg.block b (by simp; omega) (fun e => hne e.symm)).trans (Below.heap_alloc _ _ b hl)
  have hav : ∀ b, b < W.heap.size → vo.ownBlock ≠ some b → vo'.ownBlock ≠ some b := fun b hl hb' => by
    rcases hat with e | e
    · rw [e]; exact hb'
    · rw [e]; intro e'; simp at e'; omega
  refine ⟨Below.grown (h.below.trans (hb.mono h.below.size)) hg (by have := h.below.size; simp; omega) (fun k hk => (hob k hk).1), by rw [List.length_append]; exact hown, Each.snoc ?_ (h.each.map (fun u g hu => hu.same (fun b hb' hl => hW b hl hb'.2) (fun b hb' hl => hav b hl hb'.2)))⟩
  have hv : ValsP W (fun b => b < w.heap.size ∨ P ≤ b) vp acc := ValsP.ofRow h.pown (h.row.same (fun _ _ _ => rfl) (fun b hb' _ => .inl hb')) (fun b hb' => .inr hb')
  have hne : ∀ b, (b < w.heap.size ∨ P ≤ b) → vo.ownBlock ≠ some b := fun b hb' e => by have := hob b e; omega
  exact hv.same (fun b hb' hl => hW b hl (hne b hb')) (fun b hb' hl => hav b hl (hne b hb'))
end
end Go.Proofs.YtncknaagbafhhaaGreatDoor
