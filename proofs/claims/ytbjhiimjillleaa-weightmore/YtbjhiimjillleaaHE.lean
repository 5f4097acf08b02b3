/- What the reader's element answers. What attribute answers. What the reader's function and pseudoClass answer. What the reader's simple answers. What inNot answers. -/
import Derived.Test.YtbjhiimjillleaaHD
set_option linter.unusedVariables false
set_option linter.unusedSimpArgs false
set_option maxRecDepth 20000
namespace Go.Proofs.Ytbjhiimjillleaa
open Go.RowKit Go.Sort
/-- a new simple selector's box -/
def SBox (w : World) (b : Nat) : Prop := w.heap[b]? = some (.cells #[.int .i64 0, .string ⟨#[]⟩, .string ⟨#[]⟩, .int .i64 0, .int .i64 0, .slice none 0 0] 45)
theorem SBox.new (w : World) : SBox (w.alloc (.cells #[.int .i64 0, .string ⟨#[]⟩, .string ⟨#[]⟩, .int .i64 0, .int .i64 0, .slice none 0 0] 45)) w.heap.size := heap_alloc_new w _
theorem SBox.only {w w' : World} {b g : Nat} (h : SBox w b) (ho : Only g w w') (hb : b ≠ g) : SBox w' b := (ho.block b (lt_of_block h) hb).trans h
theorem SBox.below {w w' : World} {b : Nat} (h : SBox w b) (ho : Below w.heap.size w w') : SBox w' b := block_lat ho h
def smZ : Value := .agg #[.int .i64 0, .string ⟨#[]⟩, .string ⟨#[]⟩, .int .i64 0, .int .i64 0, .slice none 0 0]
end Go.Proofs.Ytbjhiimjillleaa
set_option linter.unusedVariables false
set_option linter.unusedSimpArgs false
set_option maxRecDepth 20000
namespace Go.Proofs.Ytbjhiimjillleaa
open Go.RowKit Go.Sort
theorem set6_kp (w : World) (b : Nat) (a0 a1 a2 a3 a4 a5 : Value) : Only b w ((((((w.setCell ⟨b, 0, none⟩ a0).setCell ⟨b, 1, none⟩ a1).setCell ⟨b, 2, none⟩ a2).setCell ⟨b, 3, none⟩ a3).setCell ⟨b, 4, none⟩ a4).setCell ⟨b, 5, none⟩ a5) :=
  ((((((Only.refl b w).setCell (p := ⟨b, 0, none⟩) rfl _).setCell (p := ⟨b, 1, none⟩) rfl _).setCell (p := ⟨b, 2, none⟩) rfl _).setCell (p := ⟨b, 3, none⟩) rfl _).setCell (p := ⟨b, 4, none⟩) rfl _).setCell (p := ⟨b, 5, none⟩) rfl _
theorem set6_blk {w : World} {b : Nat} {c0 c1 c2 c3 c4 c5 : Value} {t : TypeId} (h : w.heap[b]? = some (.cells #[c0, c1, c2, c3, c4, c5] t)) (a0 a1 a2 a3 a4 a5 : Value) : ((((((w.setCell ⟨b, 0, none⟩ a0).setCell ⟨b, 1, none⟩ a1).setCell ⟨b, 2, none⟩ a2).setCell ⟨b, 3, none⟩ a3).setCell ⟨b, 4, none⟩ a4).setCell ⟨b, 5, none⟩ a5).heap[b]? = some (.cells #[a0, a1, a2, a3, a4, a5] t) := by
  simp [World.setCell, Array.getElem?_modify, h]
/-- block b is the simple selector x, in which there is none -/
def SmAt (b : Nat) (x : Wn.Sm) (w : World) : Prop := w.heap[b]? = some (.cells #[.int .i64 x.k, .string (Wn.str x.n), .string (Wn.str x.v), .int .i64 x.a, .int .i64 x.b, .slice none 0 0] 45) ∧ x.l = .nil
/-- two boxes for simple selectors, both new -/
structure Boxes2 (w W : World) : Prop where
  below : Below w.heap.size w W
  size : W.heap.size = w.heap.size + 2
  b0 : SBox W w.heap.size
  b1 : SBox W (w.heap.size + 1)
theorem boxes2 (w : World) : Boxes2 w ((w.alloc (.cells #[.int .i64 0, .string ⟨#[]⟩, .string ⟨#[]⟩, .int .i64 0, .int .i64 0, .slice none 0 0] 45)).alloc (.cells #[.int .i64 0, .string ⟨#[]⟩, .string ⟨#[]⟩, .int .i64 0, .int .i64 0, .slice none 0 0] 45)) := by
  have hz : (w.alloc (.cells #[.int .i64 0, .string ⟨#[]⟩, .string ⟨#[]⟩, .int .i64 0, .int .i64 0, .slice none 0 0] 45)).heap.size = w.heap.size + 1 := by simp
  refine ⟨((Below.refl _ _).alloc (Nat.le_refl _) _).alloc (by simp) _, by simp, block_alloc (heap_alloc_new w _) _, ?_⟩
  have := heap_alloc_new (w.alloc (.cells #[.int .i64 0, .string ⟨#[]⟩, .string ⟨#[]⟩, .int .i64 0, .int .i64 0, .slice none 0 0] 45)) (.cells #[.int .i64 0, .string ⟨#[]⟩, .string ⟨#[]⟩, .int .i64 0, .int .i64 0, .slice none 0 0] 45)
  rw [hz] at this; exact this
end Go.Proofs.Ytbjhiimjillleaa
set_option linter.unusedVariables false
set_option linter.unusedSimpArgs false
set_option maxRecDepth 20000
namespace Go.Proofs.Ytbjhiimjillleaa
open Go.RowKit Go.Sort
/-- a simple selector by value, made by the call -/
def SmNew (base : Nat) (w : World) (x : Wn.Sm) (u : Value) : Prop := SsP w (fun b => base ≤ b) u x.l ∧ (x.l = .nil → u = .slice none 0 0)
theorem SmNew.nil {base : Nat} {w : World} {x : Wn.Sm} (h : x.l = .nil) : SmNew base w x (.slice none 0 0) := ⟨by rw [h]; exact SsP.nil _ _, fun _ => rfl⟩
theorem SmNew.same {base base' : Nat} {w w' : World} {x : Wn.Sm} {u : Value} (h : SmNew base w x u) (hb : base' ≤ base) (hs : ∀ b, base ≤ b → b < w.heap.size → w'.heap[b]? = w.heap[b]?) : SmNew base' w' x u :=
  ⟨h.1.same hs (fun b hb' _ => by omega), h.2⟩
theorem SmNew.slice {base : Nat} {w : World} {x : Wn.Sm} {u : Value} (h : SmNew base w x u) : ∃ ao n c, u = .slice ao n c := by obtain ⟨ao, cap, hv, _⟩ := h.1.form; exact ⟨_, _, _, hv⟩
/-- a slice of one simple selector -/
theorem one_sm {w : World} {y : Wn.Sm} (hy : y.l = .nil) (k : Nat) (hk : k = w.heap.size) : SmNew k (w.alloc (.cells #[.int .i64 y.k, .string (Wn.str y.n), .string (Wn.str y.v), .int .i64 y.a, .int .i64 y.b, .slice none 0 0] 45)) ⟨11, [], [], 0, 0, y.on .nil⟩ (.slice (some ⟨k, 0, none⟩) 1 1) := by
  subst hk
  refine ⟨?_, fun h => by cases h⟩
  show SsP _ _ _ (y.on .nil)
  rw [SsP.k]
  have e : (y.on .nil).toL = [y] := by cases y; rfl
  rw [e]
  have hr : smK.R (w.alloc (.cells #[.int .i64 y.k, .string (Wn.str y.n), .string (Wn.str y.v), .int .i64 y.a, .int .i64 y.b, .slice none 0 0] 45)) (fun b => w.heap.size ≤ b) (smCells y (.slice none 0 0)) y := ⟨_, rfl, by rw [hy]; exact SsP.nil _ _⟩
  refine RK.P.ofCells (K := smK) (l := [y]) (es := [smCells y (.slice none 0 0)]) ⟨hr, trivial⟩ (Nat.le_refl _) (by unfold maxLen; simp) (Nat.le_refl _) (by simp) fun j u hj => ?_
  rw [cell_of_block (heap_alloc_new w _), Nat.zero_add]
  simpa [smCells] using hj
theorem valF_tl {f : Wn.Fs} {kind : Int} {t : Wn.Tok} {x r : Wn.Fs} (h : Wn.valF kind f = some ((t, x), r)) (ht : Tl f) : Tl x ∧ Tl r := by
  cases f with
  | nil => cases h
  | cons k t' x' r' =>
    simp only [Wn.valF] at h
    split at h
    · simp only [Option.some.injEq, Prod.mk.injEq] at h; obtain ⟨⟨rfl, rfl⟩, rfl⟩ := h; exact ht.cons.2
    · cases h
theorem stateW_nil {n : List UInt8} {x : Wn.Sm} (h : Wn.stateW n = some x) : x.l = .nil := by
  unfold Wn.stateW at h
  repeat' (first | (split at h) | (cases h; rfl) | (cases h))
end Go.Proofs.Ytbjhiimjillleaa
set_option linter.unusedVariables false
set_option linter.unusedSimpArgs false
set_option maxRecDepth 20000
namespace Go.Proofs.Ytbjhiimjillleaa
open Go.RowKit Go.Sort
end Go.Proofs.Ytbjhiimjillleaa
set_option linter.unusedVariables false
set_option linter.unusedSimpArgs false
set_option maxRecDepth 20000
namespace Wn
theorem whole_some {α : Type} {p : Fs → Option (α × Fs)} {f : Fs} {x : α} (h : wholeF p f = some x) : ∃ r, p (dropB f) = some (x, r) ∧ dropB r = .nil := by
  unfold wholeF at h
  split at h
  · rename_i y r e
    split at h
    · simp at h; subst h; exact ⟨r, e, by assumption⟩
    · cases h
  · cases h
theorem attrF_nil {f : Fs} {x : Sm} (h : attrF f = some x) : x.l = .nil := by
  obtain ⟨r, h, _⟩ := whole_some h
  unfold attrR at h
  split at h
  · cases h
  · split at h
    · simp at h; rw [← h.1]; rfl
    · rw [Option.map_eq_some_iff] at h; obtain ⟨q, _, h⟩ := h; simp at h; rw [← h.1]
theorem stateW_nil' {n : List UInt8} {x : Sm} (h : stateW n = some x) : x.l = .nil := by
  unfold stateW at h
  repeat' (first | (split at h) | (cases h; rfl) | (cases h))
theorem simpG_plain {first : Bool} {f : Fs} {x : Sm} {r : Fs} (h : simpG notNo first f = some (some (x, r))) : x.l = .nil := by
  have hlater : ∀ {f : Fs}, laterG notNo f = some (some (x, r)) → x.l = .nil := by
    intro f h
    unfold laterG at h
    split at h
    · simp at h; rw [← h.1]; rfl
    · split at h
      · rw [Option.map_eq_some_iff] at h; obtain ⟨q, _, h⟩ := h; simp at h; rw [← h.1]; rfl
      · split at h
        · rw [Option.map_eq_some_iff] at h; obtain ⟨q, hq, h⟩ := h; simp at h; rw [← h.1]; exact attrF_nil hq
        · split at h
          · cases h
          · split at h
            · cases h
            · rw [Option.map_eq_some_iff] at h; obtain ⟨q, hq, h⟩ := h; simp at h; subst h
              unfold colonG at hq
              split at hq
              · rw [Option.map_eq_some_iff] at hq; obtain ⟨y, hy, h⟩ := hq; simp at h; rw [← h.1]
                unfold funcG at hy
                split at hy
                · rw [Option.map_eq_some_iff] at hy; obtain ⟨z, _, hz⟩ := hy; rw [← hz]
                · split at hy
                  · simp [notNo] at hy
                  · cases hy
              · split at hq
                · cases hq
                · rw [Option.map_eq_some_iff] at hq; obtain ⟨y, hy, h⟩ := hq; simp at h; rw [← h.1]; exact stateW_nil' hy
  unfold simpG at h
  split at h
  · split at h
    · rename_i p he
      simp at h
      subst h
      unfold elemF at he
      split at he
      · simp at he; rw [← he.1]; rfl
      · rw [Option.map_eq_some_iff] at he; obtain ⟨q, _, h⟩ := he; simp at h; rw [← h.1]; rfl
    · exact hlater h
  · exact hlater h
end Wn
namespace Go.Proofs.Ytbjhiimjillleaa
open Go.RowKit Go.Sort
end Go.Proofs.Ytbjhiimjillleaa
