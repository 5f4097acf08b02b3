/- The parser in memory; what its value answers, if its values answer as they should on fewer tokens. What the parser's value answers: a block. What the parser's values answers. -/
import Derived.Test.YtbjhiimjillleaaGN
import Derived.WalkLawsBesides
set_option linter.unusedVariables false
set_option linter.unusedSimpArgs false
set_option maxRecDepth 20000
namespace Wn
def valsL (k : Int) (left : Nat) (l : List Tok) : Option (Fs × List Tok) := vals l.length k left l
/-- one value that begins with t: its kind, its token, the values in it, the tokens behind -/
def oneVal (t : Tok) (left : Nat) (l : List Tok) : Option (Int × Tok × Fs × List Tok) :=
  if kindOf t = 1 then some (1, t, .nil, l) else if left = 0 then none else (valsL (kindOf t) (left - 1) l).map fun q => (kindOf t, blockTok (kindOf t) t, q.1, q.2)
theorem valsL_nil (k : Int) (left : Nat) : valsL k left [] = some (.nil, []) := rfl
theorem valsL_rest {k : Int} {left : Nat} {l : List Tok} {p : Fs × List Tok} (h : valsL k left l = some p) : p.2.length ≤ l.length ∧ p.2 <:+ l := vals_rest _ _ _ _ _ h
theorem oneVal_rest {t : Tok} {left : Nat} {l : List Tok} {p : Int × Tok × Fs × List Tok} (h : oneVal t left l = some p) : p.2.2.2.length ≤ l.length ∧ p.2.2.2 <:+ l := by
  unfold oneVal at h
  split at h
  · simp at h; subst h; exact ⟨Nat.le_refl _, List.suffix_refl _⟩
  · split at h
    · cases h
    · rw [Option.map_eq_some_iff] at h
      obtain ⟨q, hq, rfl⟩ := h
      exact valsL_rest hq
theorem valsL_cons (k : Int) (left : Nat) (t : Tok) (l : List Tok) : valsL k left (t :: l) = if closes t k then some (.nil, l) else match oneVal t left l with
    | none => none
    | some q => (valsL k left q.2.2.2).map fun p => (.cons q.1 q.2.1 q.2.2.1 p.1, p.2) := by
  unfold valsL oneVal
  rw [List.length_cons, vals]
  split
  · rfl
  · split
    · rfl
    · split
      · rfl
      · unfold valsL
        cases h : vals l.length (kindOf t) (left - 1) l with
        | none => rfl
        | some q =>
          have := (vals_rest _ _ _ _ _ h).1
          simp only [Option.map_some]
          rw [vals_more l.length q.2.length k left q.2 this (Nat.le_refl _)]
theorem kindOf_cases (t : Tok) : kindOf t = 1 ∨ (2 ≤ kindOf t ∧ kindOf t ≤ 5) := by
  unfold kindOf
  split
  · right; omega
  · split
    · right; omega
    · split
      · right; omega
      · split
        · right; omega
        · left; rfl
end Wn
namespace Go.Proofs.Ytbjhiimjillleaa
open Go.RowKit Go.Sort
section
variable {w w' : World} {g m : Nat} {v : Value} {D : Int}
theorem Only.cell {g : Nat} (h : Only g w w') {a : Addr} (ha : a.block ≠ g) {u : Value} (hc : w.cell? a = some u) : w'.cell? a = some u :=
  (World.cell?_of_block (h.block a.block (World.block_lt_of_cell? _ _ hc) ha)).trans hc
theorem Below.only {g : Nat} (h : Below w.heap.size w w') : Only g w w' := ⟨h.os, h.tape, h.output, h.size, fun k hk _ => h.block k hk⟩
end
/-- a token's box and a value's box, both new -/
structure Boxes (w W : World) (t : Wn.Tok) : Prop where
  below : Below w.heap.size w W
  size : W.heap.size = w.heap.size + 2
  tok : TokIn W w.heap.size 0 t
  blk : W.heap[w.heap.size + 1]? = some (.cells #[.int .i64 0, .int .i64 0, .string ⟨#[]⟩, .int .i64 0, .slice none 0 0] 80)
theorem boxes (w : World) (t : Wn.Tok) : Boxes w ((w.alloc (.cells #[.int .i64 t.1, .string (Wn.str t.2.1), .int .i64 t.2.2] 75)).alloc (.cells #[.int .i64 0, .int .i64 0, .string ⟨#[]⟩, .int .i64 0, .slice none 0 0] 80)) t := by
  have hz : (w.alloc (.cells #[.int .i64 t.1, .string (Wn.str t.2.1), .int .i64 t.2.2] 75)).heap.size = w.heap.size + 1 := by simp
  refine ⟨((Below.refl _ _).alloc (Nat.le_refl _) _).alloc (by simp) _, by simp, (box1 w t).later ((Below.refl _ _).alloc (Nat.le_refl _) _), ?_⟩
  have := heap_alloc_new (w.alloc (.cells #[.int .i64 t.1, .string (Wn.str t.2.1), .int .i64 t.2.2] 75)) (.cells #[.int .i64 0, .int .i64 0, .string ⟨#[]⟩, .int .i64 0, .slice none 0 0] 80)
  rw [hz] at this; exact this
abbrev set5 (w : World) (b : Nat) (a0 a1 a2 a3 a4 : Value) : World := ((((w.setCell ⟨b, 0, none⟩ a0).setCell ⟨b, 1, none⟩ a1).setCell ⟨b, 2, none⟩ a2).setCell ⟨b, 3, none⟩ a3).setCell ⟨b, 4, none⟩ a4
theorem Below.set5 {B : Nat} {a w : World} (h : Below B a w) {b : Nat} (hb : B ≤ b) (a0 a1 a2 a3 a4 : Value) : Below B a (set5 w b a0 a1 a2 a3 a4) :=
  ((((h.setCell (p := ⟨b, 0, none⟩) hb _).setCell (p := ⟨b, 1, none⟩) hb _).setCell (p := ⟨b, 2, none⟩) hb _).setCell (p := ⟨b, 3, none⟩) hb _).setCell (p := ⟨b, 4, none⟩) hb _
theorem set5_block {w : World} {b k : Nat} (h : k ≠ b) (a0 a1 a2 a3 a4 : Value) : (set5 w b a0 a1 a2 a3 a4).heap[k]? = w.heap[k]? := by
  unfold set5
  rw [Below.heap_setCell _ _ _ _ h, Below.heap_setCell _ _ _ _ h, Below.heap_setCell _ _ _ _ h, Below.heap_setCell _ _ _ _ h, Below.heap_setCell _ _ _ _ h]
theorem set5_size (w : World) (b : Nat) (a0 a1 a2 a3 a4 : Value) : (set5 w b a0 a1 a2 a3 a4).heap.size = w.heap.size := by simp [set5, World.setCell]
theorem Only.set5 {g : Nat} {x w : World} (h : Only g x w) {b : Nat} (hb : x.heap.size ≤ b) (a0 a1 a2 a3 a4 : Value) : Only g x (set5 w b a0 a1 a2 a3 a4) :=
  ((((h.fresh (a := ⟨b, 0, none⟩) hb _).fresh (a := ⟨b, 1, none⟩) hb _).fresh (a := ⟨b, 2, none⟩) hb _).fresh (a := ⟨b, 3, none⟩) hb _).fresh (a := ⟨b, 4, none⟩) hb _
theorem frozen_blk {w : World} {b : Nat} {c : Array Value} {t : TypeId} (h : w.heap[b]? = some (.cells c t)) (o : Nat) : w.frozen? ⟨b, o, none⟩ = false := by simp [World.frozen?, h]
end Go.Proofs.Ytbjhiimjillleaa
set_option linter.unusedVariables false
set_option linter.unusedSimpArgs false
set_option maxRecDepth 20000
namespace Go.Proofs.Ytbjhiimjillleaa
open Go.RowKit Go.Sort
theorem oneCell_slice {v : Value} (h : ∃ ao n c, v = .slice ao n c) : v.oneCell' = true := by obtain ⟨ao, n, c, rfl⟩ := h; rfl
end Go.Proofs.Ytbjhiimjillleaa
set_option linter.unusedVariables false
set_option linter.unusedSimpArgs false
set_option maxRecDepth 20000
namespace Go.Proofs.Ytbjhiimjillleaa
open Go.RowKit Go.Sort
/-- how many tokens the parser has left -/
def restLen (g : Nat) (w : World) : Nat := match w.cell? ⟨g, 0, none⟩ with | some (.slice _ n _) => n | _ => 0
theorem Toks.tail {W : World} {b o : Nat} {t : Wn.Tok} {l : List Wn.Tok} {n cap : Nat} (h : Toks W (.slice (some ⟨b, o, none⟩) n cap) (t :: l)) (hc : 1 < cap) : Toks W (.slice (some ⟨b, o + 3, none⟩) l.length (cap - 1)) l := by
  obtain ⟨ao, c, hv, h1, h2, h3⟩ := h
  simp only [Value.slice.injEq] at hv
  obtain ⟨rfl, rfl, rfl⟩ := hv
  simp only [List.length_cons] at h1
  refine ⟨_, _, rfl, by omega, by omega, fun i u hi => ?_⟩
  obtain ⟨b', o', ha, hin⟩ := h3 (i + 1) u (by simpa using hi)
  simp only [Option.some.injEq, Addr.mk.injEq] at ha
  obtain ⟨rfl, rfl, _⟩ := ha
  exact ⟨_, _, rfl, by rw [show o + 3 + i * 3 = o + (i + 1) * 3 by omega]; exact hin⟩
theorem Toks.last {W : World} {ao : Option Addr} {t : Wn.Tok} {l : List Wn.Tok} {n : Nat} (h : Toks W (.slice ao n 1) (t :: l)) : l = [] := by
  obtain ⟨ao', c, hv, h1, h2, h3⟩ := h
  simp only [Value.slice.injEq] at hv
  obtain ⟨rfl, rfl, rfl⟩ := hv
  simp only [List.length_cons] at h1
  exact List.length_eq_zero_iff.1 (by omega)
theorem Toks.none (W : World) (ao : Option Addr) : Toks W (.slice ao 0 0) [] := ⟨ao, 0, rfl, Nat.le_refl _, by unfold maxLen; omega, fun i t h => by simp at h⟩
theorem Only.grownRow {g : Nat} {w W W' : World} {row : Option Nat} (h : Only g w W) (hg : W.grownBy W' row) (hr : ∀ r, row = some r → w.heap.size ≤ r) : Only g w W' :=
  ⟨hg.os.trans h.os, hg.tape.trans h.tape, hg.output.trans h.output, Nat.le_trans h.size hg.size, fun b hb hne => (hg.block b (Nat.lt_of_lt_of_le hb h.size) (fun e => by have := hr b e.symm; omega)).trans (h.block b hb hne)⟩
theorem Only.grow {g : Nat} {w w' : World} (h : Only g w w') : w.grownBy w' (some g) := h.grown
section
variable {g m : Nat} {D : Int} {w W W' : World} {vi vi' r : Value} {es : List (Int × Wn.Tok × Value)} {acc : Wn.Fs}
end
end Go.Proofs.Ytbjhiimjillleaa
