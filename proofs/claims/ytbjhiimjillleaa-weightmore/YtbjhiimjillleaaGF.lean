/- Tokens in memory; what toks.reads answers: are the tokens of a text those wanted? What toks.isDelim, apart, May answer. What toks.Text answers: the text of tokens. -/
import Derived.Test.YtbjhiimjillleaaGD
set_option maxRecDepth 20000
namespace Go.Proofs.Ytbjhiimjillleaa
open Go.RowKit
/-- the token t lies at this place -/
structure TokIn (w : World) (b o : Nat) (t : Wn.Tok) : Prop where
  c0 : w.cell? ⟨b, o, none⟩ = some (.int .i64 t.1)
  c1 : w.cell? ⟨b, o + 1, none⟩ = some (.string (Wn.str t.2.1))
  c2 : w.cell? ⟨b, o + 2, none⟩ = some (.int .i64 t.2.2)
/-- the slice v reads as the tokens l -/
def Toks (w : World) (v : Value) (l : List Wn.Tok) : Prop :=
  ∃ ao cap, v = .slice ao l.length cap ∧ l.length ≤ cap ∧ cap ≤ maxLen ∧ ∀ i t, l[i]? = some t → ∃ b off, ao = some ⟨b, off, none⟩ ∧ TokIn w b (off + i * 3) t
theorem Toks.nil (w : World) : Toks w (.slice none 0 0) [] := ⟨none, 0, rfl, Nat.le_refl _, by unfold maxLen; omega, fun i t h => by simp at h⟩
theorem TokIn.lt {w : World} {b o : Nat} {t : Wn.Tok} (h : TokIn w b o t) : b < w.heap.size := World.block_lt_of_cell? w ⟨b, o, none⟩ h.c0
theorem TokIn.below {B : Nat} {w w' : World} {b o : Nat} {t : Wn.Tok} (h : TokIn w b o t) (hb : Below B w w') (hB : b < B) : TokIn w' b o t :=
  ⟨(hb.cell (p := ⟨b, o, none⟩) hB).trans h.c0, (hb.cell (p := ⟨b, o + 1, none⟩) hB).trans h.c1, (hb.cell (p := ⟨b, o + 2, none⟩) hB).trans h.c2⟩
/-- what lies in old memory reads as it did -/
theorem Toks.below {w w' : World} {v : Value} {l : List Wn.Tok} (h : Toks w v l) (hb : Below w.heap.size w w') : Toks w' v l := by
  obtain ⟨ao, cap, hv, h1, h2, h3⟩ := h
  exact ⟨ao, cap, hv, h1, h2, fun i t ht => let ⟨b, off, ha, hi⟩ := h3 i t ht; ⟨b, off, ha, hi.below hb hi.lt⟩⟩
theorem toksCells_get : ∀ (l : List Wn.Tok) (i : Nat) (t : Wn.Tok), l[i]? = some t →
    (toksCells l)[i * 3]? = some (.int .i64 t.1) ∧ (toksCells l)[i * 3 + 1]? = some (.string (Wn.str t.2.1)) ∧ (toksCells l)[i * 3 + 2]? = some (.int .i64 t.2.2)
  | [], i, t, h => by simp at h
  | x :: l, 0, t, h => by
    simp at h; subst h
    exact ⟨rfl, rfl, rfl⟩
  | x :: l, i + 1, t, h => by
    have := toksCells_get l i t (by simpa using h)
    have e : toksCells (x :: l) = tokCells x ++ toksCells l := by simp [toksCells]
    rw [e, show (i + 1) * 3 = i * 3 + 3 by omega]
    simpa [tokCells] using this
theorem toksCells_length (l : List Wn.Tok) : (toksCells l).length = l.length * 3 := by
  induction l with
  | nil => rfl
  | cons x l ih => have e : toksCells (x :: l) = tokCells x ++ toksCells l := by simp [toksCells]
                   rw [e]; simp [tokCells, ih]; omega
/-- a row of a call's own reads as its tokens -/
theorem Toks.ofRow {w : World} {B : Nat} {v : Value} {l : List Wn.Tok} (h : w.ownsRow B 75 3 v l.length (toksCells l)) : Toks w v l := by
  rcases h.2 with ⟨hv, hn⟩ | ⟨g, cap, cur, hv, hg, hh, hn, hcap, hsz, htake⟩
  · obtain rfl := List.length_eq_zero_iff.1 hn
    subst hv
    exact Toks.nil w
  · refine ⟨_, cap, hv, hn, hcap, fun i t ht => ⟨g, 0, rfl, ?_⟩⟩
    obtain ⟨k0, k1, k2⟩ := toksCells_get l i t ht
    have hil : i < l.length := (List.getElem?_eq_some_iff.1 ht).1
    have get : ∀ j u, (toksCells l)[j]? = some u → w.cell? ⟨g, j, none⟩ = some u := fun j u hu => by
      have hjl : j < (toksCells l).length := (List.getElem?_eq_some_iff.1 hu).1
      rw [← htake, List.getElem?_take] at hu
      split at hu
      · simp [World.cell?, hh]; simpa using hu
      · cases hu
    exact ⟨by rw [Nat.zero_add]; exact get _ _ k0, by rw [Nat.zero_add]; exact get _ _ k1, by rw [Nat.zero_add]; exact get _ _ k2⟩
theorem cell_alloc_old {w : World} {a : Addr} {v : Value} (h : w.cell? a = some v) (o : Obj) : (w.alloc o).cell? a = some v :=
  (World.cell?_of_block (w := w) (Below.heap_alloc w o a.block (World.block_lt_of_cell? w a h))).trans h
end Go.Proofs.Ytbjhiimjillleaa
set_option maxRecDepth 20000
namespace Wn
def isDelim (t : Tok) (x : List UInt8) : Bool := decide (t.1 = 7) && decide (t.2.1 = x)
/-- must a comment stand between two tokens? -/
def apart (j : List UInt8) (a b : Tok) : Bool := (isDelim a [60] && isDelim b [47]) || !decide (lex j = [a, b])
def may (t : Tok) : Bool := decide (lex (oneText t) = [t])
end Wn
namespace Go.Proofs.Ytbjhiimjillleaa
open Go.RowKit
theorem Toks.mk1 (w : World) (t : Wn.Tok) : Toks (w.alloc (.cells #[.int .i64 t.1, .string (Wn.str t.2.1), .int .i64 t.2.2] 75)) (.slice (some ⟨w.heap.size, 0, none⟩) 1 1) [t] := by
  have hb := heap_alloc_new w (.cells #[.int .i64 t.1, .string (Wn.str t.2.1), .int .i64 t.2.2] 75)
  refine ⟨_, 1, rfl, Nat.le_refl _, by unfold maxLen; omega, fun i u hi => ⟨_, _, rfl, ?_⟩⟩
  match i, hi with
  | 0, hi => simp at hi; subst hi; exact ⟨cell_of_block (o := 0) hb, cell_of_block (o := 1) hb, cell_of_block (o := 2) hb⟩
theorem Toks.mk2 (w : World) (t u : Wn.Tok) : Toks (w.alloc (.cells #[.int .i64 t.1, .string (Wn.str t.2.1), .int .i64 t.2.2, .int .i64 u.1, .string (Wn.str u.2.1), .int .i64 u.2.2] 75)) (.slice (some ⟨w.heap.size, 0, none⟩) 2 2) [t, u] := by
  have hb := heap_alloc_new w (.cells #[.int .i64 t.1, .string (Wn.str t.2.1), .int .i64 t.2.2, .int .i64 u.1, .string (Wn.str u.2.1), .int .i64 u.2.2] 75)
  refine ⟨_, 2, rfl, Nat.le_refl _, by unfold maxLen; omega, fun i x hi => ⟨_, _, rfl, ?_⟩⟩
  match i, hi with
  | 0, hi => simp at hi; subst hi; exact ⟨cell_of_block (o := 0) hb, cell_of_block (o := 1) hb, cell_of_block (o := 2) hb⟩
  | 1, hi => simp at hi; subst hi; exact ⟨cell_of_block (o := 3) hb, cell_of_block (o := 4) hb, cell_of_block (o := 5) hb⟩
/-- two tokens in two boxes that were made -/
theorem box2 (w : World) (t u : Wn.Tok) : TokIn ((w.alloc (.cells #[.int .i64 t.1, .string (Wn.str t.2.1), .int .i64 t.2.2] 75)).alloc (.cells #[.int .i64 u.1, .string (Wn.str u.2.1), .int .i64 u.2.2] 75)) w.heap.size 0 t ∧
    TokIn ((w.alloc (.cells #[.int .i64 t.1, .string (Wn.str t.2.1), .int .i64 t.2.2] 75)).alloc (.cells #[.int .i64 u.1, .string (Wn.str u.2.1), .int .i64 u.2.2] 75)) (w.heap.size + 1) 0 u := by
  have hb := heap_alloc_new w (.cells #[.int .i64 t.1, .string (Wn.str t.2.1), .int .i64 t.2.2] 75)
  have hc := heap_alloc_new (w.alloc (.cells #[.int .i64 t.1, .string (Wn.str t.2.1), .int .i64 t.2.2] 75)) (.cells #[.int .i64 u.1, .string (Wn.str u.2.1), .int .i64 u.2.2] 75)
  have hz : (w.alloc (.cells #[.int .i64 t.1, .string (Wn.str t.2.1), .int .i64 t.2.2] 75)).heap.size = w.heap.size + 1 := by simp
  rw [hz] at hc
  exact ⟨⟨cell_alloc_old (cell_of_block (o := 0) hb) _, cell_alloc_old (cell_of_block (o := 1) hb) _, cell_alloc_old (cell_of_block (o := 2) hb) _⟩, ⟨cell_of_block (o := 0) hc, cell_of_block (o := 1) hc, cell_of_block (o := 2) hc⟩⟩
theorem box1 (w : World) (t : Wn.Tok) : TokIn (w.alloc (.cells #[.int .i64 t.1, .string (Wn.str t.2.1), .int .i64 t.2.2] 75)) w.heap.size 0 t := by
  have hb := heap_alloc_new w (.cells #[.int .i64 t.1, .string (Wn.str t.2.1), .int .i64 t.2.2] 75)
  exact ⟨cell_of_block (o := 0) hb, cell_of_block (o := 1) hb, cell_of_block (o := 2) hb⟩
theorem TokIn.later {w w' : World} {b o : Nat} {t : Wn.Tok} (h : TokIn w b o t) (hb : Below w.heap.size w w') : TokIn w' b o t := h.below hb h.lt
theorem lex_str (l : List UInt8) : (Wn.str l).data.toList = l := rfl
end Go.Proofs.Ytbjhiimjillleaa
set_option maxRecDepth 20000
namespace Wn
/-- the text of tokens behind another one -/
def texts : Option Tok → List Tok → List UInt8
  | _, [] => []
  | none, t :: l => oneText t ++ texts (some t) l
  | some p, t :: l => (if apart (oneText p ++ oneText t) p t then [47, 42, 42, 47] else []) ++ (oneText t ++ texts (some t) l)
def text (l : List Tok) : List UInt8 := texts none l
/-- the token ahead of a place -/
def ahead (l : List Tok) (k : Nat) : Option Tok := if k = 0 then none else l[k - 1]?
/-- its text; nothing ahead of the first -/
def aheadText (l : List Tok) (k : Nat) : List UInt8 := match ahead l k with | none => [] | some t => oneText t
theorem ahead_succ (l : List Tok) (k : Nat) (t : Tok) (h : l[k]? = some t) : ahead l (k + 1) = some t := by simp [ahead, h]
theorem aheadText_succ (l : List Tok) (k : Nat) (t : Tok) (h : l[k]? = some t) : aheadText l (k + 1) = oneText t := by simp [aheadText, ahead_succ l k t h]
end Wn
namespace Go.Proofs.Ytbjhiimjillleaa
open Go.RowKit
/-- a token as a Go program may hold it here: a short text, a number that is an int -/
def Fine (t : Wn.Tok) : Prop := t.2.1.length ≤ 1048576 ∧ -9223372036854775808 ≤ t.2.2 ∧ t.2.2 ≤ 9223372036854775807
theorem Fine.one {t : Wn.Tok} (h : Fine t) : (Wn.oneText t).length ≤ 1048596 := by have := Wn.oneText_len t h.2.1 h.2.2; have := h.1; omega
theorem grown_none {w w' : World} (h : Below w.heap.size w w') : w.grownBy w' none := ⟨h.os, h.tape, h.output, h.size, fun k hk _ => h.block k hk⟩
theorem ownsRow_later {w w' : World} {B : Nat} {e : TypeId} {size : Nat} {v : Value} {n : Nat} {xs : List Value} (h : w.ownsRow B e size v n xs) (hb : Below w.heap.size w w') : w'.ownsRow B e size v n xs := by
  refine h.kept (grown_none hb) ?_
  cases v.ownBlock with
  | none => exact .inl rfl
  | some k => exact .inr (by simp)
theorem below_drewN' {B : Nat} {a w : World} (h : Below B a w) (n : Nat) : Below B a (w.drewN n) := ⟨h.os, h.tape, h.output, h.size, h.block⟩
end Go.Proofs.Ytbjhiimjillleaa
