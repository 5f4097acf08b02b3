/- What nest.Parse answers. What nest.openingToken, appendFlat and Flat answer. What nest.appendFlat and Flat answer. -/
import Derived.Test.YtbjhiimjillleaaGO
import Derived.Recover
set_option linter.unusedVariables false
set_option linter.unusedSimpArgs false
set_option maxRecDepth 20000
namespace Go.Proofs.Ytbjhiimjillleaa
open Go.RowKit Go.Sort
def ParsePost (w : World) (l : List Wn.Tok) (deep : Int) (e : Ending) (w' : World) : Prop :=
  Below w.heap.size w w' ∧ if deep < 1 ∨ 60 < deep then e = .returned (.tuple #[.slice none 0 0, .int .i64 1]) else
    match Wn.parse l deep.toNat with
    | some f => ∃ r, e = .returned (.tuple #[r, .int .i64 0]) ∧ ValsP w' (fun b => w.heap.size ≤ b) r f
    | none => e = .returned (.tuple #[.slice none 0 0, .int .i64 20])
theorem parse_valsL (l : List Wn.Tok) (n : Nat) : Wn.parse l n = (Wn.valsL 0 n l).map (·.1) := rfl
theorem Below.andOnly {B g : Nat} {w0 W W' : World} (h : Below B w0 W) (ho : Only g W W') (hg : B ≤ g) (hs : B ≤ W.heap.size) : Below B w0 W' :=
  h.trans ⟨ho.os, ho.tape, ho.output, ho.size, fun k hk => ho.block k (by omega) (by omega)⟩
end Go.Proofs.Ytbjhiimjillleaa
set_option linter.unusedVariables false
set_option linter.unusedSimpArgs false
set_option maxRecDepth 20000
namespace Wn
theorem Fs.size_drop {f : Fs} {i : Nat} {k : Int} {t : Tok} {x r : Fs} (h : f.drop i = .cons k t x r) : x.size < f.size := by
  induction f generalizing i with
  | nil => cases i <;> simp [Fs.drop] at h
  | cons k' t' x' r' ih1 ih2 =>
    cases i with
    | zero => rw [Fs.drop_zero] at h; simp only [Fs.cons.injEq] at h; obtain ⟨_, _, rfl, _⟩ := h; simp only [Fs.size]; omega
    | succ i => rw [Fs.drop] at h; have := ih2 h; simp only [Fs.size]; omega
end Wn
namespace Go.Proofs.Ytbjhiimjillleaa
open Go.RowKit Go.Sort
theorem agg_delim (x : List UInt8) : (Value.agg #[.int .i64 (Wn.dlm x).1, .string (Wn.str (Wn.dlm x).2.1), .int .i64 (Wn.dlm x).2.2]) = .agg #[.int .i64 7, .string (Wn.str x), .int .i64 0] := rfl
/-- what appending has done: all old blocks but the row's own are as they were; the row lies where it lay, or in new memory -/
structure Grow (r : Value) (w w' : World) (r' : Value) : Prop where
  by_ : w.grownBy w' r.ownBlock
  at_ : r'.ownBlock = r.ownBlock ∨ ∃ n, w.heap.size ≤ n ∧ r'.ownBlock = some n
theorem Grow.refl (r : Value) (w : World) : Grow r w w r := ⟨⟨rfl, rfl, rfl, Nat.le_refl _, fun _ _ _ => rfl⟩, .inl rfl⟩
theorem Grow.avoid {r r' : Value} {w w' : World} (h : Grow r w w' r') {b : Nat} (hb : b < w.heap.size) (hr : some b ≠ r.ownBlock) : some b ≠ r'.ownBlock := by
  rcases h.at_ with e | ⟨n, hn, e⟩
  · rw [e]; exact hr
  · rw [e]; intro e'; simp at e'; omega
theorem Grow.trans {r r1 r2 : Value} {w w1 w2 : World} (h : Grow r w w1 r1) (k : Grow r1 w1 w2 r2) : Grow r w w2 r2 := by
  refine ⟨⟨k.by_.os.trans h.by_.os, k.by_.tape.trans h.by_.tape, k.by_.output.trans h.by_.output, Nat.le_trans h.by_.size k.by_.size, fun b hb hr => (k.by_.block b (Nat.lt_of_lt_of_le hb h.by_.size) (h.avoid hb hr)).trans (h.by_.block b hb hr)⟩, ?_⟩
  rcases k.at_ with e | ⟨n, hn, e⟩
  · rw [e]; exact h.at_
  · exact .inr ⟨n, Nat.le_trans h.by_.size hn, e⟩
theorem Grow.below {r r' : Value} {w w' w2 : World} (h : Grow r w w' r') (hb : Below w'.heap.size w' w2) : Grow r w w2 r' := h.trans ⟨grown_none hb |> fun g => ⟨g.os, g.tape, g.output, g.size, fun b hl _ => hb.block b hl⟩, .inl rfl⟩
theorem Grow.vals {r r' : Value} {w w' : World} (h : Grow r w w' r') {base : Nat} (hbase : ∀ b, r.ownBlock = some b → base ≤ b) {v : Value} {f : Wn.Fs} (hv : ValsP w (fun b => b < base) v f) : ValsP w' (fun b => b < base) v f :=
  hv.same (fun b hb hl => h.by_.block b hl (fun e => by have := hbase b e.symm; omega)) (fun _ h _ => h)
theorem Grow.map {r r' : Value} {w w' : World} {B n : Nat} {xs : List Value} (h : Grow r w w' r') (ho : w.ownsRow B 75 3 r n xs) {m : Nat} (hm : w.heap[m]? = some fenceObj) : w'.heap[m]? = some fenceObj := by
  refine (h.by_.block m (block_lt hm) (fun e => ?_)).trans hm
  obtain ⟨_, hh⟩ := ho
  rcases hh with ⟨hv, _⟩ | ⟨q, cap, cur, hv, _, hq, _⟩
  · rw [hv] at e; simp [Value.ownBlock] at e
  · rw [hv] at e
    simp [Value.ownBlock] at e
    rw [← e, hm] at hq
    simp [fenceObj] at hq
/-- a row of tokens of the call's own, and what else it stands on -/
structure Rows3 (base m : Nat) (W : World) (r v : Value) (f : Wn.Fs) (acc : List Wn.Tok) : Prop where
  own : W.ownsRow base 75 3 r acc.length (toksCells acc)
  vals : ValsP W (fun b => b < base) v f
  map : W.heap[m]? = some fenceObj
  size : base ≤ W.heap.size
theorem Rows3.below {base m : Nat} {W W' : World} {r v : Value} {f : Wn.Fs} {acc : List Wn.Tok} (h : Rows3 base m W r v f acc) (hb : Below W.heap.size W W') : Rows3 base m W' r v f acc :=
  ⟨ownsRow_later h.own hb, h.vals.below hb, block_lat hb h.map, Nat.le_trans h.size hb.size⟩
theorem Rows3.grow {base m : Nat} {W W' : World} {r r' v : Value} {f : Wn.Fs} {acc acc' : List Wn.Tok} (h : Rows3 base m W r v f acc) (hg : Grow r W W' r') (ho : W'.ownsRow base 75 3 r' acc'.length (toksCells acc')) : Rows3 base m W' r' v f acc' :=
  ⟨ho, hg.vals (fun b hb => (h.own.lt b hb).1) h.vals, hg.map h.own h.map, Nat.le_trans h.size hg.by_.size⟩
end Go.Proofs.Ytbjhiimjillleaa
set_option linter.unusedVariables false
set_option linter.unusedSimpArgs false
set_option maxRecDepth 20000
namespace Go.Proofs.Ytbjhiimjillleaa
open Go.RowKit Go.Sort
def AFPost (base : Nat) (r : Value) (w : World) (l : List Wn.Tok) (e : Ending) (w' : World) : Prop := ∃ r', e = .returned r' ∧ w'.ownsRow base 75 3 r' l.length (toksCells l) ∧ Grow r w w' r'
theorem flat_tok {k : Int} (t : Wn.Tok) (x r : Wn.Fs) (h : k = 1) : Wn.flat (.cons k t x r) = t :: Wn.flat r := by simp [Wn.flat, h]
theorem flat_none {k : Int} (t : Wn.Tok) (x r : Wn.Fs) (h : ¬ k = 1) (hb : Wn.isBlk k = false) : Wn.flat (.cons k t x r) = Wn.flat r := by simp [Wn.flat, h, hb]
theorem flat_blk {k : Int} (t : Wn.Tok) (x r : Wn.Fs) (hb : Wn.isBlk k = true) : Wn.flat (.cons k t x r) = Wn.opening k t :: (Wn.flat x ++ Wn.dlm (Wn.closeB k) :: Wn.flat r) := by
  have h : ¬ k = 1 := by rintro rfl; simp [Wn.isBlk] at hb
  simp [Wn.flat, h, hb]
theorem toksCells_snoc' (l : List Wn.Tok) (t : Wn.Tok) : toksCells (l ++ [t]) = toksCells l ++ [.int .i64 t.1, .string (Wn.str t.2.1), .int .i64 t.2.2] := toksCells_snoc l t
theorem grow_at {r r' : Value} {w W W' : World} (hb : Below w.heap.size w W) (hg : W.grownBy W' r.ownBlock) (ha : r'.ownBlock = r.ownBlock ∨ r'.ownBlock = some W.heap.size) : Grow r w W' r' :=
  (Grow.refl r w).below hb |>.trans ⟨hg, ha.imp id (fun e => ⟨_, Nat.le_refl _, e⟩)⟩
theorem Vals.old {w : World} {v : Value} {f : Wn.Fs} (h : Vals w v f) : ValsP w (fun b => b < w.heap.size) v f := ValsP.mono h (fun _ _ hl => hl)
def FlatPost (w : World) (l : List Wn.Tok) (e : Ending) (w' : World) : Prop := ∃ r, e = .returned r ∧ w'.ownsRow w.heap.size 75 3 r l.length (toksCells l) ∧ Below w.heap.size w w'
end Go.Proofs.Ytbjhiimjillleaa
