/- What slices.Grow answers, at values. What split.appendCopy answers: the values behind the row, their blocks copied. Values, cut: plain mathematics; parts of a slice of values; what the small functions of split answer. What split.Trim answers. -/
import Derived.Test.YtbjhiimjillleaaGT
import Derived.Lib.Walk
import Derived.Lib.SliceRun
import Derived.Lib.AppendZerosOnto
import Derived.Deep.Cut
set_option linter.unusedVariables false
set_option linter.unusedSimpArgs false
set_option maxRecDepth 20000
namespace Go.Proofs.Ytbjhiimjillleaa
open Go.RowKit Go.Sort
def GrowPost (w : World) (l c : Nat) (cs : List Value) (e : Ending) (w' : World) : Prop :=
  ∃ C : Nat, e = .returned (.slice (some ⟨w.heap.size, 0, none⟩) l C) ∧ l ≤ C ∧ C ≤ maxLen ∧ ∃ cur : Array Value, cur.size = C * 5 ∧ cur.toList.take (c * 5) = cs ∧ w' = w.drew.alloc (.cells cur 80)
end Go.Proofs.Ytbjhiimjillleaa
set_option linter.unusedVariables false
set_option linter.unusedSimpArgs false
set_option maxRecDepth 20000
namespace Go.Proofs.Ytbjhiimjillleaa
open Go.RowKit Go.Sort
abbrev Ent := Int × Wn.Tok × Value
/-- the row r (of world w, holding es) has come to be v0, in world wr: es, and es' of values acc behind them -/
structure AC (base : Nat) (r : Value) (w : World) (es : List Ent) (wr : World) (v0 : Value) (es' : List Ent) (acc : Wn.Fs) : Prop where
  own : wr.ownsRow base 80 5 v0 (es ++ es').length (valsCells (es ++ es'))
  row : Row wr (fun b => w.heap.size ≤ b ∧ v0.ownBlock ≠ some b) es' acc
  grow : Grow r w wr v0
  size : base ≤ w.heap.size
section
variable {base : Nat} {r v0 : Value} {w wr wr' : World} {es es' : List Ent} {acc : Wn.Fs}
theorem AC.le (h : AC base r w es wr v0 es' acc) : w.heap.size ≤ wr.heap.size := h.grow.by_.size
theorem AC.later (h : AC base r w es wr v0 es' acc) (hb : Below wr.heap.size wr wr') : AC base r w es wr' v0 es' acc :=
  ⟨ownsRow_later h.own hb, h.row.same (fun b _ hl => hb.block b hl) (fun _ h _ => h), h.grow.below hb, h.size⟩
theorem AC.start (ho : w.ownsRow base 80 5 r es.length (valsCells es)) (hb : base ≤ w.heap.size) (ho' : wr.ownsRow base 80 5 v0 es.length (valsCells es)) (hg : Grow r w wr v0) : AC base r w es wr v0 [] .nil :=
  ⟨by rw [List.append_nil]; exact ho', trivial, hg, hb⟩
theorem AC.next {W W' : World} {v8 : Value} {k : Int} {t : Wn.Tok} {u : Value} {x : Wn.Fs} {B : Nat} (h : AC base r w es W v0 es' acc) (hu : ValsP W (fun b => B ≤ b) u x) (hB1 : w.heap.size ≤ B) (hB2 : ∀ b, v0.ownBlock = some b → b < B)
    (hown : W'.ownsRow base 80 5 v8 ((es ++ es').length + 1) (valsCells (es ++ es') ++ valCells (k, t, u))) (hgr : W.grownBy W' v0.ownBlock) (hat : v8.ownBlock = v0.ownBlock ∨ v8.ownBlock = some W.heap.size) :
    AC base r w es W' v8 (es' ++ [(k, t, u)]) (acc.app (.cons k t x .nil)) := by
  have hav : ∀ b, b < W.heap.size → v0.ownBlock ≠ some b → v8.ownBlock ≠ some b := fun b hl hb => by
    rcases hat with e | e
    · rw [e]; exact hb
    · rw [e]; intro e'; simp at e'; omega
  refine ⟨by rw [← List.append_assoc, List.length_append, valsCells_snoc]; exact hown, ?_, h.grow.trans ⟨hgr, hat.imp id (fun e => ⟨_, Nat.le_refl _, e⟩)⟩, h.size⟩
  refine Row.snoc (ok := fun b => w.heap.size ≤ b ∧ v8.ownBlock ≠ some b) ?_ (h.row.same (fun b hb hl => hgr.block b hl (fun e => hb.2 e.symm)) (fun b hb hl => ⟨hb.1, hav b hl hb.2⟩))
  have hx : ∀ b, B ≤ b → v0.ownBlock ≠ some b := fun b hb e => by have := hB2 b e; omega
  exact hu.same (fun b hb hl => hgr.block b hl (fun e => hx b hb e.symm)) (fun b hb hl => ⟨by omega, hav b hl (hx b hb)⟩)
end
def ACPost (base : Nat) (r : Value) (w : World) (es : List Ent) (f : Wn.Fs) (e : Ending) (w' : World) : Prop := ∃ r' es', e = .returned r' ∧ AC base r w es w' r' es' f
theorem below_of_grow {r' : Value} {w w' : World} (h : Grow (.slice Option.none 0 0) w w' r') : Below w.heap.size w w' := ⟨h.by_.os, h.by_.tape, h.by_.output, h.by_.size, fun k hk => h.by_.block k hk (by simp [Value.ownBlock])⟩
end Go.Proofs.Ytbjhiimjillleaa
set_option linter.unusedVariables false
set_option linter.unusedSimpArgs false
set_option maxRecDepth 20000
namespace Wn
namespace Fs
def take : Nat → Fs → Fs
  | 0, _ => .nil
  | _ + 1, .nil => .nil
  | n + 1, .cons k t x r => .cons k t x (r.take n)
theorem take_zero (f : Fs) : f.take 0 = .nil := by cases f <;> rfl
theorem take_nil (n : Nat) : Fs.nil.take n = .nil := by cases n <;> rfl
theorem take_len : ∀ (f : Fs) (n : Nat), (f.take n).len = min n f.len
  | f, 0 => by rw [take_zero]; simp [len]
  | .nil, n + 1 => by simp [take, len]
  | .cons k t x r, n + 1 => by simp only [take, len]; rw [take_len r n]; omega
theorem take_all : ∀ (f : Fs) {n : Nat}, f.len ≤ n → f.take n = f
  | .nil, n, _ => take_nil n
  | .cons k t x r, 0, h => by simp [len] at h
  | .cons k t x r, n + 1, h => by rw [take, take_all r (by simpa [len] using h)]
theorem take_drop : ∀ (f : Fs) (n : Nat), (f.take n).app (f.drop n) = f
  | f, 0 => by rw [take_zero, drop_zero]; rfl
  | .nil, n + 1 => rfl
  | .cons k t x r, n + 1 => by rw [take, drop, app, take_drop r n]
theorem take_succ : ∀ (f : Fs) {n : Nat} {k : Int} {t : Tok} {x r : Fs}, f.drop n = .cons k t x r → f.take (n + 1) = (f.take n).app (.cons k t x .nil)
  | f, 0, k, t, x, r, h => by rw [drop_zero] at h; rw [h, take_zero, take, take_zero]; rfl
  | .nil, n + 1, k, t, x, r, h => by simp [drop] at h
  | .cons k' t' x' r', n + 1, k, t, x, r, h => by rw [drop] at h; rw [take, take, app, take_succ r' h]
theorem size_app : ∀ f g : Fs, (f.app g).size = f.size + g.size
  | .nil, g => by simp [app, size]
  | .cons k t x r, g => by simp only [app, size]; rw [size_app r g]; omega
theorem size_take (f : Fs) (n : Nat) : (f.take n).size ≤ f.size := by
  have := congrArg size (take_drop f n); rw [size_app] at this; omega
theorem size_dropn (f : Fs) (n : Nat) : (f.drop n).size ≤ f.size := by
  have := congrArg size (take_drop f n); rw [size_app] at this; omega
theorem drop_drop : ∀ (f : Fs) (i j : Nat), (f.drop i).drop j = f.drop (i + j)
  | f, 0, j => by rw [drop_zero, Nat.zero_add]
  | .nil, i + 1, j => by simp [drop]; cases j <;> rfl
  | .cons k t x r, i + 1, j => by rw [drop, drop_drop r i j, show i + 1 + j = (i + j) + 1 by omega, drop]
end Fs
/-- is a value a blank? -/
def blankV (k : Int) (t : Tok) : Bool := decide (k = 1) && decide (t.1 = 8)
/-- is a value the delimiter s? -/
def signV (s : List UInt8) (k : Int) (t : Tok) : Bool := decide (k = 1) && decide (t = dlm s)
def dropB : Fs → Fs
  | .nil => .nil
  | .cons k t x r => if blankV k t then dropB r else .cons k t x r
def rtrim : Fs → Fs
  | .nil => .nil
  | .cons k t x r => match rtrim r with
    | .nil => if blankV k t then .nil else .cons k t x .nil
    | .cons k' t' x' r' => .cons k t x (.cons k' t' x' r')
def trimF (f : Fs) : Fs := rtrim (dropB f)
/-- the parts between the values that p holds of -/
def cuts (p : Int → Tok → Bool) : Fs → List Fs
  | .nil => [.nil]
  | .cons k t x r => if p k t then .nil :: cuts p r else match cuts p r with
    | [] => [.cons k t x .nil]
    | a :: l => .cons k t x a :: l
def addHead (a : Fs) : List Fs → List Fs
  | [] => [a]
  | c :: l => a.app c :: l
theorem cuts_ne (p : Int → Tok → Bool) (f : Fs) : cuts p f ≠ [] := by
  cases f with
  | nil => simp [cuts]
  | cons k t x r => rw [cuts]; split; simp; split <;> simp
theorem cuts_yes {p : Int → Tok → Bool} {k : Int} {t : Tok} (h : p k t = true) (x r : Fs) : cuts p (.cons k t x r) = .nil :: cuts p r := by rw [cuts, if_pos h]
theorem cuts_no {p : Int → Tok → Bool} {k : Int} {t : Tok} (h : p k t = false) (x r : Fs) : cuts p (.cons k t x r) = addHead (.cons k t x .nil) (cuts p r) := by
  rw [cuts, if_neg (by simp [h])]
  cases cuts p r <;> rfl
theorem addHead_nil {l : List Fs} (h : l ≠ []) : addHead .nil l = l := by cases l with | nil => exact absurd rfl h | cons => rfl
theorem addHead_app (a b : Fs) {l : List Fs} (h : l ≠ []) : addHead a (addHead b l) = addHead (a.app b) l := by
  cases l with
  | nil => exact absurd rfl h
  | cons c l => simp [addHead, Fs.app_assoc]
theorem rtrim_snoc : ∀ (g : Fs) (k : Int) (t : Tok) (x : Fs), rtrim (g.app (.cons k t x .nil)) = if blankV k t then rtrim g else g.app (.cons k t x .nil)
  | .nil, k, t, x => by simp [Fs.app, rtrim]
  | .cons k' t' x' r, k, t, x => by
    rw [Fs.app, rtrim, rtrim_snoc r k t x]
    by_cases h : blankV k t = true
    · rw [if_pos h, if_pos h, rtrim]
    · rw [if_neg h, if_neg h]
      cases r with
      | nil => simp [Fs.app]
      | cons => simp [Fs.app]
end Wn
namespace Go.Proofs.Ytbjhiimjillleaa
open Go.RowKit Go.Sort
theorem VAt.take {w : World} {ok : Nat → Prop} : ∀ {f : Wn.Fs} {b o : Nat} (i : Nat), VAt w ok f b o → VAt w ok (f.take i) b o
  | f, b, o, 0, h => by rw [Wn.Fs.take_zero]; trivial
  | .nil, b, o, i + 1, h => by simp [Wn.Fs.take, VAt]
  | .cons k t x r, b, o, i + 1, h => by
    obtain ⟨c1, c2, ⟨u, c3, c4⟩, c5⟩ := h.cons
    exact VAt.mk h.1 c1 c2 c3 c4 (VAt.take i c5)
/-- part of a slice of values -/
theorem ValsP.sub {w : World} {ok : Nat → Prop} {b o n cap : Nat} {f : Wn.Fs} (h : ValsP w ok (.slice (some ⟨b, o, none⟩) n cap) f) (i j : Nat) (hij : i ≤ j) (hj : j ≤ n) : ValsP w ok (.slice (some ⟨b, o + i * 5, none⟩) (j - i) (cap - i)) ((f.drop i).take (j - i)) := by
  obtain ⟨ao', cap', hv, h1, h2, _, h3⟩ := h
  simp only [Value.slice.injEq] at hv
  obtain ⟨rfl, rfl, rfl⟩ := hv
  refine ⟨some ⟨b, o + i * 5, Option.none⟩, cap - i, ?_, ?_, ?_, fun h => (by cases h), fun hne => ⟨b, o + i * 5, rfl, ?_⟩⟩
  · rw [Wn.Fs.take_len, Wn.Fs.len_drop, Nat.min_eq_left (by omega)]
  · rw [Wn.Fs.take_len]; omega
  · omega
  · have hf : f ≠ .nil := by
      rintro rfl
      apply hne
      cases i <;> simp [Wn.Fs.drop, Wn.Fs.take_nil]
    obtain ⟨b', o', ha, hx⟩ := h3 hf
    simp only [Option.some.injEq, Addr.mk.injEq] at ha
    obtain ⟨rfl, rfl, _⟩ := ha
    exact (hx.drop i).take _
theorem ValsP.empty (w : World) (ok : Nat → Prop) (a : Addr) (cap : Nat) (h : cap ≤ maxLen) : ValsP w ok (.slice (some a) 0 cap) .nil := ⟨some a, cap, rfl, Nat.zero_le _, h, fun h => (by cases h), fun h => absurd rfl h⟩
/-- as Go has it: where no room is left the place stays -/
theorem ValsP.subC {w : World} {ok : Nat → Prop} {b o n cap : Nat} {f : Wn.Fs} (h : ValsP w ok (.slice (some ⟨b, o, none⟩) n cap) f) (i j : Nat) (hij : i ≤ j) (hj : j ≤ n) : ValsP w ok (.slice (if cap = i then some ⟨b, o, none⟩ else some ⟨b, o + i * 5, none⟩) (j - i) (cap - i)) ((f.drop i).take (j - i)) := by
  have hs := h.sub i j hij hj
  by_cases hc : cap = i
  · rw [if_pos hc]
    obtain ⟨ao', cap', hv, h1, h2, _⟩ := h
    simp only [Value.slice.injEq] at hv
    obtain ⟨_, hn, rfl⟩ := hv
    rw [show j - i = 0 by omega, Wn.Fs.take_zero]
    exact ValsP.empty _ _ _ _ (by omega)
  · rw [if_neg hc]; exact hs
theorem ValsP.nilCap {w : World} {ok : Nat → Prop} {ao : Option Addr} {n cap : Nat} {f : Wn.Fs} (h : ValsP w ok (.slice ao n cap) f) : ao = Option.none → cap = 0 := by
  obtain ⟨ao', cap', hv, _, _, h4, _⟩ := h
  simp only [Value.slice.injEq] at hv
  obtain ⟨rfl, _, rfl⟩ := hv
  exact h4
theorem ValsP.isNil {w : World} {ok : Nat → Prop} {n cap : Nat} {f : Wn.Fs} (h : ValsP w ok (.slice Option.none n cap) f) : f = .nil ∧ n = 0 ∧ cap = 0 := by
  obtain ⟨ao', cap', hv, h1, h2, h4, h3⟩ := h
  simp only [Value.slice.injEq] at hv
  obtain ⟨rfl, rfl, rfl⟩ := hv
  have hf : f = .nil := Classical.byContradiction fun hne => by obtain ⟨_, _, e, _⟩ := h3 hne; cases e
  exact ⟨hf, by rw [hf]; rfl, h4 rfl⟩
set_option maxHeartbeats 400000 in
theorem rBlank_v (k : Int) (t : Wn.Tok) (u : Value) (w : World) (hu : ∃ ao n c, u = .slice ao n c) :
    Calls Try.prog 36 #[.agg #[.int .i64 k, .int .i64 t.1, .string (Wn.str t.2.1), .int .i64 t.2.2, u]] w fun e w' => e = .returned (.bool (Wn.blankV k t)) ∧ Below w.heap.size w w' := by
  obtain ⟨uo, un, uc, rfl⟩ := hu
  have hc : Wn.blankV k t = ((k == 1) && (t.1 == 8)) := by unfold Wn.blankV; rw [Bool.eq_iff_iff]; simp
  generalize Wn.blankV k t = c at *
  generalize Wn.str t.2.1 = x at *
  generalize t.1 = tk at *
  generalize t.2.2 = tn at *
  have HC := Lib.hid hc; clear hc
  go_enter Try.func36, Try.ntmps36
  go_wp2
  all_goals
    go_ret
    refine ⟨ret_bool ?_, (Below.refl _ _).alloc (Nat.le_refl _) _⟩
    rw [HC.out]
    simp_all
end Go.Proofs.Ytbjhiimjillleaa
set_option linter.unusedVariables false
set_option linter.unusedSimpArgs false
set_option maxRecDepth 20000
namespace Go.Proofs.Ytbjhiimjillleaa
open Go.RowKit Go.Sort
def lenOf : Value → Nat
  | .slice _ n _ => n
  | _ => 0
end Go.Proofs.Ytbjhiimjillleaa
