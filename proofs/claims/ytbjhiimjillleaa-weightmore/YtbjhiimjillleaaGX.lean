/- What the iterator of split.parts tells: the parts between the values that it cuts at. Lists of lists of values in memory; what split.parts hands back. What split.At answers. What split.Words answers. -/
import Derived.RangeFuncBox
import Derived.RangeFuncNested
import Derived.RangeFuncBound
import Derived.RangeFuncCalls
import Derived.RangeFuncLeaves
import Derived.Shelf.Abstract
import Derived.Shelf.RegionOpen
import Derived.WalkKit
import Derived.OwnWalkIn
import Derived.TacticsInMore
import Derived.LoopNIn
import Derived.LoopIn
import Derived.Test.YtbjhiimjillleaaGW
import Derived.Maps.OwnIn
import Derived.Deep.Onto
set_option linter.unusedVariables false
set_option linter.unusedSimpArgs false
set_option maxRecDepth 20000
namespace Go.Proofs.Ytbjhiimjillleaa
open Go.RowKit Go.Sort Go.Shelf
attribute [local go_sem] Oper.semAt_some
/-- a part: a slice, and the values that it reads as in world w -/
abbrev Part (w : World) (M : Nat) := { x : Value × Wn.Fs // ValsP w (fun b => b < w.heap.size) x.1 x.2 ∧ x.2.size ≤ M }
abbrev Part.fs {w : World} {M : Nat} (x : Part w M) : Wn.Fs := x.1.2
/-- what a round keeps: all that lay below n, and all above it up to m -/
structure PK (n m : Nat) (W W' : World) : Prop where
  below : Below n W W'
  same : ∀ b, n < b → b < m → W'.heap[b]? = W.heap[b]?
theorem PK.refl (n m : Nat) (W : World) : PK n m W W := ⟨Below.refl _ _, fun _ _ _ => rfl⟩
theorem PK.trans {n m : Nat} {A B C : World} (h : PK n m A B) (k : PK n m B C) : PK n m A C := ⟨h.below.trans k.below, fun b h1 h2 => (k.same b h1 h2).trans (h.same b h1 h2)⟩
theorem PK.of {n m : Nat} {A B : World} (h : Below A.heap.size A B) (hn : n ≤ A.heap.size) (hm : m ≤ A.heap.size) : PK n m A B := ⟨h.mono hn, fun b _ h2 => h.block b (by omega)⟩
/-- the part from i to j -/
def subV (ao : Option Addr) (cap : Nat) (i j : Nat) : Value := match ao with
  | some a => .slice (some (a.add (i * 5))) (j - i) (cap - i)
  | Option.none => .slice Option.none 0 0
section
variable {w W : World} {n m l B1 B2 M : Nat} {f : Wn.Fs} {J Jx : List (Part w M) → World → Prop}
end
theorem abides_below {α : Type} {J : List α → World → Prop} {B : Nat} (h : AbidesFrom B J) : ∀ pre A C, J pre A → Below A.heap.size A C → J pre C :=
  fun pre A C hj hb => h pre A C Option.none hj ⟨hb.os, hb.tape, hb.output, hb.size, fun k hk _ => hb.block k hk⟩ (fun r e => by cases e)
end Go.Proofs.Ytbjhiimjillleaa
set_option linter.unusedVariables false
set_option linter.unusedSimpArgs false
set_option maxRecDepth 20000
namespace Go.Proofs.Ytbjhiimjillleaa
open Go.RowKit Go.Sort Go.Shelf
theorem VAt.kept {A B : World} {ok : Nat → Prop} {row : Option Nat} (hg : A.grownBy B row) (hr : ∀ r, row = some r → ∃ o : Obj, A.heap[r]? = some o ∧ o.isCells = false) : ∀ {f : Wn.Fs} {b o : Nat}, VAt A ok f b o → VAt B ok f b o
  | .nil, _, _, _ => trivial
  | .cons k t x r, b, o, ⟨h0, h1, h2, ⟨ao, cap, h3, h4, h5, h5b, h6⟩, h7⟩ =>
    ⟨h0, cell_kept h1 hg hr, ⟨cell_kept h2.c0 hg hr, cell_kept h2.c1 hg hr, cell_kept h2.c2 hg hr⟩, ⟨ao, cap, cell_kept h3 hg hr, h4, h5, h5b, fun hx => let ⟨b', o', ha, hv⟩ := h6 hx; ⟨b', o', ha, VAt.kept hg hr hv⟩⟩, VAt.kept hg hr h7⟩
theorem ValsP.kept {A B : World} {ok : Nat → Prop} {row : Option Nat} {v : Value} {f : Wn.Fs} (h : ValsP A ok v f) (hg : A.grownBy B row) (hr : ∀ r, row = some r → ∃ o : Obj, A.heap[r]? = some o ∧ o.isCells = false) : ValsP B ok v f := by
  obtain ⟨ao, cap, hv, h1, h2, h2b, h3⟩ := h
  exact ⟨ao, cap, hv, h1, h2, h2b, fun hf => let ⟨b, o, ha, hx⟩ := h3 hf; ⟨b, o, ha, hx.kept hg hr⟩⟩
/-- slices that read as values, one by one -/
def Each (W : World) (ok : Nat → Prop) : List Value → List Wn.Fs → Prop
  | [], [] => True
  | u :: us, g :: gs => ValsP W ok u g ∧ Each W ok us gs
  | _, _ => False
theorem Each.len {W : World} {ok : Nat → Prop} : ∀ {us : List Value} {gs : List Wn.Fs}, Each W ok us gs → us.length = gs.length
  | [], [], _ => rfl
  | u :: us, g :: gs, h => by simp [Each.len h.2]
  | [], _ :: _, h => h.elim
  | _ :: _, [], h => h.elim
theorem Each.map {W W' : World} {ok ok' : Nat → Prop} (hm : ∀ u g, ValsP W ok u g → ValsP W' ok' u g) : ∀ {us : List Value} {gs : List Wn.Fs}, Each W ok us gs → Each W' ok' us gs
  | [], [], _ => trivial
  | u :: us, g :: gs, h => ⟨hm u g h.1, Each.map hm h.2⟩
  | [], _ :: _, h => h.elim
  | _ :: _, [], h => h.elim
theorem Each.snoc {W : World} {ok : Nat → Prop} {u : Value} {g : Wn.Fs} (hu : ValsP W ok u g) : ∀ {us : List Value} {gs : List Wn.Fs}, Each W ok us gs → Each W ok (us ++ [u]) (gs ++ [g])
  | [], [], _ => ⟨hu, trivial⟩
  | u' :: us, g' :: gs, h => ⟨h.1, Each.snoc hu h.2⟩
  | [], _ :: _, h => h.elim
  | _ :: _, [], h => h.elim
theorem Each.get {W : World} {ok : Nat → Prop} : ∀ {us : List Value} {gs : List Wn.Fs} {i : Nat} {g : Wn.Fs}, Each W ok us gs → gs[i]? = some g → ∃ u, us[i]? = some u ∧ ValsP W ok u g
  | u :: us, g :: gs, 0, g', h, e => by simp at e; subst e; exact ⟨u, rfl, h.1⟩
  | u :: us, g :: gs, i + 1, g', h, e => by simp at e; obtain ⟨u', a, b⟩ := Each.get h.2 e; exact ⟨u', by simpa using a, b⟩
  | [], [], i, g', _, e => by simp at e
  | [], _ :: _, _, _, h, _ => h.elim
  | _ :: _, [], _, _, h, _ => h.elim
theorem info_slv : (Try.prog.info? 57).map (fun i => (i.zero, i.size, i.bytes)) = some (some (.slice none 0 0), 1, 24) := by kernel_rfl
/-- the list that a loop over parts gathers: its box is block n -/
structure LI (n m : Nat) (w : World) (gs : List Wn.Fs) (v : Value) (us : List Value) (W : World) : Prop where
  lt : n < m
  eq : n = w.heap.size
  sz : m ≤ W.heap.size
  box : Boxed W n 67 v
  own : W.ownsRow m 57 1 v us.length us
  each : Each W (fun b => m ≤ b ∧ v.ownBlock ≠ some b) us gs
  below : Below n w W
theorem LI.kept {n m : Nat} {w A B : World} {gs : List Wn.Fs} {v : Value} {us : List Value} {row : Option Nat} (h : LI n m w gs v us A) (hg : A.grownBy B row) (hr : ∀ r, row = some r → m ≤ r ∧ ∃ o : Obj, A.heap[r]? = some o ∧ o.isCells = false) : LI n m w gs v us B := by
  refine ⟨h.lt, h.eq, Nat.le_trans h.sz hg.size, h.box.kept hg (fun e => ?_), h.own.kept hg ?_, h.each.map (fun u g hu => hu.kept hg (fun r e => (hr r e).2)), ?_⟩
  · have := (hr n e.symm).1; have := h.lt; omega
  · rcases h.own.2 with ⟨hv, _⟩ | ⟨q, cap, cur, hv, _, hq, _⟩
    · exact .inl (by rw [hv]; rfl)
    · refine .inr fun e => ?_
      rw [hv] at e
      obtain ⟨_, o, ho, hc⟩ := hr q (by rw [← e]; rfl)
      rw [hq] at ho
      cases ho
      cases hc
  · refine h.below.trans ⟨hg.os, hg.tape, hg.output, hg.size, fun k hk => ?_⟩
    have := h.below.size
    exact hg.block k (by have := h.eq; omega) (fun e => by have := (hr k e.symm).1; have := h.lt; omega)
theorem LI.later {n m : Nat} {w A B : World} {gs : List Wn.Fs} {v : Value} {us : List Value} (h : LI n m w gs v us A) (hb : Below A.heap.size A B) : LI n m w gs v us B :=
  h.kept (row := Option.none) ⟨hb.os, hb.tape, hb.output, hb.size, fun k hk _ => hb.block k hk⟩ (fun r e => by cases e)
section
variable {n m : Nat} {w W w2 w8 : World} {gs : List Wn.Fs} {v v8 : Value} {us : List Value} {o : Obj} {r9 : Value} {g : Wn.Fs}
/-- one part more, its row put back into its box -/
theorem LI.next (h : LI n m w gs v us W) (hm : m ≤ W.heap.size) (hb : Below W.heap.size W w2) (hr : ValsP w2 (fun b => W.heap.size ≤ b) r9 g) (hown : w8.ownsRow m 57 1 v8 (us.length + 1) (us ++ [r9])) (hgr : (w2.alloc o).grownBy w8 v.ownBlock) (hat : v8.ownBlock = v.ownBlock ∨ v8.ownBlock = some (w2.alloc o).heap.size) :
    LI n m w (gs ++ [g]) v8 (us ++ [r9]) (w8.setCell ⟨n, 0, none⟩ v8) ∧ PK n m W (w8.setCell ⟨n, 0, none⟩ v8) ∧ KeepsFrom m W (w8.setCell ⟨n, 0, none⟩ v8) := by
  have hlt := h.lt
  have hs2 := hb.size
  have hob : ∀ k, v.ownBlock = some k → m ≤ k ∧ k < W.heap.size := fun k e => h.own.lt k e
  have hset : ∀ b, b ≠ n → (w8.setCell ⟨n, 0, none⟩ v8).heap[b]? = w8.heap[b]? := fun b hb => Below.heap_setCell _ _ _ _ hb
  have h28 : ∀ b, b < w2.heap.size → v.ownBlock ≠ some b → w8.heap[b]? = w2.heap[b]? := fun b hb' hne => (hgr.block b (by simp; omega) (fun e => hne e.symm)).trans (Below.heap_alloc _ _ b hb')
  have hW8 : ∀ b, b < W.heap.size → v.ownBlock ≠ some b → w8.heap[b]? = W.heap[b]? := fun b hb' hne => (h28 b (by omega) hne).trans (hb.block b hb')
  have hav : ∀ b, b < w2.heap.size → v.ownBlock ≠ some b → v8.ownBlock ≠ some b := fun b hl hb' => by
    rcases hat with e | e
    · rw [e]; exact hb'
    · rw [e]; intro e'; simp at e'; omega
  have hnn : v.ownBlock ≠ some n := fun e => by have := (hob n e).1; omega
  have hsz : (w2.alloc o).heap.size = w2.heap.size + 1 := by simp
  have hs8 : w2.heap.size + 1 ≤ w8.heap.size := by have := hgr.size; omega
  have hbel : Below n W (w8.setCell ⟨n, 0, none⟩ v8) := ⟨(hgr.os.trans rfl).trans hb.os, (hgr.tape.trans rfl).trans hb.tape, (hgr.output.trans rfl).trans hb.output, by rw [size_set]; omega, fun k hk => (hset k (by omega)).trans (hW8 k (by omega) (fun e => by have := (hob k e).1; omega))⟩
  refine ⟨⟨hlt, h.eq, by rw [size_set]; omega, ?_, ?_, ?_, h.below.trans hbel⟩, ⟨hbel, fun b h1 h2 => (hset b (by omega)).trans (hW8 b (by omega) (fun e => by have := (hob b e).1; omega))⟩, ?_⟩
  · exact heap_set_at ((hW8 n (by omega) hnn).trans h.box) v8
  · rw [List.length_append]
    exact hown.kept (grownBy_setCell' w8 n v8) (.inr (fun e => by have := (hown.lt n e).1; omega))
  · refine Each.snoc ?_ (h.each.map (fun u q hu => ?_))
    · exact hr.same (fun b hb' hl => (hset b (by omega)).trans (h28 b hl (fun e => by have := (hob b e).2; omega))) (fun b hb' hl => ⟨by omega, hav b hl (fun e => by have := (hob b e).2; omega)⟩)
    · exact hu.same (fun b hb' hl => (hset b (by omega)).trans (hW8 b hl hb'.2)) (fun b hb' hl => ⟨hb'.1, hav b (by omega) hb'.2⟩)
  · refine ⟨?_, fun j q hj hq hc => ?_⟩
    · rw [size_set]; omega
    · have hjl : j < W.heap.size := (Array.getElem?_eq_some_iff.1 hq).1
      refine (hset j (by omega)).trans ((hW8 j hjl (fun e => ?_)).trans hq)
      rcases h.own.2 with ⟨hv, _⟩ | ⟨q', cap, cur, hv, _, hq', _⟩
      · rw [hv] at e; simp [Value.ownBlock] at e
      · rw [hv] at e
        simp [Value.ownBlock] at e
        rw [← e, hq'] at hq
        cases hq
        cases hc
end
theorem of_wanted {c : Prop} [Decidable c] {A B : Prop} (h : c) (ha : A) : (if c then A else B) := by rw [if_pos h]; exact ha
/-- an append onto a row of one's own, as one operation inside a fence -/
theorem opIn_append {F : Fence} {nF : Nat} {P : Program} {w : World} {o : Oper} {a : Act} {K' : Act → World → Prop} {Q : Exit → Act → World → Prop} (s x : Operand) (t : TypeId)
    (ho : o.op = .call { callee := .builtin .append, args := #[s, x], argTypes := #[t, t] })
    (base : Nat) (e : TypeId) (i : TypeInfo) (z : Value) (size bytes : Nat) (ht : P.underlying t = some (.slice e)) (hi : P.info? e = some i) (hz : i.zero = some z)
    (hsize : i.size = size) (hby : i.bytes = bytes) (hzs : z.cells.size = size) (hsz : 0 < size)
    (v : Value) (n : Nat) (xs : List Value) (hs : a.eval s = v) (hown : w.ownsRow base e size v n xs)
    (ad : Addr) (m c : Nat) (news : List Value) (hx : a.eval x = .slice (some ad) m c) (hl : news.length = m * size) (hnews : ∀ j u, news[j]? = some u → w.cell? (ad.add j) = some u) (h1 : ∀ u ∈ news, u.oneCell' = true)
    (h63 : n + m ≤ maxLen) (hbytes : (n + m) * bytes ≤ 140737488355328) (hbase : base ≤ w.heap.size)
    (h : ∀ v' w', w'.ownsRow base e size v' (n + m) (xs ++ news) → w.grownBy w' v.ownBlock → (v'.ownBlock = v.ownBlock ∨ v'.ownBlock = some w.heap.size) → K' (a.put o.dst v') w') :
    Oper.wpIn F nF P o a w K' Q := by
  obtain ⟨v', w', hr, h2, h3, h4, h5⟩ := run_append_own_at (P := P) w base t o.type e i z size bytes ht hi hz hsize hby hzs hsz v n xs hown ad m c news hl hnews h1 h63 hbytes hbase
  unfold Oper.wpIn
  refine ⟨by simp [Oper.about, ho, resolve, Target.leads, Sem.run_pure], ?_⟩
  rw [Oper.semAt_plain F _ _ (by rw [ho]; intro c hc'; cases hc')]
  simp [execOp, ho, resolve, invoke, builtin, hs, hx, hr, Result.andThen]
  exact h v' w' h2 h3 h5
/-- the words of values: the parts between blanks that are not empty -/
def wordsOf (l : List Wn.Fs) : List Wn.Fs := l.filter fun g => decide (g ≠ .nil)
end Go.Proofs.Ytbjhiimjillleaa
set_option linter.unusedVariables false
set_option linter.unusedSimpArgs false
set_option maxRecDepth 20000
namespace Go.Proofs.Ytbjhiimjillleaa
open Go.RowKit Go.Sort Go.Shelf
attribute [local go_sem] Oper.semAt_some
end Go.Proofs.Ytbjhiimjillleaa
set_option linter.unusedVariables false
set_option linter.unusedSimpArgs false
set_option maxRecDepth 20000
namespace Go.Proofs.Ytbjhiimjillleaa
open Go.RowKit Go.Sort Go.Shelf
attribute [local go_sem] Oper.semAt_some
end Go.Proofs.Ytbjhiimjillleaa
