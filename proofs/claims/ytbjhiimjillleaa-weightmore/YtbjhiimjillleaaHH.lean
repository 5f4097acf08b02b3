/- What selectorList answers: the function that stores each selector. What selectorList answers. What attempt answers, whatever it is handed; sels.Parse, Nth, Read. What sels.Parse, Nth, Read answer. What sels.Nth and sels.Read answer. -/
import Derived.Test.YtbjhiimjillleaaHG
import Derived.Test.YtbjhiimjillleaaHA
import Derived.Test.YtbjhiimjillleaaGZ
import Derived.Test.YtbjhiimjillleaaGU
import Derived.Recover
set_option linter.unusedVariables false
set_option linter.unusedSimpArgs false
set_option maxRecDepth 20000
namespace Go.Proofs.Ytbjhiimjillleaa
open Go.RowKit Go.Sort
/-- the selector c is stored at place i of the array -/
def CxStored (A : Nat) (es : List (List Value)) (i base : Nat) (c : Wn.Cx) (w : World) : Prop := ∃ v, Arr2 w A 31 (es.set i [v, .string (Wn.str c.2)]) ∧ ptK.P w (fun b => base ≤ b) v c.1
end Go.Proofs.Ytbjhiimjillleaa
set_option linter.unusedVariables false
set_option linter.unusedSimpArgs false
set_option maxRecDepth 20000
namespace Wn
theorem cuts_all {q : Tok → Prop} {p : Int → Tok → Bool} : ∀ {f : Fs}, f.all q → ∀ g ∈ cuts p f, g.all q
  | .nil, _, g, hg => by simp [cuts] at hg; subst hg; trivial
  | .cons k t x r, h, g, hg => by
    have ih := cuts_all (p := p) h.2.2
    rw [cuts] at hg
    split at hg
    · simp at hg
      rcases hg with rfl | hg
      · trivial
      · exact ih g hg
    · split at hg
      · simp at hg; subst hg; exact ⟨h.1, h.2.1, trivial⟩
      · rename_i a l e
        simp at hg
        rcases hg with rfl | hg
        · exact ⟨h.1, h.2.1, ih a (by rw [e]; simp)⟩
        · exact ih g (by rw [e]; simp [hg])
theorem allF_drop {α : Type} {p : Fs → Option α} {gs : List Fs} {i : Nat} {g : Fs} (h : gs[i]? = some g) : allF p (gs.drop i) = match p g with
    | none => none
    | some x => (allF p (gs.drop (i + 1))).map fun y => x :: y := by
  obtain ⟨hl, rfl⟩ := List.getElem?_eq_some_iff.1 h
  rw [List.drop_eq_getElem_cons hl, allF]
  cases p gs[i] <;> rfl
end Wn
namespace Go.Proofs.Ytbjhiimjillleaa
open Go.RowKit Go.Sort
theorem CxStored.mono {A : Nat} {es : List (List Value)} {i base base' : Nat} {c : Wn.Cx} {w : World} (h : CxStored A es i base c w) (hb : base' ≤ base) : CxStored A es i base' c w := by
  obtain ⟨v, h1, h2⟩ := h; exact ⟨v, h1, h2.mono (fun b hb' _ => by omega)⟩
/-- the state of selectorList -/
structure SI (w W : World) (A N : Nat) (pv : Value) (gs : List Wn.Fs) (es : List (List Value)) (done : List Wn.Cx) : Prop where
  below : Below w.heap.size w W
  lo : w.heap.size ≤ A
  arr : Arr2 W A 31 es
  len : es.length = N
  list : W.heap[A + 1]? = some (.cells #[.slice (some ⟨A, 0, none⟩) N N] 22)
  parts : ListP W (fun b => b < A) pv gs
  row : cxK.Row W (fun b => A + 2 ≤ b) es (done ++ List.replicate (N - done.length) ([], []))
theorem SI.below' {w W W' : World} {A N : Nat} {pv : Value} {gs : List Wn.Fs} {es : List (List Value)} {done : List Wn.Cx} (h : SI w W A N pv gs es done) (hb : Below W.heap.size W W') : SI w W' A N pv gs es done :=
  ⟨h.below.trans (hb.mono h.below.size), h.lo, h.arr.block (hb.block A h.arr.lt), h.len, block_lat hb h.list, h.parts.below hb, h.row.same (fun b _ hl => hb.block b hl) (fun _ h _ => h)⟩
theorem SI.next {w W W' : World} {A N base : Nat} {pv : Value} {gs : List Wn.Fs} {es : List (List Value)} {done : List Wn.Cx} {c : Wn.Cx} (h : SI w W A N pv gs es done) (hk : Kp (fun b => b = A) W W') (hd : done.length < N) (hs : CxStored A es done.length base c W') (hb : W.heap.size ≤ base) (hA : A + 2 ≤ W.heap.size) : ∃ es', SI w W' A N pv gs es' (done ++ [c]) := by
  obtain ⟨v, h1, h2⟩ := hs
  have hlo := h.lo
  refine ⟨_, h.below.trans (hk.below h.below.size (by rintro b rfl; exact hlo)), hlo, h1, by rw [List.length_set]; exact h.len, (hk.block _ (lt_of_block h.list) (by omega)).trans h.list, h.parts.same (fun b hb hl => hk.block b hl (by omega)) (fun _ h _ => h), ?_⟩
  have hrow := (h.row.same (w' := W') (fun b hb hl => hk.block b hl (by omega)) (fun _ h _ => h)).set (i := done.length) (c := [v, .string (Wn.str c.2)]) (x := c) ⟨v, rfl, h2.mono (fun b hb' _ => by omega)⟩
  have e : (done ++ List.replicate (N - done.length) (([], []) : Wn.Cx)).set done.length c = (done ++ [c]) ++ List.replicate (N - (done ++ [c]).length) ([], []) := by
    rw [List.set_append_right _ _ (Nat.le_refl _), Nat.sub_self, show N - done.length = (N - (done ++ [c]).length) + 1 by simp only [List.length_append, List.length_singleton]; omega, List.replicate_succ, List.set_cons_zero, List.append_assoc]; rfl
  rw [e] at hrow
  exact hrow
theorem list_z : cxK.z.cells = #[.slice none 0 0, .string ⟨#[]⟩] := by
  show (Value.agg #[.slice none 0 0, .string ⟨#[]⟩]).cells = _
  simp [Value.cells]
end Go.Proofs.Ytbjhiimjillleaa
set_option linter.unusedVariables false
set_option linter.unusedSimpArgs false
set_option maxRecDepth 20000
namespace Go.Proofs.Ytbjhiimjillleaa
open Go.RowKit Go.Sort
def AttPost {α : Type} (S : Nat → Prop) (Stored : α → World → Prop) (res : Option α) (w : World) (e : Ending) (w' : World) : Prop :=
  (∃ x, res = some x ∧ e = .returned (.int .i64 0) ∧ Kp S w w' ∧ Stored x w') ∨ (res = none ∧ e = .returned (.int .i64 40) ∧ Below w.heap.size w w')
end Go.Proofs.Ytbjhiimjillleaa
set_option linter.unusedVariables false
set_option linter.unusedSimpArgs false
set_option maxRecDepth 20000
namespace Go.Proofs.Ytbjhiimjillleaa
open Go.RowKit Go.Sort
/-- block b is the list l of selectors -/
def CxsAt (b base : Nat) (l : List Wn.Cx) (w : World) : Prop := ∃ v, w.heap[b]? = some (.cells #[v] 22) ∧ cxK.P w (fun k => base ≤ k) v l
/-- what sels.Parse answers -/
def PPost (res : Option (List Wn.Cx)) (w : World) (e : Ending) (w' : World) : Prop :=
  Below w.heap.size w w' ∧ ((∃ l v, res = some l ∧ e = .returned (.tuple #[v, .int .i64 0]) ∧ cxK.P w' (fun b => w.heap.size ≤ b) v l) ∨ (res = none ∧ e = .returned (.tuple #[.slice none 0 0, .int .i64 40])))
theorem Tl.of_fine {f : Wn.Fs} (h : f.all Fine) : Tl f := by
  induction f with
  | nil => trivial
  | cons k t x r ih1 ih2 => exact ⟨h.1.1, ih1 h.2.1, ih2 h.2.2⟩
end Go.Proofs.Ytbjhiimjillleaa
set_option linter.unusedVariables false
set_option linter.unusedSimpArgs false
set_option maxRecDepth 20000
namespace Wn
theorem parsed_all {p : Tok → Prop} (h0 : p (0, [], 0)) {l : List Tok} {f : Fs} {n : Nat} (h : parse l n = some f) (hl : ∀ t ∈ l, p t) : f.all p := by
  obtain ⟨l', hv⟩ := parse_some h
  refine (valsL_ind (M := fun _ _ l f l' => (∀ t ∈ l, p t) → f.all p ∧ ∀ t ∈ l', p t) (fun _ _ _ => ⟨trivial, fun t ht => by cases ht⟩) (fun _ _ l _ h => ⟨trivial, fun t ht => h t (by simp [ht])⟩)
    (fun k left t l f l' _ _ _ ih h => ⟨⟨h t (by simp), trivial, (ih fun u hu => h u (by simp [hu])).1⟩, (ih fun u hu => h u (by simp [hu])).2⟩)
    (fun k left t l x l1 f l' _ _ _ _ ih1 _ ih2 h => ?_) _ _ _ _ _ _ (Nat.le_refl _) hv hl).1
  have a := ih1 fun u hu => h u (by simp [hu])
  have b := ih2 a.2
  refine ⟨⟨?_, a.1, b.1⟩, b.2⟩
  unfold blockTok
  split
  · exact h t (by simp)
  · exact h0
end Wn
namespace Go.Proofs.Ytbjhiimjillleaa
open Go.RowKit Go.Sort
theorem read_tl {s : List UInt8} {f : Wn.Fs} (h : Wn.readF s = some f) (hs : s.length ≤ 1048576) : Tl (Wn.trimF f) :=
  Wn.trim_all (Wn.parsed_all (p := fun t => t.2.1.length ≤ 1048576) (by simp) h (fun t ht => (lex_fine hs t ht).1))
/-- what sels.Nth answers -/
def NPost (res : Option (Int × Int)) (w : World) (e : Ending) (w' : World) : Prop :=
  Below w.heap.size w w' ∧ ((∃ p, res = some p ∧ e = .returned (.tuple #[.int .i64 p.1, .int .i64 p.2, .int .i64 0])) ∨ (res = none ∧ e = .returned (.tuple #[.int .i64 0, .int .i64 0, .int .i64 40])))
/-- the boxes of Nth -/
structure Boxes3 (w W : World) (v : Value) : Prop where
  below : Below w.heap.size w W
  size : W.heap.size = w.heap.size + 3
  b0 : W.heap[w.heap.size]? = some (.cells #[v] 57)
  b1 : NumAt W (w.heap.size + 1) 0
  b2 : NumAt W (w.heap.size + 2) 0
theorem boxes3 (w : World) (v : Value) : Boxes3 w (((w.alloc (.cells #[v] 57)).alloc (.cells #[.int .i64 0] 3)).alloc (.cells #[.int .i64 0] 3)) v := by
  have s1 : (w.alloc (.cells #[v] 57)).heap.size = w.heap.size + 1 := by simp
  have s2 : ((w.alloc (.cells #[v] 57)).alloc (.cells #[.int .i64 0] 3)).heap.size = w.heap.size + 2 := by simp
  have n1 := heap_alloc_new (w.alloc (.cells #[v] 57)) (.cells #[.int .i64 0] 3)
  have n2 := heap_alloc_new ((w.alloc (.cells #[v] 57)).alloc (.cells #[.int .i64 0] 3)) (.cells #[.int .i64 0] 3)
  rw [s1] at n1
  rw [s2] at n2
  exact ⟨(((Below.refl _ _).alloc (Nat.le_refl _) _).alloc (by simp) _).alloc (by simp; omega) _, by simp, block_alloc (block_alloc (heap_alloc_new w _) _) _, block_alloc n1 _, n2⟩
end Go.Proofs.Ytbjhiimjillleaa
