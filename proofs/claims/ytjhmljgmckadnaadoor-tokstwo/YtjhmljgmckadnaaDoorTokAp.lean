/- Appending tokens, as a step of a region whose order is drawn. -/
import Derived.Test.YtjhmljgmckadnaaDoorTokZ
import Derived.Deep.RegionLaw
namespace Wn
theorem texts_snoc : ∀ (l : List Tok) (p : Option Tok) (a : Tok), ∃ x, texts p (l ++ [a]) = texts p l ++ (x ++ oneText a)
  | [], none, a => ⟨[], by simp [texts]⟩
  | [], some p, a => ⟨if apart (oneText p ++ oneText a) p a then [47, 42, 42, 47] else [], by simp [texts]⟩
  | t :: l, none, a => by
    obtain ⟨x, hx⟩ := texts_snoc l (some t) a
    exact ⟨x, by rw [List.cons_append]; simp only [texts]; rw [hx]; simp⟩
  | t :: l, some p, a => by
    obtain ⟨x, hx⟩ := texts_snoc l (some t) a
    exact ⟨x, by rw [List.cons_append]; simp only [texts]; rw [hx]; simp⟩
theorem text_more (l : List Tok) (a : Tok) (h : oneText a ≠ []) : (text l).length < (text (l ++ [a])).length := by
  obtain ⟨x, hx⟩ := texts_snoc l none a
  unfold text
  rw [hx]
  have : 0 < (oneText a).length := List.length_pos_iff.2 h
  simp; omega
end Wn
namespace Go.Proofs.YtjhmljgmckadnaaDoor
open Go.RowKit Go.WideShapes
/-- the slice u is nil, or its cells are those of the tokens m -/
def Row (w : World) (u : Value) (m : List Wn.Tok) : Prop :=
  (u = .slice none 0 0 ∧ m = []) ∨ ∃ ad cap, u = .slice (some ad) m.length cap ∧ ∀ j c, (toksCells m)[j]? = some c → w.cell? (ad.add j) = some c
theorem Toks.row {w : World} {v : Value} {l : List Wn.Tok} (h : Toks w v l) (hv : ∀ n c, v = .slice none n c → c = 0) : Row w v l := by
  obtain ⟨ao, cap, rfl, h1, h2, h3⟩ := h
  cases ao with
  | none =>
    obtain rfl := hv _ _ rfl
    have : l = [] := List.length_eq_zero_iff.1 (by omega)
    subst this
    exact .inl ⟨rfl, rfl⟩
  | some ad =>
    refine .inr ⟨ad, cap, rfl, ?_⟩
    cases l with
    | nil => intro j c h; simp [toksCells] at h
    | cons t l =>
      obtain ⟨b, off, ha, _⟩ := h3 0 t rfl
      simp only [Option.some.injEq] at ha
      subst ha
      refine TokIn.news fun i t ht => ?_
      obtain ⟨b', off', ha', hin⟩ := h3 i t ht
      simp only [Option.some.injEq, Addr.mk.injEq] at ha'
      obtain ⟨rfl, rfl, _⟩ := ha'
      exact hin
theorem Row.later {w w' : World} {v : Value} {l : List Wn.Tok} (h : Row w v l) (hb : Below w.heap.size w w') : Row w' v l := by
  rcases h with h | ⟨ad, cap, hv, h⟩
  · exact .inl h
  · refine .inr ⟨ad, cap, hv, fun j c hj => ?_⟩
    have := h j c hj
    rw [hb.cell (World.block_lt_of_cell? w _ this)]
    exact this
theorem step_append {w : World} {ops : Array Oper} {o : Oper} {a : Act} {K : Act → World → Prop} {Q : Exit → Act → World → Prop} {E : Prop} (hgd : o.guard = none) (s x : Operand)
    (ho : o.op = .call { callee := .builtin .append, args := #[s, x], argTypes := #[22, 22] })
    (base : Nat) (v u : Value) (l m : List Wn.Tok) (hs : a.eval s = v) (hx : a.eval x = u) (hown : w.ownsRow base 24 3 v l.length (toksCells l)) (hU : Row w u m)
    (hlen : l.length + m.length ≤ 1048576) (hbase : base ≤ w.heap.size)
    (h : ∀ v' w', w'.ownsRow base 24 3 v' (l ++ m).length (toksCells (l ++ m)) → w.grownBy w' v.ownBlock → K (a.put o.dst v') w') :
    if Region.wanted o (yielded ops a.tmps) = true then Oper.wp Tryd.prog o a w K Q else E := by
  have hw : Region.wanted o (yielded ops a.tmps) = true := by simp [Region.wanted, hgd]
  rw [if_pos hw]
  obtain ⟨i0, hi, hz0, hz1, hz2⟩ := info_parts info_tok
  rcases hU with ⟨rfl, rfl⟩ | ⟨ad, cap, rfl, h3⟩
  · have hrun := run_append_owned_none (P := Tryd.prog) (w := w) base 22 o.type 24 i0 3 Tryd.underlying22 hi v _ _ hown
    unfold Oper.wp
    simp [execOp, ho, resolve, invoke, builtin, hs, hx, hrun, Result.andThen]
    exact h v w (by rw [List.append_nil]; exact hown) ⟨rfl, rfl, rfl, Nat.le_refl _, fun _ _ _ => rfl⟩
  · refine wp_append_own w s x _ ho base 24 i0 (.agg #[.int .i64 0, .string ⟨#[]⟩, .int .i64 0]) 3 32 Tryd.underlying22 hi hz0 hz1 hz2 rfl (by decide) v _ _ hs hown ad m.length cap (toksCells m) hx (toksCells_length m) h3 (toksCells_one m) (by unfold maxLen; omega) (by omega) hbase ?_
    intro v' w' h1 h2 _
    refine h v' w' ?_ h2
    rw [List.length_append, toksCells_app]; exact h1
theorem blk_new {w : World} {g : Nat} (h : g = w.heap.size) (o : Obj) : (w.alloc o).heap[g]? = some o := by subst h; exact heap_alloc_new w o
theorem blk_old {w : World} {g : Nat} (h : g < w.heap.size) (o : Obj) : (w.alloc o).heap[g]? = w.heap[g]? := ((Below.refl w.heap.size w).alloc (Nat.le_refl _) o).block g h
theorem blk_drew {w : World} {g : Nat} : w.drew.heap[g]? = w.heap[g]? := rfl
/-- tokens behind none: the row was just made -/
theorem step_first {w : World} {ops : Array Oper} {o : Oper} {a : Act} {K : Act → World → Prop} {Q : Exit → Act → World → Prop} {E : Prop} (hgd : o.guard = none) (s x : Operand)
    (ho : o.op = .call { callee := .builtin .append, args := #[s, x], argTypes := #[22, 22] })
    (base g : Nat) (u : Value) (m : List Wn.Tok) (hs : a.eval s = .slice (some ⟨g, 0, none⟩) 0 0) (hx : a.eval x = u) (hblk : w.heap[g]? = some (.cells #[] 24)) (hg : base ≤ g) (hU : Row w u m)
    (hlen : m.length ≤ 1048576) (hbase : base ≤ w.heap.size)
    (h : ∀ v' w', w'.ownsRow base 24 3 v' m.length (toksCells m) → w.grownBy w' (some g) → K (a.put o.dst v') w') :
    if Region.wanted o (yielded ops a.tmps) = true then Oper.wp Tryd.prog o a w K Q else E :=
  step_append hgd s x ho base _ u [] m hs hx ⟨rfl, .inr ⟨g, 0, #[], rfl, hg, hblk, Nat.le_refl _, by unfold maxLen; omega, rfl, by simp [toksCells]⟩⟩ hU (by simpa using hlen) hbase h
theorem row_of_block {w : World} {g : Nat} (t : Wn.Tok) (hblk : w.heap[g]? = some (.cells #[.int .i64 t.1, .string (Wn.str t.2.1), .int .i64 t.2.2] 24)) : Row w (.slice (some ⟨g, 0, none⟩) 1 1) [t] := by
  refine .inr ⟨⟨g, 0, none⟩, 1, rfl, TokIn.news fun i u hu => ?_⟩
  have hi : i = 0 := by have := (List.getElem?_eq_some_iff.1 hu).1; simpa using this
  subst hi
  obtain rfl : t = u := by simpa using hu
  exact ⟨cell_of_block (o := 0) hblk, cell_of_block (o := 1) hblk, cell_of_block (o := 2) hblk⟩
/-- one token more -/
theorem step_one {w : World} {ops : Array Oper} {o : Oper} {a : Act} {K : Act → World → Prop} {Q : Exit → Act → World → Prop} {E : Prop} (hgd : o.guard = none) (s x : Operand)
    (ho : o.op = .call { callee := .builtin .append, args := #[s, x], argTypes := #[22, 22] })
    (base g : Nat) (v : Value) (l : List Wn.Tok) (t : Wn.Tok) (hs : a.eval s = v) (hx : a.eval x = .slice (some ⟨g, 0, none⟩) 1 1)
    (hown : w.ownsRow base 24 3 v l.length (toksCells l)) (hblk : w.heap[g]? = some (.cells #[.int .i64 t.1, .string (Wn.str t.2.1), .int .i64 t.2.2] 24))
    (hlen : l.length + 1 ≤ 1048576) (hbase : base ≤ w.heap.size)
    (h : ∀ v' w', w'.ownsRow base 24 3 v' (l ++ [t]).length (toksCells (l ++ [t])) → w.grownBy w' v.ownBlock → K (a.put o.dst v') w') :
    if Region.wanted o (yielded ops a.tmps) = true then Oper.wp Tryd.prog o a w K Q else E :=
  step_append hgd s x ho base v _ l [t] hs hx hown (row_of_block t hblk) (by simpa using hlen) hbase h
end Go.Proofs.YtjhmljgmckadnaaDoor
