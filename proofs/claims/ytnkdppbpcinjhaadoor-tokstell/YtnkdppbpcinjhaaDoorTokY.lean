/- Appending tokens to a row of a call's own. -/
import Derived.Test.YtnkdppbpcinjhaaDoorTokX
import Derived.Laws.AppendOwnNone
set_option maxRecDepth 20000
namespace Go.Proofs.YtnkdppbpcinjhaaDoor
open Go.RowKit
/-- the slice u is nil and there are no tokens, or it is not, and reads as the tokens m -/
def Src (w : World) (u : Value) (m : List Wn.Tok) : Prop :=
  (u = .slice none 0 0 ∧ m = []) ∨ ∃ b off cap, u = .slice (some ⟨b, off, none⟩) m.length cap ∧ m.length ≤ cap ∧ cap ≤ maxLen ∧ ∀ i t, m[i]? = some t → TokIn w b (off + i * 3) t
theorem Src.toks {w : World} {u : Value} {m : List Wn.Tok} (h : Src w u m) : Toks w u m := by
  rcases h with ⟨rfl, rfl⟩ | ⟨b, off, cap, hu, h1, h2, h3⟩
  · exact Toks.nil w
  · exact ⟨_, cap, hu, h1, h2, fun i t ht => ⟨b, off, rfl, h3 i t ht⟩⟩
theorem Src.below {w w' : World} {u : Value} {m : List Wn.Tok} (h : Src w u m) (hb : Below w.heap.size w w') : Src w' u m := by
  rcases h with h | ⟨b, off, cap, hu, h1, h2, h3⟩
  · exact .inl h
  · exact .inr ⟨b, off, cap, hu, h1, h2, fun i t ht => (h3 i t ht).later hb⟩
theorem Src.ofRow {w : World} {B : Nat} {v : Value} {l : List Wn.Tok} (h : w.ownsRow B 24 3 v l.length (toksCells l)) : Src w v l := by
  obtain ⟨ao, cap, hv, h1, h2, h3⟩ := Toks.ofRow h
  rcases h.2 with ⟨hv', hn⟩ | ⟨g, cap', cur, hv', _⟩
  · exact .inl ⟨hv', List.length_eq_zero_iff.1 hn⟩
  · rw [hv'] at hv
    simp only [Value.slice.injEq] at hv
    obtain ⟨rfl, _, rfl⟩ := hv
    exact .inr ⟨g, 0, cap', hv', h1, h2, fun i t ht => by
      obtain ⟨b, off, ha, hi⟩ := h3 i t ht
      simp only [Option.some.injEq, Addr.mk.injEq] at ha
      obtain ⟨rfl, rfl, _⟩ := ha
      exact hi⟩
theorem All_src (s : ByteArray) (L : List Wn.Tok) (w : World) (hs : s.size ≤ 1099511627776) (hL : Wn.lex s.data.toList = L) :
    Calls Tryd.prog 17 #[.string s] w fun e w' => ∃ v, e = .returned v ∧ Src w' v L ∧ Below w.heap.size w w' := by
  subst hL
  exact (All_any s w hs).mono fun _ _ ⟨v, he, ho, hb⟩ => ⟨v, he, Src.ofRow ho, hb⟩
theorem TokIn.news {w : World} {b off : Nat} {m : List Wn.Tok} (h : ∀ i t, m[i]? = some t → TokIn w b (off + i * 3) t) (j : Nat) (u : Value) (hj : (toksCells m)[j]? = some u) : w.cell? ((⟨b, off, none⟩ : Addr).add j) = some u := by
  have hjl : j < m.length * 3 := by rw [← toksCells_length]; exact (List.getElem?_eq_some_iff.1 hj).1
  have hi : j / 3 < m.length := by omega
  have ht : m[j / 3]? = some m[j / 3] := List.getElem?_eq_getElem hi
  have hin := h _ _ ht
  obtain ⟨k0, k1, k2⟩ := toksCells_get m _ _ ht
  rw [addr_add]
  have hcase : j = j / 3 * 3 ∨ j = j / 3 * 3 + 1 ∨ j = j / 3 * 3 + 2 := by omega
  rcases hcase with hc | hc | hc
  · rw [hc] at hj; rw [k0] at hj; rw [hc, ← hj]; exact hin.c0
  · rw [hc] at hj; rw [k1] at hj; rw [hc, ← hj]; exact hin.c1
  · rw [hc] at hj; rw [k2] at hj; rw [hc, ← hj]; exact hin.c2
theorem toksCells_one (m : List Wn.Tok) : ∀ u ∈ toksCells m, u.oneCell' = true := by
  intro u hu
  simp only [toksCells, List.mem_flatMap, tokCells] at hu
  obtain ⟨t, _, hu⟩ := hu
  simp at hu
  rcases hu with rfl | rfl | rfl <;> rfl
theorem toksCells_app (l m : List Wn.Tok) : toksCells (l ++ m) = toksCells l ++ toksCells m := by simp [toksCells]
/-- tokens behind tokens -/
theorem append_toks {w : World} {ops : Array Oper} {rest : List Oper} {o : Oper} {a : Act} {Q : Exit → Act → World → Prop} (hgd : o.guard = none) (s x : Operand)
    (ho : o.op = .call { callee := .builtin .append, args := #[s, x], argTypes := #[22, 22] })
    (base : Nat) (v u : Value) (l m : List Wn.Tok) (hs : a.eval s = v) (hx : a.eval x = u) (hown : w.ownsRow base 24 3 v l.length (toksCells l)) (hU : Src w u m)
    (hlen : l.length + m.length ≤ 1048576) (hbase : base ≤ w.heap.size)
    (h : ∀ v' w', w'.ownsRow base 24 3 v' (l ++ m).length (toksCells (l ++ m)) → w.grownBy w' v.ownBlock → wpList Tryd.prog ops Q rest (a.put o.dst v') w') : wpList Tryd.prog ops Q (o :: rest) a w := by
  obtain ⟨i0, hi, hz0, hz1, hz2⟩ := info_parts info_tok
  rcases hU with ⟨rfl, rfl⟩ | ⟨b, off, cap, rfl, h1, h2, h3⟩
  · refine wpList_append_own_none hgd s x _ ho base 24 i0 3 Tryd.underlying22 hi v _ _ hs hown hx (h v w ?_ ⟨rfl, rfl, rfl, Nat.le_refl _, fun _ _ _ => rfl⟩)
    rw [List.append_nil]; exact hown
  · refine wpList_append_own _ hgd s x _ ho base 24 i0 (.agg #[.int .i64 0, .string ⟨#[]⟩, .int .i64 0]) 3 32 Tryd.underlying22 hi hz0 hz1 hz2 rfl (by decide) v _ _ hs hown ⟨b, off, none⟩ m.length cap (toksCells m) hx (toksCells_length m) (TokIn.news h3) (toksCells_one m) (by unfold maxLen; omega) (by omega) hbase ?_
    intro v' w' h1 h2 _
    refine h v' w' ?_ h2
    rw [List.length_append, toksCells_app]; exact h1
end Go.Proofs.YtnkdppbpcinjhaaDoor
