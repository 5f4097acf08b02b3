/- Slices of records that were just laid. -/
import Derived.Test.YtncknaagbafhhaaGreatDoorHA
import Derived.Maps.AppendAt
set_option linter.unusedVariables false
set_option linter.unusedSimpArgs false
set_option maxRecDepth 20000
namespace Go.Proofs.YtncknaagbafhhaaGreatDoor
open Go.RowKit Go.Sort
namespace RK
variable {α : Type} {K : RK α} {w w' : World} {ok : Nat → Prop}
/-- a block whose cells are those of records -/
theorem P.mk {b : Nat} {cs : Array Value} {e : TypeId} {es : List (List Value)} {l : List α} {n : Nat} (h : w.heap[b]? = some (.cells cs e)) (hr : K.Row w ok es l) (he : es.flatten = cs.toList) (hn : n = l.length) (hm : l.length ≤ 1048576) (hb : ok b) : K.P w ok (.slice (some ⟨b, 0, none⟩) n n) l := by
  subst hn
  refine P.ofCells hr (Nat.le_refl _) (by unfold maxLen; omega) hb (lt_of_block h) fun j u hj => ?_
  rw [Nat.zero_add, cell_of_block h, ← Array.getElem?_toList, ← he]; exact hj
theorem P.sub {b o n cap : Nat} {l : List α} (h : K.P w ok (.slice (some ⟨b, o, none⟩) n cap) l) (i j : Nat) (hij : i ≤ j) (hj : j ≤ n) : K.P w ok (.slice (some ⟨b, o + i * K.sz, none⟩) (j - i) (cap - i)) ((l.take j).drop i) := by
  obtain ⟨ao', cap', hv, h1, h2, _, h4⟩ := h
  simp only [Value.slice.injEq] at hv
  obtain ⟨rfl, rfl, rfl⟩ := hv
  refine ⟨_, _, by rw [List.length_drop, List.length_take, Nat.min_eq_left hj], by rw [List.length_drop, List.length_take]; omega, by omega, fun h => (by cases h), fun hne => ?_⟩
  obtain ⟨b', o', ha, hb, hlt, hx⟩ := h4 (by rintro rfl; simp at hne)
  simp only [Option.some.injEq, Addr.mk.injEq, and_true] at ha
  obtain ⟨rfl, rfl⟩ := ha
  refine ⟨_, _, rfl, hb, hlt, fun k x hk => ?_⟩
  rw [List.getElem?_drop, List.getElem?_take] at hk
  split at hk
  · obtain ⟨cs, hr, hl⟩ := hx _ x hk
    exact ⟨cs, hr, by rw [show o + i * K.sz + k * K.sz = o + (i + k) * K.sz by rw [Nat.add_mul]; omega]; exact hl⟩
  · cases hk
/-- append to a row of one's own, behind a guard -/
theorem append_g {ops : Array Oper} {rest : List Oper} {o : Oper} {a : Act} {Q : Exit → Act → World → Prop} (hw : Region.wanted o (yielded ops a.tmps) = true) (s x : Operand)
    (ho : o.op = .call { callee := .builtin .append, args := #[s, x], argTypes := #[K.t, K.t] })
    (base : Nat) (v u : Value) (es fs : List (List Value)) (hs : a.eval s = v) (hx : a.eval x = u) (hown : w.ownsRow base K.e K.sz v es.length es.flatten) (hU : K.Src w u fs)
    (hlen : es.length + fs.length ≤ 1048576) (hbase : base ≤ w.heap.size)
    (h : ∀ v' w', w'.ownsRow base K.e K.sz v' (es ++ fs).length (es ++ fs).flatten → w.grownBy w' v.ownBlock → wpList Tryz.prog ops Q rest (a.put o.dst v') w') : wpList Tryz.prog ops Q (o :: rest) a w := by
  rw [wpList, if_pos hw]
  refine .inl ?_
  obtain ⟨i0, hi, hz0, hz1, hz2⟩ := info_parts K.info
  obtain ⟨hl, h1c, hU⟩ := hU
  rcases hU with ⟨rfl, rfl⟩ | ⟨ad, cap, rfl, h3⟩
  · have hrun := run_append_owned_none (P := Tryz.prog) (w := w) base K.t o.type K.e i0 K.sz K.under hi v _ _ hown
    have hk := h v w (by rw [List.append_nil]; exact hown) ⟨rfl, rfl, rfl, Nat.le_refl _, fun _ _ _ => rfl⟩
    unfold Oper.wp
    simp [execOp, ho, resolve, invoke, builtin, hs, hx, hrun, Result.andThen]
    exact hk
  · have hb : (es.length + fs.length) * K.bytes ≤ 140737488355328 := Nat.le_trans (Nat.mul_le_mul hlen K.few) (by decide)
    obtain ⟨v', w', hr, h2, h3', _, _⟩ := run_append_own_at (P := Tryz.prog) w base K.t o.type K.e i0 K.z K.sz K.bytes K.under hi hz0 hz1 hz2 K.zsz K.pos v _ _ hown ad fs.length cap fs.flatten hl h3 h1c (by unfold maxLen; omega) hb hbase
    have hk := h v' w' (by rw [List.length_append, List.flatten_append]; exact h2) h3'
    unfold Oper.wp
    simp [execOp, ho, resolve, invoke, builtin, hs, hx, hr, Result.andThen]
    exact hk
end RK
end Go.Proofs.YtncknaagbafhhaaGreatDoor
