/- Appending tokens and values to rows of a call's own. Arguments of a row that are values: what the reading of a row's argument says of the memory. -/
import Derived.Test.YtncknaagbafhhaaGreatDoorGQ
set_option linter.unusedVariables false
set_option linter.unusedSimpArgs false
set_option maxRecDepth 20000
namespace Go.Proofs.YtncknaagbafhhaaGreatDoor
open Go.RowKit Go.Sort
/-- the slice u is nil, or its cells are those of the tokens m -/
def TSrc (w : World) (u : Value) (m : List Wn.Tok) : Prop :=
  (u = .slice none 0 0 ∧ m = []) ∨ ∃ ad cap, u = .slice (some ad) m.length cap ∧ ∀ j c, (toksCells m)[j]? = some c → w.cell? (ad.add j) = some c
theorem Toks.tsrc {w : World} {v : Value} {l : List Wn.Tok} (h : Toks w v l) (hv : ∀ n c, v = .slice Option.none n c → c = 0) : TSrc w v l := by
  obtain ⟨ao, cap, rfl, h1, h2, h3⟩ := h
  cases ao with
  | none =>
    obtain rfl := hv _ _ rfl
    have : l = [] := List.length_eq_zero_iff.1 (by omega)
    subst this
    exact .inl ⟨rfl, rfl⟩
  | some ad =>
    refine .inr ⟨ad, cap, rfl, ?_⟩
    cases l with
    | nil => intro j c h; simp [toksCells] at h
    | cons t l =>
      obtain ⟨b, off, ha, _⟩ := h3 0 t rfl
      simp only [Option.some.injEq] at ha
      subst ha
      refine TokIn.news fun i t ht => ?_
      obtain ⟨b', off', ha', hin⟩ := h3 i t ht
      simp only [Option.some.injEq, Addr.mk.injEq] at ha'
      obtain ⟨rfl, rfl, _⟩ := ha'
      exact hin
theorem TSrc.ofRow {w : World} {B : Nat} {v : Value} {l : List Wn.Tok} (h : w.ownsRow B 78 3 v l.length (toksCells l)) : TSrc w v l := by
  refine (Toks.ofRow h).tsrc fun n c hv => ?_
  rcases h.2 with ⟨hv', _⟩ | ⟨g, cap, cur, hv', _⟩
  · rw [hv] at hv'; simp only [Value.slice.injEq] at hv'; exact hv'.2.2
  · rw [hv] at hv'; simp at hv'
theorem TSrc.later {w w' : World} {v : Value} {l : List Wn.Tok} (h : TSrc w v l) {B : Nat} (hB : w.heap.size ≤ B) (hb : Below B w w') : TSrc w' v l := by
  rcases h with h | ⟨ad, cap, hv, h⟩
  · exact .inl h
  · refine .inr ⟨ad, cap, hv, fun j c hj => ?_⟩
    have := h j c hj
    rw [hb.cell (Nat.lt_of_lt_of_le (World.block_lt_of_cell? w _ this) hB)]
    exact this
/-- the slice u is nil, or its cells are those of the values es -/
def VSrc (w : World) (u : Value) (es : List (Int × Wn.Tok × Value)) : Prop :=
  (∀ c ∈ valsCells es, c.oneCell' = true) ∧ ((u = .slice none 0 0 ∧ es = []) ∨ ∃ ad cap, u = .slice (some ad) es.length cap ∧ ∀ j c, (valsCells es)[j]? = some c → w.cell? (ad.add j) = some c)
theorem valsCells_cons (e : Int × Wn.Tok × Value) (es : List (Int × Wn.Tok × Value)) : valsCells (e :: es) = valCells e ++ valsCells es := by simp [valsCells]
theorem valsCells_app (es fs : List (Int × Wn.Tok × Value)) : valsCells (es ++ fs) = valsCells es ++ valsCells fs := by simp [valsCells]
theorem VAt.cells {w : World} {ok : Nat → Prop} : ∀ {f : Wn.Fs} {b o : Nat}, VAt w ok f b o → ∃ es, Row w ok es f ∧ (∀ j c, (valsCells es)[j]? = some c → w.cell? ⟨b, o + j, none⟩ = some c)
  | .nil, b, o, _ => ⟨[], trivial, fun j c h => by simp [valsCells] at h⟩
  | .cons k t x r, b, o, h => by
    obtain ⟨h1, h2, ⟨u, h3, h4⟩, h5⟩ := h.cons
    obtain ⟨es, hr, hc⟩ := VAt.cells h5
    refine ⟨(k, t, u) :: es, ⟨rfl, rfl, h4, hr⟩, fun j c hj => ?_⟩
    rw [valsCells_cons] at hj
    by_cases hlt : j < 5
    · rw [List.getElem?_append_left (by simpa [valCells] using hlt)] at hj
      match j, hlt with
      | 0, _ => simp [valCells] at hj; subst hj; exact h1
      | 1, _ => simp [valCells] at hj; subst hj; exact h2.c0
      | 2, _ => simp [valCells] at hj; subst hj; exact h2.c1
      | 3, _ => simp [valCells] at hj; subst hj; exact h2.c2
      | 4, _ => simp [valCells] at hj; subst hj; exact h3
    · rw [List.getElem?_append_right (by simp [valCells]; omega)] at hj
      have := hc _ c hj
      rw [show o + j = o + 5 + (j - (valCells (k, t, u)).length) by simp [valCells]; omega]; exact this
theorem Row.one {w : World} {ok : Nat → Prop} : ∀ {es : List (Int × Wn.Tok × Value)} {f : Wn.Fs}, Row w ok es f → ∀ c ∈ valsCells es, c.oneCell' = true
  | [], .nil, _ => fun c h => by simp [valsCells] at h
  | e :: es, .cons k t x r, ⟨_, _, h3, h4⟩ => fun c h => by
    rw [valsCells_cons, List.mem_append] at h
    rcases h with h | h
    · obtain ⟨ao, cap, hv, _⟩ := h3.form
      simp [valCells] at h
      rcases h with rfl | rfl | rfl | rfl | rfl
      · rfl
      · rfl
      · rfl
      · rfl
      · rw [hv]; rfl
    · exact Row.one h4 c h
theorem ValsP.vsrc {w : World} {ok : Nat → Prop} {u : Value} {f : Wn.Fs} (h : ValsP w ok u f) : ∃ es, VSrc w u es ∧ Row w ok es f := by
  obtain ⟨ao, cap, rfl, h1, h2, h3, h4⟩ := h
  by_cases hf : f = .nil
  · subst hf
    refine ⟨[], ⟨fun c h => by simp [valsCells] at h, ?_⟩, trivial⟩
    cases ao with
    | none => exact .inl ⟨by rw [h3 rfl]; rfl, rfl⟩
    | some ad => exact .inr ⟨ad, cap, rfl, fun j c h => by simp [valsCells] at h⟩
  · obtain ⟨b, o, ha, hv⟩ := h4 hf
    obtain ⟨es, hr, hc⟩ := hv.cells
    refine ⟨es, ⟨hr.one, .inr ⟨⟨b, o, none⟩, cap, by rw [ha, hr.len], fun j c hj => ?_⟩⟩, hr⟩
    rw [addr_add]; exact hc j c hj
theorem VSrc.later {w w' : World} {v : Value} {es : List (Int × Wn.Tok × Value)} (h : VSrc w v es) {B : Nat} (hB : w.heap.size ≤ B) (hb : Below B w w') : VSrc w' v es := by
  refine ⟨h.1, ?_⟩
  rcases h.2 with h | ⟨ad, cap, hv, h⟩
  · exact .inl h
  · refine .inr ⟨ad, cap, hv, fun j c hj => ?_⟩
    have := h j c hj
    rw [hb.cell (Nat.lt_of_lt_of_le (World.block_lt_of_cell? w _ this) hB)]
    exact this
theorem Row.app {w : World} {ok : Nat → Prop} : ∀ {es fs : List (Int × Wn.Tok × Value)} {f g : Wn.Fs}, Row w ok es f → Row w ok fs g → Row w ok (es ++ fs) (f.app g)
  | [], fs, .nil, g, _, h => h
  | e :: es, fs, .cons k t x r, g, ⟨h1, h2, h3, h4⟩, h => ⟨h1, h2, h3, Row.app h4 h⟩
theorem append_v {w : World} {ops : Array Oper} {rest : List Oper} {o : Oper} {a : Act} {Q : Exit → Act → World → Prop} (hgd : o.guard = none) (s x : Operand)
    (ho : o.op = .call { callee := .builtin .append, args := #[s, x], argTypes := #[22, 22] })
    (base : Nat) (v u : Value) (l m : List (Int × Wn.Tok × Value)) (hs : a.eval s = v) (hx : a.eval x = u) (hown : w.ownsRow base 80 5 v l.length (valsCells l)) (hU : VSrc w u m)
    (hlen : l.length + m.length ≤ 1048576) (hbase : base ≤ w.heap.size)
    (h : ∀ v' w', w'.ownsRow base 80 5 v' (l ++ m).length (valsCells (l ++ m)) → w.grownBy w' v.ownBlock → wpList Tryz.prog ops Q rest (a.put o.dst v') w') : wpList Tryz.prog ops Q (o :: rest) a w := by
  obtain ⟨i0, hi, hz0, hz1, hz2⟩ := info_parts info_val
  obtain ⟨h1c, hU⟩ := hU
  rcases hU with ⟨rfl, rfl⟩ | ⟨ad, cap, rfl, h3⟩
  · refine wpList_append_own_none hgd s x _ ho base 80 i0 5 Tryz.underlying22 hi v _ _ hs hown hx (h v w ?_ ⟨rfl, rfl, rfl, Nat.le_refl _, fun _ _ _ => rfl⟩)
    rw [List.append_nil]; exact hown
  · refine wpList_append_own _ hgd s x _ ho base 80 i0 (.agg #[.int .i64 0, .int .i64 0, .string ⟨#[]⟩, .int .i64 0, .slice none 0 0]) 5 64 Tryz.underlying22 hi hz0 hz1 hz2 rfl (by decide) v _ _ hs hown ad m.length cap (valsCells m) hx (valsCells_length m) h3 h1c (by unfold maxLen; omega) (by omega) hbase ?_
    intro v' w' h1 h2 _
    refine h v' w' ?_ h2
    rw [List.length_append, valsCells_app]; exact h1
end Go.Proofs.YtncknaagbafhhaaGreatDoor
set_option linter.unusedVariables false
set_option linter.unusedSimpArgs false
set_option maxRecDepth 20000
namespace Go.Proofs.YtncknaagbafhhaaGreatDoor
open Go.ChangeShapes Go.WideShapes Go.RowKit Go.Deep
/-- numbers as Go has them, in each token of values -/
def FNums (f : Wn.Fs) : Prop := f.all fun t => Nums t ∧ t.2.1.length ≤ maxLen
section
variable {H : Type} {enc : TypeId × Value → H} {w : World} {base : Nat} {spare : Nat → Bool} {held : Bool}
end
end Go.Proofs.YtncknaagbafhhaaGreatDoor
