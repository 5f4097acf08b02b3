/- Appending tokens and values to rows of a call's own. Arguments of a row that are values: what the reading of a row's argument says of the memory. Appending values where the operation stands behind a guard. -/
import Derived.Test.YtjlejiphpbaonaaGreatDoorGQ
import Derived.Maps.AppendAt
set_option linter.unusedVariables false
set_option linter.unusedSimpArgs false
set_option maxRecDepth 20000
namespace Go.Proofs.YtjlejiphpbaonaaGreatDoor
open Go.RowKit Go.Sort
/-- the slice u is nil, or its cells are those of the tokens m -/
def TSrc (w : World) (u : Value) (m : List Wn.Tok) : Prop :=
  (u = .slice none 0 0 ∧ m = []) ∨ ∃ ad cap, u = .slice (some ad) m.length cap ∧ ∀ j c, (toksCells m)[j]? = some c → w.cell? (ad.add j) = some c
theorem Toks.tsrc {w : World} {v : Value} {l : List Wn.Tok} (h : Toks w v l) (hv : ∀ n c, v = .slice Option.none n c → c = 0) : TSrc w v l := by
  obtain ⟨ao, cap, rfl, h1, h2, h3⟩ := h
  cases ao with
  | none =>
    obtain rfl := hv _ _ rfl
    have : l = [] := List.length_eq_zero_iff.1 (by omega)
    subst this
    exact .inl ⟨rfl, rfl⟩
  | some ad =>
    refine .inr ⟨ad, cap, rfl, ?_⟩
    cases l with
    | nil => intro j c h; simp [toksCells] at h
    | cons t l =>
      obtain ⟨b, off, ha, _⟩ := h3 0 t rfl
      simp only [Option.some.injEq] at ha
      subst ha
      refine TokIn.news fun i t ht => ?_
      obtain ⟨b', off', ha', hin⟩ := h3 i t ht
      simp only [Option.some.injEq, Addr.mk.injEq] at ha'
      obtain ⟨rfl, rfl, _⟩ := ha'
      exact hin
theorem TSrc.ofRow {w : World} {B : Nat} {v : Value} {l : List Wn.Tok} (h : w.ownsRow B 47 3 v l.length (toksCells l)) : TSrc w v l := by
  refine (Toks.ofRow h).tsrc fun n c hv => ?_
  rcases h.2 with ⟨hv', _⟩ | ⟨g, cap, cur, hv', _⟩
  · rw [hv] at hv'; simp only [Value.slice.injEq] at hv'; exact hv'.2.2
  · rw [hv] at hv'; simp at hv'
theorem TSrc.later {w w' : World} {v : Value} {l : List Wn.Tok} (h : TSrc w v l) {B : Nat} (hB : w.heap.size ≤ B) (hb : Below B w w') : TSrc w' v l := by
  rcases h with h | ⟨ad, cap, hv, h⟩
  · exact .inl h
  · refine .inr ⟨ad, cap, hv, fun j c hj => ?_⟩
    have := h j c hj
    rw [hb.cell (Nat.lt_of_lt_of_le (World.block_lt_of_cell? w _ this) hB)]
    exact this
theorem append_t {w : World} {ops : Array Oper} {rest : List Oper} {o : Oper} {a : Act} {Q : Exit → Act → World → Prop} (hgd : o.guard = none) (s x : Operand)
    (ho : o.op = .call { callee := .builtin .append, args := #[s, x], argTypes := #[67, 67] })
    (base : Nat) (v u : Value) (l m : List Wn.Tok) (hs : a.eval s = v) (hx : a.eval x = u) (hown : w.ownsRow base 47 3 v l.length (toksCells l)) (hU : TSrc w u m)
    (hlen : l.length + m.length ≤ 1048576) (hbase : base ≤ w.heap.size)
    (h : ∀ v' w', w'.ownsRow base 47 3 v' (l ++ m).length (toksCells (l ++ m)) → w.grownBy w' v.ownBlock → wpList Tryz.prog ops Q rest (a.put o.dst v') w') : wpList Tryz.prog ops Q (o :: rest) a w := by
  obtain ⟨i0, hi, hz0, hz1, hz2⟩ := info_parts info_tok
  rcases hU with ⟨rfl, rfl⟩ | ⟨ad, cap, rfl, h3⟩
  · refine wpList_append_own_none hgd s x _ ho base 47 i0 3 Tryz.underlying67 hi v _ _ hs hown hx (h v w ?_ ⟨rfl, rfl, rfl, Nat.le_refl _, fun _ _ _ => rfl⟩)
    rw [List.append_nil]; exact hown
  · refine wpList_append_own _ hgd s x _ ho base 47 i0 (.agg #[.int .i64 0, .string ⟨#[]⟩, .int .i64 0]) 3 32 Tryz.underlying67 hi hz0 hz1 hz2 rfl (by decide) v _ _ hs hown ad m.length cap (toksCells m) hx (toksCells_length m) h3 (toksCells_one m) (by unfold maxLen; omega) (by omega) hbase ?_
    intro v' w' h1 h2 _
    refine h v' w' ?_ h2
    rw [List.length_append, toksCells_app]; exact h1
/-- the slice u is nil, or its cells are those of the values es -/
def VSrc (w : World) (u : Value) (es : List (Int × Wn.Tok × Value)) : Prop :=
  (∀ c ∈ valsCells es, c.oneCell' = true) ∧ ((u = .slice none 0 0 ∧ es = []) ∨ ∃ ad cap, u = .slice (some ad) es.length cap ∧ ∀ j c, (valsCells es)[j]? = some c → w.cell? (ad.add j) = some c)
theorem valsCells_cons (e : Int × Wn.Tok × Value) (es : List (Int × Wn.Tok × Value)) : valsCells (e :: es) = valCells e ++ valsCells es := by simp [valsCells]
theorem valsCells_app (es fs : List (Int × Wn.Tok × Value)) : valsCells (es ++ fs) = valsCells es ++ valsCells fs := by simp [valsCells]
theorem VAt.cells {w : World} {ok : Nat → Prop} : ∀ {f : Wn.Fs} {b o : Nat}, VAt w ok f b o → ∃ es, Row w ok es f ∧ (∀ j c, (valsCells es)[j]? = some c → w.cell? ⟨b, o + j, none⟩ = some c)
  | .nil, b, o, _ => ⟨[], trivial, fun j c h => by simp [valsCells] at h⟩
  | .cons k t x r, b, o, h => by
    obtain ⟨h1, h2, ⟨u, h3, h4⟩, h5⟩ := h.cons
    obtain ⟨es, hr, hc⟩ := VAt.cells h5
    refine ⟨(k, t, u) :: es, ⟨rfl, rfl, h4, hr⟩, fun j c hj => ?_⟩
    rw [valsCells_cons] at hj
    by_cases hlt : j < 5
    · rw [List.getElem?_append_left (by simpa [valCells] using hlt)] at hj
      match j, hlt with
      | 0, _ => simp [valCells] at hj; subst hj; exact h1
      | 1, _ => simp [valCells] at hj; subst hj; exact h2.c0
      | 2, _ => simp [valCells] at hj; subst hj; exact h2.c1
      | 3, _ => simp [valCells] at hj; subst hj; exact h2.c2
      | 4, _ => simp [valCells] at hj; subst hj; exact h3
    · rw [List.getElem?_append_right (by simp [valCells]; omega)] at hj
      have := hc _ c hj
      rw [show o + j = o + 5 + (j - (valCells (k, t, u)).length) by simp [valCells]; omega]; exact this
theorem Row.one {w : World} {ok : Nat → Prop} : ∀ {es : List (Int × Wn.Tok × Value)} {f : Wn.Fs}, Row w ok es f → ∀ c ∈ valsCells es, c.oneCell' = true
  | [], .nil, _ => fun c h => by simp [valsCells] at h
  | e :: es, .cons k t x r, ⟨_, _, h3, h4⟩ => fun c h => by
    rw [valsCells_cons, List.mem_append] at h
    rcases h with h | h
    · obtain ⟨ao, cap, hv, _⟩ := h3.form
      simp [valCells] at h
      rcases h with rfl | rfl | rfl | rfl | rfl
      · rfl
      · rfl
      · rfl
      · rfl
      · rw [hv]; rfl
    · exact Row.one h4 c h
theorem ValsP.vsrc {w : World} {ok : Nat → Prop} {u : Value} {f : Wn.Fs} (h : ValsP w ok u f) : ∃ es, VSrc w u es ∧ Row w ok es f := by
  obtain ⟨ao, cap, rfl, h1, h2, h3, h4⟩ := h
  by_cases hf : f = .nil
  · subst hf
    refine ⟨[], ⟨fun c h => by simp [valsCells] at h, ?_⟩, trivial⟩
    cases ao with
    | none => exact .inl ⟨by rw [h3 rfl]; rfl, rfl⟩
    | some ad => exact .inr ⟨ad, cap, rfl, fun j c h => by simp [valsCells] at h⟩
  · obtain ⟨b, o, ha, hv⟩ := h4 hf
    obtain ⟨es, hr, hc⟩ := hv.cells
    refine ⟨es, ⟨hr.one, .inr ⟨⟨b, o, none⟩, cap, by rw [ha, hr.len], fun j c hj => ?_⟩⟩, hr⟩
    rw [addr_add]; exact hc j c hj
theorem VSrc.later {w w' : World} {v : Value} {es : List (Int × Wn.Tok × Value)} (h : VSrc w v es) {B : Nat} (hB : w.heap.size ≤ B) (hb : Below B w w') : VSrc w' v es := by
  refine ⟨h.1, ?_⟩
  rcases h.2 with h | ⟨ad, cap, hv, h⟩
  · exact .inl h
  · refine .inr ⟨ad, cap, hv, fun j c hj => ?_⟩
    have := h j c hj
    rw [hb.cell (Nat.lt_of_lt_of_le (World.block_lt_of_cell? w _ this) hB)]
    exact this
theorem Row.app {w : World} {ok : Nat → Prop} : ∀ {es fs : List (Int × Wn.Tok × Value)} {f g : Wn.Fs}, Row w ok es f → Row w ok fs g → Row w ok (es ++ fs) (f.app g)
  | [], fs, .nil, g, _, h => h
  | e :: es, fs, .cons k t x r, g, ⟨h1, h2, h3, h4⟩, h => ⟨h1, h2, h3, Row.app h4 h⟩
theorem append_v {w : World} {ops : Array Oper} {rest : List Oper} {o : Oper} {a : Act} {Q : Exit → Act → World → Prop} (hgd : o.guard = none) (s x : Operand)
    (ho : o.op = .call { callee := .builtin .append, args := #[s, x], argTypes := #[22, 22] })
    (base : Nat) (v u : Value) (l m : List (Int × Wn.Tok × Value)) (hs : a.eval s = v) (hx : a.eval x = u) (hown : w.ownsRow base 49 5 v l.length (valsCells l)) (hU : VSrc w u m)
    (hlen : l.length + m.length ≤ 1048576) (hbase : base ≤ w.heap.size)
    (h : ∀ v' w', w'.ownsRow base 49 5 v' (l ++ m).length (valsCells (l ++ m)) → w.grownBy w' v.ownBlock → wpList Tryz.prog ops Q rest (a.put o.dst v') w') : wpList Tryz.prog ops Q (o :: rest) a w := by
  obtain ⟨i0, hi, hz0, hz1, hz2⟩ := info_parts info_val
  obtain ⟨h1c, hU⟩ := hU
  rcases hU with ⟨rfl, rfl⟩ | ⟨ad, cap, rfl, h3⟩
  · refine wpList_append_own_none hgd s x _ ho base 49 i0 5 Tryz.underlying22 hi v _ _ hs hown hx (h v w ?_ ⟨rfl, rfl, rfl, Nat.le_refl _, fun _ _ _ => rfl⟩)
    rw [List.append_nil]; exact hown
  · refine wpList_append_own _ hgd s x _ ho base 49 i0 (.agg #[.int .i64 0, .int .i64 0, .string ⟨#[]⟩, .int .i64 0, .slice none 0 0]) 5 64 Tryz.underlying22 hi hz0 hz1 hz2 rfl (by decide) v _ _ hs hown ad m.length cap (valsCells m) hx (valsCells_length m) h3 h1c (by unfold maxLen; omega) (by omega) hbase ?_
    intro v' w' h1 h2 _
    refine h v' w' ?_ h2
    rw [List.length_append, valsCells_app]; exact h1
end Go.Proofs.YtjlejiphpbaonaaGreatDoor
set_option linter.unusedVariables false
set_option linter.unusedSimpArgs false
set_option maxRecDepth 20000
namespace Go.Proofs.YtjlejiphpbaonaaGreatDoor
open Go.ChangeShapes Go.WideShapes Go.RowKit Go.Deep
/-- numbers as Go has them, in each token of values -/
def FNums (f : Wn.Fs) : Prop := f.all fun t => Nums t ∧ t.2.1.length ≤ maxLen
section
variable {H : Type} {enc : TypeId × Value → H} {w : World} {base : Nat} {spare : Nat → Bool} {held : Bool}
theorem cells_val : Tryz.prog.cellsOf 49 = 5 := by kernel_rfl
theorem cells_slv : Tryz.prog.cellsOf 22 = 1 := by kernel_rfl
theorem cells_int : Tryz.prog.cellsOf 3 = 1 := by kernel_rfl
/-- five cells that read as a value -/
theorem open_val {n : Nat} {cs : List Value} {x : DataW H × List MemPlace} (IH : ∀ m, m < n → ∀ (cs : List Value) (x : DataW H × List MemPlace), DataW.trod enc Tryz.prog w base spare held m 22 cs = some x → ∃ v f, cs = [v] ∧ Vals w v f ∧ FNums f)
    (h : DataW.trod enc Tryz.prog w base spare held n 49 cs = some x) :
    ∃ (k : Int) (t : Wn.Tok) (u : Value) (g : Wn.Fs), cs = [.int .i64 k, .int .i64 t.1, .string (Wn.str t.2.1), .int .i64 t.2.2, u] ∧ (Nums t ∧ t.2.1.length ≤ maxLen) ∧ Vals w u g ∧ FNums g := by
  obtain ⟨ys, n', hn', hy, hlen, hyl, hf⟩ := DataW.trod_struct Tryz.underlying49 h
  have h0 : DataW.trod enc Tryz.prog w base spare held n' 3 ((cs.drop 0).take (Tryz.prog.cellsOf 3)) = ys[0]? := hf 0 _ rfl
  have h1 : DataW.trod enc Tryz.prog w base spare held n' 47 ((cs.drop 1).take (Tryz.prog.cellsOf 47)) = ys[1]? := hf 1 _ rfl
  have h2 : DataW.trod enc Tryz.prog w base spare held n' 22 ((cs.drop 4).take (Tryz.prog.cellsOf 22)) = ys[2]? := hf 2 _ rfl
  rw [cells_int] at h0
  rw [cells_tok] at h1
  rw [cells_slv] at h2
  match cs, hlen.trans cells_val with
  | [c0, c1, c2, c3, c4], _ =>
    match ys, hyl with
    | [y0, y1, y2], _ =>
      simp only [List.drop_zero, List.drop_succ_cons, List.take_succ_cons, List.take_zero, List.getElem?_cons_zero, List.getElem?_cons_succ] at h0 h1 h2
      obtain ⟨k, ha, _, _⟩ := DataW.trod_int (k := .i64) Tryz.underlying3 h0
      obtain ⟨t, hcs, hnum, htl, _⟩ := open_cells h1
      obtain ⟨v, g, hv, hg, hb⟩ := IH n' (by omega) _ _ h2
      simp only [List.cons.injEq, and_true] at ha hcs hv
      obtain ⟨e1, e2, e3⟩ := hcs
      exact ⟨k, t, v, g, by rw [ha, e1, e2, e3, hv], ⟨hnum, htl⟩, hg, hb⟩
theorem open_valsF : ∀ (fuel : Nat) (cs : List Value) (x : DataW H × List MemPlace), DataW.trod enc Tryz.prog w base spare held fuel 22 cs = some x → ∃ v f, cs = [v] ∧ Vals w v f ∧ FNums f := by
  intro fuel
  induction fuel using Nat.strongRecOn with
  | ind fuel ih =>
    intro cs x h
    rcases DataW.trod_slice Tryz.underlying22 h with ⟨rfl, _⟩ | ⟨a, len, cap, elems, rest, n, hfu, rfl, _, hb, hl, hm, hlen, hel, _⟩
    · exact ⟨_, .nil, rfl, Vals.nil w, trivial⟩
    · have elem : ∀ i, i < len → ∃ (k : Int) (t : Wn.Tok) (u : Value) (g : Wn.Fs), w.cells? base (a.add (i * 5)) 5 = some [.int .i64 k, .int .i64 t.1, .string (Wn.str t.2.1), .int .i64 t.2.2, u] ∧ (Nums t ∧ t.2.1.length ≤ maxLen) ∧ Vals w u g ∧ FNums g := by
        intro i hi
        have he := hel i hi
        rw [cells_val, List.getElem?_eq_getElem (by omega), Option.bind_eq_some_iff] at he
        obtain ⟨cs', hc, ht⟩ := he
        obtain ⟨k, t, u, g, rfl, h1, h2, h3⟩ := open_val (fun m hm => ih m (by omega)) ht
        exact ⟨k, t, u, g, hc, h1, h2, h3⟩
      have hsp : 0 < len → a = ⟨a.block, a.off, none⟩ := by
        intro h0
        obtain ⟨k, t, u, g, hc, _⟩ := elem 0 h0
        obtain ⟨_, _, hat⟩ := World.cells?_some hc
        have := hat 0 (by omega)
        exact spot_none (v := .int .i64 k) (by simpa [Addr.add] using this)
      have build : ∀ j, j ≤ len → ∃ f : Wn.Fs, f.len = j ∧ FNums f ∧ (0 < j → VAt w (fun _ => True) f a.block (a.off + (len - j) * 5)) := by
        intro j
        induction j with
        | zero => exact fun _ => ⟨.nil, rfl, trivial, fun h => by omega⟩
        | succ j ihj =>
          intro hj
          obtain ⟨f, hf, hfn, hv⟩ := ihj (by omega)
          obtain ⟨k, t, u, g, hc, hn, hu, hgn⟩ := elem (len - (j + 1)) (by omega)
          refine ⟨.cons k t g f, by rw [Wn.Fs.len, hf], ⟨hn, hgn, hfn⟩, fun _ => ?_⟩
          have ha := hsp (by omega)
          rw [ha, add_plain] at hc
          obtain ⟨_, _, hat⟩ := World.cells?_some hc
          have q0 := hat 0 (by omega)
          have q1 := hat 1 (by omega)
          have q2 := hat 2 (by omega)
          have q3 := hat 3 (by omega)
          have q4 := hat 4 (by omega)
          rw [add_plain] at q0 q1 q2 q3 q4
          refine VAt.mk trivial (by simpa using q0) ⟨by simpa using q1, by simpa using q2, by simpa using q3⟩ (by simpa using q4) hu ?_
          by_cases h0 : 0 < j
          · have := hv h0
            rw [show a.off + (len - j) * 5 = a.off + (len - (j + 1)) * 5 + 5 by omega] at this
            exact this
          · have : j = 0 := by omega
            subst this
            rw [Wn.Fs.len_zero hf]
            trivial
      obtain ⟨f, hf, hfn, hv⟩ := build len (Nat.le_refl _)
      refine ⟨_, f, rfl, ⟨some a, cap, by rw [hf], by omega, hm, fun h => (by cases h), fun hne => ?_⟩, hfn⟩
      have h0 : 0 < len := by
        rcases Nat.eq_zero_or_pos len with h | h
        · exact absurd (Wn.Fs.len_zero (by rw [hf]; exact h)) hne
        · exact h
      have := hv h0
      rw [Nat.sub_self, Nat.zero_mul, Nat.add_zero] at this
      exact ⟨a.block, a.off, by rw [← hsp h0], this⟩
theorem open_vals {r : Reach} {b0 : Nat} {v : Value} {d : DataW H} {p : List MemPlace} (hv : Value.okWide Tryz.prog w r b0 22 v) (h : DataW.Trod enc Tryz.prog w base spare held 22 v d p) :
    ∃ f : Wn.Fs, Vals w v f ∧ FNums f := by
  obtain ⟨a0, len0, cap0, rfl⟩ := okWide_slice Tryz.underlying22 hv
  obtain ⟨fuel, h⟩ := h
  obtain ⟨v', f, hcs, hf, hn⟩ := open_valsF fuel _ _ h
  simp [Value.cells] at hcs
  subst hcs
  exact ⟨f, hf, hn⟩
end
end Go.Proofs.YtjlejiphpbaonaaGreatDoor
set_option linter.unusedVariables false
set_option linter.unusedSimpArgs false
set_option maxRecDepth 20000
namespace Go.Proofs.YtjlejiphpbaonaaGreatDoor
open Go.RowKit Go.Sort
theorem append_vg {w : World} {ops : Array Oper} {rest : List Oper} {o : Oper} {a : Act} {Q : Exit → Act → World → Prop} (hw : Region.wanted o (yielded ops a.tmps) = true) (s x : Operand)
    (ho : o.op = .call { callee := .builtin .append, args := #[s, x], argTypes := #[22, 22] })
    (base : Nat) (v u : Value) (l m : List (Int × Wn.Tok × Value)) (hs : a.eval s = v) (hx : a.eval x = u) (hown : w.ownsRow base 49 5 v l.length (valsCells l)) (hU : VSrc w u m)
    (hlen : l.length + m.length ≤ 1048576) (hbase : base ≤ w.heap.size)
    (h : ∀ v' w', w'.ownsRow base 49 5 v' (l ++ m).length (valsCells (l ++ m)) → w.grownBy w' v.ownBlock → wpList Tryz.prog ops Q rest (a.put o.dst v') w') : wpList Tryz.prog ops Q (o :: rest) a w := by
  rw [wpList, if_pos hw]
  refine .inl ?_
  obtain ⟨i0, hi, hz0, hz1, hz2⟩ := info_parts info_val
  obtain ⟨h1c, hU⟩ := hU
  rcases hU with ⟨rfl, rfl⟩ | ⟨ad, cap, rfl, h3⟩
  · have hrun := run_append_owned_none (P := Tryz.prog) (w := w) base 22 o.type 49 i0 5 Tryz.underlying22 hi v _ _ hown
    have hk := h v w (by rw [List.append_nil]; exact hown) ⟨rfl, rfl, rfl, Nat.le_refl _, fun _ _ _ => rfl⟩
    unfold Oper.wp
    simp [execOp, ho, resolve, invoke, builtin, hs, hx, hrun, Result.andThen]
    exact hk
  · obtain ⟨v', w', hr, h2, h3', _, _⟩ := run_append_own_at (P := Tryz.prog) w base 22 o.type 49 i0 (.agg #[.int .i64 0, .int .i64 0, .string ⟨#[]⟩, .int .i64 0, .slice none 0 0]) 5 64 Tryz.underlying22 hi hz0 hz1 hz2 rfl (by decide) v _ _ hown ad m.length cap (valsCells m) (valsCells_length m) h3 h1c (by unfold maxLen; omega) (by omega) hbase
    have hk := h v' w' (by rw [List.length_append, valsCells_app]; exact h2) h3'
    unfold Oper.wp
    simp [execOp, ho, resolve, invoke, builtin, hs, hx, hr, Result.andThen]
    exact hk
end Go.Proofs.YtjlejiphpbaonaaGreatDoor
