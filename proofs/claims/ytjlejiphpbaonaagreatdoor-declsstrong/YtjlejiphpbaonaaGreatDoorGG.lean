/- What the verifier's Small and Same answer. The fixed calls at the head of the statements of layer 1: they answer true. What all statements of this seat share: the listed tables, a world that holds them, the last step of a row. Appending tokens to a row of a call's own. -/
import Derived.Test.YtjlejiphpbaonaaGreatDoorGF
import Derived.Test.YtjlejiphpbaonaaGreatDoorCards
import Derived.Test.YtjlejiphpbaonaaGreatDoorTie
import Derived.ProofKit
import Derived.OpenShut
import Derived.Deep.DeepHandedRow
import Derived.Deep.Slices
import Derived.Deep.Fields
import Derived.Lib.LaidTab
import Derived.Laws.AppendOwnNone
set_option maxRecDepth 20000
namespace Wn
def small (l : List Tok) (most : Int) : Bool := (l.all fun t => decide (t.2.1.length ≤ 100)) && decide ((l.length : Int) ≤ most)
end Wn
namespace Go.Proofs.YtjlejiphpbaonaaGreatDoor
open Go.RowKit
end Go.Proofs.YtjlejiphpbaonaaGreatDoor
set_option maxRecDepth 20000
namespace Wn
def fixWant : List Tok := [(1, [97], 0), (7, [58], 0), (5, [112, 120], 1)]
def fixK : List Tok := [(3, [98], 0), (4, [49], 0), (8, [10], 0), (2, [45, 45, 99], 0), (5, [37], -2), (6, [100, 39], 34), (8, [10], 0), (7, [39], 0), (1, [101], 0), (8, [10], 0)]
def fixTwo : List Tok := [(1, [97], 0), (1, [98], 0)]
theorem lex_want : lex [97, 58, 49, 112, 120] = fixWant := by decide +kernel
theorem lex_k : lex [64, 98, 47, 42, 120, 42, 47, 35, 49, 32, 45, 45, 99, 40, 45, 50, 37, 34, 100, 39, 34, 32, 39, 101, 10] = fixK := by decide +kernel
theorem itoa_one : Go.Lib.itoa 1 = [49] := by
  unfold Go.Lib.itoa; rw [if_neg (by decide), show (1 : Int).toNat = 1 from rfl, Go.Lib.decDigits_one (by decide)]; rfl
theorem text_want : text fixWant = [97, 58, 49, 112, 120] := by
  have e : oneText (5, [112, 120], 1) = [49, 112, 120] := by
    have : oneText (5, [112, 120], 1) = Go.Lib.itoa 1 ++ [112, 120] := rfl
    rw [this, itoa_one]; rfl
  have e1 : oneText (1, [97], 0) = [97] := rfl
  have e2 : oneText (7, [58], 0) = [58] := rfl
  have a1 : apart ([97] ++ [58]) (1, [97], 0) (7, [58], 0) = false := by decide +kernel
  have a2 : apart ([58] ++ [49, 112, 120]) (7, [58], 0) (5, [112, 120], 1) = false := by decide +kernel
  simp [text, fixWant, texts, e, e1, e2, a1, a2] at *
theorem text_two : text fixTwo = [97, 47, 42, 42, 47, 98] := by decide +kernel
theorem one_str : oneText (6, [100, 39], 34) = [34, 100, 39, 34] := by decide +kernel
theorem one_quote : oneText (7, [39], 0) = [39, 47, 42, 10, 42, 47] := by decide +kernel
theorem may_func : may (2, [45, 45, 99], 0) = true := by decide +kernel
theorem may_one : may (1, [49], 0) = false := by decide +kernel
theorem may_none : may (0, [], 0) = false := by decide +kernel
end Wn
namespace Go.Proofs.YtjlejiphpbaonaaGreatDoor
open Go.RowKit
/-- tokens in a new block -/
theorem Toks.mk (w : World) (l : List Wn.Tok) (hl : l.length ≤ maxLen) : Toks (w.alloc (.cells (toksCells l).toArray 47)) (.slice (some ⟨w.heap.size, 0, none⟩) l.length l.length) l := by
  have hb := heap_alloc_new w (.cells (toksCells l).toArray 47)
  refine ⟨_, _, rfl, Nat.le_refl _, hl, fun i t hi => ⟨_, _, rfl, ?_⟩⟩
  obtain ⟨k0, k1, k2⟩ := toksCells_get l i t hi
  rw [Nat.zero_add]
  exact ⟨by rw [cell_of_block hb, List.getElem?_toArray]; exact k0, by rw [cell_of_block hb, List.getElem?_toArray]; exact k1, by rw [cell_of_block hb, List.getElem?_toArray]; exact k2⟩
theorem One_r (t : Wn.Tok) (r : List UInt8) (x : Value) (z : ByteArray) (w : World) (hx : tokV t = x) (hr : Wn.oneText t = r) (hz : Wn.str r = z) (ht : Tab w) (hf : Fine t) :
    Calls Tryz.prog 88 #[x] w fun e w' => e = .returned (.string z) ∧ Below w.heap.size w w' := by
  subst hx hr hz; exact One_any t w ht (by have := hf.1; omega) hf.2.1 hf.2.2
theorem May_r (t : Wn.Tok) (c : Bool) (x : Value) (w : World) (hx : tokV t = x) (hc : Wn.may t = c) (ht : Tab w) (hf : Fine t) :
    Calls Tryz.prog 68 #[x] w fun e w' => e = .returned (.bool c) ∧ Below w.heap.size w w' := by
  subst hx hc; exact May_any t w ht (by have := hf.1; omega) hf.2.1 hf.2.2
/-- what the fixed calls know of the world -/
structure Fix (w0 : World) (v1 v2 v3 v4 v5 : Value) (w : World) : Prop where
  below : Below w0.heap.size w0 w
  tab : Tab w
  t1 : Toks w v1 Wn.fixWant
  t2 : Toks w v2 Wn.fixWant
  t3 : Toks w v3 Wn.fixK
  t4 : Toks w v4 Wn.fixK
  t5 : Toks w v5 Wn.fixTwo
theorem Fix.later {w0 : World} {v1 v2 v3 v4 v5 : Value} {w w' : World} (h : Fix w0 v1 v2 v3 v4 v5 w) (hb : Below w.heap.size w w') : Fix w0 v1 v2 v3 v4 v5 w' :=
  ⟨h.below.trans (hb.mono h.below.size), h.tab.below hb, h.t1.below hb, h.t2.below hb, h.t3.below hb, h.t4.below hb, h.t5.below hb⟩
theorem Fix.cell {w0 : World} {v1 v2 v3 v5 : Value} {b : Nat} {w : World} (h : Fix w0 v1 v2 v3 (.slice (some ⟨b, 0, none⟩) 10 10) v5 w) (i : Nat) (t : Wn.Tok) (hi : Wn.fixK[i]? = some t) : TokIn w b (i * 3) t := by
  obtain ⟨ao, cap, hv, _, _, hc⟩ := h.t4
  obtain ⟨b', off, ha, hin⟩ := hc i t hi
  subst ha
  simp only [Value.slice.injEq, Option.some.injEq, Addr.mk.injEq] at hv
  obtain ⟨⟨rfl, rfl, _⟩, _, _⟩ := hv
  rw [Nat.zero_add] at hin
  exact hin
end Go.Proofs.YtjlejiphpbaonaaGreatDoor
set_option maxRecDepth 20000
namespace Go.Proofs.YtjlejiphpbaonaaGreatDoor
open Go.ChangeShapes Go.WideShapes Go.ChangeAt Go.RowKit
open Go.ChangeMaps (open_string shut_string)
theorem own : ownKnob Tryz.prog.godebug = none := by kernel_rfl
theorem gPow : Tryz.prog.globalNamed "internal/strconv.uint64pow10" = some 0 := by kernel_rfl
theorem gPowType : (Tryz.prog.globals[0]?).map (·.type) = some 144 := by kernel_rfl
theorem cellsPow : Tryz.prog.cellsOf 144 = 20 := by kernel_rfl
theorem cellsU64 : Tryz.prog.cellsOf 138 = 1 := by kernel_rfl
/-- what every row of this seat lists -/
def laidAll : List (String × DataW Unit) := [("math/bits.deBruijn32tab", Rows.laid_math_bits_deBruijn32tab), ("math/bits.deBruijn64tab", Rows.laid_math_bits_deBruijn64tab), ("internal/strconv.uint64pow10", Rows.laid_internal_strconv_uint64pow10)]
/-- the third listed table is the library's powers of ten -/
theorem table {W : World} (h : laidMetH Tryz.prog laidAll W) : Tab W := by
  have h' : laidMet Tryz.prog laidAll W := h
  obtain ⟨ps, ⟨g1, t1, cs1, f1, p1, q1, _, _, _, _, ⟨g2, t2, cs2, f2, p2, q2, _, _, _, _, ⟨g3, t3, cs3, f3, p3, q3, hg3, ht3, hvar, hd, _, _⟩, _⟩, _⟩, _⟩ := h'
  obtain rfl := Option.some.inj (gPow.symm.trans hg3)
  obtain rfl := Option.some.inj (gPowType.symm.trans ht3)
  unfold Tab Lib.TabIs
  rw [hvar, ← Lib.cells_of_tab (zs := Lib.pow10Tab) Tryz.underlying144 Tryz.underlying138 cellsU64 cellsPow hd]
section
variable {H : Type} {enc : TypeId × Value → H} {P : Program}
/-- the last step of a row whose call has turned nothing that was there -/
theorem post_of_below {f : Func} {s : ChangeSpec} {apart fresh handsOn again : Bool} {W W' : World} {args : Array Value} {v : Value} {ds gs : List (DataW H)} {before pa pv : List MemPlace}
    (hW : DataW.Whole enc P f.params.toList s.vars apart W args.toList ds gs before)
    (hres : ∀ (b : Nat) (sp : Nat → Bool) (hd : Bool), DataW.TrodAll enc P W' b sp hd f.resultTypes.toList (v.resultList f.resultTypes.size) (s.fn H (ds ++ gs)).results [])
    (hargs : ∀ sp : Nat → Bool, (∀ p ∈ before, sp p.block = true) → DataW.TrodAll enc P W' 0 sp true f.params.toList args.toList (s.fn H (ds ++ gs)).args pa)
    (hvars : ∀ sp : Nat → Bool, (∀ p ∈ before, sp p.block = true) → DataW.TrodVars enc P W' sp s.vars (s.fn H (ds ++ gs)).vars pv)
    (hps : before = pa ++ pv) (hb : Below W.heap.size W W')
    (hok : ∀ (j : Nat) (t : TypeId) (r : Value), f.resultTypes[j]? = some t → (v.resultList f.resultTypes.size)[j]? = some r → Value.okWide P W' .any 0 t r) :
    s.post enc P f apart fresh handsOn again W args v W' := by
  have hin : ∀ p ∈ before, p.block < W.heap.size := fun p hp => hW.lt p hp
  have hsp : ∀ p ∈ before, (fun b => decide (b < W.heap.size)) p.block = true := fun p hp => decide_eq_true (hin p hp)
  refine ⟨ds, gs, before, [], pa, pv, hW, hres _ _ _, hargs _ hsp, hvars _ hsp, World.keptBut_mono (fun p hp => ⟨hp, .inr (by rw [hps] at hp; exact List.mem_append.1 hp)⟩) (hb.frame (· ∈ before)), fun _ => ?_⟩
  obtain ⟨_, _, _, _, _, hz, hn⟩ := hW
  refine ⟨hok, _, _, ([] ++ pa) ++ pv, ⟨[] ++ pa, pv, trodAll_append (hargs _ (fun _ _ => rfl)) (hres _ _ _), hvars _ (fun _ _ => rfl), rfl, fun b off hp => ?_, fun ha => ?_⟩, fun p hp _ => by rw [hps]; simpa using hp⟩
  · have hp' : MemPlace.cell b off ∈ before := by rw [hps]; simpa using hp
    rw [hb.frozen (hin _ hp')]
    exact hz b off hp'
  · have := hn ha
    rw [hps] at this
    simpa using this
end
/-- a block of these integers -/
def filled (k : IntKind) (zs : List Int) : Obj → Obj
  | .cells _ t frozen => .cells (zs.map fun z => Value.int k z).toArray t frozen
  | o => o
def tab32 : List Int := [0, 1, 28, 2, 29, 14, 24, 3, 30, 22, 20, 15, 25, 17, 4, 8, 31, 27, 13, 23, 21, 19, 16, 7, 26, 12, 18, 6, 11, 5, 10, 9]
def tab64 : List Int := [0, 1, 56, 2, 57, 49, 28, 3, 61, 58, 42, 50, 38, 29, 17, 4, 62, 47, 59, 36, 45, 43, 51, 22, 53, 39, 33, 30, 24, 18, 12, 5, 63, 55, 48, 27, 60, 41, 37, 16, 46, 35, 44, 21, 52, 32, 23, 11, 54, 26, 40, 15, 34, 20, 31, 10, 25, 14, 19, 9, 13, 8, 7, 6]
/-- a world that holds the listed tables as their initialisers lay them -/
noncomputable def laidWorld (os : Os) : World :=
  { World.holding Tryz.prog os ⟨#[], #[], []⟩ with heap := (((World.holding Tryz.prog os ⟨#[], #[], []⟩).heap.modify 0 (filled .u64 Lib.pow10Tab)).modify 1 (filled .u8 tab32)).modify 2 (filled .u8 tab64) }
end Go.Proofs.YtjlejiphpbaonaaGreatDoor
set_option maxRecDepth 20000
namespace Go.Proofs.YtjlejiphpbaonaaGreatDoor
open Go.RowKit
/-- the slice u is nil and there are no tokens, or it is not, and reads as the tokens m -/
def Src (w : World) (u : Value) (m : List Wn.Tok) : Prop :=
  (u = .slice none 0 0 ∧ m = []) ∨ ∃ b off cap, u = .slice (some ⟨b, off, none⟩) m.length cap ∧ m.length ≤ cap ∧ cap ≤ maxLen ∧ ∀ i t, m[i]? = some t → TokIn w b (off + i * 3) t
theorem Src.toks {w : World} {u : Value} {m : List Wn.Tok} (h : Src w u m) : Toks w u m := by
  rcases h with ⟨rfl, rfl⟩ | ⟨b, off, cap, hu, h1, h2, h3⟩
  · exact Toks.nil w
  · exact ⟨_, cap, hu, h1, h2, fun i t ht => ⟨b, off, rfl, h3 i t ht⟩⟩
theorem Src.below {w w' : World} {u : Value} {m : List Wn.Tok} (h : Src w u m) (hb : Below w.heap.size w w') : Src w' u m := by
  rcases h with h | ⟨b, off, cap, hu, h1, h2, h3⟩
  · exact .inl h
  · exact .inr ⟨b, off, cap, hu, h1, h2, fun i t ht => (h3 i t ht).later hb⟩
theorem Src.ofRow {w : World} {B : Nat} {v : Value} {l : List Wn.Tok} (h : w.ownsRow B 47 3 v l.length (toksCells l)) : Src w v l := by
  obtain ⟨ao, cap, hv, h1, h2, h3⟩ := Toks.ofRow h
  rcases h.2 with ⟨hv', hn⟩ | ⟨g, cap', cur, hv', _⟩
  · exact .inl ⟨hv', List.length_eq_zero_iff.1 hn⟩
  · rw [hv'] at hv
    simp only [Value.slice.injEq] at hv
    obtain ⟨rfl, _, rfl⟩ := hv
    exact .inr ⟨g, 0, cap', hv', h1, h2, fun i t ht => by
      obtain ⟨b, off, ha, hi⟩ := h3 i t ht
      simp only [Option.some.injEq, Addr.mk.injEq] at ha
      obtain ⟨rfl, rfl, _⟩ := ha
      exact hi⟩
theorem TokIn.news {w : World} {b off : Nat} {m : List Wn.Tok} (h : ∀ i t, m[i]? = some t → TokIn w b (off + i * 3) t) (j : Nat) (u : Value) (hj : (toksCells m)[j]? = some u) : w.cell? ((⟨b, off, none⟩ : Addr).add j) = some u := by
  have hjl : j < m.length * 3 := by rw [← toksCells_length]; exact (List.getElem?_eq_some_iff.1 hj).1
  have hi : j / 3 < m.length := by omega
  have ht : m[j / 3]? = some m[j / 3] := List.getElem?_eq_getElem hi
  have hin := h _ _ ht
  obtain ⟨k0, k1, k2⟩ := toksCells_get m _ _ ht
  rw [addr_add]
  have hcase : j = j / 3 * 3 ∨ j = j / 3 * 3 + 1 ∨ j = j / 3 * 3 + 2 := by omega
  rcases hcase with hc | hc | hc
  · rw [hc] at hj; rw [k0] at hj; rw [hc, ← hj]; exact hin.c0
  · rw [hc] at hj; rw [k1] at hj; rw [hc, ← hj]; exact hin.c1
  · rw [hc] at hj; rw [k2] at hj; rw [hc, ← hj]; exact hin.c2
theorem toksCells_one (m : List Wn.Tok) : ∀ u ∈ toksCells m, u.oneCell' = true := by
  intro u hu
  simp only [toksCells, List.mem_flatMap, tokCells] at hu
  obtain ⟨t, _, hu⟩ := hu
  simp at hu
  rcases hu with rfl | rfl | rfl <;> rfl
theorem toksCells_app (l m : List Wn.Tok) : toksCells (l ++ m) = toksCells l ++ toksCells m := by simp [toksCells]
/-- tokens behind tokens -/
theorem append_toks {w : World} {ops : Array Oper} {rest : List Oper} {o : Oper} {a : Act} {Q : Exit → Act → World → Prop} (hgd : o.guard = none) (s x : Operand)
    (ho : o.op = .call { callee := .builtin .append, args := #[s, x], argTypes := #[67, 67] })
    (base : Nat) (v u : Value) (l m : List Wn.Tok) (hs : a.eval s = v) (hx : a.eval x = u) (hown : w.ownsRow base 47 3 v l.length (toksCells l)) (hU : Src w u m)
    (hlen : l.length + m.length ≤ 1048576) (hbase : base ≤ w.heap.size)
    (h : ∀ v' w', w'.ownsRow base 47 3 v' (l ++ m).length (toksCells (l ++ m)) → w.grownBy w' v.ownBlock → wpList Tryz.prog ops Q rest (a.put o.dst v') w') : wpList Tryz.prog ops Q (o :: rest) a w := by
  obtain ⟨i0, hi, hz0, hz1, hz2⟩ := info_parts info_tok
  rcases hU with ⟨rfl, rfl⟩ | ⟨b, off, cap, rfl, h1, h2, h3⟩
  · refine wpList_append_own_none hgd s x _ ho base 47 i0 3 Tryz.underlying67 hi v _ _ hs hown hx (h v w ?_ ⟨rfl, rfl, rfl, Nat.le_refl _, fun _ _ _ => rfl⟩)
    rw [List.append_nil]; exact hown
  · refine wpList_append_own _ hgd s x _ ho base 47 i0 (.agg #[.int .i64 0, .string ⟨#[]⟩, .int .i64 0]) 3 32 Tryz.underlying67 hi hz0 hz1 hz2 rfl (by decide) v _ _ hs hown ⟨b, off, none⟩ m.length cap (toksCells m) hx (toksCells_length m) (TokIn.news h3) (toksCells_one m) (by unfold maxLen; omega) (by omega) hbase ?_
    intro v' w' h1 h2 _
    refine h v' w' ?_ h2
    rw [List.length_append, toksCells_app]; exact h1
end Go.Proofs.YtjlejiphpbaonaaGreatDoor
