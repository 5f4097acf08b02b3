/- Values that may be are told apart by how they are told flat; values in a block more: plain mathematics. The verifier's second writing of nest: what Flat answers. The verifier's second writing of nest: the state of until in memory. The verifier's second writing of nest: the memory of until between the inner call and the append. The verifier's second writing of nest: what Depth answers. -/
import Derived.Test.YtbjhiimjillleaaGQ
import Derived.Test.YtbjhiimjillleaaGR
import Derived.Test.YtbjhiimjillleaaGS
set_option linter.unusedVariables false
set_option linter.unusedSimpArgs false
set_option maxRecDepth 20000
namespace Wn
theorem mayF_parse {f : Fs} (h : mayF f = true) : parse (flat f) 60 = some f := by
  unfold mayF at h
  rw [Bool.and_eq_true] at h
  exact of_decide_eq_true h.2
theorem mayF_all {f : Fs} (h : mayF f = true) : (flat f).all may = true := by
  unfold mayF at h
  rw [Bool.and_eq_true] at h
  exact h.1
theorem may_apart {a b : Fs} (ha : mayF a = true) (hb : mayF b = true) : decide (a = b) = decide (flat a = flat b) := by
  rw [Bool.eq_iff_iff]
  simp only [decide_eq_true_eq]
  refine ⟨fun h => by rw [h], fun h => ?_⟩
  have := mayF_parse ha
  rw [h, mayF_parse hb] at this
  exact (Option.some.inj this).symm
/-- is a value a last token of a kind of blocks? -/
def endsV (k k' : Int) (t : Tok) : Bool := decide (k' = 1) && (decide (t.1 = 7) && decide (t.2.1 = closeB k))
def endsF (k : Int) : Fs → Bool
  | .nil => false
  | .cons k' t _ r => endsV k k' t || endsF k r
theorem ok_in {k : Int} : ∀ {f : Fs}, Ok 0 f → endsF k f = false → Ok k f
  | .nil, _, _ => trivial
  | .cons k' t x r, h, he => by
    rw [endsF, Bool.or_eq_false_iff] at he
    refine ⟨?_, ok_in h.2 he.2⟩
    rcases h.1 with ⟨h1, h2, h3, _⟩ | h4
    · refine .inl ⟨h1, h2, h3, ?_⟩
      cases hc : closes t k
      · rfl
      · obtain ⟨_, rfl⟩ := closes_tok hc
        subst h1
        simp [endsV, dlm] at he
    · exact .inr h4
def wrapTok (k : Int) : Tok := if k = 5 then (2, [102], 0) else (0, [], 0)
theorem kind_four {k : Int} (h1 : 2 ≤ k) (h2 : k ≤ 5) : k = 2 ∨ k = 3 ∨ k = 4 ∨ k = 5 := by omega
theorem wrap_open {k : Int} (h1 : 2 ≤ k) (h2 : k ≤ 5) : isBlk k = true ∧ wrapTok k = blockTok k (opening k (wrapTok k)) ∧ kindOf (opening k (wrapTok k)) = k ∧ may (opening k (wrapTok k)) = true := by
  rcases kind_four h1 h2 with rfl | rfl | rfl | rfl <;> exact ⟨by decide, by decide, by decide, by decide +kernel⟩
theorem may_wrap {k : Int} {f : Fs} (h1 : 2 ≤ k) (h2 : k ≤ 5) (hm : mayF f = true) (he : endsF k f = false) : mayF (.cons k (wrapTok k) f .nil) = decide (depth f < 60) := by
  obtain ⟨hb, ho, hk, hmo⟩ := wrap_open h1 h2
  have hp := mayF_parse hm
  obtain ⟨l', hv⟩ := parse_some hp
  have hok : Ok 0 (.cons k (wrapTok k) f .nil) := ⟨.inr ⟨hb, ho, hk, ok_in (valsL_ok hv) he⟩, trivial⟩
  have hd : depth (.cons k (wrapTok k) f .nil) = 1 + depth f := by rw [depth_block _ _ _ hb]; simp [depth]
  have hall : (flat (.cons k (wrapTok k) f .nil)).all may = true := by
    rw [flat_block _ _ _ hb]
    simp only [List.all_cons, List.all_append, flat, List.all_nil, hmo, may_close, mayF_all hm, Bool.and_true]
  unfold mayF
  rw [hall, Bool.true_and]
  by_cases h : depth f < 60
  · rw [parse_flat hok (by omega)]; simp [h]
  · rw [parse_less hok (by omega)]; simp [h]
theorem depth_wrap {k : Int} (f : Fs) (h1 : 2 ≤ k) (h2 : k ≤ 5) : depth (.cons k (wrapTok k) f .nil) = depth f + 1 := by
  rw [depth_block _ _ _ (wrap_open h1 h2).1]; simp [depth]; omega
theorem flat_wrap {k : Int} (f : Fs) (h1 : 2 ≤ k) (h2 : k ≤ 5) : (flat (.cons k (wrapTok k) f .nil)).length = (flat f).length + 2 := by
  rw [flat_block _ _ _ (wrap_open h1 h2).1]; simp [flat]
/-- each token that is told flat is one of the values' own, or opens or closes a block -/
theorem flat_all {p : Tok → Prop} (h1 : ∀ k, p (dlm (openB k))) (h2 : ∀ k, p (dlm (closeB k))) : ∀ f : Fs, f.all p → ∀ t ∈ flat f, p t
  | .nil, _, t, ht => by simp [flat] at ht
  | .cons k t x r, h, u, hu => by
    obtain ⟨ht, hx, hr⟩ := h
    simp only [flat, List.mem_append] at hu
    rcases hu with hu | hu
    · split at hu
      · simp at hu; rw [hu]; exact ht
      · split at hu
        · simp only [List.mem_cons, List.mem_append, List.mem_singleton, List.not_mem_nil, or_false] at hu
          rcases hu with rfl | hu | rfl
          · unfold opening; split
            · exact ht
            · exact h1 k
          · exact flat_all h1 h2 x hx u hu
          · exact h2 k
        · simp at hu
    · exact flat_all h1 h2 r hr u hu
theorem all_and {p q : Tok → Prop} : ∀ {f : Fs}, f.all p → f.all q → f.all fun t => p t ∧ q t
  | .nil, _, _ => trivial
  | .cons _ _ _ _, h, g => ⟨⟨h.1, g.1⟩, all_and h.2.1 g.2.1, all_and h.2.2 g.2.2⟩
theorem all_imp {p q : Tok → Prop} (hpq : ∀ t, p t → q t) : ∀ {f : Fs}, f.all p → f.all q
  | .nil, _ => trivial
  | .cons _ _ _ _, h => ⟨hpq _ h.1, all_imp hpq h.2.1, all_imp hpq h.2.2⟩
theorem openB_len (k : Int) : (openB k).length ≤ 1 := by unfold openB; (repeat' split) <;> simp
theorem closeB_len (k : Int) : (closeB k).length ≤ 1 := by unfold closeB; (repeat' split) <;> simp
end Wn
namespace Go.Proofs.Ytbjhiimjillleaa
open Go.RowKit Go.Sort
/-- tokens that are told flat, of values whose texts are short and whose numbers are Go's -/
theorem flat_fine {f : Wn.Fs} (hs : Short100 f) (hn : FNums f) : (∀ t ∈ Wn.flat f, Fine t) ∧ ∀ t ∈ Wn.flat f, ShortTok t := by
  have h : ∀ t ∈ Wn.flat f, t.2.1.length ≤ 100 ∧ Nums t := Wn.flat_all (p := fun t => t.2.1.length ≤ 100 ∧ Nums t) (fun k => ⟨by have := Wn.openB_len k; show (Wn.openB k).length ≤ 100; omega, by unfold Nums Wn.dlm; simp⟩) (fun k => ⟨by have := Wn.closeB_len k; show (Wn.closeB k).length ≤ 100; omega, by unfold Nums Wn.dlm; simp⟩) f (Wn.all_imp (fun t ht => ⟨ht.1, ht.2.1⟩) (Wn.all_and hs hn))
  exact ⟨fun t ht => ⟨by have := (h t ht).1; omega, (h t ht).2⟩, fun t ht => ⟨by have := (h t ht).1; omega, (h t ht).2⟩⟩
end Go.Proofs.Ytbjhiimjillleaa
set_option linter.unusedVariables false
set_option linter.unusedSimpArgs false
set_option maxRecDepth 20000
namespace Go.Proofs.Ytbjhiimjillleaa
open Go.RowKit Go.Sort
theorem tsrc_new {w : World} {g : Nat} (hg : g = w.heap.size) (t : Wn.Tok) (x : ByteArray) (hx : Wn.str t.2.1 = x) : TSrc (w.alloc (.cells #[.int .i64 t.1, .string x, .int .i64 t.2.2] 75)) (.slice (some ⟨g, 0, none⟩) 1 1) [t] := by
  subst hg hx
  exact (Toks.mk1 w t).tsrc (fun n c h => by simp at h)
/-- the state of Flat -/
structure FMid (w wr : World) (r : Value) (ac : List Wn.Tok) : Prop where
  own : wr.ownsRow w.heap.size 75 3 r ac.length (toksCells ac)
  below : Below w.heap.size w wr
theorem FMid.later {w wr wr' : World} {r : Value} {ac : List Wn.Tok} (h : FMid w wr r ac) (hb : Below wr.heap.size wr wr') : FMid w wr' r ac := ⟨ownsRow_later h.own hb, h.below.trans (hb.mono h.below.size)⟩
theorem FMid.next {w wr wr' : World} {r r' : Value} {ac ac' : List Wn.Tok} (h : FMid w wr r ac) (hg : wr.grownBy wr' r.ownBlock) (ho : wr'.ownsRow w.heap.size 75 3 r' ac'.length (toksCells ac')) : FMid w wr' r' ac' :=
  ⟨ho, Below.grown h.below hg h.below.size (fun k hk => (h.own.lt k hk).1)⟩
end Go.Proofs.Ytbjhiimjillleaa
set_option linter.unusedVariables false
set_option linter.unusedSimpArgs false
set_option maxRecDepth 20000
namespace Wn
theorem openK_zero {t : Tok} : openK t = 0 ↔ kindOf t = 1 := by
  unfold openK
  rcases kindOf_cases t with h | ⟨h, h'⟩
  · simp [h]
  · rw [if_neg (by omega)]; omega
theorem openK_blk {t : Tok} (h : ¬ kindOf t = 1) : openK t = kindOf t := by unfold openK; rw [if_neg h]
/-- a kind that until is called with -/
def KindOk (k : Int) : Prop := k = 0 ∨ (2 ≤ k ∧ k ≤ 5)
theorem closes_last {t : Tok} {k : Int} (hk : KindOk k) : closes t k = (decide (0 < k) && lastOf t k) := by
  unfold closes lastOf
  congr 1
  unfold isBlk
  rcases hk with rfl | ⟨h1, h2⟩
  · rfl
  · rw [Bool.eq_iff_iff]; simp; omega
end Wn
namespace Go.Proofs.Ytbjhiimjillleaa
open Go.RowKit Go.Sort
theorem own_slice {w : World} {base : Nat} {e : TypeId} {size : Nat} {v : Value} {n : Nat} {xs : List Value} (h : w.ownsRow base e size v n xs) : ∃ ao m c, v = .slice ao m c := by
  rcases h.2 with ⟨hv, _⟩ | ⟨g, cap, cur, hv, _⟩
  · exact ⟨_, _, _, hv⟩
  · exact ⟨_, _, _, hv⟩
/-- what until leaves -/
def GPost (w : World) (n : Nat) (res : Option (Wn.Fs × List Wn.Tok)) (e : Ending) (w' : World) : Prop :=
  Below w.heap.size w w' ∧ match res with
  | some p => ∃ r, e = .returned (.agg #[r, .int .i64 ((n : Int) - p.2.length), .bool false]) ∧ ValsP w' (fun b => w.heap.size ≤ b) r p.1
  | none => ∃ ao c d to, e = .returned (.agg #[.slice ao c d, .int .i64 to, .bool true])
def GSaid (l : List Wn.Tok) (N : Nat) : Prop := ∀ (k : Int) (left : Nat) (i : Nat) (v : Value) (w : World) (a b : Int), Wn.KindOk k → left ≤ 1000 → i ≤ l.length → l.length - i < N → Toks w v l → a = i → b = left →
  Calls Try.prog 34 #[v, .int .i64 a, .int .i64 k, .int .i64 b] w (GPost w l.length (Wn.valsL k left (l.drop i)))
/-- the state of until -/
structure GM (w W : World) (r : Value) (to : Int) (es : List (Int × Wn.Tok × Value)) (acc : Wn.Fs) : Prop where
  below : Below w.heap.size w W
  res : W.heap[w.heap.size]? = some (.cells #[.slice none 0 0, .int .i64 0, .bool false] 72)
  g : W.heap[w.heap.size + 1]? = some (.cells #[r, .int .i64 to, .bool false] 72)
  own : W.ownsRow (w.heap.size + 2) 80 5 r es.length (valsCells es)
  row : Row W (fun b => w.heap.size + 2 ≤ b ∧ r.ownBlock ≠ some b) es acc
section
variable {w W W' : World} {r : Value} {to : Int} {es : List (Int × Wn.Tok × Value)} {acc : Wn.Fs}
theorem GM.size (h : GM w W r to es acc) : w.heap.size + 2 ≤ W.heap.size := by have := block_lt h.g; omega
theorem GM.later (h : GM w W r to es acc) (hb : Below W.heap.size W W') : GM w W' r to es acc :=
  ⟨h.below.trans (hb.mono h.below.size), block_lat hb h.res, block_lat hb h.g, ownsRow_later h.own hb, h.row.same (fun b _ hl => hb.block b hl) (fun _ h _ => h)⟩
theorem GM.sl (h : GM w W r to es acc) : ∃ ao n c, r = .slice ao n c := by
  rcases h.own.2 with ⟨hv, _⟩ | ⟨g, cap, cur, hv, _⟩
  · exact ⟨_, _, _, hv⟩
  · exact ⟨_, _, _, hv⟩
/-- the place moves on -/
theorem GM.move (h : GM w W r to es acc) (to' : Int) : GM w (W.setCell ⟨w.heap.size + 1, 1, none⟩ (.int .i64 to')) r to' es acc := by
  have hg : W.grownBy (W.setCell ⟨w.heap.size + 1, 1, none⟩ (.int .i64 to')) (some (w.heap.size + 1)) := ⟨rfl, rfl, rfl, by simp [World.setCell], fun k _ hk => Below.heap_setCell _ _ _ _ (by show k ≠ w.heap.size + 1; intro e; exact hk (by rw [e]))⟩
  refine ⟨h.below.setCell (p := ⟨w.heap.size + 1, 1, none⟩) (Nat.le_succ _) _, ?_, ?_, h.own.kept hg (Or.inr (fun e => by have := (h.own.lt _ e).1; omega)), h.row.same (fun b hb _ => Below.heap_setCell _ _ _ _ (by show b ≠ w.heap.size + 1; have := hb.1; omega)) (fun _ h _ => h)⟩
  · rw [Below.heap_setCell _ _ _ _ (by show w.heap.size ≠ w.heap.size + 1; omega)]; exact h.res
  · simp [World.setCell, Array.getElem?_modify, h.g]
/-- one value more, its row put back -/
theorem GM.next (h : GM w W r to es acc) {k : Int} {t : Wn.Tok} {u r' : Value} {x : Wn.Fs} {base : Nat} (hu : ValsP W (fun b => base ≤ b) u x) (hb1 : w.heap.size + 2 ≤ base) (hb2 : ∀ b, r.ownBlock = some b → b < base)
    (hown : W'.ownsRow (w.heap.size + 2) 80 5 r' (es.length + 1) (valsCells es ++ valCells (k, t, u))) (hgr : W.grownBy W' r.ownBlock) (hat : r'.ownBlock = r.ownBlock ∨ ∃ n, W.heap.size ≤ n ∧ r'.ownBlock = some n) :
    GM w (W'.setCell ⟨w.heap.size + 1, 0, none⟩ r') r' to (es ++ [(k, t, u)]) (acc.app (.cons k t x .nil)) := by
  have hlt := h.size
  have hav : ∀ b, b < W.heap.size → r.ownBlock ≠ some b → r'.ownBlock ≠ some b := fun b hl hb => by
    rcases hat with e | ⟨n, hn, e⟩
    · rw [e]; exact hb
    · rw [e]; intro e'; simp at e'; omega
  have n0 : some w.heap.size ≠ r.ownBlock := fun e => by have := (h.own.lt _ e.symm).1; omega
  have n1 : some (w.heap.size + 1) ≠ r.ownBlock := fun e => by have := (h.own.lt _ e.symm).1; omega
  have hg1 := (hgr.block (w.heap.size + 1) (by omega) n1).trans h.g
  have hset : ∀ b, b ≠ w.heap.size + 1 → (W'.setCell ⟨w.heap.size + 1, 0, none⟩ r').heap[b]? = W'.heap[b]? := fun b hb => Below.heap_setCell _ _ _ _ hb
  have hg2 : W'.grownBy (W'.setCell ⟨w.heap.size + 1, 0, none⟩ r') (some (w.heap.size + 1)) := ⟨rfl, rfl, rfl, by simp [World.setCell], fun k _ hk => hset k (fun e => hk (by rw [e]))⟩
  refine ⟨(Below.grown h.below hgr h.below.size (fun k hk => by have := (h.own.lt k hk).1; omega)).setCell (p := ⟨w.heap.size + 1, 0, none⟩) (Nat.le_succ _) _, ?_, ?_, ?_, ?_⟩
  · rw [hset _ (by omega)]; exact (hgr.block _ (by omega) n0).trans h.res
  · simp [World.setCell, Array.getElem?_modify, hg1]
  · rw [List.length_append, valsCells_snoc]
    exact hown.kept hg2 (Or.inr (fun e => by have := (hown.lt _ e).1; omega))
  · refine Row.snoc (ok := fun b => w.heap.size + 2 ≤ b ∧ r'.ownBlock ≠ some b) ?_ (h.row.same (fun b hb hl => (hset b (by have := hb.1; omega)).trans (hgr.block b hl (fun e => hb.2 e.symm))) (fun b hb hl => ⟨hb.1, hav b hl hb.2⟩))
    have hx : ∀ b, base ≤ b → r.ownBlock ≠ some b := fun b hb e => by have := hb2 b e; omega
    exact hu.same (fun b hb hl => (hset b (by omega)).trans (hgr.block b hl (fun e => hx b hb e.symm))) (fun b hb hl => ⟨by omega, hav b hl (hx b hb)⟩)
/-- all but the block of the state is as it was -/
theorem GM.jump (h : GM w W r to es acc) {to' : Int} (hb : Below w.heap.size w W') (hz : W.heap.size ≤ W'.heap.size) (hs : ∀ b, b < W.heap.size → b ≠ w.heap.size + 1 → W'.heap[b]? = W.heap[b]?) (hg : W'.heap[w.heap.size + 1]? = some (.cells #[r, .int .i64 to', .bool false] 72)) (ho : W'.os = W.os) (ht : W'.tape = W.tape) (hu : W'.output = W.output) : GM w W' r to' es acc := by
  have hsz := h.size
  exact ⟨hb, (hs _ (by omega) (by omega)).trans h.res, hg, h.own.kept (row := some (w.heap.size + 1)) ⟨ho, ht, hu, hz, fun k hk hne => hs k hk (fun e => hne (by rw [e]))⟩ (Or.inr (fun e => by have := (h.own.lt _ e).1; omega)), h.row.same (fun b hb hl => hs b hl (by have := hb.1; omega)) (fun _ h _ => h)⟩
theorem GM.vals (h : GM w W r to es acc) : ValsP W (fun b => w.heap.size + 2 ≤ b) r acc := ValsP.ofRow h.own (h.row.same (fun _ _ _ => rfl) (fun _ h _ => h.1)) (fun _ h => h)
end
theorem gm_start (w : World) (a : Int) : GM w ((w.alloc (.cells #[.slice none 0 0, .int .i64 0, .bool false] 72)).alloc (.cells #[.slice none 0 0, .int .i64 a, .bool false] 72)) (.slice none 0 0) a [] .nil := by
  have hz : (w.alloc (.cells #[.slice none 0 0, .int .i64 0, .bool false] 72)).heap.size = w.heap.size + 1 := by simp
  refine ⟨((Below.refl _ _).alloc (Nat.le_refl _) _).alloc (by simp) _, block_alloc (heap_alloc_new w _) _, ?_, World.ownsRow_nil _ _ _ _, trivial⟩
  have := heap_alloc_new (w.alloc (.cells #[.slice none 0 0, .int .i64 0, .bool false] 72)) (.cells #[.slice none 0 0, .int .i64 a, .bool false] 72)
  rw [hz] at this; exact this
abbrev set3 (w : World) (b : Nat) (a0 a1 a2 : Value) : World := ((w.setCell ⟨b, 0, none⟩ a0).setCell ⟨b, 1, none⟩ a1).setCell ⟨b, 2, none⟩ a2
theorem set3_block {w : World} {b k : Nat} (h : k ≠ b) (a0 a1 a2 : Value) : (set3 w b a0 a1 a2).heap[k]? = w.heap[k]? := by
  unfold set3
  rw [Below.heap_setCell _ _ _ _ h, Below.heap_setCell _ _ _ _ h, Below.heap_setCell _ _ _ _ h]
theorem Below.set3 {B : Nat} {a w : World} (h : Below B a w) {b : Nat} (hb : B ≤ b) (a0 a1 a2 : Value) : Below B a (set3 w b a0 a1 a2) :=
  ((h.setCell (p := ⟨b, 0, none⟩) hb _).setCell (p := ⟨b, 1, none⟩) hb _).setCell (p := ⟨b, 2, none⟩) hb _
theorem GM.leave {w W : World} {r : Value} {to : Int} {es : List (Int × Wn.Tok × Value)} {acc : Wn.Fs} (h : GM w W r to es acc) (a0 a1 a2 : Value) : Below w.heap.size w (set3 W w.heap.size a0 a1 a2) ∧ ValsP (set3 W w.heap.size a0 a1 a2) (fun b => w.heap.size ≤ b) r acc :=
  ⟨Below.set3 h.below (Nat.le_refl _) _ _ _, h.vals.same (fun b hb _ => set3_block (by omega) _ _ _) (fun b hb _ => by omega)⟩
/-- the place in block g -/
def toOf (g : Nat) (w : World) : Nat := match w.cell? ⟨g, 1, none⟩ with | some (.int _ n) => n.toNat | _ => 0
theorem toOf_at {w W : World} {r : Value} {to : Int} {es : List (Int × Wn.Tok × Value)} {acc : Wn.Fs} (h : GM w W r to es acc) : toOf (w.heap.size + 1) W = to.toNat := by
  unfold toOf; rw [cell_of_block (o := 1) h.g]; rfl
end Go.Proofs.Ytbjhiimjillleaa
set_option linter.unusedVariables false
set_option linter.unusedSimpArgs false
set_option maxRecDepth 20000
namespace Go.Proofs.Ytbjhiimjillleaa
open Go.RowKit Go.Sort
/-- memory behind the inner call: w3: where the value was laid; w5: behind the call; its block holds cv, the state's cg, the answer's cx -/
structure UJ (w w3 w5 W : World) (cx cv cg : Array Value) : Prop where
  ne : w.heap.size + 1 < w3.heap.size
  lt : w3.heap.size < w5.heap.size
  below : Below w.heap.size w W
  size : w5.heap.size + 1 ≤ W.heap.size
  same : ∀ b, b ≠ w.heap.size + 1 → b ≠ w3.heap.size → b < w5.heap.size → W.heap[b]? = w5.heap[b]?
  os : W.os = w5.os
  tape : W.tape = w5.tape
  output : W.output = w5.output
  x : W.heap[w5.heap.size]? = some (.cells cx 72)
  v : W.heap[w3.heap.size]? = some (.cells cv 80)
  g : W.heap[w.heap.size + 1]? = some (.cells cg 72)
section
variable {w w3 w5 W : World} {cx cv cg : Array Value}
theorem heap_set_at {W : World} {b o : Nat} {c : Array Value} {T : TypeId} (h : W.heap[b]? = some (.cells c T)) (a : Value) : (W.setCell ⟨b, o, none⟩ a).heap[b]? = some (.cells (c.setIfInBounds o a) T) := by
  simp [World.setCell, Array.getElem?_modify, h]
theorem size_set (W : World) (p : Addr) (a : Value) : (W.setCell p a).heap.size = W.heap.size := by simp [World.setCell]
theorem UJ.start (hne : w.heap.size + 1 < w3.heap.size) (hlt : w3.heap.size < w5.heap.size) (hb : Below w.heap.size w w5) (hv : w5.heap[w3.heap.size]? = some (.cells cv 80)) (hg : w5.heap[w.heap.size + 1]? = some (.cells cg 72)) : UJ w w3 w5 (w5.alloc (.cells cx 72)) cx cv cg :=
  ⟨hne, hlt, hb.alloc hb.size _, by simp, fun b _ _ hl => Below.heap_alloc _ _ b hl, rfl, rfl, rfl, heap_alloc_new _ _, block_alloc hv _, block_alloc hg _⟩
theorem UJ.setV (h : UJ w w3 w5 W cx cv cg) (o : Nat) (a : Value) : UJ w w3 w5 (W.setCell ⟨w3.heap.size, o, none⟩ a) cx (cv.setIfInBounds o a) cg :=
  ⟨h.ne, h.lt, h.below.setCell (p := ⟨w3.heap.size, o, none⟩) (by have := h.ne; show w.heap.size ≤ w3.heap.size; omega) _, by rw [size_set]; exact h.size, fun b h1 h2 h3 => (Below.heap_setCell _ _ _ _ h2).trans (h.same b h1 h2 h3), h.os, h.tape, h.output,
    (Below.heap_setCell _ _ _ _ (by show w5.heap.size ≠ w3.heap.size; have := h.lt; omega)).trans h.x, heap_set_at h.v a, (Below.heap_setCell _ _ _ _ (by show w.heap.size + 1 ≠ w3.heap.size; have := h.ne; omega)).trans h.g⟩
theorem UJ.setG (h : UJ w w3 w5 W cx cv cg) (o : Nat) (a : Value) : UJ w w3 w5 (W.setCell ⟨w.heap.size + 1, o, none⟩ a) cx cv (cg.setIfInBounds o a) :=
  ⟨h.ne, h.lt, h.below.setCell (p := ⟨w.heap.size + 1, o, none⟩) (Nat.le_succ _) _, by rw [size_set]; exact h.size, fun b h1 h2 h3 => (Below.heap_setCell _ _ _ _ h1).trans (h.same b h1 h2 h3), h.os, h.tape, h.output,
    (Below.heap_setCell _ _ _ _ (by show w5.heap.size ≠ w.heap.size + 1; have := h.lt; have := h.ne; omega)).trans h.x, (Below.heap_setCell _ _ _ _ (by show w3.heap.size ≠ w.heap.size + 1; have := h.ne; omega)).trans h.v, heap_set_at h.g a⟩
theorem UJ.val {u : Value} {xs : Wn.Fs} (h : UJ w w3 w5 W cx cv cg) (hu : ValsP w5 (fun b => w3.heap.size + 1 ≤ b) u xs) : ValsP W (fun b => w3.heap.size + 1 ≤ b) u xs :=
  hu.same (fun b hb hl => h.same b (by have := h.ne; omega) (by omega) hl) (fun _ h _ => h)
theorem UJ.tok {b o : Nat} {t : Wn.Tok} (h : UJ w w3 w5 W cx cv cg) (ht : TokIn w5 b o t) (h1 : b ≠ w.heap.size + 1) (h2 : b ≠ w3.heap.size) : TokIn W b o t := by
  have hb := h.same b h1 h2 ht.lt
  have e : ∀ o, W.cell? ⟨b, o, none⟩ = w5.cell? ⟨b, o, none⟩ := fun o => by simp [World.cell?, hb]
  exact ⟨(e _).trans ht.c0, (e _).trans ht.c1, (e _).trans ht.c2⟩
theorem UJ.mid {r : Value} {to : Int} {es : List (Int × Wn.Tok × Value)} {acc : Wn.Fs} {to' : Int} (h : UJ w w3 w5 W cx cv #[r, .int .i64 to', .bool false]) (hm : GM w w3 r to es acc) (h35 : Below w3.heap.size w3 w5) : GM w W r to' es acc :=
  hm.jump h.below (by have := h.lt; have := h.size; omega) (fun b hl hne => (h.same b hne (by omega) (by have := h.lt; omega)).trans (h35.block b hl)) h.g (h.os.trans h35.os) (h.tape.trans h35.tape) (h.output.trans h35.output)
end
end Go.Proofs.Ytbjhiimjillleaa
set_option linter.unusedVariables false
set_option linter.unusedSimpArgs false
set_option maxRecDepth 20000
namespace Go.Proofs.Ytbjhiimjillleaa
open Go.RowKit Go.Sort
end Go.Proofs.Ytbjhiimjillleaa
