/- Values within values, as the document has them: how they are told flat, how deep they are, how they are parsed. Plain mathematics. Values in memory. What nest.delim, isBlock, fences answer; what is looked up in the map of fences. What the parser's closes and kindOf answer. What the parser's kindOf answers. -/
import Derived.Test.YtjlejiphpbaonaaGreatDoorGH
import Derived.Maps.AppendAt
import Derived.Maps.OwnSet
import Derived.Carry
import Derived.Lib.QuietBelow
set_option linter.unusedVariables false
set_option linter.unusedSimpArgs false
set_option maxRecDepth 20000
namespace Wn
/-- values: none; or one (its kind, its token, the values in it), and those behind it -/
inductive Fs where
  | nil : Fs
  | cons (k : Int) (t : Tok) (kids rest : Fs) : Fs
  deriving DecidableEq
namespace Fs
def len : Fs → Nat
  | .nil => 0
  | .cons _ _ _ r => r.len + 1
def drop : Nat → Fs → Fs
  | 0, f => f
  | _ + 1, .nil => .nil
  | n + 1, .cons _ _ _ r => r.drop n
def app : Fs → Fs → Fs
  | .nil, g => g
  | .cons k t x r, g => .cons k t x (r.app g)
/-- how many values there are, all of them -/
def size : Fs → Nat
  | .nil => 0
  | .cons _ _ x r => x.size + r.size + 1
/-- each token of each value, whatever its kind -/
def all (p : Tok → Prop) : Fs → Prop
  | .nil => True
  | .cons _ t x r => p t ∧ x.all p ∧ r.all p
theorem app_nil : ∀ f : Fs, f.app .nil = f
  | .nil => rfl
  | .cons k t x r => by rw [app, app_nil r]
theorem app_assoc : ∀ f g h : Fs, (f.app g).app h = f.app (g.app h)
  | .nil, _, _ => rfl
  | .cons k t x r, g, h => by rw [app, app, app, app_assoc r g h]
theorem len_app : ∀ f g : Fs, (f.app g).len = f.len + g.len
  | .nil, g => by simp [app, len]
  | .cons k t x r, g => by rw [app, len, len, len_app r g]; omega
theorem len_zero {f : Fs} (h : f.len = 0) : f = .nil := by cases f with | nil => rfl | cons => simp [len] at h
theorem len_le_size : ∀ f : Fs, f.len ≤ f.size
  | .nil => Nat.le_refl _
  | .cons _ _ x r => by have := len_le_size r; simp only [len, size]; omega
theorem drop_zero (f : Fs) : f.drop 0 = f := by cases f <;> rfl
theorem drop_cons {f : Fs} {i : Nat} (h : i < f.len) : ∃ k t x, f.drop i = .cons k t x (f.drop (i + 1)) := by
  induction f generalizing i with
  | nil => simp [len] at h
  | cons k t x r ih1 ih2 =>
    cases i with
    | zero => exact ⟨k, t, x, by rw [drop_zero, drop, drop_zero]⟩
    | succ i => obtain ⟨k', t', x', e⟩ := ih2 (i := i) (by simpa [len] using h); exact ⟨k', t', x', by rw [drop, e, drop]⟩
theorem drop_len {f : Fs} {i : Nat} (h : f.len ≤ i) : f.drop i = .nil := by
  induction f generalizing i with
  | nil => cases i <;> rfl
  | cons k t x r ih1 ih2 =>
    cases i with
    | zero => simp [len] at h
    | succ i => rw [drop]; exact ih2 (by simpa [len] using h)
theorem len_drop (f : Fs) (i : Nat) : (f.drop i).len = f.len - i := by
  induction f generalizing i with
  | nil => cases i <;> simp [drop, len]
  | cons k t x r ih1 ih2 =>
    cases i with
    | zero => rfl
    | succ i => rw [drop, ih2, len]; omega
end Fs
def isBlk (k : Int) : Bool := decide (2 ≤ k) && decide (k ≤ 5)
/-- the byte that opens a block of a kind, and the one that closes it -/
def openB (k : Int) : List UInt8 := if k = 2 then [40] else if k = 3 then [91] else if k = 4 then [123] else []
def closeB (k : Int) : List UInt8 := if k = 3 then [93] else if k = 4 then [125] else [41]
def dlm (x : List UInt8) : Tok := (7, x, 0)
def opening (k : Int) (t : Tok) : Tok := if k = 5 then t else dlm (openB k)
def flat : Fs → List Tok
  | .nil => []
  | .cons k t x r => (if k = 1 then [t] else if isBlk k then opening k t :: (flat x ++ [dlm (closeB k)]) else []) ++ flat r
def depth : Fs → Nat
  | .nil => 0
  | .cons k _ x r => max (if isBlk k then 1 + depth x else 0) (depth r)
/-- the kind of the block that a token opens; 1: none -/
def kindOf (t : Tok) : Int := if t.1 = 2 then 5 else if t = dlm [40] then 2 else if t = dlm [91] then 3 else if t = dlm [123] then 4 else 1
def closes (t : Tok) (k : Int) : Bool := isBlk k && decide (t = dlm (closeB k))
def blockTok (k : Int) (t : Tok) : Tok := if k = 5 then t else (0, [], 0)
/-- the values of tokens up to the one that closes a block of kind k (another kind: to their end), and the tokens behind; none: a block lies in too many; n bounds how many tokens there are -/
def vals : Nat → Int → Nat → List Tok → Option (Fs × List Tok)
  | _, _, _, [] => some (.nil, [])
  | 0, _, _, _ :: _ => some (.nil, [])
  | n + 1, k, left, t :: l =>
    if closes t k then some (.nil, l)
    else if kindOf t = 1 then (vals n k left l).map fun p => (.cons 1 t .nil p.1, p.2)
    else if left = 0 then none
    else match vals n (kindOf t) (left - 1) l with
      | none => none
      | some q => (vals n k left q.2).map fun p => (.cons (kindOf t) (blockTok (kindOf t) t) q.1 p.1, p.2)
/-- values of tokens, with so many levels -/
def parse (l : List Tok) (deep : Nat) : Option Fs := (vals l.length 0 deep l).map (·.1)
theorem vals_rest : ∀ (n : Nat) (k : Int) (left : Nat) (l : List Tok) (p : Fs × List Tok), vals n k left l = some p → p.2.length ≤ l.length ∧ p.2 <:+ l
  | n, k, left, [], p, h => by
    cases n <;> (simp [vals] at h; subst h; simp)
  | 0, k, left, t :: l, p, h => by
    simp [vals] at h; subst h; exact ⟨by simp, List.nil_suffix⟩
  | n + 1, k, left, t :: l, p, h => by
    rw [vals] at h
    split at h
    · simp at h; subst h; exact ⟨by simp, List.suffix_cons _ _⟩
    · split at h
      · rw [Option.map_eq_some_iff] at h
        obtain ⟨q, hq, rfl⟩ := h
        have := vals_rest n k left l q hq
        exact ⟨by simp; omega, this.2.trans (List.suffix_cons _ _)⟩
      · split at h
        · cases h
        · cases h1 : vals n (kindOf t) (left - 1) l with
          | none => rw [h1] at h; cases h
          | some q =>
            rw [h1] at h
            dsimp only at h
            rw [Option.map_eq_some_iff] at h
            obtain ⟨r, hr, rfl⟩ := h
            have a := vals_rest n _ _ l _ h1
            have b := vals_rest n k left q.2 r hr
            exact ⟨by have := a.1; have := b.1; simp only [List.length_cons]; omega, (b.2.trans a.2).trans (List.suffix_cons _ _)⟩
theorem vals_more : ∀ (n m : Nat) (k : Int) (left : Nat) (l : List Tok), l.length ≤ n → l.length ≤ m → vals n k left l = vals m k left l
  | n, m, k, left, [], _, _ => by cases n <;> cases m <;> rfl
  | 0, m, k, left, t :: l, h, _ => by simp at h
  | n + 1, 0, k, left, t :: l, _, h => by simp at h
  | n + 1, m + 1, k, left, t :: l, h1, h2 => by
    simp only [List.length_cons] at h1 h2
    rw [vals, vals]
    have e1 : ∀ k left, vals n k left l = vals m k left l := fun k left => vals_more n m k left l (by omega) (by omega)
    split
    · rfl
    · split
      · rw [e1]
      · split
        · rfl
        · rw [e1]
          cases h3 : vals m (kindOf t) (left - 1) l with
          | none => rfl
          | some q =>
            dsimp only
            have := (vals_rest m _ _ l _ h3).1
            rw [vals_more n m k left q.2 (by omega) (by omega)]
end Wn
set_option linter.unusedVariables false
set_option linter.unusedSimpArgs false
set_option maxRecDepth 20000
namespace Go.Proofs.YtjlejiphpbaonaaGreatDoor
open Go.RowKit
/-- the values f lie from this place on, five cells each: the kind, the token, the slice of the values in it; all in blocks of which ok says yes -/
def VAt (w : World) (ok : Nat → Prop) : Wn.Fs → Nat → Nat → Prop
  | .nil, _, _ => True
  | .cons k t x r, b, o => ok b ∧ w.cell? ⟨b, o, none⟩ = some (.int .i64 k) ∧ TokIn w b (o + 1) t ∧
      (∃ ao cap, w.cell? ⟨b, o + 4, none⟩ = some (.slice ao x.len cap) ∧ x.len ≤ cap ∧ cap ≤ maxLen ∧ (ao = none → cap = 0) ∧ (x ≠ .nil → ∃ b' o', ao = some ⟨b', o', none⟩ ∧ VAt w ok x b' o')) ∧ VAt w ok r b (o + 5)
/-- the slice v reads as the values f, in such blocks -/
def ValsP (w : World) (ok : Nat → Prop) (v : Value) (f : Wn.Fs) : Prop :=
  ∃ ao cap, v = .slice ao f.len cap ∧ f.len ≤ cap ∧ cap ≤ maxLen ∧ (ao = none → cap = 0) ∧ (f ≠ .nil → ∃ b o, ao = some ⟨b, o, none⟩ ∧ VAt w ok f b o)
/-- the slice v reads as the values f -/
def Vals (w : World) (v : Value) (f : Wn.Fs) : Prop := ValsP w (fun _ => True) v f
theorem ValsP.nil (w : World) (ok : Nat → Prop) : ValsP w ok (.slice none 0 0) .nil := ⟨none, 0, rfl, Nat.le_refl _, by unfold maxLen; omega, fun _ => rfl, fun h => absurd rfl h⟩
theorem Vals.nil (w : World) : Vals w (.slice none 0 0) .nil := ValsP.nil w _
theorem VAt.cons {w : World} {ok : Nat → Prop} {k : Int} {t : Wn.Tok} {x r : Wn.Fs} {b o : Nat} (h : VAt w ok (.cons k t x r) b o) :
    w.cell? ⟨b, o, none⟩ = some (.int .i64 k) ∧ TokIn w b (o + 1) t ∧ (∃ u, w.cell? ⟨b, o + 4, none⟩ = some u ∧ ValsP w ok u x) ∧ VAt w ok r b (o + 5) := by
  obtain ⟨_, h1, h2, ⟨ao, cap, h3, h4, h5, h5b, h6⟩, h7⟩ := h
  exact ⟨h1, h2, ⟨_, h3, ao, cap, rfl, h4, h5, h5b, h6⟩, h7⟩
theorem VAt.mk {w : World} {ok : Nat → Prop} {k : Int} {t : Wn.Tok} {x r : Wn.Fs} {b o : Nat} {u : Value} (h0 : ok b) (h1 : w.cell? ⟨b, o, none⟩ = some (.int .i64 k)) (h2 : TokIn w b (o + 1) t) (h3 : w.cell? ⟨b, o + 4, none⟩ = some u) (h4 : ValsP w ok u x) (h5 : VAt w ok r b (o + 5)) : VAt w ok (.cons k t x r) b o := by
  obtain ⟨ao, cap, rfl, c1, c2, c2b, c3⟩ := h4
  exact ⟨h0, h1, h2, ⟨ao, cap, h3, c1, c2, c2b, c3⟩, h5⟩
/-- where such blocks are as they were, and more of them may be -/
theorem VAt.same {w w' : World} {ok ok' : Nat → Prop} (hs : ∀ b, ok b → b < w.heap.size → w'.heap[b]? = w.heap[b]?) (hok : ∀ b, ok b → b < w.heap.size → ok' b) : ∀ {f : Wn.Fs} {b o : Nat}, VAt w ok f b o → VAt w' ok' f b o
  | .nil, _, _, _ => trivial
  | .cons k t x r, b, o, ⟨h0, h1, h2, ⟨ao, cap, h3, h4, h5, h5b, h6⟩, h7⟩ => by
    have hc : ∀ q, w'.cell? ⟨b, q, none⟩ = w.cell? ⟨b, q, none⟩ := fun q => World.cell?_of_block (a := ⟨b, q, none⟩) (hs b h0 h2.lt)
    exact ⟨hok b h0 h2.lt, (hc o).trans h1, ⟨(hc _).trans h2.c0, (hc _).trans h2.c1, (hc _).trans h2.c2⟩, ⟨ao, cap, (hc _).trans h3, h4, h5, h5b, fun hx => let ⟨b', o', ha, hv⟩ := h6 hx; ⟨b', o', ha, VAt.same hs hok hv⟩⟩, VAt.same hs hok h7⟩
theorem ValsP.same {w w' : World} {ok ok' : Nat → Prop} {v : Value} {f : Wn.Fs} (h : ValsP w ok v f) (hs : ∀ b, ok b → b < w.heap.size → w'.heap[b]? = w.heap[b]?) (hok : ∀ b, ok b → b < w.heap.size → ok' b) : ValsP w' ok' v f := by
  obtain ⟨ao, cap, hv, h1, h2, h2b, h3⟩ := h
  exact ⟨ao, cap, hv, h1, h2, h2b, fun hf => let ⟨b, o, ha, hx⟩ := h3 hf; ⟨b, o, ha, hx.same hs hok⟩⟩
theorem ValsP.below {w w' : World} {ok : Nat → Prop} {v : Value} {f : Wn.Fs} (h : ValsP w ok v f) (hb : Below w.heap.size w w') : ValsP w' ok v f := h.same (fun b _ hl => hb.block b hl) (fun _ h _ => h)
theorem Vals.below {w w' : World} {v : Value} {f : Wn.Fs} (h : Vals w v f) (hb : Below w.heap.size w w') : Vals w' v f := ValsP.below h hb
theorem ValsP.any {w : World} {ok : Nat → Prop} {v : Value} {f : Wn.Fs} (h : ValsP w ok v f) : Vals w v f := h.same (fun _ _ _ => rfl) (fun _ _ _ => trivial)
theorem ValsP.mono {w : World} {ok ok' : Nat → Prop} {v : Value} {f : Wn.Fs} (h : ValsP w ok v f) (hok : ∀ b, ok b → b < w.heap.size → ok' b) : ValsP w ok' v f := h.same (fun _ _ _ => rfl) hok
theorem VAt.drop {w : World} {ok : Nat → Prop} : ∀ {f : Wn.Fs} {b o : Nat} (i : Nat), VAt w ok f b o → VAt w ok (f.drop i) b (o + i * 5)
  | f, b, o, 0, h => by rw [Wn.Fs.drop_zero]; simpa using h
  | .nil, b, o, i + 1, h => by simp [Wn.Fs.drop, VAt]
  | .cons k t x r, b, o, i + 1, h => by
    have := VAt.drop i h.cons.2.2.2
    rw [Wn.Fs.drop, show o + (i + 1) * 5 = o + 5 + i * 5 by omega]; exact this
/-- the value number i -/
theorem ValsP.at {w : World} {ok : Nat → Prop} {ao : Option Addr} {n cap : Nat} {f : Wn.Fs} (h : ValsP w ok (.slice ao n cap) f) {i : Nat} {k : Int} {t : Wn.Tok} {x r : Wn.Fs} (hi : f.drop i = .cons k t x r) :
    ∃ b o, ao = some ⟨b, o, none⟩ ∧ w.cell? ⟨b, o + i * 5, none⟩ = some (.int .i64 k) ∧ TokIn w b (o + i * 5 + 1) t ∧ ∃ u, w.cell? ⟨b, o + i * 5 + 4, none⟩ = some u ∧ ValsP w ok u x := by
  obtain ⟨ao', cap', hv, h1, h2, _, h3⟩ := h
  simp only [Value.slice.injEq] at hv
  obtain ⟨rfl, rfl, rfl⟩ := hv
  have hne : f ≠ .nil := by rintro rfl; cases i <;> simp [Wn.Fs.drop] at hi
  obtain ⟨b, o, ha, hx⟩ := h3 hne
  have := VAt.drop i hx
  rw [hi] at this
  obtain ⟨c1, c2, c3, _⟩ := this.cons
  exact ⟨b, o, ha, c1, c2, c3⟩
theorem ValsP.form {w : World} {ok : Nat → Prop} {v : Value} {f : Wn.Fs} (h : ValsP w ok v f) : ∃ ao cap, v = .slice ao f.len cap ∧ f.len ≤ cap ∧ cap ≤ maxLen := by
  obtain ⟨ao, cap, hv, h1, h2, _⟩ := h
  exact ⟨ao, cap, hv, h1, h2⟩
/-- a value's five cells -/
def valCells (e : Int × Wn.Tok × Value) : List Value := [.int .i64 e.1, .int .i64 e.2.1.1, .string (Wn.str e.2.1.2.1), .int .i64 e.2.1.2.2, e.2.2]
def valsCells (es : List (Int × Wn.Tok × Value)) : List Value := es.flatMap valCells
theorem valsCells_snoc (es : List (Int × Wn.Tok × Value)) (e : Int × Wn.Tok × Value) : valsCells (es ++ [e]) = valsCells es ++ valCells e := by simp [valsCells]
/-- rows of cells that read as values -/
def Row (w : World) (ok : Nat → Prop) : List (Int × Wn.Tok × Value) → Wn.Fs → Prop
  | [], .nil => True
  | e :: es, .cons k t x r => e.1 = k ∧ e.2.1 = t ∧ ValsP w ok e.2.2 x ∧ Row w ok es r
  | _, _ => False
theorem Row.same {w w' : World} {ok ok' : Nat → Prop} (hs : ∀ b, ok b → b < w.heap.size → w'.heap[b]? = w.heap[b]?) (hok : ∀ b, ok b → b < w.heap.size → ok' b) : ∀ {es : List (Int × Wn.Tok × Value)} {f : Wn.Fs}, Row w ok es f → Row w' ok' es f
  | [], .nil, _ => trivial
  | e :: es, .cons k t x r, ⟨h1, h2, h3, h4⟩ => ⟨h1, h2, h3.same hs hok, Row.same hs hok h4⟩
theorem Row.len {w : World} {ok : Nat → Prop} : ∀ {es : List (Int × Wn.Tok × Value)} {f : Wn.Fs}, Row w ok es f → es.length = f.len
  | [], .nil, _ => rfl
  | e :: es, .cons k t x r, ⟨_, _, _, h4⟩ => by rw [List.length_cons, Row.len h4, Wn.Fs.len]
theorem Row.snoc {w : World} {ok : Nat → Prop} {k : Int} {t : Wn.Tok} {u : Value} {x : Wn.Fs} (hu : ValsP w ok u x) : ∀ {es : List (Int × Wn.Tok × Value)} {f : Wn.Fs}, Row w ok es f → Row w ok (es ++ [(k, t, u)]) (f.app (.cons k t x .nil))
  | [], .nil, _ => ⟨rfl, rfl, hu, trivial⟩
  | e :: es, .cons k' t' x' r, ⟨h1, h2, h3, h4⟩ => ⟨h1, h2, h3, Row.snoc hu h4⟩
theorem valsCells_length (es : List (Int × Wn.Tok × Value)) : (valsCells es).length = es.length * 5 := by
  induction es with
  | nil => rfl
  | cons e es ih => rw [show valsCells (e :: es) = valCells e ++ valsCells es by simp [valsCells], List.length_append, ih, List.length_cons]; simp [valCells]; omega
/-- cells of a block that are a row of values -/
theorem Row.vat {w : World} {ok : Nat → Prop} {g : Nat} (hg : ok g) : ∀ {es : List (Int × Wn.Tok × Value)} {f : Wn.Fs} (o : Nat), Row w ok es f → (∀ j u, (valsCells es)[j]? = some u → w.cell? ⟨g, o + j, none⟩ = some u) → VAt w ok f g o
  | [], .nil, _, _, _ => trivial
  | e :: es, .cons k t x r, o, ⟨h1, h2, h3, h4⟩, hc => by
    have e5 : valsCells (e :: es) = valCells e ++ valsCells es := by simp [valsCells]
    have g0 := hc 0 (.int .i64 e.1) (by rw [e5]; rfl)
    have g1 := hc 1 (.int .i64 e.2.1.1) (by rw [e5]; rfl)
    have g2 := hc 2 (.string (Wn.str e.2.1.2.1)) (by rw [e5]; rfl)
    have g3 := hc 3 (.int .i64 e.2.1.2.2) (by rw [e5]; rfl)
    have g4 := hc 4 e.2.2 (by rw [e5]; rfl)
    subst h1 h2
    refine VAt.mk hg g0 ⟨g1, g2, g3⟩ g4 h3 (Row.vat hg (o + 5) h4 fun j u hj => ?_)
    have := hc (5 + j) u (by rw [e5, List.getElem?_append_right (by simp [valCells])]; simpa [valCells] using hj)
    rw [show o + 5 + j = o + (5 + j) by omega]; exact this
theorem ValsP.ofRow {w : World} {ok : Nat → Prop} {base : Nat} {v : Value} {es : List (Int × Wn.Tok × Value)} {f : Wn.Fs} (h : w.ownsRow base 49 5 v es.length (valsCells es)) (hr : Row w ok es f) (hok : ∀ b, base ≤ b → ok b) : ValsP w ok v f := by
  have hl := hr.len
  rcases h.2 with ⟨hv, hn⟩ | ⟨g, cap, cur, hv, hg, hh, hn, hcap, hsz, htake⟩
  · rw [hn] at hl
    rw [hv, Wn.Fs.len_zero hl.symm]; exact ValsP.nil w ok
  · refine ⟨_, cap, by rw [← hl]; exact hv, by omega, hcap, fun h => (by cases h), fun _ => ⟨g, 0, rfl, hr.vat (hok g hg) 0 fun j u hj => ?_⟩⟩
    rw [← htake, List.getElem?_take] at hj
    split at hj
    · rw [Nat.zero_add]; simp [World.cell?, hh]; simpa using hj
    · cases hj
theorem info_val : (Tryz.prog.info? 49).map (fun i => (i.zero, i.size, i.bytes)) = some (some (.agg #[.int .i64 0, .int .i64 0, .string ⟨#[]⟩, .int .i64 0, .slice none 0 0]), 5, 64) := by kernel_rfl
theorem cell_five_new (w : World) (a b c d e : Value) (t : TypeId) (k : Nat) (hk : k = w.heap.size) (j : Nat) (u : Value) (h : [a, b, c, d, e][j]? = some u) : (w.alloc (.cells #[a, b, c, d, e] t)).cell? ((⟨k, 0, none⟩ : Addr).add j) = some u := by
  subst hk
  rw [addr_add, cell_of_block (heap_alloc_new w _), ← h]
  simp
end Go.Proofs.YtjlejiphpbaonaaGreatDoor
set_option linter.unusedVariables false
set_option linter.unusedSimpArgs false
set_option maxRecDepth 20000
namespace Go.Proofs.YtjlejiphpbaonaaGreatDoor
open Go.RowKit Go.ChangeMaps
theorem delim_any (x : ByteArray) (w : World) :
    Calls Tryz.prog 133 #[.string x] w fun e w' => e = .returned (.agg #[.int .i64 7, .string x, .int .i64 0]) ∧ Below w.heap.size w w' := by
  go_enter Tryz.func133, Tryz.ntmps133
  go_wp2
  exact bodyPost_ret (v := .agg #[.int .i64 7, .string x, .int .i64 0]) (by simp [results, Tryz.results133, go_sem]) rfl ⟨rfl, by repeat (first | exact Below.refl _ _ | refine Below.setCell ?_ (by simp) _ | refine Below.alloc ?_ (by simp) _)⟩
theorem isBlock_any (k : Int) (t : Wn.Tok) (u : Value) (w : World) :
    Calls Tryz.prog 106 #[.agg #[.int .i64 k, .int .i64 t.1, .string (Wn.str t.2.1), .int .i64 t.2.2, u]] w fun e w' => e = .returned (.bool (Wn.isBlk k)) ∧ Below w.heap.size w w' := by
  generalize Wn.str t.2.1 = x
  have E : Hid (Wn.isBlk k = (decide (2 ≤ k) && decide (k ≤ 5))) := Lib.hid rfl
  go_enter Tryz.func106, Tryz.ntmps106
  go_wp2
  all_goals
    go_ret
    refine ⟨ret_bool ?_, (Below.refl _ _).alloc (Nat.le_refl _) _⟩
    rw [E.out]
    first
      | (rw [decide_eq_true (show (2 : Int) ≤ k by omega)]; rfl)
      | (rw [decide_eq_false (show ¬ (2 : Int) ≤ k by omega)]; rfl)
/-- the entry of a kind -/
def fence (k : Int) : Value := .agg #[.string (Wn.str (Wn.openB k)), .string (Wn.str (Wn.closeB k))]
def ent (k : Int) (n : Nat) : MapEntry := ⟨.int .i64 k, fence k, n⟩
/-- the map of fences -/
def fenceObj : Obj := .map #[ent 2 0, ent 3 1, ent 4 2, ent 5 3] 4
theorem setBlock_alloc (w : World) (o o' : Obj) : setBlock (w.alloc o) w.heap.size o' = w.alloc o' := by
  have e : (w.heap.push o).setIfInBounds w.heap.size o' = w.heap.push o' := by
    apply Array.ext_getElem?
    intro i
    rw [Array.getElem?_setIfInBounds, Array.getElem?_push, Array.getElem?_push]
    by_cases h : i = w.heap.size
    · subst h; simp
    · rw [if_neg (fun h' => h h'.symm), if_neg h, if_neg h]
  show ({ w with heap := (w.heap.push o).setIfInBounds w.heap.size o' } : World) = { w with heap := w.heap.push o' }
  rw [e]
theorem check_int (b : Bool) (k : Int) (w : World) : (Instr.checkKey b 10000 3 (.int .i64 k)).run Tryz.prog w = .ok () w := by
  have h : ∀ n, (Instr.checkKey b (n + 1) 3 (.int .i64 k)).run Tryz.prog w = .ok () w := fun n => by
    simp [Instr.checkKey, run_underlying Tryz.underlying3]
  exact h 9999
theorem run_ins (w : World) (es : Array MapEntry) (clock : Nat) (k : Int) (v : Value) (hn : Instr.findNow (.int .i64) (.int .i64 k) es.toList 0 = some none) :
    (Instr.mapUpdate 111 (.map (some w.heap.size)) (.int .i64 k) v).run Tryz.prog (w.alloc (.map es clock)) = .ok () (w.alloc (.map (es.push ⟨.int .i64 k, v, clock⟩) (clock + 1))) := by
  have hb : (w.alloc (.map es clock)).heap[w.heap.size]? = some (.map es clock) := heap_alloc_new w _
  have e := setBlock_alloc w (.map es clock) (.map (es.push ⟨.int .i64 k, v, clock⟩) (clock + 1))
  rw [← e]
  simp [Instr.mapUpdate, run_underlying Tryz.underlying111, MapKept.run_getObj_map hb, check_int, Instr.findKey, run_underlying Tryz.underlying3, hn, MapKept.run_setObj_map _ hb, Result.andThen, setBlock]
theorem fences_any (w : World) :
    Calls Tryz.prog 113 #[] w fun e w' => e = .returned (.map (some w.heap.size)) ∧ w' = w.alloc fenceObj := by
  have h0 := run_makeMap (P := Tryz.prog) 111 w
  have h1 : (Instr.mapUpdate 111 (.map (some w.heap.size)) (.int .i64 2) (.agg #[.string ⟨#[40]⟩, .string ⟨#[41]⟩])).run Tryz.prog (w.alloc (.map #[] 0)) = .ok () (w.alloc (.map #[ent 2 0] 1)) := run_ins w #[] 0 2 _ rfl
  have h2 : (Instr.mapUpdate 111 (.map (some w.heap.size)) (.int .i64 3) (.agg #[.string ⟨#[91]⟩, .string ⟨#[93]⟩])).run Tryz.prog (w.alloc (.map #[ent 2 0] 1)) = .ok () (w.alloc (.map #[ent 2 0, ent 3 1] 2)) := run_ins w #[ent 2 0] 1 3 _ rfl
  have h3 : (Instr.mapUpdate 111 (.map (some w.heap.size)) (.int .i64 4) (.agg #[.string ⟨#[123]⟩, .string ⟨#[125]⟩])).run Tryz.prog (w.alloc (.map #[ent 2 0, ent 3 1] 2)) = .ok () (w.alloc (.map #[ent 2 0, ent 3 1, ent 4 2] 3)) := run_ins w #[ent 2 0, ent 3 1] 2 4 _ rfl
  have h4 : (Instr.mapUpdate 111 (.map (some w.heap.size)) (.int .i64 5) (.agg #[.string ⟨#[]⟩, .string ⟨#[41]⟩])).run Tryz.prog (w.alloc (.map #[ent 2 0, ent 3 1, ent 4 2] 3)) = .ok () (w.alloc fenceObj) := run_ins w #[ent 2 0, ent 3 1, ent 4 2] 3 5 _ rfl
  go_enter Tryz.func113, Tryz.ntmps113
  go_wp2
  go_ret
  exact ⟨rfl, rfl⟩
theorem zero_fence (w : World) : (zeroValue 129).run Tryz.prog w = .ok (.agg #[.string ⟨#[]⟩, .string ⟨#[]⟩]) w := by
  have h : (Tryz.prog.info? 129).map (fun i => i.zero) = some (some (.agg #[.string ⟨#[]⟩, .string ⟨#[]⟩])) := by kernel_rfl
  cases hi : Tryz.prog.info? 129 with
  | none => rw [hi] at h; cases h
  | some i =>
    rw [hi] at h
    simp only [Option.map_some, Option.some.injEq] at h
    simp [zeroValue, typeInfo, hi, h]
theorem find_fence (k : Int) : Instr.findNow (.int .i64) (.int .i64 k) [ent 2 0, ent 3 1, ent 4 2, ent 5 3] 0 = some (if k = 2 then some (0, fence 2) else if k = 3 then some (1, fence 3) else if k = 4 then some (2, fence 4) else if k = 5 then some (3, fence 5) else none) := by
  by_cases h2 : k = 2
  · subst h2; rfl
  · by_cases h3 : k = 3
    · subst h3; rfl
    · by_cases h4 : k = 4
      · subst h4; rfl
      · by_cases h5 : k = 5
        · subst h5; rfl
        · have e2 : (k == 2) = false := by simpa using h2
          have e3 : (k == 3) = false := by simpa using h3
          have e4 : (k == 4) = false := by simpa using h4
          have e5 : (k == 5) = false := by simpa using h5
          simp [Instr.findNow, Instr.sameNow, ent, e2, e3, e4, e5, h2, h3, h4, h5]
/-- what is looked up -/
theorem run_look (c : Bool) (b : Nat) (k : Int) (w : World) (hb : w.heap[b]? = some fenceObj) :
    (Instr.lookup 111 (.map (some b)) (.int .i64 k) c).run Tryz.prog w = .ok (if c then .tuple #[if Wn.isBlk k then fence k else .agg #[.string ⟨#[]⟩, .string ⟨#[]⟩], .bool (Wn.isBlk k)] else if Wn.isBlk k then fence k else .agg #[.string ⟨#[]⟩, .string ⟨#[]⟩]) w := by
  unfold fenceObj at hb
  have key : ∀ r, Instr.findNow (.int .i64) (.int .i64 k) [ent 2 0, ent 3 1, ent 4 2, ent 5 3] 0 = some r → (Instr.findKey 3 (.int .i64 k) [ent 2 0, ent 3 1, ent 4 2, ent 5 3]).run Tryz.prog w = .ok r w := fun r h => by
    simp [Instr.findKey, run_underlying Tryz.underlying3, h]
  have hk := key _ (find_fence k)
  have hB : Wn.isBlk k = (decide (k = 2) || decide (k = 3) || decide (k = 4) || decide (k = 5)) := by
    unfold Wn.isBlk; rw [Bool.eq_iff_iff]; simp; omega
  by_cases h2 : k = 2
  · subst h2
    simp [Instr.lookup, run_underlying Tryz.underlying111, MapKept.run_getObj_map hb, check_int, hk, hB, Result.andThen]
  · by_cases h3 : k = 3
    · subst h3
      simp [Instr.lookup, run_underlying Tryz.underlying111, MapKept.run_getObj_map hb, check_int, hk, hB, Result.andThen]
    · by_cases h4 : k = 4
      · subst h4
        simp [Instr.lookup, run_underlying Tryz.underlying111, MapKept.run_getObj_map hb, check_int, hk, hB, Result.andThen]
      · by_cases h5 : k = 5
        · subst h5
          simp [Instr.lookup, run_underlying Tryz.underlying111, MapKept.run_getObj_map hb, check_int, hk, hB, Result.andThen]
        · simp [Instr.lookup, run_underlying Tryz.underlying111, MapKept.run_getObj_map hb, check_int, hk, hB, h2, h3, h4, h5, zero_fence, Result.andThen]
end Go.Proofs.YtjlejiphpbaonaaGreatDoor
set_option linter.unusedVariables false
set_option linter.unusedSimpArgs false
set_option maxRecDepth 20000
namespace Go.Proofs.YtjlejiphpbaonaaGreatDoor
open Go.RowKit Go.Sort
theorem look_yes (m : Nat) (k : Int) (w : World) (hb : w.heap[m]? = some fenceObj) (hk : Wn.isBlk k = true) :
    (Instr.lookup 111 (.map (some m)) (.int .i64 k) true).run Tryz.prog w = .ok (.tuple #[.agg #[.string (Wn.str (Wn.openB k)), .string (Wn.str (Wn.closeB k))], .bool true]) w := by
  rw [run_look true m k w hb, hk]; rfl
theorem look_no (m : Nat) (k : Int) (w : World) (hb : w.heap[m]? = some fenceObj) (hk : Wn.isBlk k = false) :
    (Instr.lookup 111 (.map (some m)) (.int .i64 k) true).run Tryz.prog w = .ok (.tuple #[.agg #[.string ⟨#[]⟩, .string ⟨#[]⟩], .bool false]) w := by
  rw [run_look true m k w hb, hk]; rfl
theorem block_lt {w : World} {b : Nat} {o : Obj} (h : w.heap[b]? = some o) : b < w.heap.size := by
  rcases Nat.lt_or_ge b w.heap.size with h' | h'
  · exact h'
  · rw [Array.getElem?_eq_none h'] at h; cases h
theorem block_alloc {w : World} {b : Nat} {o : Obj} (h : w.heap[b]? = some o) (p : Obj) : (w.alloc p).heap[b]? = some o := (Below.heap_alloc w p b (block_lt h)).trans h
theorem tok_ext {t : Wn.Tok} {x : List UInt8} : (t = Wn.dlm x) ↔ (t.1 = 7 ∧ t.2.1 = x ∧ t.2.2 = 0) := by
  obtain ⟨a, b, c⟩ := t; simp [Wn.dlm]
set_option maxRecDepth 100000 in
set_option maxHeartbeats 1000000 in
theorem closes_any (g m : Nat) (t : Wn.Tok) (k : Int) (w : World) (hp : w.cell? ⟨g, 2, none⟩ = some (.map (some m))) (hm : w.heap[m]? = some fenceObj) :
    Calls Tryz.prog 134 #[.pointer (some ⟨g, 0, none⟩), .agg #[.int .i64 t.1, .string (Wn.str t.2.1), .int .i64 t.2.2], .int .i64 k] w fun e w' => e = .returned (.bool (Wn.closes t k)) ∧ Below w.heap.size w w' := by
  have e : Wn.closes t k = (Wn.isBlk k && decide (t.1 = 7 ∧ t.2.1 = Wn.closeB k ∧ t.2.2 = 0)) := by unfold Wn.closes; congr 1; rw [decide_eq_decide]; exact tok_ext
  generalize hR : Wn.closes t k = R at *
  clear hR
  obtain ⟨tk, tx, tn⟩ := t
  dsimp only at *
  have hx := str_list tx
  generalize Wn.str tx = x at *
  have hg := World.block_lt_of_cell? _ _ hp
  dsimp only at hg
  have hB : Below w.heap.size w (w.alloc (Obj.cells #[Value.int IntKind.i64 tk, Value.string x, Value.int IntKind.i64 tn] 47)) := (Below.refl _ _).alloc (Nat.le_refl _) _
  have hm1 := block_alloc hm (Obj.cells #[Value.int IntKind.i64 tk, Value.string x, Value.int IntKind.i64 tn] 47)
  have hp1 := cell_alloc_old hp (Obj.cells #[Value.int IntKind.i64 tk, Value.string x, Value.int IntKind.i64 tn] 47)
  cases hk : Wn.isBlk k
  · have hl := look_no m k _ hm1 hk
    rw [hk] at e
    have E := Lib.hid e
    clear hm hm1 e hx hk
    have HB := Lib.hid hB; clear hB
    go_enter Tryz.func134, Tryz.ntmps134
    go_wp2_with fail
    go_quiet (fail)
    go_wp2_with fail
    go_ret
    exact ⟨ret_bool E.out.symm, below_drewN' (HB.out.alloc (by simp) _) _⟩
  · have hl := look_yes m k _ hm1 hk
    rw [hk] at e
    have E := Lib.hid e
    clear hm hm1 e hk
    have hy := str_list (Wn.closeB k)
    generalize Wn.str (Wn.closeB k) = y at *
    generalize Wn.str (Wn.openB k) = z at *
    have HB := Lib.hid hB; clear hB
    have HX := Lib.hid hx; clear hx
    have HY := Lib.hid hy; clear hy
    go_enter Tryz.func134, Tryz.ntmps134
    go_wp2_with fail
    have hB2 : Below w.heap.size w ((w.alloc (Obj.cells #[Value.int IntKind.i64 tk, Value.string x, Value.int IntKind.i64 tn] 47)).alloc (Obj.cells #[Value.string z, Value.string y] 129)) := HB.out.alloc (by simp) _
    have hn := heap_alloc_new w (Obj.cells #[Value.int IntKind.i64 tk, Value.string x, Value.int IntKind.i64 tn] 47)
    have a0 := cell_alloc_old (cell_of_block (o := 0) hn) (Obj.cells #[Value.string z, Value.string y] 129)
    have a1 := cell_alloc_old (cell_of_block (o := 1) hn) (Obj.cells #[Value.string z, Value.string y] 129)
    have a2 := cell_alloc_old (cell_of_block (o := 2) hn) (Obj.cells #[Value.string z, Value.string y] 129)
    have hz : (w.alloc (Obj.cells #[Value.int IntKind.i64 tk, Value.string x, Value.int IntKind.i64 tn] 47)).heap.size = w.heap.size + 1 := by simp
    have hn2 := heap_alloc_new (w.alloc (Obj.cells #[Value.int IntKind.i64 tk, Value.string x, Value.int IntKind.i64 tn] 47)) (Obj.cells #[Value.string z, Value.string y] 129)
    rw [hz] at hn2
    have b1 := cell_of_block (o := 1) hn2
    clear hl hp1 hn hn2 hz HB
    generalize ((w.alloc (Obj.cells #[Value.int IntKind.i64 tk, Value.string x, Value.int IntKind.i64 tn] 47)).alloc (Obj.cells #[Value.string z, Value.string y] 129)) = W at *
    have c0 := cell_regrown a0
    have c1 := cell_regrown a1
    have c2 := cell_regrown a2
    have d1 := cell_regrown b1
    have CD : Hid (∀ d os, Calls Tryz.prog 133 #[.string y] (grow (redrawn W d) os) fun e w'' => e = .returned (.agg #[.int .i64 7, .string y, .int .i64 0]) ∧ ∃ p : Regrown, w'' = grow (redrawn W p.d) p.os) := Lib.hid (fun d os => Calls.regrown_of (delim_any y _))
    have HB2 := Lib.hid hB2; clear hB2 a0 a1 a2 b1
    have hR : ∀ c, ((tk == 7) && (x.toList == y.toList) && (tn == 0)) = c → R = c := by
      intro c hc
      rw [E.out, ← hc, HX.out, HY.out, Bool.true_and]
      rw [Bool.eq_iff_iff]; simp [and_assoc]
    have HR := Lib.hid hR; clear hR
    cases h0 : (tk == 7)
    · have HR2 := Lib.hid (HR.out false (by rw [h0]; simp))
      (refine wp_region_quiet_below (by kernel_rfl) (by kernel_rfl) ?_); (repeat (first | go_big_quiet_skip | quiet_step (with_reducible exact CD.out _ _))); (refine wpQuiet_nil ?_); intro _ hw'; obtain ⟨⟨dq, osq⟩, hw''⟩ := hw'; subst hw''
      go_wp2_with fail
      go_ret
      exact ⟨ret_bool HR2.out.symm, HB2.out.trans ((below_regrown W dq osq).mono HB2.out.size)⟩
    · cases h1 : (x.toList == y.toList)
      · have HR2 := Lib.hid (HR.out false (by rw [h1]; simp))
        (refine wp_region_quiet_below (by kernel_rfl) (by kernel_rfl) ?_); (repeat (first | go_big_quiet_skip | quiet_step (with_reducible exact CD.out _ _))); (refine wpQuiet_nil ?_); intro _ hw'; obtain ⟨⟨dq, osq⟩, hw''⟩ := hw'; subst hw''
        go_wp2_with fail
        go_ret
        exact ⟨ret_bool HR2.out.symm, HB2.out.trans ((below_regrown W dq osq).mono HB2.out.size)⟩
      · cases h2 : (tn == 0)
        · have HR2 := Lib.hid (HR.out false (by rw [h2]; simp))
          (refine wp_region_quiet_below (by kernel_rfl) (by kernel_rfl) ?_); (repeat (first | go_big_quiet_skip | quiet_step (with_reducible exact CD.out _ _))); (refine wpQuiet_nil ?_); intro _ hw'; obtain ⟨⟨dq, osq⟩, hw''⟩ := hw'; subst hw''
          go_wp2_with fail
          go_ret
          exact ⟨ret_bool HR2.out.symm, HB2.out.trans ((below_regrown W dq osq).mono HB2.out.size)⟩
        · have HR2 := Lib.hid (HR.out true (by rw [h0, h1, h2]; simp))
          (refine wp_region_quiet_below (by kernel_rfl) (by kernel_rfl) ?_); (repeat (first | go_big_quiet_skip | quiet_step (with_reducible exact CD.out _ _))); (refine wpQuiet_nil ?_); intro _ hw'; obtain ⟨⟨dq, osq⟩, hw''⟩ := hw'; subst hw''
          go_wp2_with fail
          go_ret
          exact ⟨ret_bool HR2.out.symm, HB2.out.trans ((below_regrown W dq osq).mono HB2.out.size)⟩
end Go.Proofs.YtjlejiphpbaonaaGreatDoor
set_option linter.unusedVariables false
set_option linter.unusedSimpArgs false
set_option maxRecDepth 20000
namespace Go.Proofs.YtjlejiphpbaonaaGreatDoor
open Go.RowKit Go.Sort
theorem block_lat {W w1 : World} (hb : Below W.heap.size W w1) {b : Nat} {o : Obj} (h : W.heap[b]? = some o) : w1.heap[b]? = some o := (hb.block b (block_lt h)).trans h
theorem cell_lat {W w1 : World} (hb : Below W.heap.size W w1) {a : Addr} {v : Value} (h : W.cell? a = some v) : w1.cell? a = some v :=
  (hb.cell (p := a) (World.block_lt_of_cell? _ _ h)).trans h
theorem look_open (m : Nat) (k : Int) (w : World) (hb : w.heap[m]? = some fenceObj) (hk : Wn.isBlk k = true) :
    (Instr.lookup 111 (.map (some m)) (.int .i64 k) false).run Tryz.prog w = .ok (.agg #[.string (Wn.str (Wn.openB k)), .string (Wn.str (Wn.closeB k))]) w := by
  rw [run_look false m k w hb, hk]; rfl
theorem field0 (y z : ByteArray) (w : World) : (Instr.field 129 (.agg #[.string y, .string z]) 0).run Tryz.prog w = .ok (.string y) w := by
  simp [Instr.field, run_underlying Tryz.underlying129, asAgg, go_sem]
theorem kindOf_at {t : Wn.Tok} {k : Int} (h2 : ¬ t.1 = 2) (h1 : 2 ≤ k) (h4 : k ≤ 4) (hlt : ∀ j : Int, 2 ≤ j → j < k → ¬ t = Wn.dlm (Wn.openB j)) (he : t = Wn.dlm (Wn.openB k)) : Wn.kindOf t = k := by
  unfold Wn.kindOf
  rw [if_neg h2]
  have hk : k = 2 ∨ k = 3 ∨ k = 4 := by omega
  rcases hk with rfl | rfl | rfl
  · rw [if_pos (by simpa [Wn.openB] using he)]
  · rw [if_neg (by have := hlt 2 (by omega) (by omega); simpa [Wn.openB] using this), if_pos (by simpa [Wn.openB] using he)]
  · rw [if_neg (by have := hlt 2 (by omega) (by omega); simpa [Wn.openB] using this), if_neg (by have := hlt 3 (by omega) (by omega); simpa [Wn.openB] using this), if_pos (by simpa [Wn.openB] using he)]
theorem kindOf_none {t : Wn.Tok} (h2 : ¬ t.1 = 2) (hlt : ∀ j : Int, 2 ≤ j → j < 5 → ¬ t = Wn.dlm (Wn.openB j)) : Wn.kindOf t = 1 := by
  unfold Wn.kindOf
  rw [if_neg h2, if_neg (by have := hlt 2 (by omega) (by omega); simpa [Wn.openB] using this), if_neg (by have := hlt 3 (by omega) (by omega); simpa [Wn.openB] using this), if_neg (by have := hlt 4 (by omega) (by omega); simpa [Wn.openB] using this)]
theorem not_before {t : Wn.Tok} {k : Int} (hlt : ∀ j : Int, 2 ≤ j → j < k → ¬ t = Wn.dlm (Wn.openB j)) (he : ¬ t = Wn.dlm (Wn.openB k)) : ∀ j : Int, 2 ≤ j → j < k + 1 → ¬ t = Wn.dlm (Wn.openB j) := by
  intro j h1 h2
  by_cases h : j = k
  · subst h; exact he
  · exact hlt j h1 (by omega)
set_option maxRecDepth 100000 in
set_option maxHeartbeats 1000000 in
theorem kindOf_any (g m : Nat) (t : Wn.Tok) (w : World) (hp : w.cell? ⟨g, 2, none⟩ = some (.map (some m))) (hm : w.heap[m]? = some fenceObj) :
    Calls Tryz.prog 147 #[.pointer (some ⟨g, 0, none⟩), .agg #[.int .i64 t.1, .string (Wn.str t.2.1), .int .i64 t.2.2]] w fun e w' => e = .returned (.int .i64 (Wn.kindOf t)) ∧ Below w.heap.size w w' := by
  generalize hK : Wn.kindOf t = K
  have HK := Lib.hid hK; clear hK
  have hB : Below w.heap.size w (w.alloc (Obj.cells #[Value.int IntKind.i64 t.1, Value.string (Wn.str t.2.1), Value.int IntKind.i64 t.2.2] 47)) := (Below.refl _ _).alloc (Nat.le_refl _) _
  have hm1 := block_alloc hm (Obj.cells #[Value.int IntKind.i64 t.1, Value.string (Wn.str t.2.1), Value.int IntKind.i64 t.2.2] 47)
  have hp1 := cell_alloc_old hp (Obj.cells #[Value.int IntKind.i64 t.1, Value.string (Wn.str t.2.1), Value.int IntKind.i64 t.2.2] 47)
  have HBX := Lib.hid (box1 w t)
  have hx := str_list t.2.1
  have HB := Lib.hid hB; clear hB
  have HM1 := Lib.hid hm1; clear hm1
  have HP1 := Lib.hid hp1; clear hp1
  by_cases h2 : t.1 = 2
  · have E : Hid (K = 5) := Lib.hid (by rw [← HK.out]; unfold Wn.kindOf; rw [if_pos h2])
    have h2' : (t.1 == 2) = true := by simpa using h2
    clear HK hx h2
    generalize t.1 = tk at *
    generalize t.2.2 = tn at *
    generalize Wn.str t.2.1 = x at *
    go_enter Tryz.func147, Tryz.ntmps147
    go_wp2_with fail
    go_ret
    exact ⟨ret_int E.out.symm, HB.out⟩
  · have h2' : (t.1 == 2) = false := by simpa using h2
    have HN := Lib.hid h2; clear h2
    have HX := Lib.hid hx; clear hx
    have k0 := HBX.out.c0
    have k1 := HBX.out.c1
    have k2 := HBX.out.c2
    generalize htk : t.1 = tk at *
    generalize htn : t.2.2 = tn at *
    generalize htx : Wn.str t.2.1 = x at *
    have HTE : Hid (∀ c : List UInt8, (t = Wn.dlm c) ↔ (tk = 7 ∧ x.toList = c ∧ tn = 0)) := Lib.hid (fun c => by rw [tok_ext, htk, htn, HX.out])
    have HTK := Lib.hid htk; clear htk htn htx HX HBX
    go_enter Tryz.func147, Tryz.ntmps147
    go_wp2_with fail
    generalize w.alloc (Obj.cells #[Value.int IntKind.i64 tk, Value.string x, Value.int IntKind.i64 tn] 47) = W at *
    go_loopw [5] (fun v5 wr => ∃ k : Int, 2 ≤ k ∧ k ≤ 5 ∧ v5 = .int .i64 k ∧ Hid (Below W.heap.size W wr) ∧ Hid (∀ j : Int, 2 ≤ j → j < k → ¬ t = Wn.dlm (Wn.openB j))) (fun v5 _ => (5 - intOf v5).toNat)
    case atStart => exact ⟨2, by omega, by omega, rfl, Lib.hid (Below.refl _ _), Lib.hid (fun j h1 h2 => by omega)⟩
    case round =>
      obtain ⟨k, hk1, hk2, rfl, HBr, HJ⟩ := hrel
      by_cases h4 : k ≤ 4
      · have hblk : Wn.isBlk k = true := by unfold Wn.isBlk; simp; omega
        have a0 := cell_regrown (cell_lat HBr.out k0)
        have a1 := cell_regrown (cell_lat HBr.out k1)
        have a2 := cell_regrown (cell_lat HBr.out k2)
        have p2 := cell_regrown (cell_lat HBr.out HP1.out)
        have hl : ∀ d os, (Instr.lookup 111 (.map (some m)) (.int .i64 k) false).run Tryz.prog (grow (redrawn wr d) os) = .ok (.agg #[.string (Wn.str (Wn.openB k)), .string (Wn.str (Wn.closeB k))]) (grow (redrawn wr d) os) :=
          fun d os => look_open m k _ (block_lat (below_regrown wr d os) (block_lat HBr.out HM1.out)) hblk
        have hy := str_list (Wn.openB k)
        generalize Wn.str (Wn.openB k) = y at *
        generalize Wn.str (Wn.closeB k) = z at *
        have HTY : Hid ((t = Wn.dlm (Wn.openB k)) ↔ (tk = 7 ∧ x.toList = y.toList ∧ tn = 0)) := Lib.hid (by rw [hy]; exact HTE.out _)
        clear hy hblk
        have hf0 := field0 y z
        have CD : Hid (∀ d os, Calls Tryz.prog 133 #[.string y] (grow (redrawn wr d) os) fun e w'' => e = .returned (.agg #[.int .i64 7, .string y, .int .i64 0]) ∧ ∃ p : Regrown, w'' = grow (redrawn wr p.d) p.os) := Lib.hid (fun d os => Calls.regrown_of (delim_any y _))
        have hR : ((tk == 7) && (x.toList == y.toList) && (tn == 0)) = true ↔ (t = Wn.dlm (Wn.openB k)) := by
          rw [HTY.out]; simp [and_assoc]
        have HR := Lib.hid hR; clear hR HTY
        have hlast : ∀ c, ((tk == 7) && (x.toList == y.toList) && (tn == 0)) = c → c = false → Hid (∀ j : Int, 2 ≤ j → j < k + 1 → ¬ t = Wn.dlm (Wn.openB j)) := fun c hc hf => Lib.hid (not_before HJ.out (fun he => by rw [← HR.out, hc, hf] at he; cases he))
        have HLast := Lib.hid hlast; clear hlast
        cases h0 : (tk == 7)
        · have HJ2 := HLast.out _ rfl (by rw [h0]; simp)
          go_wp2_with fail
          (refine wp_region_quiet_below (by kernel_rfl) (by kernel_rfl) ?_); (repeat (first | go_big_quiet_skip | quiet_step (with_reducible exact CD.out _ _))); (refine wpQuiet_nil ?_); intro _ hw'; obtain ⟨⟨dq, osq⟩, hw''⟩ := hw'; subst hw''
          go_wp2_with fail
          exact ⟨⟨k + 1, by omega, by omega, by go_num, Lib.hid (HBr.out.trans ((below_regrown wr dq osq).mono HBr.out.size)), HJ2⟩, by simp [intOf]; omega⟩
        · cases h1 : (x.toList == y.toList)
          · have HJ2 := HLast.out _ rfl (by rw [h1]; simp)
            go_wp2_with fail
            (refine wp_region_quiet_below (by kernel_rfl) (by kernel_rfl) ?_); (repeat (first | go_big_quiet_skip | quiet_step (with_reducible exact CD.out _ _))); (refine wpQuiet_nil ?_); intro _ hw'; obtain ⟨⟨dq, osq⟩, hw''⟩ := hw'; subst hw''
            go_wp2_with fail
            exact ⟨⟨k + 1, by omega, by omega, by go_num, Lib.hid (HBr.out.trans ((below_regrown wr dq osq).mono HBr.out.size)), HJ2⟩, by simp [intOf]; omega⟩
          · cases h3 : (tn == 0)
            · have HJ2 := HLast.out _ rfl (by rw [h3]; simp)
              go_wp2_with fail
              (refine wp_region_quiet_below (by kernel_rfl) (by kernel_rfl) ?_); (repeat (first | go_big_quiet_skip | quiet_step (with_reducible exact CD.out _ _))); (refine wpQuiet_nil ?_); intro _ hw'; obtain ⟨⟨dq, osq⟩, hw''⟩ := hw'; subst hw''
              go_wp2_with fail
              exact ⟨⟨k + 1, by omega, by omega, by go_num, Lib.hid (HBr.out.trans ((below_regrown wr dq osq).mono HBr.out.size)), HJ2⟩, by simp [intOf]; omega⟩
            · have E : Hid (K = k) := Lib.hid (by rw [← HK.out]; exact kindOf_at (by rw [HTK.out]; exact HN.out) hk1 h4 HJ.out (HR.out.1 (by rw [h0, h1, h3]; simp)))
              go_wp2_with fail
              (refine wp_region_quiet_below (by kernel_rfl) (by kernel_rfl) ?_); (repeat (first | go_big_quiet_skip | quiet_step (with_reducible exact CD.out _ _))); (refine wpQuiet_nil ?_); intro _ hw'; obtain ⟨⟨dq, osq⟩, hw''⟩ := hw'; subst hw''
              go_wp2_with fail
              go_ret
              exact ⟨ret_int E.out.symm, HB.out.trans ((HBr.out.trans ((below_regrown wr dq osq).mono HBr.out.size)).mono HB.out.size)⟩
      · have hk5 : k = 5 := by omega
        subst hk5
        have E : Hid (K = 1) := Lib.hid (by rw [← HK.out]; exact kindOf_none (by rw [HTK.out]; exact HN.out) HJ.out)
        go_wp2_with fail
        go_ret
        exact ⟨ret_int E.out.symm, HB.out.trans (HBr.out.mono HB.out.size)⟩
end Go.Proofs.YtjlejiphpbaonaaGreatDoor
