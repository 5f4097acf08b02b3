/- The verifier's attr: what is gathered. The verifier's attr: the walk. -/
import Derived.Test.YtbjhiimjillleaaJD
import Derived.Test.YtbjhiimjillleaaGU
import Derived.Deep.RegionLaw
import Derived.BigRegion
set_option linter.unusedVariables false
set_option linter.unusedSimpArgs false
set_option maxRecDepth 20000
namespace Wn
theorem nb_skip {acc f L : Fs} {i : Nat} {k : Int} {t : Tok} {x : Fs} (he : acc.app (nbF (f.drop i)) = L) (hd : f.drop i = .cons k t x (f.drop (i + 1))) (hb : blankV k t = true) : acc.app (nbF (f.drop (i + 1))) = L := by
  rw [← he, hd, nbF, if_pos hb]
theorem nb_take {acc f L : Fs} {i : Nat} {k : Int} {t : Tok} {x : Fs} (he : acc.app (nbF (f.drop i)) = L) (hd : f.drop i = .cons k t x (f.drop (i + 1))) (hb : blankV k t = false) : (acc.app (.cons k t x .nil)).app (nbF (f.drop (i + 1))) = L := by
  rw [← he, hd, nbF, if_neg (by rw [hb]; decide), Fs.app_assoc]; rfl
theorem nb_end {acc f L : Fs} {i : Nat} (he : acc.app (nbF (f.drop i)) = L) (h : f.len ≤ i) : acc = L := by
  rw [← he, Fs.drop_len h, nbF, Fs.app_nil]
theorem nb_size : ∀ f : Fs, (nbF f).size ≤ f.size
  | .nil => Nat.le_refl _
  | .cons k t x r => by
    have := nb_size r
    rw [nbF]
    split <;> simp only [Fs.size] <;> omega
end Wn
namespace Go.Proofs.Ytbjhiimjillleaa
open Go.RowKit Go.Sort
/-- a cell of a row of one's own is stored -/
theorem own_set {w : World} {base : Nat} {T : TypeId} {size n : Nat} {q cap : Nat} {xs : List Value} {j : Nat} {u : Value} (h : w.ownsRow base T size (.slice (some ⟨q, 0, none⟩) n cap) n xs) (hj : j < n * size) : (w.setCell ⟨q, j, none⟩ u).ownsRow base T size (.slice (some ⟨q, 0, none⟩) n cap) n (xs.set j u) := by
  refine ⟨by rw [List.length_set]; exact h.1, ?_⟩
  rcases h.2 with ⟨hv, _⟩ | ⟨g, c, cur, hv, hg, hh, h1, h2, h3, h4⟩
  · cases hv
  · simp only [Value.slice.injEq, Option.some.injEq, Addr.mk.injEq] at hv
    obtain ⟨⟨rfl, _⟩, _, rfl⟩ := hv
    refine .inr ⟨q, cap, cur.setIfInBounds j u, rfl, hg, by simp [World.setCell, Array.getElem?_modify, hh], h1, h2, by simpa using h3, ?_⟩
    rw [← h4, Array.toList_setIfInBounds, List.take_set]
theorem set_last5 (xs : List Value) (n : Nat) (hn : n = xs.length) (z0 z1 z2 z3 z4 c0 c1 c2 c3 c4 : Value) : ((((((xs ++ [z0, z1, z2, z3, z4]).set n c0).set (n + 1) c1).set (n + 2) c2).set (n + 3) c3).set (n + 4) c4) = xs ++ [c0, c1, c2, c3, c4] := by
  subst hn
  simp [List.set_append_right]
/-- the value's five cells that lie last in a row of one's own are stored -/
theorem own_last {w : World} {base q cap n : Nat} {xs : List Value} {z0 z1 z2 z3 z4 c0 c1 c2 c3 c4 : Value} (h : w.ownsRow base 80 5 (.slice (some ⟨q, 0, none⟩) (n + 1) cap) (n + 1) (xs ++ [z0, z1, z2, z3, z4])) (hx : n * 5 = xs.length) :
    (((((w.setCell ⟨q, n * 5, none⟩ c0).setCell ⟨q, n * 5 + 1, none⟩ c1).setCell ⟨q, n * 5 + 2, none⟩ c2).setCell ⟨q, n * 5 + 3, none⟩ c3).setCell ⟨q, n * 5 + 4, none⟩ c4).ownsRow base 80 5 (.slice (some ⟨q, 0, none⟩) (n + 1) cap) (n + 1) (xs ++ [c0, c1, c2, c3, c4]) := by
  have := own_set (j := n * 5 + 4) (u := c4) (own_set (j := n * 5 + 3) (u := c3) (own_set (j := n * 5 + 2) (u := c2) (own_set (j := n * 5 + 1) (u := c1) (own_set (j := n * 5) (u := c0) h (by omega)) (by omega)) (by omega)) (by omega)) (by omega)
  rw [set_last5 xs (n * 5) hx] at this
  exact this
/-- what is known while the values are gathered -/
structure AI (w W : World) (v : Value) (es : List Ent) (acc : Wn.Fs) : Prop where
  below : Below w.heap.size w W
  res : W.heap[w.heap.size]? = some (.cells #[.int .i64 0, .string ⟨#[]⟩, .string ⟨#[]⟩, .int .i64 0, .int .i64 0, .slice none 0 0] 45)
  rd : W.heap[w.heap.size + 1]? = some (.cells #[v, .int .i64 0, .bool false] 84)
  own : W.ownsRow (w.heap.size + 2) 80 5 v es.length (valsCells es)
  row : Row W (fun b => b < w.heap.size) es acc
section
variable {w W W' : World} {v : Value} {es : List Ent} {acc : Wn.Fs}
theorem AI.later (h : AI w W v es acc) (hb : Below W.heap.size W W') : AI w W' v es acc :=
  ⟨h.below.trans (hb.mono h.below.size), block_lat hb h.res, block_lat hb h.rd, ownsRow_later h.own hb, h.row.same (fun b _ hl => hb.block b hl) (fun _ h _ => h)⟩
theorem AI.start (w : World) : AI w ((w.alloc (.cells #[.int .i64 0, .string ⟨#[]⟩, .string ⟨#[]⟩, .int .i64 0, .int .i64 0, .slice none 0 0] 45)).alloc (.cells #[.slice none 0 0, .int .i64 0, .bool false] 84)) (.slice none 0 0) [] .nil := by
  refine ⟨((Below.refl _ _).alloc (Nat.le_refl _) _).alloc (by simp) _, block_alloc (heap_alloc_new w _) _, ?_, World.ownsRow_nil _ _ _ _, trivial⟩
  have := heap_alloc_new (w.alloc (.cells #[.int .i64 0, .string ⟨#[]⟩, .string ⟨#[]⟩, .int .i64 0, .int .i64 0, .slice none 0 0] 45)) (.cells #[.slice none 0 0, .int .i64 0, .bool false] 84)
  rw [show (w.alloc (.cells #[.int .i64 0, .string ⟨#[]⟩, .string ⟨#[]⟩, .int .i64 0, .int .i64 0, .slice none 0 0] 45)).heap.size = w.heap.size + 1 by simp] at this
  exact this
/-- what was gathered is the reader's -/
theorem AI.reader (h : AI w W v es acc) (hs : acc.size ≤ 100000) : R4 W (w.heap.size + 1) v acc 0 false := by
  refine ⟨h.rd, ?_, Nat.zero_le _, hs⟩
  exact ValsP.ofRow h.own (h.row.same (fun _ _ _ => rfl) (fun b hb _ => by omega)) (fun b hb => by omega)
end
/-- what is known behind the append of a value that is to be filled -/
structure AP (w W : World) (v0 : Value) (q cap : Nat) (es : List Ent) (acc : Wn.Fs) : Prop where
  below : Below w.heap.size w W
  res : W.heap[w.heap.size]? = some (.cells #[.int .i64 0, .string ⟨#[]⟩, .string ⟨#[]⟩, .int .i64 0, .int .i64 0, .slice none 0 0] 45)
  rd : W.heap[w.heap.size + 1]? = some (.cells #[v0, .int .i64 0, .bool false] 84)
  own : W.ownsRow (w.heap.size + 2) 80 5 (.slice (some ⟨q, 0, none⟩) (es.length + 1) cap) (es.length + 1) (valsCells es ++ [.int .i64 0, .int .i64 0, .string ⟨#[]⟩, .int .i64 0, .slice none 0 0])
  row : Row W (fun b => b < w.heap.size) es acc
  hq : w.heap.size + 2 ≤ q
section
variable {w W W' Z : World} {v : Value} {es : List Ent} {acc : Wn.Fs} {q cap : Nat}
theorem AI.app {v8 : Value} {w8 : World} (h : AI w W v es acc) (hZ : Below W.heap.size W Z) (hown : w8.ownsRow (w.heap.size + 2) 80 5 v8 (es ++ [((0, (0, [], 0), Value.slice Option.none 0 0) : Ent)]).length (valsCells (es ++ [((0, (0, [], 0), Value.slice Option.none 0 0) : Ent)]))) (hg : Z.grownBy w8 v.ownBlock) :
    ∃ q cap, v8 = .slice (some ⟨q, 0, none⟩) (es.length + 1) cap ∧ es.length + 1 ≤ cap ∧ cap ≤ maxLen ∧ AP w w8 v q cap es acc := by
  have hlt := h.own.lt
  have hbs := h.below.size
  have hk : ∀ b, b < W.heap.size → v.ownBlock ≠ some b → w8.heap[b]? = W.heap[b]? := fun b hl hn => (hg.block b (Nat.lt_of_lt_of_le hl hZ.size) (fun e => hn e.symm)).trans (hZ.block b hl)
  have hko : ∀ b, b < w.heap.size + 2 → v.ownBlock ≠ some b := fun b hb e => by have := (hlt b e).1; omega
  have hr1 := lt_of_block h.rd
  rw [valsCells_snoc, List.length_append, List.length_singleton] at hown
  have ho := hown
  rcases hown.2 with ⟨_, h0⟩ | ⟨q, cap, cur, hv, hq, hh, h1, h2, h3, h4⟩
  · omega
  · subst hv
    refine ⟨q, cap, rfl, h1, h2, ⟨?_, ?_, ?_, ho, ?_, hq⟩⟩
    · exact ⟨hg.os.trans (hZ.os.trans h.below.os), hg.tape.trans (hZ.tape.trans h.below.tape), hg.output.trans (hZ.output.trans h.below.output), Nat.le_trans hbs (Nat.le_trans hZ.size hg.size), fun b hb => (hk b (by omega) (hko b (by omega))).trans (h.below.block b hb)⟩
    · exact (hk _ (by omega) (hko _ (by omega))).trans h.res
    · exact (hk _ (by omega) (hko _ (by omega))).trans h.rd
    · exact h.row.same (fun b hb hl => hk b hl (hko b (by omega))) (fun _ h _ => h)
theorem AP.fill (h : AP w W v q cap es acc) {k : Int} {t : Wn.Tok} {u : Value} {x : Wn.Fs} (hu : ValsP W (fun b => b < w.heap.size) u x) : AI w ((((((W.setCell ⟨q, es.length * 5, none⟩ (.int .i64 k)).setCell ⟨q, es.length * 5 + 1, none⟩ (.int .i64 t.1)).setCell ⟨q, es.length * 5 + 2, none⟩ (.string (Wn.str t.2.1))).setCell ⟨q, es.length * 5 + 3, none⟩ (.int .i64 t.2.2)).setCell ⟨q, es.length * 5 + 4, none⟩ u).setCell ⟨w.heap.size + 1, 0, none⟩ (.slice (some ⟨q, 0, none⟩) (es.length + 1) cap)) (.slice (some ⟨q, 0, none⟩) (es.length + 1) cap) (es ++ [(k, t, u)]) (acc.app (.cons k t x .nil)) := by
  have hq := h.hq
  have ho := own_last (c0 := .int .i64 k) (c1 := .int .i64 t.1) (c2 := .string (Wn.str t.2.1)) (c3 := .int .i64 t.2.2) (c4 := u) h.own (by rw [valsCells_length])
  have hoth : ∀ b, b ≠ q → (((((W.setCell ⟨q, es.length * 5, none⟩ (.int .i64 k)).setCell ⟨q, es.length * 5 + 1, none⟩ (.int .i64 t.1)).setCell ⟨q, es.length * 5 + 2, none⟩ (.string (Wn.str t.2.1))).setCell ⟨q, es.length * 5 + 3, none⟩ (.int .i64 t.2.2)).setCell ⟨q, es.length * 5 + 4, none⟩ u).heap[b]? = W.heap[b]? := fun b hb => by
    rw [Below.heap_setCell _ _ _ _ hb, Below.heap_setCell _ _ _ _ hb, Below.heap_setCell _ _ _ _ hb, Below.heap_setCell _ _ _ _ hb, Below.heap_setCell _ _ _ _ hb]
  have hB : Below w.heap.size w (((((W.setCell ⟨q, es.length * 5, none⟩ (.int .i64 k)).setCell ⟨q, es.length * 5 + 1, none⟩ (.int .i64 t.1)).setCell ⟨q, es.length * 5 + 2, none⟩ (.string (Wn.str t.2.1))).setCell ⟨q, es.length * 5 + 3, none⟩ (.int .i64 t.2.2)).setCell ⟨q, es.length * 5 + 4, none⟩ u) :=
    ((((h.below.setCell (p := ⟨q, es.length * 5, none⟩) (by show _ ≤ q; omega) _).setCell (p := ⟨q, es.length * 5 + 1, none⟩) (by show _ ≤ q; omega) _).setCell (p := ⟨q, es.length * 5 + 2, none⟩) (by show _ ≤ q; omega) _).setCell (p := ⟨q, es.length * 5 + 3, none⟩) (by show _ ≤ q; omega) _).setCell (p := ⟨q, es.length * 5 + 4, none⟩) (by show _ ≤ q; omega) _
  generalize (((((W.setCell ⟨q, es.length * 5, none⟩ (.int .i64 k)).setCell ⟨q, es.length * 5 + 1, none⟩ (.int .i64 t.1)).setCell ⟨q, es.length * 5 + 2, none⟩ (.string (Wn.str t.2.1))).setCell ⟨q, es.length * 5 + 3, none⟩ (.int .i64 t.2.2)).setCell ⟨q, es.length * 5 + 4, none⟩ u) = V at *
  have hr := h.row.snoc (k := k) (t := t) hu
  have hne : ∀ b, b ≠ w.heap.size + 1 → (V.setCell ⟨w.heap.size + 1, 0, none⟩ (.slice (some ⟨q, 0, none⟩) (es.length + 1) cap)).heap[b]? = V.heap[b]? := fun b hb => Below.heap_setCell _ _ _ _ hb
  refine ⟨hB.setCell (by show _ ≤ w.heap.size + 1; omega) _, ?_, ?_, ?_, ?_⟩
  · rw [hne _ (by omega), hoth _ (by omega)]; exact h.res
  · have h' := (hoth (w.heap.size + 1) (by omega)).trans h.rd
    simp [World.setCell, Array.getElem?_modify, h']
  · rw [valsCells_snoc, List.length_append, List.length_singleton]
    exact ownsRow_kept ho (fun b hb _ => hne b (by have : b = q := by simpa [Value.ownBlock] using hb.symm
                                                   omega))
  · exact hr.same (fun b hb _ => by rw [hne _ (by omega), hoth _ (by omega)]) (fun _ h _ => h)
theorem setCell_swap (w : World) {a b : Addr} (u v : Value) (h : a.block ≠ b.block) : (w.setCell a u).setCell b v = (w.setCell b v).setCell a u := by
  unfold World.setCell
  congr 1
  apply Array.ext_getElem?
  intro i
  simp only [Array.getElem?_modify]
  by_cases h1 : a.block = i
  · have h2 : ¬ b.block = i := fun e => h (h1.trans e.symm)
    simp [h1, h2]
  · simp [h1]
theorem AP.fill' (h : AP w W v q cap es acc) {k : Int} {t : Wn.Tok} {u : Value} {x : Wn.Fs} (hu : ValsP W (fun b => b < w.heap.size) u x) : AI w ((((((W.setCell ⟨w.heap.size + 1, 0, none⟩ (.slice (some ⟨q, 0, none⟩) (es.length + 1) cap)).setCell ⟨q, es.length * 5, none⟩ (.int .i64 k)).setCell ⟨q, es.length * 5 + 1, none⟩ (.int .i64 t.1)).setCell ⟨q, es.length * 5 + 2, none⟩ (.string (Wn.str t.2.1))).setCell ⟨q, es.length * 5 + 3, none⟩ (.int .i64 t.2.2)).setCell ⟨q, es.length * 5 + 4, none⟩ u) (.slice (some ⟨q, 0, none⟩) (es.length + 1) cap) (es ++ [(k, t, u)]) (acc.app (.cons k t x .nil)) := by
  have hq := h.hq
  have := h.fill (k := k) (t := t) hu
  have hs : ∀ (V : World) (o : Nat) (c d : Value), (V.setCell ⟨q, o, none⟩ c).setCell ⟨w.heap.size + 1, 0, none⟩ d = (V.setCell ⟨w.heap.size + 1, 0, none⟩ d).setCell ⟨q, o, none⟩ c := fun V o c d => setCell_swap V c d (by show q ≠ w.heap.size + 1; omega)
  rw [hs, hs, hs, hs, hs] at this
  exact this
end
end Go.Proofs.Ytbjhiimjillleaa
set_option linter.unusedVariables false
set_option linter.unusedSimpArgs false
set_option maxRecDepth 20000
namespace Wn
theorem ra_none {G : Fs} (h : tokF 1 G = none) : rattr G = none := by unfold rattr; rw [h]
theorem ra_one {G : Fs} {n : Tok} (h : tokF 1 G = some (n, G.drop 1)) (h1 : G.len = 1) : rattr G = some (sNam 5 n.2.1) := by
  unfold rattr; rw [h]; dsimp only; rw [if_pos (Fs.drop_len (by omega))]
theorem drop_two {G r : Fs} {s : List UInt8} (hs : signF s (G.drop 1) = some r) : r = G.drop 2 := by
  cases hd : G.drop 1 with
  | nil => rw [hd] at hs; cases hs
  | cons k t x r' =>
    rw [hd, signF] at hs
    have := (drop_next hd).1
    split at hs
    · cases hs; exact this
    · cases hs
theorem ra_far {G : Fs} {n : Tok} (h : tokF 1 G = some (n, G.drop 1)) (h1 : ¬ G.len = 1) (h3 : ¬ G.len = 3) : rattr G = none := by
  have h0 := (tokF_next (i := 0) (by rw [Fs.drop_zero]; exact h)).2
  unfold rattr; rw [h]; dsimp only
  rw [if_neg (by intro e; have := Fs.len_drop G 1; rw [e] at this; simp only [Fs.len] at this; omega)]
  cases hs : signF [61] (G.drop 1) with
  | none => rfl
  | some r =>
    obtain rfl := drop_two hs
    dsimp only
    have hl := Fs.len_drop G 2
    generalize G.drop 2 = R at *
    cases R with
    | nil => rfl
    | cons k t x r => cases r with
      | nil => simp only [Fs.len] at hl; omega
      | cons => rfl
theorem ra_noS {G : Fs} {n : Tok} (h : tokF 1 G = some (n, G.drop 1)) (h3 : G.len = 3) (hs : signF [61] (G.drop 1) = none) : rattr G = none := by
  unfold rattr; rw [h]; dsimp only
  rw [if_neg (by intro e; have := Fs.len_drop G 1; rw [e] at this; simp only [Fs.len] at this; omega), hs]
theorem ra_yes {G r : Fs} {n : Tok} {k : Int} {t : Tok} {x r3 : Fs} (h : tokF 1 G = some (n, G.drop 1)) (h3 : G.len = 3) (hs : signF [61] (G.drop 1) = some r) (hd : G.drop 2 = .cons k t x r3) : rattr G = if k = 1 ∧ (t.1 = 1 ∨ t.1 = 6) then some ⟨6, n.2.1, t.2.1, 0, 0, .nil⟩ else none := by
  obtain rfl := drop_two hs
  have hr : r3 = .nil := by rw [(drop_next hd).1]; exact Fs.drop_len (by omega)
  unfold rattr; rw [h]; dsimp only
  rw [if_neg (by intro e; have := Fs.len_drop G 1; rw [e] at this; simp only [Fs.len] at this; omega), hs]
  dsimp only
  rw [hd, hr]; rfl
end Wn
namespace Go.Proofs.Ytbjhiimjillleaa
open Go.RowKit Go.Sort
theorem AP.at {w W : World} {v0 : Value} {q cap : Nat} {es : List Ent} {acc : Wn.Fs} (h : AP w W v0 q cap es acc) : (W.cell? ⟨q, es.length * 5, none⟩ = some (.int .i64 0) ∧ W.cell? ⟨q, es.length * 5 + 1, none⟩ = some (.int .i64 0) ∧ W.cell? ⟨q, es.length * 5 + 2, none⟩ = some (.string ⟨#[]⟩) ∧ W.cell? ⟨q, es.length * 5 + 3, none⟩ = some (.int .i64 0) ∧ W.cell? ⟨q, es.length * 5 + 4, none⟩ = some (.slice none 0 0)) ∧ (∀ o, W.frozen? ⟨q, o, none⟩ = false) ∧ q < W.heap.size := by
  have hl := valsCells_length es
  rcases h.own.2 with ⟨hv, _⟩ | ⟨g, c, cur, hv, hg, hh, h1, h2, h3, h4⟩
  · cases hv
  · simp only [Value.slice.injEq, Option.some.injEq, Addr.mk.injEq] at hv
    obtain ⟨⟨rfl, _⟩, _, rfl⟩ := hv
    have hc : ∀ j, j < 5 → W.cell? ⟨q, es.length * 5 + j, none⟩ = ([.int .i64 0, .int .i64 0, .string ⟨#[]⟩, .int .i64 0, .slice none 0 0] : List Value)[j]? := fun j hj => by
      rw [cell_of_block hh, ← Array.getElem?_toList]
      have e : cur.toList[es.length * 5 + j]? = (cur.toList.take ((es.length + 1) * 5))[es.length * 5 + j]? := by rw [List.getElem?_take, if_pos (by omega)]
      rw [e, h4, List.getElem?_append_right (by omega), hl]
      congr 1; omega
    refine ⟨⟨hc 0 (by omega), hc 1 (by omega), hc 2 (by omega), hc 3 (by omega), hc 4 (by omega)⟩, fun o => frozen_blk hh o, lt_of_block hh⟩
theorem cell_far {w : World} {b o : Nat} {cs : Array Value} {T : TypeId} (h : w.heap[b]? = some (.cells cs T)) (ho : cs.size ≤ o) : w.cell? ⟨b, o, none⟩ = none := by
  rw [cell_of_block h]; exact Array.getElem?_eq_none ho
def A4Post (G : Wn.Fs) (w : World) (e : Ending) (w' : World) : Prop :=
  ∃ (x : Wn.Sm) (ok : Bool), e = .returned (.tuple #[smV x (.slice none 0 0), .bool ok]) ∧ x.l = .nil ∧ (if ok = true then Wn.rattr G = some x else Wn.rattr G = none) ∧ Below w.heap.size w w'
set_option maxRecDepth 100000 in
set_option maxHeartbeats 2000000 in
theorem r4attr (v : Value) (f : Wn.Fs) (w : World) (hv : Vals w v f) (hs : f.size ≤ 100000) :
    Calls Try.prog 56 #[v] w (A4Post (Wn.nbF f) w) := by
  have hfl : f.len ≤ 100000 := by have := Wn.Fs.len_le_size f; omega
  have HV := Lib.hid hv.old
  obtain ⟨vo, vc, rfl, c1, c2⟩ := hv.form
  unfold maxLen at c2
  have HA0 := Lib.hid (AI.start w)
  have HE0 : Hid (Wn.Fs.nil.app (Wn.nbF (f.drop 0)) = Wn.nbF f) := Lib.hid (by rw [Wn.Fs.drop_zero]; rfl)
  have HNS := Lib.hid (Nat.le_trans (Wn.nb_size f) hs)
  generalize Wn.nbF f = L at *
  clear hv hs
  go_enter Try.func56, Try.ntmps56
  go_wp2_with fail
  generalize (w.alloc (.cells #[.int .i64 0, .string ⟨#[]⟩, .string ⟨#[]⟩, .int .i64 0, .int .i64 0, .slice none 0 0] 45)).alloc (.cells #[.slice none 0 0, .int .i64 0, .bool false] 84) = W0 at *
  go_loopw [5] (fun v5 wr => ∃ (i : Nat) (v : Value) (es : List Ent) (acc : Wn.Fs), i ≤ f.len ∧ es.length ≤ i ∧ v5 = .int .i64 (i : Int) ∧ Hid (AI w wr v es acc) ∧ Hid (acc.app (Wn.nbF (f.drop i)) = L)) (fun v5 _ => f.len - (intOf v5).toNat)
  case atStart => exact ⟨0, _, [], .nil, Nat.zero_le _, Nat.le_refl _, rfl, HA0, HE0⟩
  case round =>
    clear HA0 HE0
    obtain ⟨i, v, es, acc, hil, hel, rfl, HP, HE⟩ := hrel
    obtain ⟨po, pc, rfl⟩ := own_form HP.out.own
    have hPw := lt_of_block HP.out.rd
    by_cases hlt : i < f.len
    · obtain ⟨k, t, x, hd⟩ := Wn.Fs.drop_cons hlt
      have HY := Lib.hid (fun h : Wn.blankV k t = true => Wn.nb_skip HE.out hd h)
      have HN := Lib.hid (fun h : Wn.blankV k t = false => Wn.nb_take HE.out hd h)
      obtain ⟨b, o, rfl, g0, ⟨g1, g2, g3⟩, u, g4, hu⟩ := HV.out.at hd
      have hbw : b < w.heap.size := World.block_lt_of_cell? _ _ g0
      have j0 := (HP.out.below.cell (p := ⟨b, o + i * 5, none⟩) hbw).trans g0
      have j1 := (HP.out.below.cell (p := ⟨b, o + i * 5 + 1, none⟩) hbw).trans g1
      have j2 := (HP.out.below.cell (p := ⟨b, o + i * 5 + 1 + 1, none⟩) hbw).trans g2
      have j3 := (HP.out.below.cell (p := ⟨b, o + i * 5 + 1 + 2, none⟩) hbw).trans g3
      have j4 := (HP.out.below.cell (p := ⟨b, o + i * 5 + 4, none⟩) hbw).trans g4
      clear g0 g1 g2 g3 g4
      rw [show o + i * 5 + 1 + 1 = o + i * 5 + 2 by omega] at j2
      rw [show o + i * 5 + 1 + 2 = o + i * 5 + 3 by omega] at j3
      obtain ⟨uo, uc, rfl, _, _⟩ := hu.form
      have HU := Lib.hid hu
      have hi1 : (i : Int) < (f.len : Int) := by omega
      clear hu
      have QB := Lib.hid (fun w => rBlank_v k t (.slice uo x.len uc) w ⟨_, _, _, rfl⟩)
      clear hd HE
      generalize hbl : Wn.blankV k t = bl at *
      clear hbl
      generalize hy : Wn.str t.2.1 = y at *
      go_wp2_with fail
      refine (QB.out _).mono ?_
      rintro e w5 ⟨rfl, b5⟩
      have HP5 := Lib.hid (HP.out.later b5)
      have hz5 : wr.heap.size ≤ w5.heap.size := b5.size
      have k0 := cell_late b5 j0
      have k1 := cell_late b5 j1
      have k2 := cell_late b5 j2
      have k3 := cell_late b5 j3
      have k4 := cell_late b5 j4
      clear j0 j1 j2 j3 j4
      clear b5 HP QB
      cases bl
      · clear HY
        have hrd := HP5.out.rd
        have c0 := cell_of_block (o := 0) hrd
        have fr0 := frozen_blk hrd 0
        simp only [List.getElem?_toArray, List.getElem?_cons_zero, List.getElem?_cons_succ] at c0
        have hgl := lt_of_block hrd
        clear hrd
        have HX : Hid (∀ Z v8 w8, Below w5.heap.size w5 Z → w8.ownsRow (w.heap.size + 2) 80 5 v8 (es ++ [((0, (0, [], 0), Value.slice Option.none 0 0) : Ent)]).length (valsCells (es ++ [((0, (0, [], 0), Value.slice Option.none 0 0) : Ent)])) → Z.grownBy w8 (Value.slice po es.length pc).ownBlock → ∃ q cap, v8 = .slice (some ⟨q, 0, none⟩) (es.length + 1) cap ∧ es.length + 1 ≤ cap ∧ cap ≤ maxLen ∧ AP w w8 (.slice po es.length pc) q cap es acc) := Lib.hid (fun Z v8 w8 hZ h1 h2 => HP5.out.app hZ h1 h2)
        have hii0 : (0 : Int) ≤ (i : Int) := by omega
        have hitn : ((i : Int)).toNat = i := by omega
        go_wp2_with fail
        have hi2 : i + 1 ≤ f.len := by omega
        have hel2 : (es ++ [((k, t, .slice uo x.len uc) : Ent)]).length ≤ i + 1 := by simp; omega
        have HM : Hid (f.len - (intOf (Value.int .i64 ((i : Int) + 1))).toNat < f.len - (intOf (Value.int .i64 (i : Int))).toNat) := Lib.hid (by simp [intOf]; omega)
        have HN2 := Lib.hid (HN.out (by simp))
        clear HN
        have hbl5 := World.block_lt_of_cell? _ _ k0
        dsimp only at hbl5
        have hbl6 : ¬ b = w5.heap.size := by omega
        have hgl6 : ¬ w.heap.size + 1 = w5.heap.size := by omega
        have hel1 : (es.length : Int) < (es.length : Int) + 1 := by omega
        have HSZ : Hid (∀ (Z : World) (n : Nat), n = Z.heap.size → VSrc (Z.alloc (.cells #[.int .i64 0, .int .i64 0, .string ⟨#[]⟩, .int .i64 0, .slice none 0 0] 80)) (.slice (some ⟨n, 0, none⟩) 1 1) [((0, (0, [], 0), Value.slice Option.none 0 0) : Ent)]) := Lib.hid (fun Z n hn => VSrc.one Z n hn 0 (0, [], 0) Option.none 0 0)
        go_region_law (refine step_append_v (by rfl) _ _ (by rfl) (w.heap.size + 2) (.slice po es.length pc) (.slice (some ⟨w5.heap.size, 0, none⟩) 1 1) es [((0, (0, [], 0), Value.slice Option.none 0 0) : Ent)] (by rfl) (by rfl) (ownsRow_later HP5.out.own ((Below.refl _ _).drew.alloc (Nat.le_refl _) _)) (HSZ.out _ _ rfl) (by simp; omega) (by simp; omega) ?_; intro v8 w8 hown8 hgr8; obtain ⟨q, cap, rfl, hq1, hq2, hap⟩ := HX.out _ _ _ ((Below.refl _ _).drew.alloc (Nat.le_refl _) _) hown8 hgr8; obtain ⟨⟨x0, x1, x2, x3, x4⟩, xf, xq⟩ := hap.at; (have x5 := xf (es.length * 5)); (have x6 := xf (es.length * 5 + 1)); (have x7 := xf (es.length * 5 + 2)); (have x8 := xf (es.length * 5 + 3)); (have x9 := xf (es.length * 5 + 4)); (have y0 := cell_of_block (o := 0) hap.rd); (have y1 := frozen_blk hap.rd 0); simp only [List.getElem?_toArray, List.getElem?_cons_zero, List.getElem?_cons_succ] at y0; (have hqq := hap.hq); (have hqa : ¬ q = w.heap.size + 1 := by omega); (have hqb : ¬ w.heap.size + 1 = q := by omega); unfold maxLen at hq2; (have HAP := Lib.hid hap); (have HL8 := Lib.hid (hap.below)); clear hown8 hgr8 hap xf)
        all_goals
          subst hy
          have HU8 := Lib.hid (HU.out.same (w' := w8) (fun b hb _ => HAP.out.below.block b hb) (fun _ h _ => h))
          have HFA := Lib.hid (HAP.out.fill (k := k) (t := t) HU8.out)
          have HFB := Lib.hid (HAP.out.fill' (k := k) (t := t) HU8.out)
          clear HX HSZ HAP HU8 HP5 HU k0 k1 k2 k3 k4 x0 x1 x2 x3 x4 x5 x6 x7 x8 x9 y0 y1 c0 fr0 HL8 HV
          go_wp2_with fail
          refine ⟨⟨i + 1, .slice (some ⟨q, 0, none⟩) (es.length + 1) cap, es ++ [(k, t, .slice uo x.len uc)], acc.app (.cons k t x .nil), hi2, hel2, by go_num, ?_, HN2⟩, HM.out⟩
          first
            | with_reducible exact HFA
            | with_reducible exact HFB
      · clear HN HU
        go_wp2_with fail
        exact ⟨⟨i + 1, _, es, acc, by omega, by omega, by go_num, HP5, Lib.hid (HY.out (by simp))⟩, by simp [intOf]; omega⟩
    · have hni : ¬ (i : Int) < (f.len : Int) := by omega
      obtain rfl := Wn.nb_end HE.out (by omega)
      have hrd := HP.out.reader HNS.out
      have QN := Lib.hid (r4name (w.heap.size + 1) 0 acc false wr hrd)
      have HB := Lib.hid HP.out.below
      have HRS := Lib.hid HP.out.res
      have hLl := hrd.len
      clear HP HE HNS HV hrd
      go_wp2_with fail
      refine QN.out.mono ?_
      rintro e w1 (⟨n, hn, hn0, rfl, hr1, ho1⟩ | ⟨hn, rfl, hr1, ho1⟩)
      · rw [Wn.Fs.drop_zero] at hn
        have HN1 := Lib.hid hn
        generalize hnm : Wn.str n.2.1 = nm at *
        have HNM := Lib.hid hnm
        have HEQ : Hid (∀ ok : Bool, Ending.returned (.tuple #[.agg #[.int .i64 5, .string nm, .string ⟨#[]⟩, .int .i64 0, .int .i64 0, .slice none 0 0], .bool ok]) = Ending.returned (.tuple #[smV ⟨5, n.2.1, [], 0, 0, .nil⟩ (.slice none 0 0), .bool ok])) := Lib.hid (fun ok => by rw [← hnm]; rfl)
        clear hnm
        have hgw : w.heap.size + 1 < wr.heap.size := hPw
        have hs1 := ho1.size
        have HR2 := Lib.hid hr1
        have HB2 := Lib.hid (HB.out.trans ((Only.kp ho1).below HB.out.size (by rintro b rfl; omega)))
        have hrs2 := (ho1.block w.heap.size (by omega) (by omega)).trans HRS.out
        have a0 := cell_of_block (o := 0) hrs2
        have a1 := cell_of_block (o := 1) hrs2
        have a2 := cell_of_block (o := 2) hrs2
        have a3 := cell_of_block (o := 3) hrs2
        have a4 := cell_of_block (o := 4) hrs2
        have a5 := cell_of_block (o := 5) hrs2
        have af0 := frozen_blk hrs2 0
        have af1 := frozen_blk hrs2 1
        have af2 := frozen_blk hrs2 2
        have af3 := frozen_blk hrs2 3
        have af4 := frozen_blk hrs2 4
        have af5 := frozen_blk hrs2 5
        simp only [List.getElem?_toArray, List.getElem?_cons_zero, List.getElem?_cons_succ] at a0 a1 a2 a3 a4 a5
        have HRS2 := Lib.hid hrs2
        obtain ⟨ao, cap, hb, hcc1, hcc2⟩ := HR2.out.cells
        unfold maxLen at hcc2
        have q0 := cell_of_block (o := 0) hb
        have q1 := cell_of_block (o := 1) hb
        have q2 := cell_of_block (o := 2) hb
        simp only [List.getElem?_toArray, List.getElem?_cons_zero, List.getElem?_cons_succ] at q0 q1 q2
        have m1 : w.heap.size < w1.heap.size := by omega
        have m2 : w.heap.size + 1 < w1.heap.size := by omega
        have n1 : ¬ w.heap.size = w1.heap.size := by omega
        have n2 : ¬ w1.heap.size = w.heap.size := by omega
        have n3 : ¬ w.heap.size + 1 = w1.heap.size := by omega
        have n4 : ¬ w1.heap.size = w.heap.size + 1 := by omega
        have n5 : ¬ w.heap.size = w.heap.size + 1 := by omega
        have n6 : ¬ w.heap.size + 1 = w.heap.size := by omega
        clear hrs2 hb hr1 ho1 HB HRS QN hcc1
        by_cases hl1 : acc.len = 1
        · have hli : (acc.len : Int) = 1 := by omega
          have HE := Lib.hid (Wn.ra_one HN1.out hl1)
          go_wp2_with fail
          go_region
          all_goals go_wp2_with fail
          all_goals refine bodyPost_ret (v := .tuple #[.agg #[.int .i64 5, .string nm, .string ⟨#[]⟩, .int .i64 0, .int .i64 0, .slice none 0 0], .bool true]) (by simp [results, Try.results56, go_sem, a0, a1, a2, a3, a4, a5, m1, m2, n1, n2, n3, n4, n5, n6]) rfl ⟨⟨5, n.2.1, [], 0, 0, .nil⟩, true, HEQ.out _, rfl, ?_, (by (repeat (first | with_reducible exact HB2.out | (with_reducible refine Below.drew ?_) | (with_reducible refine below_drewN' ?_ _) | ((with_reducible refine Below.setCell ?_ ?_ _); rotate_left; (focus (first | omega | (simp; done) | (simp; omega)))) | ((with_reducible refine Below.alloc ?_ ?_ _); rotate_left; (focus (first | omega | (simp; omega)))))))⟩
          all_goals (rw [if_pos rfl, HE.out]; rfl)
        · have hli : ¬ (acc.len : Int) = 1 := by omega
          by_cases hl3 : acc.len = 3
          · skip
            have hr2 : R4 (w1.alloc (.cells #[.int .i64 5, .string nm, .string ⟨#[]⟩, .int .i64 0, .int .i64 0, .slice none 0 0] 45)) (w.heap.size + 1) (.slice po es.length pc) acc (0 + 1) false := HR2.out.below ((Below.refl _ _).alloc (Nat.le_refl _) _)
            have hli3 : (acc.len : Int) = 3 := by omega
            have hxb := heap_alloc_new w1 (.cells #[.int .i64 5, .string nm, .string ⟨#[]⟩, .int .i64 0, .int .i64 0, .slice none 0 0] 45)
            have hb2 : Below w1.heap.size w1 (w1.alloc (.cells #[.int .i64 5, .string nm, .string ⟨#[]⟩, .int .i64 0, .int .i64 0, .slice none 0 0] 45)) := (Below.refl _ _).alloc (Nat.le_refl _) _
            have HB3 := Lib.hid (HB2.out.trans (hb2.mono (by omega)))
            have hz2 : (w1.alloc (.cells #[.int .i64 5, .string nm, .string ⟨#[]⟩, .int .i64 0, .int .i64 0, .slice none 0 0] 45)).heap.size = w1.heap.size + 1 := by simp
            have HR3 := Lib.hid hr2
            have HX3 := Lib.hid hxb
            have HRS3 := Lib.hid (block_lat hb2 HRS2.out)
            obtain ⟨k, t, x, hd2⟩ := Wn.Fs.drop_cons (show 2 < acc.len by omega)
            have HD2 := Lib.hid hd2
            have hl2 : (2 : Int) < (acc.len : Int) := by omega
            clear hr2 hxb a0 a1 a2 a3 a4 a5 af0 af1 af2 af3 af4 af5 hd2
            clear hb2
            go_wp2_with fail
            clear q0 q1 q2
            generalize w1.alloc (.cells #[.int .i64 5, .string nm, .string ⟨#[]⟩, .int .i64 0, .int .i64 0, .slice none 0 0] 45) = W2 at *
            refine (r4sign [61] (w.heap.size + 1) (0 + 1) acc false W2 HR3.out).mono ?_
            rintro e w3 (⟨hs3, hlt3, rfl, hr3, ho3⟩ | ⟨hs3, rfl, hr3, ho3⟩)
            · have HS3 := Lib.hid hs3
              obtain ⟨vb, vo', vcap, uo, uc, hvb, hvc1, hvc2, v0, v1, v2, v3, v4, _, hvg⟩ := hr3.atj HD2.out
              have p1 := World.block_lt_of_cell? _ _ v0
              dsimp only at p1
              have p2 : ¬ vb = w3.heap.size := by omega
              have p3 : ¬ vb = w1.heap.size := by
                rintro rfl
                rw [cell_far ((ho3.block w1.heap.size (by omega) (by omega)).trans HX3.out) (by show 6 ≤ _; omega)] at v0; cases v0
              have p4 : ¬ vb = w.heap.size := by
                rintro rfl
                rw [cell_far ((ho3.block w.heap.size (by omega) (by omega)).trans HRS3.out) (by show 6 ≤ _; omega)] at v0; cases v0
              have hs3' := ho3.size
              have HB2 := Lib.hid (HB3.out.trans ((Only.kp ho3).below HB3.out.size (by rintro b rfl; omega)))
              have hrs3 := (ho3.block w.heap.size (by omega) (by omega)).trans HRS3.out
              have hxb3 := (ho3.block w1.heap.size (by omega) (by omega)).trans HX3.out
              have a0 := cell_of_block (o := 0) hrs3
              have a1 := cell_of_block (o := 1) hrs3
              have a2 := cell_of_block (o := 2) hrs3
              have a3 := cell_of_block (o := 3) hrs3
              have a4 := cell_of_block (o := 4) hrs3
              have a5 := cell_of_block (o := 5) hrs3
              have af0 := frozen_blk hrs3 0
              have af1 := frozen_blk hrs3 1
              have af2 := frozen_blk hrs3 2
              have af3 := frozen_blk hrs3 3
              have af4 := frozen_blk hrs3 4
              have af5 := frozen_blk hrs3 5
              simp only [List.getElem?_toArray, List.getElem?_cons_zero, List.getElem?_cons_succ] at a0 a1 a2 a3 a4 a5
              have x0 := cell_of_block (o := 0) hxb3
              have x1 := cell_of_block (o := 1) hxb3
              have x2 := cell_of_block (o := 2) hxb3
              have x3 := cell_of_block (o := 3) hxb3
              have x4 := cell_of_block (o := 4) hxb3
              have x5 := cell_of_block (o := 5) hxb3
              have xf0 := frozen_blk hxb3 0
              have xf1 := frozen_blk hxb3 1
              have xf2 := frozen_blk hxb3 2
              have xf3 := frozen_blk hxb3 3
              have xf4 := frozen_blk hxb3 4
              have xf5 := frozen_blk hxb3 5
              simp only [List.getElem?_toArray, List.getElem?_cons_zero, List.getElem?_cons_succ] at x0 x1 x2 x3 x4 x5
              obtain ⟨ao3, cap3, hb3, hcc31, hcc32⟩ := hr3.cells
              unfold maxLen at hcc32
              have q0 := cell_of_block (o := 0) hb3
              have q1 := cell_of_block (o := 1) hb3
              have q2 := cell_of_block (o := 2) hb3
              simp only [List.getElem?_toArray, List.getElem?_cons_zero, List.getElem?_cons_succ] at q0 q1 q2
              have m3 : w.heap.size < w3.heap.size := by omega
              have m4 : w.heap.size + 1 < w3.heap.size := by omega
              have m5 : w1.heap.size < w3.heap.size := by omega
              have m6 : ¬ w.heap.size = w3.heap.size := by omega
              have m7 : ¬ w.heap.size + 1 = w3.heap.size := by omega
              have m8 : ¬ w1.heap.size = w3.heap.size := by omega
              clear hrs3 hxb3 hb3 hcc31 HB3 HRS3 HX3 HR3 HRS2 HR2
              clear q0
              have q0 := cell_of_block (o := 0) hvb
              simp only [List.getElem?_toArray, List.getElem?_cons_zero] at q0
              clear hvb v4
              clear hs3 hr3 ho3
              generalize hst : Wn.str t.2.1 = tx at *
              generalize htk : t.1 = tk at *
              generalize htn : t.2.2 = tn at *
              have HTK := Lib.hid htk
              have HTX := Lib.hid hst
              clear hst htk htn
              have HEQ6 : Hid (∀ ok : Bool, Ending.returned (.tuple #[.agg #[.int .i64 6, .string nm, .string tx, .int .i64 0, .int .i64 0, .slice none 0 0], .bool ok]) = Ending.returned (.tuple #[smV ⟨6, n.2.1, t.2.1, 0, 0, .nil⟩ (.slice none 0 0), .bool ok])) := Lib.hid (fun ok => by rw [← HNM.out, ← HTX.out])
              have HRA : Hid (Wn.rattr acc = if k = 1 ∧ (tk = 1 ∨ tk = 6) then some ⟨6, n.2.1, t.2.1, 0, 0, .nil⟩ else none) := Lib.hid (by rw [← HTK.out]; exact Wn.ra_yes HN1.out hl3 HS3.out HD2.out)
              by_cases e1 : k = 1
              · by_cases e2 : tk = 1
                · have HE : Hid (Wn.rattr acc = some ⟨6, n.2.1, t.2.1, 0, 0, .nil⟩) := Lib.hid (by rw [HRA.out, if_pos ⟨e1, .inl e2⟩])
                  clear HRA HTK HTX
                  subst e1 e2
                  go_wp2_with fail
                  go_region
                  all_goals go_wp2_with fail
                  all_goals refine bodyPost_ret (v := .tuple #[.agg #[.int .i64 6, .string nm, .string tx, .int .i64 0, .int .i64 0, .slice none 0 0], .bool true]) (by simp [results, Try.results56, go_sem, a0, a1, a2, a3, a4, a5, m3, m4, m5, m6, m7, m8, n1, n2, n3, n4, n5, n6]) rfl ⟨_, true, HEQ6.out _, rfl, ?_, (by (repeat (first | with_reducible exact HB2.out | (with_reducible refine Below.drew ?_) | (with_reducible refine below_drewN' ?_ _) | ((with_reducible refine Below.setCell ?_ ?_ _); rotate_left; (focus (first | omega | (simp; done) | (simp; omega)))) | ((with_reducible refine Below.alloc ?_ ?_ _); rotate_left; (focus (first | omega | (simp; omega)))))))⟩
                  all_goals rw [if_pos rfl, HE.out]
                · by_cases e3 : tk = 6
                  · have HE : Hid (Wn.rattr acc = some ⟨6, n.2.1, t.2.1, 0, 0, .nil⟩) := Lib.hid (by rw [HRA.out, if_pos ⟨e1, .inr e3⟩])
                    clear HRA HTK HTX e2
                    subst e1 e3
                    go_wp2_with fail
                    go_region
                    all_goals go_wp2_with fail
                    all_goals refine bodyPost_ret (v := .tuple #[.agg #[.int .i64 6, .string nm, .string tx, .int .i64 0, .int .i64 0, .slice none 0 0], .bool true]) (by simp [results, Try.results56, go_sem, a0, a1, a2, a3, a4, a5, m3, m4, m5, m6, m7, m8, n1, n2, n3, n4, n5, n6]) rfl ⟨_, true, HEQ6.out _, rfl, ?_, (by (repeat (first | with_reducible exact HB2.out | (with_reducible refine Below.drew ?_) | (with_reducible refine below_drewN' ?_ _) | ((with_reducible refine Below.setCell ?_ ?_ _); rotate_left; (focus (first | omega | (simp; done) | (simp; omega)))) | ((with_reducible refine Below.alloc ?_ ?_ _); rotate_left; (focus (first | omega | (simp; omega)))))))⟩
                    all_goals rw [if_pos rfl, HE.out]
                  · have HE : Hid (Wn.rattr acc = none) := Lib.hid (by rw [HRA.out, if_neg]; rintro ⟨_, h | h⟩; exact e2 h; exact e3 h)
                    have e2' : (tk == 1) = false := by simpa using e2
                    have e3' : (tk == 6) = false := by simpa using e3
                    clear HRA HTK HTX
                    subst e1
                    go_wp2_with fail
                    go_region
                    all_goals go_wp2_with fail
                    all_goals refine bodyPost_ret (v := .tuple #[.agg #[.int .i64 6, .string nm, .string tx, .int .i64 0, .int .i64 0, .slice none 0 0], .bool false]) (by simp [results, Try.results56, go_sem, a0, a1, a2, a3, a4, a5, m3, m4, m5, m6, m7, m8, n1, n2, n3, n4, n5, n6]) rfl ⟨_, false, HEQ6.out _, rfl, ?_, (by (repeat (first | with_reducible exact HB2.out | (with_reducible refine Below.drew ?_) | (with_reducible refine below_drewN' ?_ _) | ((with_reducible refine Below.setCell ?_ ?_ _); rotate_left; (focus (first | omega | (simp; done) | (simp; omega)))) | ((with_reducible refine Below.alloc ?_ ?_ _); rotate_left; (focus (first | omega | (simp; omega)))))))⟩
                    all_goals rw [if_neg (by decide), HE.out]
              · have HE : Hid (Wn.rattr acc = none) := Lib.hid (by rw [HRA.out, if_neg]; rintro ⟨h, _⟩; exact e1 h)
                have e1' : (k == 1) = false := by simpa using e1
                clear HRA HTK HTX
                go_wp2_with fail
                go_region
                all_goals go_wp2_with fail
                all_goals refine bodyPost_ret (v := .tuple #[.agg #[.int .i64 6, .string nm, .string tx, .int .i64 0, .int .i64 0, .slice none 0 0], .bool false]) (by simp [results, Try.results56, go_sem, a0, a1, a2, a3, a4, a5, m3, m4, m5, m6, m7, m8, n1, n2, n3, n4, n5, n6]) rfl ⟨_, false, HEQ6.out _, rfl, ?_, (by (repeat (first | with_reducible exact HB2.out | (with_reducible refine Below.drew ?_) | (with_reducible refine below_drewN' ?_ _) | ((with_reducible refine Below.setCell ?_ ?_ _); rotate_left; (focus (first | omega | (simp; done) | (simp; omega)))) | ((with_reducible refine Below.alloc ?_ ?_ _); rotate_left; (focus (first | omega | (simp; omega)))))))⟩
                all_goals rw [if_neg (by decide), HE.out]
            · have HE := Lib.hid (Wn.ra_noS HN1.out hl3 hs3)
              have hs3' := ho3.size
              have HB2 := Lib.hid (HB3.out.trans ((Only.kp ho3).below HB3.out.size (by rintro b rfl; omega)))
              have hrs3 := (ho3.block w.heap.size (by omega) (by omega)).trans HRS3.out
              have hxb3 := (ho3.block w1.heap.size (by omega) (by omega)).trans HX3.out
              have a0 := cell_of_block (o := 0) hrs3
              have a1 := cell_of_block (o := 1) hrs3
              have a2 := cell_of_block (o := 2) hrs3
              have a3 := cell_of_block (o := 3) hrs3
              have a4 := cell_of_block (o := 4) hrs3
              have a5 := cell_of_block (o := 5) hrs3
              have af0 := frozen_blk hrs3 0
              have af1 := frozen_blk hrs3 1
              have af2 := frozen_blk hrs3 2
              have af3 := frozen_blk hrs3 3
              have af4 := frozen_blk hrs3 4
              have af5 := frozen_blk hrs3 5
              simp only [List.getElem?_toArray, List.getElem?_cons_zero, List.getElem?_cons_succ] at a0 a1 a2 a3 a4 a5
              have x0 := cell_of_block (o := 0) hxb3
              have x1 := cell_of_block (o := 1) hxb3
              have x2 := cell_of_block (o := 2) hxb3
              have x3 := cell_of_block (o := 3) hxb3
              have x4 := cell_of_block (o := 4) hxb3
              have x5 := cell_of_block (o := 5) hxb3
              have xf0 := frozen_blk hxb3 0
              have xf1 := frozen_blk hxb3 1
              have xf2 := frozen_blk hxb3 2
              have xf3 := frozen_blk hxb3 3
              have xf4 := frozen_blk hxb3 4
              have xf5 := frozen_blk hxb3 5
              simp only [List.getElem?_toArray, List.getElem?_cons_zero, List.getElem?_cons_succ] at x0 x1 x2 x3 x4 x5
              obtain ⟨ao3, cap3, hb3, hcc31, hcc32⟩ := hr3.cells
              unfold maxLen at hcc32
              have q0 := cell_of_block (o := 0) hb3
              have q1 := cell_of_block (o := 1) hb3
              have q2 := cell_of_block (o := 2) hb3
              simp only [List.getElem?_toArray, List.getElem?_cons_zero, List.getElem?_cons_succ] at q0 q1 q2
              have m3 : w.heap.size < w3.heap.size := by omega
              have m4 : w.heap.size + 1 < w3.heap.size := by omega
              have m5 : w1.heap.size < w3.heap.size := by omega
              have m6 : ¬ w.heap.size = w3.heap.size := by omega
              have m7 : ¬ w.heap.size + 1 = w3.heap.size := by omega
              have m8 : ¬ w1.heap.size = w3.heap.size := by omega
              clear hrs3 hxb3 hb3 hcc31 HB3 HRS3 HX3 HR3 HRS2 HR2
              clear hs3 hr3 ho3
              go_wp2_with fail
              refine bodyPost_ret (v := .tuple #[.agg #[.int .i64 5, .string nm, .string ⟨#[]⟩, .int .i64 0, .int .i64 0, .slice none 0 0], .bool false]) (by simp [results, Try.results56, go_sem, a0, a1, a2, a3, a4, a5, m1, m2, n1, n2, n3, n4, n5, n6]) rfl ⟨_, false, HEQ.out _, rfl, ?_, (by (repeat (first | with_reducible exact HB2.out | (with_reducible refine Below.drew ?_) | (with_reducible refine below_drewN' ?_ _) | ((with_reducible refine Below.setCell ?_ ?_ _); rotate_left; (focus (first | omega | (simp; done) | (simp; omega)))) | ((with_reducible refine Below.alloc ?_ ?_ _); rotate_left; (focus (first | omega | (simp; omega)))))))⟩
              rw [if_neg (by decide), HE.out]
          · have hli3 : ¬ (acc.len : Int) = 3 := by omega
            have HE := Lib.hid (Wn.ra_far HN1.out hl1 hl3)
            go_wp2_with fail
            refine bodyPost_ret (v := .tuple #[.agg #[.int .i64 5, .string nm, .string ⟨#[]⟩, .int .i64 0, .int .i64 0, .slice none 0 0], .bool false]) (by simp [results, Try.results56, go_sem, a0, a1, a2, a3, a4, a5, m1, m2, n1, n2, n3, n4, n5, n6]) rfl ⟨⟨5, n.2.1, [], 0, 0, .nil⟩, false, HEQ.out _, rfl, ?_, (by (repeat (first | with_reducible exact HB2.out | (with_reducible refine Below.drew ?_) | (with_reducible refine below_drewN' ?_ _) | ((with_reducible refine Below.setCell ?_ ?_ _); rotate_left; (focus (first | omega | (simp; done) | (simp; omega)))) | ((with_reducible refine Below.alloc ?_ ?_ _); rotate_left; (focus (first | omega | (simp; omega)))))))⟩
            rw [if_neg (by decide), HE.out]
      · rw [Wn.Fs.drop_zero] at hn
        have HN1 := Lib.hid hn
        have HEQ : Hid (∀ ok : Bool, Ending.returned (.tuple #[.agg #[.int .i64 5, .string ⟨#[]⟩, .string ⟨#[]⟩, .int .i64 0, .int .i64 0, .slice none 0 0], .bool ok]) = Ending.returned (.tuple #[smV ⟨5, [], [], 0, 0, .nil⟩ (.slice none 0 0), .bool ok])) := Lib.hid (fun ok => rfl)
        have hgw : w.heap.size + 1 < wr.heap.size := hPw
        have hs1 := ho1.size
        have HR2 := Lib.hid hr1
        have HB2 := Lib.hid (HB.out.trans ((Only.kp ho1).below HB.out.size (by rintro b rfl; omega)))
        have hrs2 := (ho1.block w.heap.size (by omega) (by omega)).trans HRS.out
        have a0 := cell_of_block (o := 0) hrs2
        have a1 := cell_of_block (o := 1) hrs2
        have a2 := cell_of_block (o := 2) hrs2
        have a3 := cell_of_block (o := 3) hrs2
        have a4 := cell_of_block (o := 4) hrs2
        have a5 := cell_of_block (o := 5) hrs2
        have af0 := frozen_blk hrs2 0
        have af1 := frozen_blk hrs2 1
        have af2 := frozen_blk hrs2 2
        have af3 := frozen_blk hrs2 3
        have af4 := frozen_blk hrs2 4
        have af5 := frozen_blk hrs2 5
        simp only [List.getElem?_toArray, List.getElem?_cons_zero, List.getElem?_cons_succ] at a0 a1 a2 a3 a4 a5
        have HRS2 := Lib.hid hrs2
        obtain ⟨ao, cap, hb, hcc1, hcc2⟩ := HR2.out.cells
        unfold maxLen at hcc2
        have q0 := cell_of_block (o := 0) hb
        have q1 := cell_of_block (o := 1) hb
        have q2 := cell_of_block (o := 2) hb
        simp only [List.getElem?_toArray, List.getElem?_cons_zero, List.getElem?_cons_succ] at q0 q1 q2
        have m1 : w.heap.size < w1.heap.size := by omega
        have m2 : w.heap.size + 1 < w1.heap.size := by omega
        have n1 : ¬ w.heap.size = w1.heap.size := by omega
        have n2 : ¬ w1.heap.size = w.heap.size := by omega
        have n3 : ¬ w.heap.size + 1 = w1.heap.size := by omega
        have n4 : ¬ w1.heap.size = w.heap.size + 1 := by omega
        have n5 : ¬ w.heap.size = w.heap.size + 1 := by omega
        have n6 : ¬ w.heap.size + 1 = w.heap.size := by omega
        clear hrs2 hb hr1 ho1 HB HRS QN hcc1
        by_cases hl1 : acc.len = 1
        · have hli : (acc.len : Int) = 1 := by omega
          have HE := Lib.hid (Wn.ra_none HN1.out)
          go_wp2_with fail
          go_region
          all_goals go_wp2_with fail
          all_goals refine bodyPost_ret (v := .tuple #[.agg #[.int .i64 5, .string ⟨#[]⟩, .string ⟨#[]⟩, .int .i64 0, .int .i64 0, .slice none 0 0], .bool false]) (by simp [results, Try.results56, go_sem, a0, a1, a2, a3, a4, a5, m1, m2, n1, n2, n3, n4, n5, n6]) rfl ⟨⟨5, [], [], 0, 0, .nil⟩, false, HEQ.out _, rfl, ?_, (by (repeat (first | with_reducible exact HB2.out | (with_reducible refine Below.drew ?_) | (with_reducible refine below_drewN' ?_ _) | ((with_reducible refine Below.setCell ?_ ?_ _); rotate_left; (focus (first | omega | (simp; done) | (simp; omega)))) | ((with_reducible refine Below.alloc ?_ ?_ _); rotate_left; (focus (first | omega | (simp; omega)))))))⟩
          all_goals (rw [if_neg (by decide), HE.out])
        · have hli : ¬ (acc.len : Int) = 1 := by omega
          by_cases hl3 : acc.len = 3
          · skip
            have hr2 : R4 (w1.alloc (.cells #[.int .i64 5, .string ⟨#[]⟩, .string ⟨#[]⟩, .int .i64 0, .int .i64 0, .slice none 0 0] 45)) (w.heap.size + 1) (.slice po es.length pc) acc 0 true := HR2.out.below ((Below.refl _ _).alloc (Nat.le_refl _) _)
            have hli3 : (acc.len : Int) = 3 := by omega
            have hxb := heap_alloc_new w1 (.cells #[.int .i64 5, .string ⟨#[]⟩, .string ⟨#[]⟩, .int .i64 0, .int .i64 0, .slice none 0 0] 45)
            have hb2 : Below w1.heap.size w1 (w1.alloc (.cells #[.int .i64 5, .string ⟨#[]⟩, .string ⟨#[]⟩, .int .i64 0, .int .i64 0, .slice none 0 0] 45)) := (Below.refl _ _).alloc (Nat.le_refl _) _
            have HB3 := Lib.hid (HB2.out.trans (hb2.mono (by omega)))
            have hz2 : (w1.alloc (.cells #[.int .i64 5, .string ⟨#[]⟩, .string ⟨#[]⟩, .int .i64 0, .int .i64 0, .slice none 0 0] 45)).heap.size = w1.heap.size + 1 := by simp
            have HR3 := Lib.hid hr2
            have HX3 := Lib.hid hxb
            have HRS3 := Lib.hid (block_lat hb2 HRS2.out)
            obtain ⟨k, t, x, hd2⟩ := Wn.Fs.drop_cons (show 2 < acc.len by omega)
            have HD2 := Lib.hid hd2
            have hl2 : (2 : Int) < (acc.len : Int) := by omega
            clear hr2 hxb a0 a1 a2 a3 a4 a5 af0 af1 af2 af3 af4 af5 hd2
            clear hb2
            go_wp2_with fail
            clear q0 q1 q2
            generalize w1.alloc (.cells #[.int .i64 5, .string ⟨#[]⟩, .string ⟨#[]⟩, .int .i64 0, .int .i64 0, .slice none 0 0] 45) = W2 at *
            refine (r4sign [61] (w.heap.size + 1) 0 acc true W2 HR3.out).mono ?_
            rintro e w3 (⟨hs3, hlt3, rfl, hr3, ho3⟩ | ⟨hs3, rfl, hr3, ho3⟩)
            · have HS3 := Lib.hid hs3
              obtain ⟨vb, vo', vcap, uo, uc, hvb, hvc1, hvc2, v0, v1, v2, v3, v4, _, hvg⟩ := hr3.atj HD2.out
              have p1 := World.block_lt_of_cell? _ _ v0
              dsimp only at p1
              have p2 : ¬ vb = w3.heap.size := by omega
              have p3 : ¬ vb = w1.heap.size := by
                rintro rfl
                rw [cell_far ((ho3.block w1.heap.size (by omega) (by omega)).trans HX3.out) (by show 6 ≤ _; omega)] at v0; cases v0
              have p4 : ¬ vb = w.heap.size := by
                rintro rfl
                rw [cell_far ((ho3.block w.heap.size (by omega) (by omega)).trans HRS3.out) (by show 6 ≤ _; omega)] at v0; cases v0
              have hs3' := ho3.size
              have HB2 := Lib.hid (HB3.out.trans ((Only.kp ho3).below HB3.out.size (by rintro b rfl; omega)))
              have hrs3 := (ho3.block w.heap.size (by omega) (by omega)).trans HRS3.out
              have hxb3 := (ho3.block w1.heap.size (by omega) (by omega)).trans HX3.out
              have a0 := cell_of_block (o := 0) hrs3
              have a1 := cell_of_block (o := 1) hrs3
              have a2 := cell_of_block (o := 2) hrs3
              have a3 := cell_of_block (o := 3) hrs3
              have a4 := cell_of_block (o := 4) hrs3
              have a5 := cell_of_block (o := 5) hrs3
              have af0 := frozen_blk hrs3 0
              have af1 := frozen_blk hrs3 1
              have af2 := frozen_blk hrs3 2
              have af3 := frozen_blk hrs3 3
              have af4 := frozen_blk hrs3 4
              have af5 := frozen_blk hrs3 5
              simp only [List.getElem?_toArray, List.getElem?_cons_zero, List.getElem?_cons_succ] at a0 a1 a2 a3 a4 a5
              have x0 := cell_of_block (o := 0) hxb3
              have x1 := cell_of_block (o := 1) hxb3
              have x2 := cell_of_block (o := 2) hxb3
              have x3 := cell_of_block (o := 3) hxb3
              have x4 := cell_of_block (o := 4) hxb3
              have x5 := cell_of_block (o := 5) hxb3
              have xf0 := frozen_blk hxb3 0
              have xf1 := frozen_blk hxb3 1
              have xf2 := frozen_blk hxb3 2
              have xf3 := frozen_blk hxb3 3
              have xf4 := frozen_blk hxb3 4
              have xf5 := frozen_blk hxb3 5
              simp only [List.getElem?_toArray, List.getElem?_cons_zero, List.getElem?_cons_succ] at x0 x1 x2 x3 x4 x5
              obtain ⟨ao3, cap3, hb3, hcc31, hcc32⟩ := hr3.cells
              unfold maxLen at hcc32
              have q0 := cell_of_block (o := 0) hb3
              have q1 := cell_of_block (o := 1) hb3
              have q2 := cell_of_block (o := 2) hb3
              simp only [List.getElem?_toArray, List.getElem?_cons_zero, List.getElem?_cons_succ] at q0 q1 q2
              have m3 : w.heap.size < w3.heap.size := by omega
              have m4 : w.heap.size + 1 < w3.heap.size := by omega
              have m5 : w1.heap.size < w3.heap.size := by omega
              have m6 : ¬ w.heap.size = w3.heap.size := by omega
              have m7 : ¬ w.heap.size + 1 = w3.heap.size := by omega
              have m8 : ¬ w1.heap.size = w3.heap.size := by omega
              clear hrs3 hxb3 hb3 hcc31 HB3 HRS3 HX3 HR3 HRS2 HR2
              clear q0
              have q0 := cell_of_block (o := 0) hvb
              simp only [List.getElem?_toArray, List.getElem?_cons_zero] at q0
              clear hvb v4
              clear hs3 hr3 ho3
              generalize hst : Wn.str t.2.1 = tx at *
              generalize htk : t.1 = tk at *
              generalize htn : t.2.2 = tn at *
              have HTK := Lib.hid htk
              have HTX := Lib.hid hst
              clear hst htk htn
              have HEQ6 : Hid (∀ ok : Bool, Ending.returned (.tuple #[.agg #[.int .i64 6, .string ⟨#[]⟩, .string tx, .int .i64 0, .int .i64 0, .slice none 0 0], .bool ok]) = Ending.returned (.tuple #[smV ⟨6, [], t.2.1, 0, 0, .nil⟩ (.slice none 0 0), .bool ok])) := Lib.hid (fun ok => by rw [← HTX.out]; rfl)
              have HE := Lib.hid (Wn.ra_none HN1.out)
              clear HTK HTX
              go_wp2_with fail
              go_region
              all_goals go_wp2_with fail
              all_goals refine bodyPost_ret (v := .tuple #[.agg #[.int .i64 6, .string ⟨#[]⟩, .string tx, .int .i64 0, .int .i64 0, .slice none 0 0], .bool false]) (by simp [results, Try.results56, go_sem, a0, a1, a2, a3, a4, a5, m3, m4, m5, m6, m7, m8, n1, n2, n3, n4, n5, n6]) rfl ⟨_, false, HEQ6.out _, rfl, ?_, (by (repeat (first | with_reducible exact HB2.out | (with_reducible refine Below.drew ?_) | (with_reducible refine below_drewN' ?_ _) | ((with_reducible refine Below.setCell ?_ ?_ _); rotate_left; (focus (first | omega | (simp; done) | (simp; omega)))) | ((with_reducible refine Below.alloc ?_ ?_ _); rotate_left; (focus (first | omega | (simp; omega)))))))⟩
              all_goals rw [if_neg (by decide), HE.out]
            · have HE := Lib.hid (Wn.ra_none HN1.out)
              have hs3' := ho3.size
              have HB2 := Lib.hid (HB3.out.trans ((Only.kp ho3).below HB3.out.size (by rintro b rfl; omega)))
              have hrs3 := (ho3.block w.heap.size (by omega) (by omega)).trans HRS3.out
              have hxb3 := (ho3.block w1.heap.size (by omega) (by omega)).trans HX3.out
              have a0 := cell_of_block (o := 0) hrs3
              have a1 := cell_of_block (o := 1) hrs3
              have a2 := cell_of_block (o := 2) hrs3
              have a3 := cell_of_block (o := 3) hrs3
              have a4 := cell_of_block (o := 4) hrs3
              have a5 := cell_of_block (o := 5) hrs3
              have af0 := frozen_blk hrs3 0
              have af1 := frozen_blk hrs3 1
              have af2 := frozen_blk hrs3 2
              have af3 := frozen_blk hrs3 3
              have af4 := frozen_blk hrs3 4
              have af5 := frozen_blk hrs3 5
              simp only [List.getElem?_toArray, List.getElem?_cons_zero, List.getElem?_cons_succ] at a0 a1 a2 a3 a4 a5
              have x0 := cell_of_block (o := 0) hxb3
              have x1 := cell_of_block (o := 1) hxb3
              have x2 := cell_of_block (o := 2) hxb3
              have x3 := cell_of_block (o := 3) hxb3
              have x4 := cell_of_block (o := 4) hxb3
              have x5 := cell_of_block (o := 5) hxb3
              have xf0 := frozen_blk hxb3 0
              have xf1 := frozen_blk hxb3 1
              have xf2 := frozen_blk hxb3 2
              have xf3 := frozen_blk hxb3 3
              have xf4 := frozen_blk hxb3 4
              have xf5 := frozen_blk hxb3 5
              simp only [List.getElem?_toArray, List.getElem?_cons_zero, List.getElem?_cons_succ] at x0 x1 x2 x3 x4 x5
              obtain ⟨ao3, cap3, hb3, hcc31, hcc32⟩ := hr3.cells
              unfold maxLen at hcc32
              have q0 := cell_of_block (o := 0) hb3
              have q1 := cell_of_block (o := 1) hb3
              have q2 := cell_of_block (o := 2) hb3
              simp only [List.getElem?_toArray, List.getElem?_cons_zero, List.getElem?_cons_succ] at q0 q1 q2
              have m3 : w.heap.size < w3.heap.size := by omega
              have m4 : w.heap.size + 1 < w3.heap.size := by omega
              have m5 : w1.heap.size < w3.heap.size := by omega
              have m6 : ¬ w.heap.size = w3.heap.size := by omega
              have m7 : ¬ w.heap.size + 1 = w3.heap.size := by omega
              have m8 : ¬ w1.heap.size = w3.heap.size := by omega
              clear hrs3 hxb3 hb3 hcc31 HB3 HRS3 HX3 HR3 HRS2 HR2
              clear hs3 hr3 ho3
              go_wp2_with fail
              refine bodyPost_ret (v := .tuple #[.agg #[.int .i64 5, .string ⟨#[]⟩, .string ⟨#[]⟩, .int .i64 0, .int .i64 0, .slice none 0 0], .bool false]) (by simp [results, Try.results56, go_sem, a0, a1, a2, a3, a4, a5, m1, m2, n1, n2, n3, n4, n5, n6]) rfl ⟨_, false, HEQ.out _, rfl, ?_, (by (repeat (first | with_reducible exact HB2.out | (with_reducible refine Below.drew ?_) | (with_reducible refine below_drewN' ?_ _) | ((with_reducible refine Below.setCell ?_ ?_ _); rotate_left; (focus (first | omega | (simp; done) | (simp; omega)))) | ((with_reducible refine Below.alloc ?_ ?_ _); rotate_left; (focus (first | omega | (simp; omega)))))))⟩
              rw [if_neg (by decide), HE.out]
          · have hli3 : ¬ (acc.len : Int) = 3 := by omega
            have HE := Lib.hid (Wn.ra_none HN1.out)
            go_wp2_with fail
            refine bodyPost_ret (v := .tuple #[.agg #[.int .i64 5, .string ⟨#[]⟩, .string ⟨#[]⟩, .int .i64 0, .int .i64 0, .slice none 0 0], .bool false]) (by simp [results, Try.results56, go_sem, a0, a1, a2, a3, a4, a5, m1, m2, n1, n2, n3, n4, n5, n6]) rfl ⟨⟨5, [], [], 0, 0, .nil⟩, false, HEQ.out _, rfl, ?_, (by (repeat (first | with_reducible exact HB2.out | (with_reducible refine Below.drew ?_) | (with_reducible refine below_drewN' ?_ _) | ((with_reducible refine Below.setCell ?_ ?_ _); rotate_left; (focus (first | omega | (simp; done) | (simp; omega)))) | ((with_reducible refine Below.alloc ?_ ?_ _); rotate_left; (focus (first | omega | (simp; omega)))))))⟩
            rw [if_neg (by decide), HE.out]
end Go.Proofs.Ytbjhiimjillleaa
