/- The parser in memory; what its value answers, if its values answer as they should on fewer tokens. What the parser's value answers: a block. What the parser's values answers. -/
import Derived.Test.YtjlejiphpbaonaaGreatDoorGN
import Derived.WalkLawsBesides
set_option linter.unusedVariables false
set_option linter.unusedSimpArgs false
set_option maxRecDepth 20000
namespace Wn
def valsL (k : Int) (left : Nat) (l : List Tok) : Option (Fs × List Tok) := vals l.length k left l
/-- one value that begins with t: its kind, its token, the values in it, the tokens behind -/
def oneVal (t : Tok) (left : Nat) (l : List Tok) : Option (Int × Tok × Fs × List Tok) :=
  if kindOf t = 1 then some (1, t, .nil, l) else if left = 0 then none else (valsL (kindOf t) (left - 1) l).map fun q => (kindOf t, blockTok (kindOf t) t, q.1, q.2)
theorem valsL_nil (k : Int) (left : Nat) : valsL k left [] = some (.nil, []) := rfl
theorem valsL_rest {k : Int} {left : Nat} {l : List Tok} {p : Fs × List Tok} (h : valsL k left l = some p) : p.2.length ≤ l.length ∧ p.2 <:+ l := vals_rest _ _ _ _ _ h
theorem oneVal_rest {t : Tok} {left : Nat} {l : List Tok} {p : Int × Tok × Fs × List Tok} (h : oneVal t left l = some p) : p.2.2.2.length ≤ l.length ∧ p.2.2.2 <:+ l := by
  unfold oneVal at h
  split at h
  · simp at h; subst h; exact ⟨Nat.le_refl _, List.suffix_refl _⟩
  · split at h
    · cases h
    · rw [Option.map_eq_some_iff] at h
      obtain ⟨q, hq, rfl⟩ := h
      exact valsL_rest hq
theorem valsL_cons (k : Int) (left : Nat) (t : Tok) (l : List Tok) : valsL k left (t :: l) = if closes t k then some (.nil, l) else match oneVal t left l with
    | none => none
    | some q => (valsL k left q.2.2.2).map fun p => (.cons q.1 q.2.1 q.2.2.1 p.1, p.2) := by
  unfold valsL oneVal
  rw [List.length_cons, vals]
  split
  · rfl
  · split
    · rfl
    · split
      · rfl
      · unfold valsL
        cases h : vals l.length (kindOf t) (left - 1) l with
        | none => rfl
        | some q =>
          have := (vals_rest _ _ _ _ _ h).1
          simp only [Option.map_some]
          rw [vals_more l.length q.2.length k left q.2 this (Nat.le_refl _)]
theorem kindOf_cases (t : Tok) : kindOf t = 1 ∨ (2 ≤ kindOf t ∧ kindOf t ≤ 5) := by
  unfold kindOf
  split
  · right; omega
  · split
    · right; omega
    · split
      · right; omega
      · split
        · right; omega
        · left; rfl
end Wn
namespace Go.Proofs.YtjlejiphpbaonaaGreatDoor
open Go.RowKit Go.Sort
/-- block g is the parser: the slice v of tokens, the depth, the map of fences -/
structure ParAt (w : World) (g : Nat) (v : Value) (D : Int) (m : Nat) : Prop where
  blk : w.heap[g]? = some (.cells #[v, .int .i64 D, .map (some m)] 117)
  sl : ∃ ao n c, v = .slice ao n c
section
variable {w w' : World} {g m : Nat} {v : Value} {D : Int}
theorem ParAt.lt (h : ParAt w g v D m) : g < w.heap.size := block_lt h.blk
theorem ParAt.cell0 (h : ParAt w g v D m) : w.cell? ⟨g, 0, none⟩ = some v := cell_of_block (o := 0) h.blk
theorem ParAt.cell1 (h : ParAt w g v D m) : w.cell? ⟨g, 1, none⟩ = some (.int .i64 D) := cell_of_block (o := 1) h.blk
theorem ParAt.cell2 (h : ParAt w g v D m) : w.cell? ⟨g, 2, none⟩ = some (.map (some m)) := cell_of_block (o := 2) h.blk
theorem ParAt.frozen (h : ParAt w g v D m) (o : Nat) : w.frozen? ⟨g, o, none⟩ = false := by simp [World.frozen?, h.blk]
theorem ParAt.below (h : ParAt w g v D m) (hb : Below w.heap.size w w') : ParAt w' g v D m := ⟨block_lat hb h.blk, h.sl⟩
theorem ParAt.set {v' : Value} (h : ParAt w g v D m) (hv : ∃ ao n c, v' = .slice ao n c) : ParAt (w.setCell ⟨g, 0, none⟩ v') g v' D m :=
  ⟨by simp [World.setCell, Array.getElem?_modify, h.blk], hv⟩
theorem ParAt.ne_map (h : ParAt w g v D m) {b : Nat} (hb : w.heap[b]? = some fenceObj) : b ≠ g := by
  rintro rfl; rw [h.blk] at hb; simp [fenceObj] at hb
/-- the parser's block holds no token -/
theorem ParAt.no_tok (h : ParAt w g v D m) {b o : Nat} {t : Wn.Tok} (ht : TokIn w b o t) : b ≠ g := by
  rintro rfl
  obtain ⟨ao, n, c, rfl⟩ := h.sl
  have c0 := ht.c0
  have c1 := ht.c1
  rw [cell_of_block h.blk] at c0 c1
  match o with
  | 0 => simp at c0
  | 1 => simp at c1
  | 2 => simp at c0
  | o + 3 => simp at c0
theorem Only.cell {g : Nat} (h : Only g w w') {a : Addr} (ha : a.block ≠ g) {u : Value} (hc : w.cell? a = some u) : w'.cell? a = some u :=
  (World.cell?_of_block (h.block a.block (World.block_lt_of_cell? _ _ hc) ha)).trans hc
theorem TokIn.only (h : ParAt w g v D m) (ho : Only g w w') {b o : Nat} {t : Wn.Tok} (ht : TokIn w b o t) : TokIn w' b o t :=
  ⟨ho.cell (a := ⟨b, o, none⟩) (h.no_tok ht) ht.c0, ho.cell (a := ⟨b, o + 1, none⟩) (h.no_tok ht) ht.c1, ho.cell (a := ⟨b, o + 2, none⟩) (h.no_tok ht) ht.c2⟩
theorem Toks.only (h : ParAt w g v D m) (ho : Only g w w') {u : Value} {l : List Wn.Tok} (ht : Toks w u l) : Toks w' u l := by
  obtain ⟨ao, cap, hv, h1, h2, h3⟩ := ht
  exact ⟨ao, cap, hv, h1, h2, fun i t hi => let ⟨b, off, ha, hin⟩ := h3 i t hi; ⟨b, off, ha, TokIn.only h ho hin⟩⟩
theorem Below.only {g : Nat} (h : Below w.heap.size w w') : Only g w w' := ⟨h.os, h.tape, h.output, h.size, fun k hk _ => h.block k hk⟩
theorem ParAt.same (h : ParAt w g v D m) (hb : w'.heap[g]? = w.heap[g]?) : ParAt w' g v D m := ⟨hb.trans h.blk, h.sl⟩
theorem map_only (h : ParAt w g v D m) (ho : Only g w w') {b : Nat} (hb : w.heap[b]? = some fenceObj) : w'.heap[b]? = some fenceObj := (ho.block b (block_lt hb) (h.ne_map hb)).trans hb
end
/-- what the parser panics with -/
def tooDeep : List PanicEntry := [{ v := .iface 114 (.agg #[]), recovered := false }]
/-- what values leaves -/
def VPost (g : Nat) (D : Int) (m : Nat) (v : Value) (l : List Wn.Tok) (w : World) (res : Option (Wn.Fs × List Wn.Tok)) (e : Ending) (w' : World) : Prop :=
  match res with
  | some p => ∃ r v', e = .returned r ∧ ValsP w' (fun b => w.heap.size ≤ b) r p.1 ∧ ParAt w' g v' D m ∧ (∀ W, Toks W v l → Toks W v' p.2) ∧ Only g w w'
  | none => e = .panicked tooDeep ∧ Only g w w'
def VSaid (g : Nat) (D : Int) (m N : Nat) : Prop := ∀ (k : Int) (left : Nat) (l : List Wn.Tok) (v : Value) (w : World) (a : Int), l.length < N → ParAt w g v D m → w.heap[m]? = some fenceObj → Toks w v l → a = D - left → 0 ≤ a →
  Calls Tryz.prog 115 #[.pointer (some ⟨g, 0, none⟩), .int .i64 k, .int .i64 a] w (VPost g D m v l w (Wn.valsL k left l))
/-- what value leaves -/
def UPost (g : Nat) (D : Int) (m : Nat) (v : Value) (l : List Wn.Tok) (w : World) (res : Option (Int × Wn.Tok × Wn.Fs × List Wn.Tok)) (e : Ending) (w' : World) : Prop :=
  match res with
  | some p => ∃ u v', e = .returned (.agg #[.int .i64 p.1, .int .i64 p.2.1.1, .string (Wn.str p.2.1.2.1), .int .i64 p.2.1.2.2, u]) ∧ ValsP w' (fun b => w.heap.size ≤ b) u p.2.2.1 ∧ ParAt w' g v' D m ∧ (∀ W, Toks W v l → Toks W v' p.2.2.2) ∧ Only g w w'
  | none => e = .panicked tooDeep ∧ Only g w w'
/-- a token's box and a value's box, both new -/
structure Boxes (w W : World) (t : Wn.Tok) : Prop where
  below : Below w.heap.size w W
  size : W.heap.size = w.heap.size + 2
  tok : TokIn W w.heap.size 0 t
  blk : W.heap[w.heap.size + 1]? = some (.cells #[.int .i64 0, .int .i64 0, .string ⟨#[]⟩, .int .i64 0, .slice none 0 0] 49)
theorem boxes (w : World) (t : Wn.Tok) : Boxes w ((w.alloc (.cells #[.int .i64 t.1, .string (Wn.str t.2.1), .int .i64 t.2.2] 47)).alloc (.cells #[.int .i64 0, .int .i64 0, .string ⟨#[]⟩, .int .i64 0, .slice none 0 0] 49)) t := by
  have hz : (w.alloc (.cells #[.int .i64 t.1, .string (Wn.str t.2.1), .int .i64 t.2.2] 47)).heap.size = w.heap.size + 1 := by simp
  refine ⟨((Below.refl _ _).alloc (Nat.le_refl _) _).alloc (by simp) _, by simp, (box1 w t).later ((Below.refl _ _).alloc (Nat.le_refl _) _), ?_⟩
  have := heap_alloc_new (w.alloc (.cells #[.int .i64 t.1, .string (Wn.str t.2.1), .int .i64 t.2.2] 47)) (.cells #[.int .i64 0, .int .i64 0, .string ⟨#[]⟩, .int .i64 0, .slice none 0 0] 49)
  rw [hz] at this; exact this
abbrev set5 (w : World) (b : Nat) (a0 a1 a2 a3 a4 : Value) : World := ((((w.setCell ⟨b, 0, none⟩ a0).setCell ⟨b, 1, none⟩ a1).setCell ⟨b, 2, none⟩ a2).setCell ⟨b, 3, none⟩ a3).setCell ⟨b, 4, none⟩ a4
theorem Below.set5 {B : Nat} {a w : World} (h : Below B a w) {b : Nat} (hb : B ≤ b) (a0 a1 a2 a3 a4 : Value) : Below B a (set5 w b a0 a1 a2 a3 a4) :=
  ((((h.setCell (p := ⟨b, 0, none⟩) hb _).setCell (p := ⟨b, 1, none⟩) hb _).setCell (p := ⟨b, 2, none⟩) hb _).setCell (p := ⟨b, 3, none⟩) hb _).setCell (p := ⟨b, 4, none⟩) hb _
theorem set5_block {w : World} {b k : Nat} (h : k ≠ b) (a0 a1 a2 a3 a4 : Value) : (set5 w b a0 a1 a2 a3 a4).heap[k]? = w.heap[k]? := by
  unfold set5
  rw [Below.heap_setCell _ _ _ _ h, Below.heap_setCell _ _ _ _ h, Below.heap_setCell _ _ _ _ h, Below.heap_setCell _ _ _ _ h, Below.heap_setCell _ _ _ _ h]
theorem set5_size (w : World) (b : Nat) (a0 a1 a2 a3 a4 : Value) : (set5 w b a0 a1 a2 a3 a4).heap.size = w.heap.size := by simp [set5, World.setCell]
theorem Only.set5 {g : Nat} {x w : World} (h : Only g x w) {b : Nat} (hb : x.heap.size ≤ b) (a0 a1 a2 a3 a4 : Value) : Only g x (set5 w b a0 a1 a2 a3 a4) :=
  ((((h.fresh (a := ⟨b, 0, none⟩) hb _).fresh (a := ⟨b, 1, none⟩) hb _).fresh (a := ⟨b, 2, none⟩) hb _).fresh (a := ⟨b, 3, none⟩) hb _).fresh (a := ⟨b, 4, none⟩) hb _
theorem frozen_blk {w : World} {b : Nat} {c : Array Value} {t : TypeId} (h : w.heap[b]? = some (.cells c t)) (o : Nat) : w.frozen? ⟨b, o, none⟩ = false := by simp [World.frozen?, h]
set_option maxRecDepth 100000 in
set_option maxHeartbeats 1000000 in
theorem value_tok (g m : Nat) (D : Int) (t : Wn.Tok) (l : List Wn.Tok) (v : Value) (w : World) (a : Int) (hp : ParAt w g v D m) (hm : w.heap[m]? = some fenceObj) (h1 : Wn.kindOf t = 1) :
    Calls Tryz.prog 135 #[.pointer (some ⟨g, 0, none⟩), .agg #[.int .i64 t.1, .string (Wn.str t.2.1), .int .i64 t.2.2], .int .i64 a] w (UPost g D m v l w (some (1, t, .nil, l))) := by
  have HP := Lib.hid hp; clear hp
  have HM := Lib.hid hm; clear hm
  have BX := Lib.hid (boxes w t)
  have QK := Lib.hid (fun w hp hm => kindOf_any g m t w hp hm)
  have HK := Lib.hid h1; clear h1
  generalize hx : Wn.str t.2.1 = x at *
  have HX := Lib.hid hx; clear hx
  go_enter Tryz.func135, Tryz.ntmps135
  go_wp2_with fail
  generalize (w.alloc (.cells #[.int .i64 t.1, .string x, .int .i64 t.2.2] 47)).alloc (.cells #[.int .i64 0, .int .i64 0, .string ⟨#[]⟩, .int .i64 0, .slice none 0 0] 49) = W at *
  refine (QK.out _ (HP.out.below BX.out.below).cell2 (block_lat BX.out.below HM.out)).mono ?_
  rintro e w1 ⟨rfl, b1⟩
  rw [HK.out]
  have T1 := BX.out.tok.later b1
  (have k0t1 : w1.cell? ⟨w.heap.size, 0, none⟩ = some _ := (T1).c0); (have k1t1 : w1.cell? ⟨w.heap.size, 1, none⟩ = some _ := (T1).c1); (have k2t1 : w1.cell? ⟨w.heap.size, 2, none⟩ = some _ := (T1).c2); (try dsimp only at k0t1 k1t1 k2t1)
  rw [HX.out] at k1t1
  have R1 := block_lat b1 BX.out.blk
  (have q0r := cell_of_block (o := 0) R1; have q1r := cell_of_block (o := 1) R1; have q2r := cell_of_block (o := 2) R1; have q3r := cell_of_block (o := 3) R1; have q4r := cell_of_block (o := 4) R1; have z0r := frozen_blk R1 0; have z1r := frozen_blk R1 1; have z2r := frozen_blk R1 2; have z3r := frozen_blk R1 3; have z4r := frozen_blk R1 4; simp only [List.getElem?_toArray, List.getElem?_cons_zero, List.getElem?_cons_succ] at q0r q1r q2r q3r q4r)
  have HB1 := Lib.hid (BX.out.below.trans (b1.mono BX.out.below.size))
  clear T1 b1 QK BX R1
  go_wp2_with fail
  have hB := Below.set5 HB1.out (Nat.le_succ w.heap.size) (.int .i64 1) (.int .i64 t.1) (.string x) (.int .i64 t.2.2) (.slice none 0 0)
  refine bodyPost_ret (v := .agg #[.int .i64 1, .int .i64 t.1, .string x, .int .i64 t.2.2, .slice none 0 0]) (by simp [results, Tryz.results135, go_sem, q0r, q1r, q2r, q3r, q4r]) rfl ?_
  exact ⟨_, v, by rw [← HX.out], ValsP.nil _ _, HP.out.below hB, fun _ h => h, Below.only hB⟩
end Go.Proofs.YtjlejiphpbaonaaGreatDoor
set_option linter.unusedVariables false
set_option linter.unusedSimpArgs false
set_option maxRecDepth 20000
namespace Go.Proofs.YtjlejiphpbaonaaGreatDoor
open Go.RowKit Go.Sort
set_option maxRecDepth 100000 in
set_option maxHeartbeats 1000000 in
theorem value_deep (g m : Nat) (D : Int) (t : Wn.Tok) (l : List Wn.Tok) (v : Value) (w : World) (a : Int) (hp : ParAt w g v D m) (hm : w.heap[m]? = some fenceObj) (h1 : ¬ Wn.kindOf t = 1) (ha : D ≤ a) :
    Calls Tryz.prog 135 #[.pointer (some ⟨g, 0, none⟩), .agg #[.int .i64 t.1, .string (Wn.str t.2.1), .int .i64 t.2.2], .int .i64 a] w (UPost g D m v l w none) := by
  have HP := Lib.hid hp; clear hp
  have HM := Lib.hid hm; clear hm
  have BX := Lib.hid (boxes w t)
  have QK := Lib.hid (fun w hp hm => kindOf_any g m t w hp hm)
  generalize hK : Wn.kindOf t = K at *
  have hk1 : (K == 1) = false := by simpa using h1
  have HK := Lib.hid hK; clear hK
  clear h1
  generalize hx : Wn.str t.2.1 = x at *
  have HX := Lib.hid hx; clear hx
  go_enter Tryz.func135, Tryz.ntmps135
  go_wp2_with fail
  generalize (w.alloc (.cells #[.int .i64 t.1, .string x, .int .i64 t.2.2] 47)).alloc (.cells #[.int .i64 0, .int .i64 0, .string ⟨#[]⟩, .int .i64 0, .slice none 0 0] 49) = W at *
  refine (QK.out _ (HP.out.below BX.out.below).cell2 (block_lat BX.out.below HM.out)).mono ?_
  rintro e w1 ⟨rfl, b1⟩
  have HB1 := Lib.hid (BX.out.below.trans (b1.mono BX.out.below.size))
  have p1 := (HP.out.below HB1.out).cell1
  clear b1 QK BX
  go_wp2_with fail
  exact ⟨rfl, rfl, Below.only HB1.out⟩
set_option maxRecDepth 100000 in
set_option maxHeartbeats 1000000 in
theorem value_none (g m N : Nat) (D : Int) (hD : D ≤ 60) (t : Wn.Tok) (l : List Wn.Tok) (v : Value) (w : World) (a : Int) (left : Nat) (IH : VSaid g D m N) (hl : l.length < N) (hp : ParAt w g v D m) (hm : w.heap[m]? = some fenceObj) (hT : Toks w v l) (h1 : ¬ Wn.kindOf t = 1) (ha : a = D - left) (h0 : 0 < left) (ha0 : 0 ≤ a)
    (hn : Wn.valsL (Wn.kindOf t) (left - 1) l = none) :
    Calls Tryz.prog 135 #[.pointer (some ⟨g, 0, none⟩), .agg #[.int .i64 t.1, .string (Wn.str t.2.1), .int .i64 t.2.2], .int .i64 a] w (UPost g D m v l w none) := by
  have HP := Lib.hid hp; clear hp
  have HM := Lib.hid hm; clear hm
  have HL := Lib.hid hT; clear hT
  have BX := Lib.hid (boxes w t)
  have QK := Lib.hid (fun w hp hm => kindOf_any g m t w hp hm)
  generalize hK : Wn.kindOf t = K at *
  have hk1 : (K == 1) = false := by simpa using h1
  have HK := Lib.hid hK; clear hK
  have hlt : a < D := by omega
  have QV := Lib.hid (fun w hp hm ht => IH K (left - 1) l v w (a + 1) hl hp hm ht (by omega) (by omega))
  rw [hn] at QV
  clear h1 hn IH ha hl
  generalize hx : Wn.str t.2.1 = x at *
  have HX := Lib.hid hx; clear hx
  go_enter Tryz.func135, Tryz.ntmps135
  go_wp2_with fail
  generalize (w.alloc (.cells #[.int .i64 t.1, .string x, .int .i64 t.2.2] 47)).alloc (.cells #[.int .i64 0, .int .i64 0, .string ⟨#[]⟩, .int .i64 0, .slice none 0 0] 49) = W at *
  refine (QK.out _ (HP.out.below BX.out.below).cell2 (block_lat BX.out.below HM.out)).mono ?_
  rintro e w1 ⟨rfl, b1⟩
  have HB1 := Lib.hid (BX.out.below.trans (b1.mono BX.out.below.size))
  have p1 := (HP.out.below HB1.out).cell1
  clear b1 QK BX
  go_wp2_with fail
  refine (QV.out _ (HP.out.below HB1.out) (block_lat HB1.out HM.out) (HL.out.below HB1.out)).mono ?_
  rintro e w2 ⟨rfl, ho⟩
  exact ⟨rfl, rfl, (Below.only HB1.out).trans ho⟩
theorem oneCell_slice {v : Value} (h : ∃ ao n c, v = .slice ao n c) : v.oneCell' = true := by obtain ⟨ao, n, c, rfl⟩ := h; rfl
set_option maxRecDepth 100000 in
set_option maxHeartbeats 1000000 in
theorem value_some (g m N : Nat) (D : Int) (hD : D ≤ 60) (t : Wn.Tok) (l : List Wn.Tok) (v : Value) (w : World) (a : Int) (left : Nat) (f : Wn.Fs) (l' : List Wn.Tok) (IH : VSaid g D m N) (hl : l.length < N) (hp : ParAt w g v D m) (hm : w.heap[m]? = some fenceObj) (hT : Toks w v l) (h1 : ¬ Wn.kindOf t = 1) (ha : a = D - left) (h0 : 0 < left) (ha0 : 0 ≤ a)
    (hn : Wn.valsL (Wn.kindOf t) (left - 1) l = some (f, l')) :
    Calls Tryz.prog 135 #[.pointer (some ⟨g, 0, none⟩), .agg #[.int .i64 t.1, .string (Wn.str t.2.1), .int .i64 t.2.2], .int .i64 a] w (UPost g D m v l w (some (Wn.kindOf t, Wn.blockTok (Wn.kindOf t) t, f, l'))) := by
  have hgl := hp.lt
  have HP := Lib.hid hp; clear hp
  have HM := Lib.hid hm; clear hm
  have HL := Lib.hid hT; clear hT
  have BX := Lib.hid (boxes w t)
  have QK := Lib.hid (fun w hp hm => kindOf_any g m t w hp hm)
  generalize hK : Wn.kindOf t = K at *
  have hk1 : (K == 1) = false := by simpa using h1
  have HK := Lib.hid hK; clear hK
  have hlt : a < D := by omega
  have QV := Lib.hid (fun w hp hm ht => IH K (left - 1) l v w (a + 1) hl hp hm ht (by omega) (by omega))
  rw [hn] at QV
  clear h1 hn IH ha hl
  generalize hx : Wn.str t.2.1 = x at *
  have HX := Lib.hid hx; clear hx
  go_enter Tryz.func135, Tryz.ntmps135
  go_wp2_with fail
  generalize (w.alloc (.cells #[.int .i64 t.1, .string x, .int .i64 t.2.2] 47)).alloc (.cells #[.int .i64 0, .int .i64 0, .string ⟨#[]⟩, .int .i64 0, .slice none 0 0] 49) = W at *
  refine (QK.out _ (HP.out.below BX.out.below).cell2 (block_lat BX.out.below HM.out)).mono ?_
  rintro e w1 ⟨rfl, b1⟩
  have HB1 := Lib.hid (BX.out.below.trans (b1.mono BX.out.below.size))
  have HT1 := Lib.hid (BX.out.tok.later b1)
  have HR1 := Lib.hid (block_lat b1 BX.out.blk)
  have hs1 : w.heap.size + 2 ≤ w1.heap.size := by have := b1.size; rw [BX.out.size] at this; exact this
  have HP1 := Lib.hid (HP.out.below HB1.out)
  have p1 := HP1.out.cell1
  clear b1 QK BX
  go_wp2_with fail
  refine (QV.out _ (HP.out.below HB1.out) (block_lat HB1.out HM.out) (HL.out.below HB1.out)).mono ?_
  rintro e w2 ⟨u, v', rfl, hu, hp2, ht2, ho⟩
  have T2 := TokIn.only HP1.out ho HT1.out
  (have k0t2 : w2.cell? ⟨w.heap.size, 0, none⟩ = some _ := (T2).c0); (have k1t2 : w2.cell? ⟨w.heap.size, 1, none⟩ = some _ := (T2).c1); (have k2t2 : w2.cell? ⟨w.heap.size, 2, none⟩ = some _ := (T2).c2); (try dsimp only at k0t2 k1t2 k2t2)
  rw [HX.out] at k1t2
  have R2 : w2.heap[w.heap.size + 1]? = some (.cells #[.int .i64 0, .int .i64 0, .string ⟨#[]⟩, .int .i64 0, .slice none 0 0] 49) := (ho.block _ (by omega) (by omega)).trans HR1.out
  (have q0r := cell_of_block (o := 0) R2; have q1r := cell_of_block (o := 1) R2; have q2r := cell_of_block (o := 2) R2; have q3r := cell_of_block (o := 3) R2; have q4r := cell_of_block (o := 4) R2; have z0r := frozen_blk R2 0; have z1r := frozen_blk R2 1; have z2r := frozen_blk R2 2; have z3r := frozen_blk R2 3; have z4r := frozen_blk R2 4; simp only [List.getElem?_toArray, List.getElem?_cons_zero, List.getElem?_cons_succ] at q0r q1r q2r q3r q4r)
  have hs2 : w1.heap.size ≤ w2.heap.size := ho.size
  have HO2 := Lib.hid ((Below.only (g := g) HB1.out).trans ho)
  have HU := Lib.hid hu
  have HP2 := Lib.hid hp2
  have HT2 := Lib.hid ht2
  have hform : ∃ ao n c, u = .slice ao n c := by obtain ⟨ao, cap, hv, _⟩ := hu.form; exact ⟨_, _, _, hv⟩
  obtain ⟨uo, un, uc, rfl⟩ := hform
  have hlt1 : w.heap.size + 1 < w2.heap.size := by omega
  have hlt0 : w.heap.size < w2.heap.size := by omega
  have hne1 : ¬ w.heap.size + 1 = w2.heap.size := by omega
  have hne0 : ¬ w.heap.size = w2.heap.size := by omega
  clear T2 ho hu hp2 ht2 R2 QV HT1 HR1 p1
  have hfin : ∀ a1 a2 a3 X, ParAt ((set5 w2 (w.heap.size + 1) (.int .i64 K) a1 a2 a3 (.slice uo un uc)).alloc X) g v' D m ∧ ValsP ((set5 w2 (w.heap.size + 1) (.int .i64 K) a1 a2 a3 (.slice uo un uc)).alloc X) (fun b => w.heap.size ≤ b) (.slice uo un uc) f ∧ Only g w ((set5 w2 (w.heap.size + 1) (.int .i64 K) a1 a2 a3 (.slice uo un uc)).alloc X) := by
    intro a1 a2 a3 X
    have hblk : ∀ k, k < w2.heap.size → k ≠ w.heap.size + 1 → ((set5 w2 (w.heap.size + 1) (.int .i64 K) a1 a2 a3 (.slice uo un uc)).alloc X).heap[k]? = w2.heap[k]? := fun k hk hne => by
      rw [Below.heap_alloc _ _ _ (by rw [set5_size]; exact hk), set5_block hne]
    exact ⟨HP2.out.same (hblk g (by omega) (by omega)), HU.out.same (fun b hb hl => hblk b hl (by omega)) (fun b hb _ => by omega), (HO2.out.set5 (by omega) _ _ _ _ _).alloc _⟩
  have HFin := Lib.hid hfin; clear hfin
  cases h5 : (K == 5)
  · have HBT : Hid (Wn.blockTok K t = (0, [], 0)) := Lib.hid (by unfold Wn.blockTok; rw [if_neg (by simpa using h5)])
    go_wp2_with fail
    obtain ⟨f1, f2, f3⟩ := HFin.out (.int .i64 0) (.string ⟨#[]⟩) (.int .i64 0) (.cells #[.int .i64 K, .int .i64 0, .string ⟨#[]⟩, .int .i64 0, .slice uo un uc] 49)
    refine bodyPost_ret (v := .agg #[.int .i64 K, .int .i64 0, .string ⟨#[]⟩, .int .i64 0, .slice uo un uc]) (by simp [results, Tryz.results135, go_sem, q0r, q1r, q2r, q3r, q4r, hlt1, hne1]) rfl ?_
    exact ⟨_, v', by rw [HBT.out]; rfl, f2, f1, HT2.out, f3⟩
  · have HBT : Hid (Wn.blockTok K t = t) := Lib.hid (by unfold Wn.blockTok; rw [if_pos (by simpa using h5)])
    go_wp2_with fail
    obtain ⟨f1, f2, f3⟩ := HFin.out (.int .i64 t.1) (.string x) (.int .i64 t.2.2) (.cells #[.int .i64 K, .int .i64 t.1, .string x, .int .i64 t.2.2, .slice uo un uc] 49)
    refine bodyPost_ret (v := .agg #[.int .i64 K, .int .i64 t.1, .string x, .int .i64 t.2.2, .slice uo un uc]) (by simp [results, Tryz.results135, go_sem, q0r, q1r, q2r, q3r, q4r, hlt1, hne1]) rfl ?_
    exact ⟨_, v', by rw [HBT.out, HX.out], f2, f1, HT2.out, f3⟩
/-- what value answers -/
theorem value_any (g m N : Nat) (D : Int) (hD : D ≤ 60) (t : Wn.Tok) (l : List Wn.Tok) (v : Value) (w : World) (a : Int) (left : Nat) (IH : VSaid g D m N) (hl : l.length < N) (hp : ParAt w g v D m) (hm : w.heap[m]? = some fenceObj) (hT : Toks w v l) (ha : a = D - left) (ha0 : 0 ≤ a) :
    Calls Tryz.prog 135 #[.pointer (some ⟨g, 0, none⟩), .agg #[.int .i64 t.1, .string (Wn.str t.2.1), .int .i64 t.2.2], .int .i64 a] w (UPost g D m v l w (Wn.oneVal t left l)) := by
  unfold Wn.oneVal
  by_cases h1 : Wn.kindOf t = 1
  · rw [if_pos h1]; exact value_tok g m D t l v w a hp hm h1
  · rw [if_neg h1]
    by_cases h0 : left = 0
    · rw [if_pos h0]; exact value_deep g m D t l v w a hp hm h1 (by omega)
    · rw [if_neg h0]
      cases hn : Wn.valsL (Wn.kindOf t) (left - 1) l with
      | none => exact value_none g m N D hD t l v w a left IH hl hp hm hT h1 ha (by omega) ha0 hn
      | some q => exact value_some g m N D hD t l v w a left q.1 q.2 IH hl hp hm hT h1 ha (by omega) ha0 hn
end Go.Proofs.YtjlejiphpbaonaaGreatDoor
set_option linter.unusedVariables false
set_option linter.unusedSimpArgs false
set_option maxRecDepth 20000
namespace Go.Proofs.YtjlejiphpbaonaaGreatDoor
open Go.RowKit Go.Sort
/-- how many tokens the parser has left -/
def restLen (g : Nat) (w : World) : Nat := match w.cell? ⟨g, 0, none⟩ with | some (.slice _ n _) => n | _ => 0
theorem restLen_at {w : World} {g : Nat} {ao : Option Addr} {n c : Nat} {D : Int} {m : Nat} (h : ParAt w g (.slice ao n c) D m) : restLen g w = n := by
  unfold restLen; rw [h.cell0]
theorem Toks.tail {W : World} {b o : Nat} {t : Wn.Tok} {l : List Wn.Tok} {n cap : Nat} (h : Toks W (.slice (some ⟨b, o, none⟩) n cap) (t :: l)) (hc : 1 < cap) : Toks W (.slice (some ⟨b, o + 3, none⟩) l.length (cap - 1)) l := by
  obtain ⟨ao, c, hv, h1, h2, h3⟩ := h
  simp only [Value.slice.injEq] at hv
  obtain ⟨rfl, rfl, rfl⟩ := hv
  simp only [List.length_cons] at h1
  refine ⟨_, _, rfl, by omega, by omega, fun i u hi => ?_⟩
  obtain ⟨b', o', ha, hin⟩ := h3 (i + 1) u (by simpa using hi)
  simp only [Option.some.injEq, Addr.mk.injEq] at ha
  obtain ⟨rfl, rfl, _⟩ := ha
  exact ⟨_, _, rfl, by rw [show o + 3 + i * 3 = o + (i + 1) * 3 by omega]; exact hin⟩
theorem Toks.last {W : World} {ao : Option Addr} {t : Wn.Tok} {l : List Wn.Tok} {n : Nat} (h : Toks W (.slice ao n 1) (t :: l)) : l = [] := by
  obtain ⟨ao', c, hv, h1, h2, h3⟩ := h
  simp only [Value.slice.injEq] at hv
  obtain ⟨rfl, rfl, rfl⟩ := hv
  simp only [List.length_cons] at h1
  exact List.length_eq_zero_iff.1 (by omega)
theorem Toks.none (W : World) (ao : Option Addr) : Toks W (.slice ao 0 0) [] := ⟨ao, 0, rfl, Nat.le_refl _, by unfold maxLen; omega, fun i t h => by simp at h⟩
theorem Only.grownRow {g : Nat} {w W W' : World} {row : Option Nat} (h : Only g w W) (hg : W.grownBy W' row) (hr : ∀ r, row = some r → w.heap.size ≤ r) : Only g w W' :=
  ⟨hg.os.trans h.os, hg.tape.trans h.tape, hg.output.trans h.output, Nat.le_trans h.size hg.size, fun b hb hne => (hg.block b (Nat.lt_of_lt_of_le hb h.size) (fun e => by have := hr b e.symm; omega)).trans (h.block b hb hne)⟩
theorem Only.grow {g : Nat} {w w' : World} (h : Only g w w') : w.grownBy w' (some g) := h.grown
/-- the state of values: what it has parsed, what is left -/
structure Mid (g m : Nat) (D : Int) (w W : World) (vi r : Value) (es : List (Int × Wn.Tok × Value)) (acc : Wn.Fs) : Prop where
  par : ParAt W g vi D m
  map : W.heap[m]? = some fenceObj
  only : Only g w W
  own : W.ownsRow w.heap.size 49 5 r es.length (valsCells es)
  row : Row W (fun b => w.heap.size ≤ b ∧ r.ownBlock ≠ some b) es acc
section
variable {g m : Nat} {D : Int} {w W W' : World} {vi vi' r : Value} {es : List (Int × Wn.Tok × Value)} {acc : Wn.Fs}
theorem Mid.ne (hg : g < w.heap.size) (h : Mid g m D w W vi r es acc) : r.ownBlock ≠ some g := fun e => by have := (h.own.lt _ e).1; omega
theorem Mid.below (h : Mid g m D w W vi r es acc) (hb : Below W.heap.size W W') : Mid g m D w W' vi r es acc :=
  ⟨h.par.below hb, block_lat hb h.map, h.only.trans (Below.only hb), ownsRow_later h.own hb, h.row.same (fun b _ hl => hb.block b hl) (fun _ h _ => h)⟩
theorem Mid.stepOnly (hg : g < w.heap.size) (h : Mid g m D w W vi r es acc) (ho : Only g W W') (hp : ParAt W' g vi' D m) : Mid g m D w W' vi' r es acc :=
  ⟨hp, map_only h.par ho h.map, h.only.trans ho, h.own.kept ho.grown (Or.inr (h.ne hg)), h.row.same (fun b hb hl => ho.block b hl (by have := hb.1; omega)) (fun _ h _ => h)⟩
theorem Mid.set (hg : g < w.heap.size) (h : Mid g m D w W vi r es acc) (hs : ∃ ao n c, vi' = .slice ao n c) : Mid g m D w (W.setCell ⟨g, 0, none⟩ vi') vi' r es acc :=
  h.stepOnly hg ((Only.refl g W).setCell rfl _) (h.par.set hs)
/-- one value more -/
theorem Mid.next (hg : g < w.heap.size) (h : Mid g m D w W vi r es acc) {k : Int} {t : Wn.Tok} {u r' : Value} {x : Wn.Fs} {base : Nat} (hu : ValsP W (fun b => base ≤ b) u x) (hb1 : w.heap.size ≤ base) (hb2 : ∀ b, r.ownBlock = some b → b < base)
    (hown : W'.ownsRow w.heap.size 49 5 r' (es.length + 1) (valsCells es ++ valCells (k, t, u))) (hgr : W.grownBy W' r.ownBlock) (hat : r'.ownBlock = r.ownBlock ∨ ∃ n, W.heap.size ≤ n ∧ r'.ownBlock = some n) :
    Mid g m D w W' vi r' (es ++ [(k, t, u)]) (acc.app (.cons k t x .nil)) := by
  have hne := h.ne hg
  have hlt := h.par.lt
  have hav : ∀ b, b < W.heap.size → r.ownBlock ≠ some b → r'.ownBlock ≠ some b := fun b hl hb => by
    rcases hat with e | ⟨n, hn, e⟩
    · rw [e]; exact hb
    · rw [e]; intro e'; simp at e'; omega
  refine ⟨h.par.same (hgr.block g hlt (Ne.symm hne)), ?_, h.only.grownRow hgr (fun b hb => (h.own.lt b hb).1), by rw [List.length_append, valsCells_snoc]; exact hown, ?_⟩
  · refine (hgr.block m (block_lt h.map) (fun e => ?_)).trans h.map
    obtain ⟨_, hh⟩ := h.own
    rcases hh with ⟨hv, _⟩ | ⟨q, cap, cur, hv, _, hq, _⟩
    · rw [hv] at e; simp [Value.ownBlock] at e
    · rw [hv] at e
      simp [Value.ownBlock] at e
      rw [← e, h.map] at hq
      simp [fenceObj] at hq
  · refine Row.snoc (ok := fun b => w.heap.size ≤ b ∧ r'.ownBlock ≠ some b) ?_ (h.row.same (fun b hb hl => hgr.block b hl (fun e => hb.2 e.symm)) (fun b hb hl => ⟨hb.1, hav b hl hb.2⟩))
    have hx : ∀ b, base ≤ b → r.ownBlock ≠ some b := fun b hb e => by have := hb2 b e; omega
    exact hu.same (fun b hb hl => hgr.block b hl (fun e => hx b hb e.symm)) (fun b hb hl => ⟨by omega, hav b hl (hx b hb)⟩)
theorem Mid.vals (h : Mid g m D w W vi r es acc) : ValsP W (fun b => w.heap.size ≤ b) r acc := ValsP.ofRow h.own (h.row.same (fun _ _ _ => rfl) (fun _ h _ => h.1)) (fun _ h => h)
end
set_option maxRecDepth 100000 in
set_option maxHeartbeats 2000000 in
theorem values_step (g m N : Nat) (D : Int) (hD : D ≤ 60) (IH : VSaid g D m N) (k : Int) (left : Nat) (l : List Wn.Tok) (v : Value) (w : World) (a : Int) (hl : l.length < N + 1) (hN : N ≤ 1000000) (hp : ParAt w g v D m) (hm : w.heap[m]? = some fenceObj) (hT : Toks w v l) (ha : a = D - left) (ha0 : 0 ≤ a) :
    Calls Tryz.prog 115 #[.pointer (some ⟨g, 0, none⟩), .int .i64 k, .int .i64 a] w (VPost g D m v l w (Wn.valsL k left l)) := by
  have hgl := hp.lt
  have HP := Lib.hid hp; clear hp
  have HM := Lib.hid hm; clear hm
  have HT := Lib.hid hT; clear hT
  have HIH := Lib.hid IH; clear IH
  have HA := Lib.hid ha; clear ha
  generalize hres : Wn.valsL k left l = res
  have HRes := Lib.hid hres; clear hres
  obtain ⟨i0, hi, hz0, hz1, hz2⟩ := info_parts info_val
  go_enter Tryz.func115, Tryz.ntmps115
  go_wp2_with fail
  go_loopw [7] (fun v7 wr => ∃ (es : List (Int × Wn.Tok × Value)) (acc : Wn.Fs) (vi : Value) (li : List Wn.Tok), es.length + li.length ≤ l.length ∧ Hid (Mid g m D w wr vi v7 es acc) ∧ Hid (∀ W, Toks W v l → Toks W vi li) ∧ Hid (res = (Wn.valsL k left li).map fun p => (acc.app p.1, p.2))) (fun _ wr => restLen g wr)
  case atStart => exact ⟨[], .nil, v, l, by simp, Lib.hid ⟨HP.out, HM.out, Only.refl _ _, World.ownsRow_nil _ _ _ _, trivial⟩, Lib.hid (fun _ h => h), Lib.hid (by rw [HRes.out]; cases res <;> rfl)⟩
  case round =>
    obtain ⟨es, acc, vi, li, hlen, HMid, HTi, HE⟩ := hrel
    have hToks := HTi.out wr (Toks.only HP.out HMid.out.only HT.out)
    have hsz := HMid.out.only.size
    have hgr := HMid.out.par.lt
    cases li with
    | nil =>
      obtain ⟨ao, cap, rfl, c1, c2, _⟩ := hToks
      have p0 := HMid.out.par.cell0
      simp only [List.length_nil] at p0
      go_wp2_with fail
      go_ret
      have e := HE.out
      rw [Wn.valsL_nil] at e
      simp only [Option.map_some, Wn.Fs.app_nil] at e
      rw [e]
      exact ⟨_, _, rfl, HMid.out.vals, HMid.out.par, HTi.out, HMid.out.only⟩
    | cons t l1 =>
      obtain ⟨ao, cap, rfl, c1, c2, hcell⟩ := hToks
      obtain ⟨b, off, rfl, hin⟩ := hcell 0 t rfl
      simp only [Nat.zero_mul, Nat.add_zero] at hin
      have p0 := HMid.out.par.cell0
      have pf := HMid.out.par.frozen 0
      simp only [List.length_cons] at p0 c1
      unfold maxLen at c2
      obtain ⟨j0, j1, j2⟩ := hin
      clear hcell
      generalize hx : Wn.str t.2.1 = x at *
      have HX := Lib.hid hx; clear hx
      have hrl : restLen g wr = l1.length + 1 := by have := HMid.out.par; rw [List.length_cons] at this; exact restLen_at this
      have HRL := Lib.hid hrl; clear hrl
      have hlen' : es.length + l1.length + 1 ≤ l.length := by simp only [List.length_cons] at hlen; omega
      clear hlen
      by_cases h1 : cap = 1
      · subst h1
        have hnil : l1 = [] := Toks.last (HTi.out wr (Toks.only HP.out HMid.out.only HT.out))
        subst hnil
        have HT1 : Hid (∀ W, Toks W v l → Toks W (.slice (some ⟨b, off, none⟩) 0 0) []) := Lib.hid (fun W _ => Toks.none W _)
        clear HTi
        simp only [List.length_nil, Nat.zero_add] at *
        have HMs := Lib.hid (HMid.out.set hgl (vi' := (.slice (some ⟨b, off, none⟩) 0 0)) ⟨_, _, _, rfl⟩)
        have hBx : Below (wr.setCell ⟨g, 0, none⟩ (.slice (some ⟨b, off, none⟩) 0 0)).heap.size (wr.setCell ⟨g, 0, none⟩ (.slice (some ⟨b, off, none⟩) 0 0)) ((wr.setCell ⟨g, 0, none⟩ (.slice (some ⟨b, off, none⟩) 0 0)).alloc (.cells #[.int .i64 t.1, .string x, .int .i64 t.2.2] 47)) := (Below.refl _ _).alloc (Nat.le_refl _) _
        have HM1 := Lib.hid (HMs.out.below hBx)
        have hz1 : ((wr.setCell ⟨g, 0, none⟩ (.slice (some ⟨b, off, none⟩) 0 0)).alloc (.cells #[.int .i64 t.1, .string x, .int .i64 t.2.2] 47)).heap.size = wr.heap.size + 1 := by simp [World.setCell]
        have HBX := Lib.hid (box1 (wr.setCell ⟨g, 0, none⟩ (.slice (some ⟨b, off, none⟩) 0 0)) t)
        rw [HX.out, show (wr.setCell ⟨g, 0, none⟩ (.slice (some ⟨b, off, none⟩) 0 0)).heap.size = wr.heap.size by simp [World.setCell]] at HBX
        have HZ1 := Lib.hid hz1
        clear hz1 hBx HMs
        have QC := Lib.hid (fun w hp hm => closes_any g m t k w hp hm)
        rw [HX.out] at QC
        go_wp2_with fail
        generalize (wr.setCell ⟨g, 0, none⟩ (.slice (some ⟨b, off, none⟩) 0 0)).alloc (.cells #[.int .i64 t.1, .string x, .int .i64 t.2.2] 47) = W1 at *
        refine (QC.out _ HM1.out.par.cell2 HM1.out.map).mono ?_
        rintro e w2 ⟨rfl, b2⟩
        have HM2 := Lib.hid (HM1.out.below b2)
        have hs2 : wr.heap.size + 1 ≤ w2.heap.size := by have := b2.size; rw [HZ1.out] at this; exact this
        have T2 := HBX.out.later b2
        (have k0t2 : w2.cell? ⟨wr.heap.size, 0, none⟩ = some _ := (T2).c0); (have k1t2 : w2.cell? ⟨wr.heap.size, 1, none⟩ = some _ := (T2).c1); (have k2t2 : w2.cell? ⟨wr.heap.size, 2, none⟩ = some _ := (T2).c2); (try dsimp only at k0t2 k1t2 k2t2)
        rw [HX.out] at k1t2
        clear T2 b2 HBX HM1 QC HZ1
        generalize hcl : Wn.closes t k = c
        have HCL := Lib.hid hcl; clear hcl
        cases c
        · have hT2 := HT1.out w2 (Toks.only HP.out HM2.out.only HT.out)
          have QV := Lib.hid (value_any g m N D hD t [] (.slice (some ⟨b, off, none⟩) 0 0) w2 a left HIH.out (by first | omega | (simp; done) | (simp; omega)) HM2.out.par HM2.out.map hT2 HA.out ha0)
          rw [HX.out] at QV
          have e0 := HE.out
          rw [Wn.valsL_cons, HCL.out] at e0
          simp only [Bool.false_eq_true, if_false] at e0
          have HE0 := Lib.hid e0
          clear e0 hT2 HE
          go_wp2_with fail
          refine QV.out.mono ?_
          clear QV
          cases hov : Wn.oneVal t left [] with
          | none =>
            rintro e w3 ⟨rfl, ho⟩
            have e1 := HE0.out
            rw [hov] at e1
            simp only [Option.map_none] at e1
            refine ⟨rfl, ?_⟩
            show VPost g D m v l w res (.panicked tooDeep) w3
            rw [e1]
            exact ⟨rfl, HM2.out.only.trans ho⟩
          | some q =>
            rintro e w3 ⟨u, v', rfl, hu, hp3, ht3, ho⟩
            have hrest := (Wn.oneVal_rest hov).1
            obtain ⟨k', tk, xs, l2⟩ := q
            dsimp only at hu hp3 ht3 hrest ⊢
            have e1 := HE0.out
            rw [hov] at e1
            dsimp only at e1
            have HE1 := Lib.hid e1
            have HM3 := Lib.hid (HM2.out.stepOnly hgl ho hp3)
            have hs3 := ho.size
            have hown2 := HM2.out.own.lt
            have HOW := Lib.hid hown2
            have HU := Lib.hid hu
            have HT3 : Hid (∀ W, Toks W v l → Toks W v' l2) := Lib.hid (fun W h => ht3 W (HT1.out W h))
            have hform : ∃ ao n c, u = .slice ao n c := by obtain ⟨ao, cap, hv, _⟩ := hu.form; exact ⟨_, _, _, hv⟩
            have hesl : es.length ≤ 1000001 := by omega
            obtain ⟨uo, un, uc, rfl⟩ := hform
            clear hu hp3 ht3 ho e1 hov HE0 HT1 hown2 HM2
            generalize hxx : Wn.str tk.2.1 = y at *
            have HY := Lib.hid hxx; clear hxx
            go_wp2_with (at_builtin; refine wpList_append_own_at _ rfl _ _ 22 rfl w.heap.size 49 i0 (.agg #[.int .i64 0, .int .i64 0, .string ⟨#[]⟩, .int .i64 0, .slice none 0 0]) 5 64 Tryz.underlying22 hi hz0 hz1 hz2 rfl (by decide) _ es.length (valsCells es) rfl (HM3.out.own.alloc _) ⟨w3.heap.size, 0, none⟩ 1 1 [.int .i64 k', .int .i64 tk.1, .string y, .int .i64 tk.2.2, .slice uo un uc] rfl rfl (cell_five_new _ _ _ _ _ _ _ _ rfl) (fun x hx => by simp at hx; rcases hx with rfl | rfl | rfl | rfl | rfl <;> rfl) (by unfold maxLen; omega) (by omega) (by simp; omega) ?_; intro v8 w5 hown5 hgr5 hnil5 hat5; have HZ5 := Lib.hid (And.intro hown5 (And.intro hgr5 hat5)); clear hown5 hgr5 hnil5 hat5)
            obtain ⟨hown5, hgr5, hat5⟩ := HZ5.out
            have hA3 : Below w3.heap.size w3 (w3.alloc (.cells #[.int .i64 k', .int .i64 tk.1, .string y, .int .i64 tk.2.2, .slice uo un uc] 49)) := (Below.refl _ _).alloc (Nat.le_refl _) _
            have hmid := (HM3.out.below hA3).next hgl (k := k') (t := tk) (x := xs) (HU.out.below hA3) (by omega) (fun b hb => (HOW.out b hb).2) (by rw [show valCells (k', tk, .slice uo un uc) = [.int .i64 k', .int .i64 tk.1, .string y, .int .i64 tk.2.2, .slice uo un uc] by rw [← HY.out]; rfl]; exact hown5) hgr5 (hat5.imp id (fun e => ⟨_, Nat.le_refl _, e⟩))
            obtain ⟨ao', cap', rfl, _⟩ := HT3.out w HT.out
            refine ⟨⟨es ++ [(k', tk, .slice uo un uc)], acc.app (.cons k' tk xs .nil), _, l2, ?_, Lib.hid hmid, HT3, Lib.hid ?_⟩, ?_⟩
            · simp only [List.length_append, List.length_cons, List.length_nil] at *; omega
            · rw [HE1.out]; cases Wn.valsL k left l2 <;> simp [Wn.Fs.app_assoc, Wn.Fs.app]
            · rw [restLen_at hmid.par, HRL.out]; (try simp only [List.length_nil] at *); omega
        · go_wp2_with fail
          go_ret
          have e := HE.out
          rw [Wn.valsL_cons, HCL.out] at e
          simp only [if_true, Option.map_some, Wn.Fs.app_nil] at e
          rw [e]
          exact ⟨_, _, rfl, HM2.out.vals, HM2.out.par, HT1.out, HM2.out.only⟩
      · have hc1 : 1 < cap := by omega
        clear h1
        have HT1 : Hid (∀ W, Toks W v l → Toks W (.slice (some ⟨b, off + 3, none⟩) l1.length (cap - 1)) l1) := Lib.hid (fun W h => (HTi.out W h).tail hc1)
        clear HTi
        have HMs := Lib.hid (HMid.out.set hgl (vi' := (.slice (some ⟨b, off + 3, none⟩) l1.length (cap - 1))) ⟨_, _, _, rfl⟩)
        have hBx : Below (wr.setCell ⟨g, 0, none⟩ (.slice (some ⟨b, off + 3, none⟩) l1.length (cap - 1))).heap.size (wr.setCell ⟨g, 0, none⟩ (.slice (some ⟨b, off + 3, none⟩) l1.length (cap - 1))) ((wr.setCell ⟨g, 0, none⟩ (.slice (some ⟨b, off + 3, none⟩) l1.length (cap - 1))).alloc (.cells #[.int .i64 t.1, .string x, .int .i64 t.2.2] 47)) := (Below.refl _ _).alloc (Nat.le_refl _) _
        have HM1 := Lib.hid (HMs.out.below hBx)
        have hz1 : ((wr.setCell ⟨g, 0, none⟩ (.slice (some ⟨b, off + 3, none⟩) l1.length (cap - 1))).alloc (.cells #[.int .i64 t.1, .string x, .int .i64 t.2.2] 47)).heap.size = wr.heap.size + 1 := by simp [World.setCell]
        have HBX := Lib.hid (box1 (wr.setCell ⟨g, 0, none⟩ (.slice (some ⟨b, off + 3, none⟩) l1.length (cap - 1))) t)
        rw [HX.out, show (wr.setCell ⟨g, 0, none⟩ (.slice (some ⟨b, off + 3, none⟩) l1.length (cap - 1))).heap.size = wr.heap.size by simp [World.setCell]] at HBX
        have HZ1 := Lib.hid hz1
        clear hz1 hBx HMs
        have QC := Lib.hid (fun w hp hm => closes_any g m t k w hp hm)
        rw [HX.out] at QC
        go_wp2_with fail
        generalize (wr.setCell ⟨g, 0, none⟩ (.slice (some ⟨b, off + 3, none⟩) l1.length (cap - 1))).alloc (.cells #[.int .i64 t.1, .string x, .int .i64 t.2.2] 47) = W1 at *
        refine (QC.out _ HM1.out.par.cell2 HM1.out.map).mono ?_
        rintro e w2 ⟨rfl, b2⟩
        have HM2 := Lib.hid (HM1.out.below b2)
        have hs2 : wr.heap.size + 1 ≤ w2.heap.size := by have := b2.size; rw [HZ1.out] at this; exact this
        have T2 := HBX.out.later b2
        (have k0t2 : w2.cell? ⟨wr.heap.size, 0, none⟩ = some _ := (T2).c0); (have k1t2 : w2.cell? ⟨wr.heap.size, 1, none⟩ = some _ := (T2).c1); (have k2t2 : w2.cell? ⟨wr.heap.size, 2, none⟩ = some _ := (T2).c2); (try dsimp only at k0t2 k1t2 k2t2)
        rw [HX.out] at k1t2
        clear T2 b2 HBX HM1 QC HZ1
        generalize hcl : Wn.closes t k = c
        have HCL := Lib.hid hcl; clear hcl
        cases c
        · have hT2 := HT1.out w2 (Toks.only HP.out HM2.out.only HT.out)
          have QV := Lib.hid (value_any g m N D hD t l1 (.slice (some ⟨b, off + 3, none⟩) l1.length (cap - 1)) w2 a left HIH.out (by first | omega | (simp; done) | (simp; omega)) HM2.out.par HM2.out.map hT2 HA.out ha0)
          rw [HX.out] at QV
          have e0 := HE.out
          rw [Wn.valsL_cons, HCL.out] at e0
          simp only [Bool.false_eq_true, if_false] at e0
          have HE0 := Lib.hid e0
          clear e0 hT2 HE
          go_wp2_with fail
          refine QV.out.mono ?_
          clear QV
          cases hov : Wn.oneVal t left l1 with
          | none =>
            rintro e w3 ⟨rfl, ho⟩
            have e1 := HE0.out
            rw [hov] at e1
            simp only [Option.map_none] at e1
            refine ⟨rfl, ?_⟩
            show VPost g D m v l w res (.panicked tooDeep) w3
            rw [e1]
            exact ⟨rfl, HM2.out.only.trans ho⟩
          | some q =>
            rintro e w3 ⟨u, v', rfl, hu, hp3, ht3, ho⟩
            have hrest := (Wn.oneVal_rest hov).1
            obtain ⟨k', tk, xs, l2⟩ := q
            dsimp only at hu hp3 ht3 hrest ⊢
            have e1 := HE0.out
            rw [hov] at e1
            dsimp only at e1
            have HE1 := Lib.hid e1
            have HM3 := Lib.hid (HM2.out.stepOnly hgl ho hp3)
            have hs3 := ho.size
            have hown2 := HM2.out.own.lt
            have HOW := Lib.hid hown2
            have HU := Lib.hid hu
            have HT3 : Hid (∀ W, Toks W v l → Toks W v' l2) := Lib.hid (fun W h => ht3 W (HT1.out W h))
            have hform : ∃ ao n c, u = .slice ao n c := by obtain ⟨ao, cap, hv, _⟩ := hu.form; exact ⟨_, _, _, hv⟩
            have hesl : es.length ≤ 1000001 := by omega
            obtain ⟨uo, un, uc, rfl⟩ := hform
            clear hu hp3 ht3 ho e1 hov HE0 HT1 hown2 HM2
            generalize hxx : Wn.str tk.2.1 = y at *
            have HY := Lib.hid hxx; clear hxx
            go_wp2_with (at_builtin; refine wpList_append_own_at _ rfl _ _ 22 rfl w.heap.size 49 i0 (.agg #[.int .i64 0, .int .i64 0, .string ⟨#[]⟩, .int .i64 0, .slice none 0 0]) 5 64 Tryz.underlying22 hi hz0 hz1 hz2 rfl (by decide) _ es.length (valsCells es) rfl (HM3.out.own.alloc _) ⟨w3.heap.size, 0, none⟩ 1 1 [.int .i64 k', .int .i64 tk.1, .string y, .int .i64 tk.2.2, .slice uo un uc] rfl rfl (cell_five_new _ _ _ _ _ _ _ _ rfl) (fun x hx => by simp at hx; rcases hx with rfl | rfl | rfl | rfl | rfl <;> rfl) (by unfold maxLen; omega) (by omega) (by simp; omega) ?_; intro v8 w5 hown5 hgr5 hnil5 hat5; have HZ5 := Lib.hid (And.intro hown5 (And.intro hgr5 hat5)); clear hown5 hgr5 hnil5 hat5)
            obtain ⟨hown5, hgr5, hat5⟩ := HZ5.out
            have hA3 : Below w3.heap.size w3 (w3.alloc (.cells #[.int .i64 k', .int .i64 tk.1, .string y, .int .i64 tk.2.2, .slice uo un uc] 49)) := (Below.refl _ _).alloc (Nat.le_refl _) _
            have hmid := (HM3.out.below hA3).next hgl (k := k') (t := tk) (x := xs) (HU.out.below hA3) (by omega) (fun b hb => (HOW.out b hb).2) (by rw [show valCells (k', tk, .slice uo un uc) = [.int .i64 k', .int .i64 tk.1, .string y, .int .i64 tk.2.2, .slice uo un uc] by rw [← HY.out]; rfl]; exact hown5) hgr5 (hat5.imp id (fun e => ⟨_, Nat.le_refl _, e⟩))
            obtain ⟨ao', cap', rfl, _⟩ := HT3.out w HT.out
            refine ⟨⟨es ++ [(k', tk, .slice uo un uc)], acc.app (.cons k' tk xs .nil), _, l2, ?_, Lib.hid hmid, HT3, Lib.hid ?_⟩, ?_⟩
            · simp only [List.length_append, List.length_cons, List.length_nil] at *; omega
            · rw [HE1.out]; cases Wn.valsL k left l2 <;> simp [Wn.Fs.app_assoc, Wn.Fs.app]
            · rw [restLen_at hmid.par, HRL.out]; (try simp only [List.length_nil] at *); omega
        · go_wp2_with fail
          go_ret
          have e := HE.out
          rw [Wn.valsL_cons, HCL.out] at e
          simp only [if_true, Option.map_some, Wn.Fs.app_nil] at e
          rw [e]
          exact ⟨_, _, rfl, HM2.out.vals, HM2.out.par, HT1.out, HM2.out.only⟩
theorem values_all (g m : Nat) (D : Int) (hD : D ≤ 60) : ∀ N, N ≤ 1000000 → VSaid g D m N
  | 0, _ => fun k left l v w a hl => by omega
  | N + 1, hN => fun k left l v w a hl hp hm hT ha ha0 => values_step g m N D hD (values_all g m D hD N (by omega)) k left l v w a hl (by omega) hp hm hT ha ha0
end Go.Proofs.YtjlejiphpbaonaaGreatDoor
