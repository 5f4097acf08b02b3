/- Tokens in memory; what toks.reads answers: are the tokens of a text those wanted? What toks.isDelim, apart, May answer. What toks.Text answers: the text of tokens. -/
import Derived.Test.YtjmocdoimiomdaaGreatDoorGE
set_option maxRecDepth 20000
namespace Go.Proofs.YtjmocdoimiomdaaGreatDoor
open Go.RowKit
/-- the token t lies at this place -/
structure TokIn (w : World) (b o : Nat) (t : Wn.Tok) : Prop where
  c0 : w.cell? ⟨b, o, none⟩ = some (.int .i64 t.1)
  c1 : w.cell? ⟨b, o + 1, none⟩ = some (.string (Wn.str t.2.1))
  c2 : w.cell? ⟨b, o + 2, none⟩ = some (.int .i64 t.2.2)
/-- the slice v reads as the tokens l -/
def Toks (w : World) (v : Value) (l : List Wn.Tok) : Prop :=
  ∃ ao cap, v = .slice ao l.length cap ∧ l.length ≤ cap ∧ cap ≤ maxLen ∧ ∀ i t, l[i]? = some t → ∃ b off, ao = some ⟨b, off, none⟩ ∧ TokIn w b (off + i * 3) t
theorem Toks.nil (w : World) : Toks w (.slice none 0 0) [] := ⟨none, 0, rfl, Nat.le_refl _, by unfold maxLen; omega, fun i t h => by simp at h⟩
theorem TokIn.lt {w : World} {b o : Nat} {t : Wn.Tok} (h : TokIn w b o t) : b < w.heap.size := World.block_lt_of_cell? w ⟨b, o, none⟩ h.c0
theorem TokIn.below {B : Nat} {w w' : World} {b o : Nat} {t : Wn.Tok} (h : TokIn w b o t) (hb : Below B w w') (hB : b < B) : TokIn w' b o t :=
  ⟨(hb.cell (p := ⟨b, o, none⟩) hB).trans h.c0, (hb.cell (p := ⟨b, o + 1, none⟩) hB).trans h.c1, (hb.cell (p := ⟨b, o + 2, none⟩) hB).trans h.c2⟩
/-- what lies in old memory reads as it did -/
theorem Toks.below {w w' : World} {v : Value} {l : List Wn.Tok} (h : Toks w v l) (hb : Below w.heap.size w w') : Toks w' v l := by
  obtain ⟨ao, cap, hv, h1, h2, h3⟩ := h
  exact ⟨ao, cap, hv, h1, h2, fun i t ht => let ⟨b, off, ha, hi⟩ := h3 i t ht; ⟨b, off, ha, hi.below hb hi.lt⟩⟩
theorem toksCells_get : ∀ (l : List Wn.Tok) (i : Nat) (t : Wn.Tok), l[i]? = some t →
    (toksCells l)[i * 3]? = some (.int .i64 t.1) ∧ (toksCells l)[i * 3 + 1]? = some (.string (Wn.str t.2.1)) ∧ (toksCells l)[i * 3 + 2]? = some (.int .i64 t.2.2)
  | [], i, t, h => by simp at h
  | x :: l, 0, t, h => by
    simp at h; subst h
    exact ⟨rfl, rfl, rfl⟩
  | x :: l, i + 1, t, h => by
    have := toksCells_get l i t (by simpa using h)
    have e : toksCells (x :: l) = tokCells x ++ toksCells l := by simp [toksCells]
    rw [e, show (i + 1) * 3 = i * 3 + 3 by omega]
    simpa [tokCells] using this
theorem toksCells_length (l : List Wn.Tok) : (toksCells l).length = l.length * 3 := by
  induction l with
  | nil => rfl
  | cons x l ih => have e : toksCells (x :: l) = tokCells x ++ toksCells l := by simp [toksCells]
                   rw [e]; simp [tokCells, ih]; omega
/-- a row of a call's own reads as its tokens -/
theorem Toks.ofRow {w : World} {B : Nat} {v : Value} {l : List Wn.Tok} (h : w.ownsRow B 45 3 v l.length (toksCells l)) : Toks w v l := by
  rcases h.2 with ⟨hv, hn⟩ | ⟨g, cap, cur, hv, hg, hh, hn, hcap, hsz, htake⟩
  · obtain rfl := List.length_eq_zero_iff.1 hn
    subst hv
    exact Toks.nil w
  · refine ⟨_, cap, hv, hn, hcap, fun i t ht => ⟨g, 0, rfl, ?_⟩⟩
    obtain ⟨k0, k1, k2⟩ := toksCells_get l i t ht
    have hil : i < l.length := (List.getElem?_eq_some_iff.1 ht).1
    have get : ∀ j u, (toksCells l)[j]? = some u → w.cell? ⟨g, j, none⟩ = some u := fun j u hu => by
      have hjl : j < (toksCells l).length := (List.getElem?_eq_some_iff.1 hu).1
      rw [← htake, List.getElem?_take] at hu
      split at hu
      · simp [World.cell?, hh]; simpa using hu
      · cases hu
    exact ⟨by rw [Nat.zero_add]; exact get _ _ k0, by rw [Nat.zero_add]; exact get _ _ k1, by rw [Nat.zero_add]; exact get _ _ k2⟩
theorem cell_alloc_old {w : World} {a : Addr} {v : Value} (h : w.cell? a = some v) (o : Obj) : (w.alloc o).cell? a = some v :=
  (World.cell?_of_block (w := w) (Below.heap_alloc w o a.block (World.block_lt_of_cell? w a h))).trans h
set_option maxRecDepth 100000 in
set_option maxHeartbeats 2000000 in
theorem reads_any (s : ByteArray) (v : Value) (W : List Wn.Tok) (w : World) (hs : s.size ≤ 1099511627776) (hW : Toks w v W) :
    Calls Tryz.prog 86 #[.string s, v] w fun e w' => e = .returned (.bool (decide (Wn.lex s.data.toList = W))) ∧ Below w.heap.size w w' := by
  have hs' : s.size ≤ 4611686018427387000 := by omega
  obtain ⟨ao, cap, rfl, hc1, hc2, hcell⟩ := hW
  generalize hD : decide (Wn.lex s.data.toList = W) = D
  have HD : Hid (decide (Wn.lex (Wn.sfx s 0) = W) = D) := Lib.hid (by rw [← hD]; rfl)
  clear hD
  have HCell := Lib.hid hcell; clear hcell
  unfold maxLen at hc2
  go_enter Tryz.func86, Tryz.ntmps86
  go_wp2_with (go_at_call 43; (with_reducible refine (newScanner_any s _).mono ?_); rintro e w' ⟨rfl, rfl⟩)
  have HB0 : Hid (Below w.heap.size w (w.alloc (Obj.cells #[Value.string s, Value.int IntKind.i64 0] 97))) := Lib.hid ((Below.refl _ _).alloc (Nat.le_refl _) _)
  have HC0 : Hid (ScanAt (w.alloc (Obj.cells #[Value.string s, Value.int IntKind.i64 0] 97)) w.heap.size s 0) := Lib.hid (heap_alloc_new w _)
  have HZ0 : Hid ((w.alloc (Obj.cells #[Value.string s, Value.int IntKind.i64 0] 97)).heap.size = w.heap.size + 1) := Lib.hid (by simp)
  go_loopw [16] (fun v wr => ∃ (k p : Nat), k ≤ W.length ∧ v = .int .i64 (k : Int) ∧ p ≤ s.size ∧ w.heap.size + 1 ≤ wr.heap.size ∧ Hid (ScanAt wr w.heap.size s p) ∧ Hid (Below w.heap.size w wr) ∧ Hid (decide (Wn.lex (Wn.sfx s p) = W.drop k) = D)) (fun v _ => W.length - (intOf v).toNat)
  case atStart => exact ⟨0, 0, by omega, rfl, by omega, by rw [HZ0.out]; omega, HC0, HB0, HD⟩
  case round =>
    obtain ⟨k, p, hk, rfl, hp, hsz, HS, HB, HA⟩ := hrel
    have hq := Wn.skip_le (Wn.sfx s p)
    rw [Wn.sfx_length] at hq
    generalize hqq : p + Wn.skip (Wn.sfx s p) = q at *
    have hq2 : q ≤ s.size := by omega
    have HQ := Lib.hid hqq
    by_cases hlt : k < W.length
    · obtain ⟨⟨tk, tt, tn⟩, hTk⟩ : ∃ t, W[k]? = some t := ⟨W[k], List.getElem?_eq_getElem hlt⟩
      obtain ⟨b, off, rfl, hin⟩ := HCell.out k _ hTk
      have hin' := hin.below HB.out hin.lt
      obtain ⟨i0, i1, i2⟩ := hin'
      dsimp only at i0 i1 i2
      have HDR : Hid (W.drop k = (tk, tt, tn) :: W.drop (k + 1)) := Lib.hid (by rw [List.drop_eq_getElem_cons hlt]; rw [List.getElem?_eq_getElem hlt] at hTk; rw [Option.some.inj hTk])
      clear hin hTk
      by_cases hlq : q < s.size
      · have hne : (Wn.sfx s p).drop (Wn.skip (Wn.sfx s p)) ≠ [] := by
          rw [Wn.sfx_drop, hqq, Wn.sfx_in s q hlq]; simp
        have hcons := Wn.lex_cons hne
        have hpos := Wn.one_pos hne
        rw [Wn.sfx_drop, hqq] at hcons hpos
        rw [Wn.sfx_length] at hpos
        rw [Wn.sfx_drop] at hcons
        obtain ⟨hp1, hp2⟩ := hpos
        have HCO := Lib.hid hcons
        generalize hone : Wn.one (Wn.sfx s q) = ot at *
        obtain ⟨⟨uk, ut, un⟩, n⟩ := ot
        have HON := Lib.hid hone
        clear hne hcons hone hqq hq
        dsimp only at hp1 hp2 HCO
        have hst := str_list tt
        have htl : Wn.str ut = ⟨ut.toArray⟩ := rfl
        by_cases hne : (uk, ut, un) = (tk, tt, tn)
        · simp only [Prod.mk.injEq] at hne
          obtain ⟨rfl, rfl, rfl⟩ := hne
          rw [htl] at *
          clear htl
          go_wp2_with (go_at_call 44; (refine (next_any w.heap.size s p q _ hs' (HS.out.alloc _) hp HQ.out hlq).mono ?_); rw [HON.out]; rintro e w1 ⟨rfl, hm1, hm2⟩; dsimp only [tokV] at *; (have hs1 : wr.heap.size + 1 ≤ w1.heap.size := by have := hm2.size; simpa using this); (have hblk : w1.heap[wr.heap.size]? = some (.cells #[.int .i64 uk, .string ⟨ut.toArray⟩, .int .i64 un] 45) := by rw [hm2.block wr.heap.size (by simp) (by omega)]; exact heap_alloc_new wr _); (have e0 : w1.cell? ⟨wr.heap.size, 0, none⟩ = some (.int .i64 uk) := cell_of_block (o := 0) hblk); (have e1 : w1.cell? ⟨wr.heap.size, 1, none⟩ = some (.string ⟨ut.toArray⟩) := cell_of_block (o := 1) hblk); (have e2 : w1.cell? ⟨wr.heap.size, 2, none⟩ = some (.int .i64 un) := cell_of_block (o := 2) hblk); (have HB1 : Hid (Below w.heap.size w w1) := Lib.hid (Only.below (HB.out.alloc (by omega) _) hm2 (by simp; omega))); have HS1 := Lib.hid hm1; have e0' := cell_alloc_old e0; have e1' := cell_alloc_old e1; have e2' := cell_alloc_old e2; clear hm1 hm2 hblk)
          refine ⟨⟨k + 1, q + n, by omega, by go_num, by omega, by simp; omega, Lib.hid (HS1.out.alloc _), Lib.hid (HB1.out.alloc (by omega) _), Lib.hid ?_⟩, by simp [intOf]; omega⟩
          rw [← HA.out, HCO.out, HDR.out]
          simp
        · have hdf : D = false := by
            rw [← HA.out, HCO.out, HDR.out]
            simp only [decide_eq_false_iff_not, List.cons.injEq]
            exact fun h => hne h.1
          have HDF := Lib.hid hdf; clear hdf
          have HNE := Lib.hid hne; clear hne htl
          go_wp2_with (go_at_call 44; (refine (next_any w.heap.size s p q _ hs' (HS.out.alloc _) hp HQ.out hlq).mono ?_); rw [HON.out]; rintro e w1 ⟨rfl, hm1, hm2⟩; dsimp only [tokV] at *; (have hs1 : wr.heap.size + 1 ≤ w1.heap.size := by have := hm2.size; simpa using this); (have hblk : w1.heap[wr.heap.size]? = some (.cells #[.int .i64 tk, .string (Wn.str tt), .int .i64 tn] 45) := by rw [hm2.block wr.heap.size (by simp) (by omega)]; exact heap_alloc_new wr _); (have e0 : w1.cell? ⟨wr.heap.size, 0, none⟩ = some (.int .i64 tk) := cell_of_block (o := 0) hblk); (have e1 : w1.cell? ⟨wr.heap.size, 1, none⟩ = some (.string (Wn.str tt)) := cell_of_block (o := 1) hblk); (have e2 : w1.cell? ⟨wr.heap.size, 2, none⟩ = some (.int .i64 tn) := cell_of_block (o := 2) hblk); (have HB1 : Hid (Below w.heap.size w w1) := Lib.hid (Only.below (HB.out.alloc (by omega) _) hm2 (by simp; omega))); have HS1 := Lib.hid hm1; have e0' := cell_alloc_old e0; have e1' := cell_alloc_old e1; have e2' := cell_alloc_old e2; clear hm1 hm2 hblk)
          all_goals first
            | (exfalso; refine HNE.out ?_; simp_all; done)
            | (go_ret; exact ⟨ret_bool HDF.out.symm, HB1.out.alloc (by omega) _⟩)
      · have hqs : q = s.size := by omega
        have hnil : Wn.lex (Wn.sfx s p) = [] := by
          apply Wn.lex_end
          rw [Wn.sfx_drop, hqq, Wn.sfx_out s q (by omega)]
        have HDF : Hid (D = false) := Lib.hid (by rw [← HA.out, hnil, HDR.out]; simp)
        have HQS := Lib.hid hqs
        clear hqs hnil hqq hq
        go_wp2_with (go_at_call 44; (refine (next_end w.heap.size s p q _ hs' (HS.out.alloc _) hp HQ.out HQS.out).mono ?_); rintro e w1 ⟨rfl, hm1, hm2⟩; (have HB1 : Hid (Below w.heap.size w w1) := Lib.hid (Only.below (HB.out.alloc (by omega) _) hm2 (by simp; omega))); (have hs1 : wr.heap.size + 1 ≤ w1.heap.size := by have := hm2.size; simpa using this); clear hm1 hm2)
        go_ret
        exact ⟨ret_bool HDF.out.symm, HB1.out.alloc (by omega) _⟩
    · have hkk : W.drop k = [] := List.drop_of_length_le (by omega)
      by_cases hlq : q < s.size
      · have hne : (Wn.sfx s p).drop (Wn.skip (Wn.sfx s p)) ≠ [] := by
          rw [Wn.sfx_drop, hqq, Wn.sfx_in s q hlq]; simp
        have HDF : Hid (D = false) := Lib.hid (by rw [← HA.out, hkk, Wn.lex_cons hne]; simp)
        clear hne hkk hqq hq
        generalize hone : Wn.one (Wn.sfx s q) = ot at *
        obtain ⟨⟨uk, ut, un⟩, n⟩ := ot
        have HON := Lib.hid hone; clear hone
        go_wp2_with (go_at_call 44; (refine (next_any w.heap.size s p q _ hs' HS.out hp HQ.out hlq).mono ?_); rw [HON.out]; rintro e w1 ⟨rfl, hm1, hm2⟩; dsimp only [tokV] at *; (have HB1 : Hid (Below w.heap.size w w1) := Lib.hid (Only.below HB.out hm2 (by omega))); (have hs1 := hm2.size); clear hm1 hm2)
        go_ret
        exact ⟨ret_bool HDF.out.symm, HB1.out.alloc (by omega) _⟩
      · have hqs : q = s.size := by omega
        have hnil : Wn.lex (Wn.sfx s p) = [] := by
          apply Wn.lex_end
          rw [Wn.sfx_drop, hqq, Wn.sfx_out s q (by omega)]
        have HDF : Hid (D = true) := Lib.hid (by rw [← HA.out, hnil, hkk]; simp)
        have HQS := Lib.hid hqs
        clear hqs hnil hqq hq hkk
        go_wp2_with (go_at_call 44; (refine (next_end w.heap.size s p q _ hs' HS.out hp HQ.out HQS.out).mono ?_); rintro e w1 ⟨rfl, hm1, hm2⟩; (have HB1 : Hid (Below w.heap.size w w1) := Lib.hid (Only.below HB.out hm2 (by omega))); (have hs1 := hm2.size); clear hm1 hm2)
        go_ret
        exact ⟨ret_bool HDF.out.symm, HB1.out.alloc (by omega) _⟩
end Go.Proofs.YtjmocdoimiomdaaGreatDoor
set_option maxRecDepth 20000
namespace Wn
def isDelim (t : Tok) (x : List UInt8) : Bool := decide (t.1 = 7) && decide (t.2.1 = x)
/-- must a comment stand between two tokens? -/
def apart (j : List UInt8) (a b : Tok) : Bool := (isDelim a [60] && isDelim b [47]) || !decide (lex j = [a, b])
def may (t : Tok) : Bool := decide (lex (oneText t) = [t])
end Wn
namespace Go.Proofs.YtjmocdoimiomdaaGreatDoor
open Go.RowKit
set_option maxHeartbeats 400000 in
theorem isDelim_any (t : Wn.Tok) (x : List UInt8) (w : World) :
    Calls Tryz.prog 85 #[tokV t, .string (Wn.str x)] w fun e w' => e = .returned (.bool (Wn.isDelim t x)) ∧ Below w.heap.size w w' := by
  obtain ⟨k, l, n⟩ := t
  rw [tokV_str]
  dsimp only at *
  have hl := str_list l
  have hx := str_list x
  have e : Wn.isDelim (k, l, n) x = ((k == 7) && (l == x)) := by
    unfold Wn.isDelim; rw [Bool.eq_iff_iff]; simp
  generalize Wn.isDelim (k, l, n) x = R at *
  generalize Wn.str l = y at *
  generalize Wn.str x = z at *
  subst hl hx
  have E := Lib.hid e; clear e
  go_enter Tryz.func85, Tryz.ntmps85
  go_wp2
  all_goals
    go_ret
    refine ⟨ret_bool ?_, (Below.refl _ _).alloc (Nat.le_refl _) _⟩
    rw [E.out]
    simp [*]
theorem Toks.mk1 (w : World) (t : Wn.Tok) : Toks (w.alloc (.cells #[.int .i64 t.1, .string (Wn.str t.2.1), .int .i64 t.2.2] 45)) (.slice (some ⟨w.heap.size, 0, none⟩) 1 1) [t] := by
  have hb := heap_alloc_new w (.cells #[.int .i64 t.1, .string (Wn.str t.2.1), .int .i64 t.2.2] 45)
  refine ⟨_, 1, rfl, Nat.le_refl _, by unfold maxLen; omega, fun i u hi => ⟨_, _, rfl, ?_⟩⟩
  match i, hi with
  | 0, hi => simp at hi; subst hi; exact ⟨cell_of_block (o := 0) hb, cell_of_block (o := 1) hb, cell_of_block (o := 2) hb⟩
theorem Toks.mk2 (w : World) (t u : Wn.Tok) : Toks (w.alloc (.cells #[.int .i64 t.1, .string (Wn.str t.2.1), .int .i64 t.2.2, .int .i64 u.1, .string (Wn.str u.2.1), .int .i64 u.2.2] 45)) (.slice (some ⟨w.heap.size, 0, none⟩) 2 2) [t, u] := by
  have hb := heap_alloc_new w (.cells #[.int .i64 t.1, .string (Wn.str t.2.1), .int .i64 t.2.2, .int .i64 u.1, .string (Wn.str u.2.1), .int .i64 u.2.2] 45)
  refine ⟨_, 2, rfl, Nat.le_refl _, by unfold maxLen; omega, fun i x hi => ⟨_, _, rfl, ?_⟩⟩
  match i, hi with
  | 0, hi => simp at hi; subst hi; exact ⟨cell_of_block (o := 0) hb, cell_of_block (o := 1) hb, cell_of_block (o := 2) hb⟩
  | 1, hi => simp at hi; subst hi; exact ⟨cell_of_block (o := 3) hb, cell_of_block (o := 4) hb, cell_of_block (o := 5) hb⟩
/-- two tokens in two boxes that were made -/
theorem box2 (w : World) (t u : Wn.Tok) : TokIn ((w.alloc (.cells #[.int .i64 t.1, .string (Wn.str t.2.1), .int .i64 t.2.2] 45)).alloc (.cells #[.int .i64 u.1, .string (Wn.str u.2.1), .int .i64 u.2.2] 45)) w.heap.size 0 t ∧
    TokIn ((w.alloc (.cells #[.int .i64 t.1, .string (Wn.str t.2.1), .int .i64 t.2.2] 45)).alloc (.cells #[.int .i64 u.1, .string (Wn.str u.2.1), .int .i64 u.2.2] 45)) (w.heap.size + 1) 0 u := by
  have hb := heap_alloc_new w (.cells #[.int .i64 t.1, .string (Wn.str t.2.1), .int .i64 t.2.2] 45)
  have hc := heap_alloc_new (w.alloc (.cells #[.int .i64 t.1, .string (Wn.str t.2.1), .int .i64 t.2.2] 45)) (.cells #[.int .i64 u.1, .string (Wn.str u.2.1), .int .i64 u.2.2] 45)
  have hz : (w.alloc (.cells #[.int .i64 t.1, .string (Wn.str t.2.1), .int .i64 t.2.2] 45)).heap.size = w.heap.size + 1 := by simp
  rw [hz] at hc
  exact ⟨⟨cell_alloc_old (cell_of_block (o := 0) hb) _, cell_alloc_old (cell_of_block (o := 1) hb) _, cell_alloc_old (cell_of_block (o := 2) hb) _⟩, ⟨cell_of_block (o := 0) hc, cell_of_block (o := 1) hc, cell_of_block (o := 2) hc⟩⟩
theorem box1 (w : World) (t : Wn.Tok) : TokIn (w.alloc (.cells #[.int .i64 t.1, .string (Wn.str t.2.1), .int .i64 t.2.2] 45)) w.heap.size 0 t := by
  have hb := heap_alloc_new w (.cells #[.int .i64 t.1, .string (Wn.str t.2.1), .int .i64 t.2.2] 45)
  exact ⟨cell_of_block (o := 0) hb, cell_of_block (o := 1) hb, cell_of_block (o := 2) hb⟩
theorem TokIn.later {w w' : World} {b o : Nat} {t : Wn.Tok} (h : TokIn w b o t) (hb : Below w.heap.size w w') : TokIn w' b o t := h.below hb h.lt
set_option maxHeartbeats 2000000 in
theorem apart_any (j : List UInt8) (t u : Wn.Tok) (w : World) (hj : j.length ≤ 1099511627776) :
    Calls Tryz.prog 51 #[.string (Wn.str j), tokV t, tokV u] w fun e w' => e = .returned (.bool (Wn.apart j t u)) ∧ Below w.heap.size w w' := by
  have q1 := fun w => isDelim_any t [60] w
  have q2 := fun w => isDelim_any u [47] w
  have q3 := fun v w hW => reads_any (Wn.str j) v [t, u] w (by rw [Wn.str_size]; exact hj) hW
  rw [Wn.toList_str] at q3
  have e : Wn.apart j t u = ((Wn.isDelim t [60] && Wn.isDelim u [47]) || !decide (Wn.lex j = [t, u])) := rfl
  generalize Wn.apart j t u = R at *
  generalize decide (Wn.lex j = [t, u]) = D at *
  generalize Wn.isDelim t [60] = d1 at *
  generalize Wn.isDelim u [47] = d2 at *
  rw [tokV_str] at q1 q2
  rw [tokV_str, tokV_str]
  have m2 := fun w => Toks.mk2 w t u
  have bx := box2 w t u
  obtain ⟨tk, tt, tn⟩ := t
  obtain ⟨uk, ut, un⟩ := u
  dsimp only at *
  generalize hx : Wn.str tt = x at *
  generalize hy : Wn.str ut = y at *
  generalize Wn.str j = z at *
  have Q1 := Lib.hid q1; clear q1
  have Q2 := Lib.hid q2; clear q2
  have Q3 := Lib.hid q3; clear q3
  have M2 := Lib.hid m2; clear m2
  have BX := Lib.hid bx; clear bx
  have E := Lib.hid e; clear e
  have HX := Lib.hid hx; clear hx
  have HY := Lib.hid hy; clear hy
  have HB0 : Hid (Below w.heap.size w ((w.alloc (Obj.cells #[Value.int IntKind.i64 tk, Value.string x, Value.int IntKind.i64 tn] 45)).alloc (Obj.cells #[Value.int IntKind.i64 uk, Value.string y, Value.int IntKind.i64 un] 45))) := Lib.hid (((Below.refl _ _).alloc (Nat.le_refl _) _).alloc (by simp) _)
  have hz0 : ((w.alloc (Obj.cells #[Value.int IntKind.i64 tk, Value.string x, Value.int IntKind.i64 tn] 45)).alloc (Obj.cells #[Value.int IntKind.i64 uk, Value.string y, Value.int IntKind.i64 un] 45)).heap.size = w.heap.size + 2 := by simp
  have HZ0 := Lib.hid hz0; clear hz0
  go_enter Tryz.func51, Tryz.ntmps51
  go_wp2_with fail
  refine (Q1.out _).mono ?_
  rintro e w1 ⟨rfl, hb⟩
  have hs1 : w.heap.size + 2 ≤ w1.heap.size := by have := hb.size; rw [HZ0.out] at this; exact this
  have HB1 : Hid (Below w.heap.size w w1) := Lib.hid (HB0.out.trans (hb.mono (by rw [HZ0.out]; omega)))
  have T1 := Lib.hid (BX.out.1.later hb)
  have U1 := Lib.hid (BX.out.2.later hb)
  (have k0t1 : w1.cell? ⟨w.heap.size, 0, none⟩ = some _ := (T1.out).c0); (have k1t1 : w1.cell? ⟨w.heap.size, 1, none⟩ = some _ := (T1.out).c1); (have k2t1 : w1.cell? ⟨w.heap.size, 2, none⟩ = some _ := (T1.out).c2); (try dsimp only at k0t1 k1t1 k2t1)
  (have k0u1 : w1.cell? ⟨w.heap.size + 1, 0, none⟩ = some _ := (U1.out).c0); (have k1u1 : w1.cell? ⟨w.heap.size + 1, 1, none⟩ = some _ := (U1.out).c1); (have k2u1 : w1.cell? ⟨w.heap.size + 1, 2, none⟩ = some _ := (U1.out).c2); (try dsimp only at k0u1 k1u1 k2u1)
  rw [HX.out] at k1t1
  rw [HY.out] at k1u1
  clear hb BX HB0 HZ0
  cases d1
  · go_wp2_with fail
    refine (Q3.out _ _ (M2.out w1)).mono ?_
    rintro e w2 ⟨rfl, hb2⟩
    have HB2 : Hid (Below w.heap.size w w2) := Lib.hid ((HB1.out.alloc (by omega) _).trans (hb2.mono (by simp; omega)))
    clear hb2
    go_wp2_with fail
    go_ret
    exact ⟨ret_bool (by rw [E.out]; simp), HB2.out⟩
  · go_wp2_with fail
    refine (Q2.out _).mono ?_
    rintro e w2 ⟨rfl, hb2⟩
    have hs2 := hb2.size
    have HB2 : Hid (Below w.heap.size w w2) := Lib.hid (HB1.out.trans (hb2.mono (by omega)))
    have T2 := T1.out.later hb2
    have U2 := U1.out.later hb2
    (have k0t2 : w2.cell? ⟨w.heap.size, 0, none⟩ = some _ := (T2).c0); (have k1t2 : w2.cell? ⟨w.heap.size, 1, none⟩ = some _ := (T2).c1); (have k2t2 : w2.cell? ⟨w.heap.size, 2, none⟩ = some _ := (T2).c2); (try dsimp only at k0t2 k1t2 k2t2)
    (have k0u2 : w2.cell? ⟨w.heap.size + 1, 0, none⟩ = some _ := (U2).c0); (have k1u2 : w2.cell? ⟨w.heap.size + 1, 1, none⟩ = some _ := (U2).c1); (have k2u2 : w2.cell? ⟨w.heap.size + 1, 2, none⟩ = some _ := (U2).c2); (try dsimp only at k0u2 k1u2 k2u2)
    rw [HX.out] at k1t2
    rw [HY.out] at k1u2
    clear hb2 T2 U2 T1 U1 k0t1 k1t1 k2t1 k0u1 k1u1 k2u1
    cases d2
    · go_wp2_with fail
      refine (Q3.out _ _ (M2.out w2)).mono ?_
      rintro e w3 ⟨rfl, hb3⟩
      have HB3 : Hid (Below w.heap.size w w3) := Lib.hid ((HB2.out.alloc (by omega) _).trans (hb3.mono (by simp; omega)))
      clear hb3
      go_wp2_with fail
      go_ret
      exact ⟨ret_bool (by rw [E.out]; simp), HB3.out⟩
    · go_wp2_with fail
      go_ret
      exact ⟨ret_bool (by rw [E.out]; simp), HB2.out⟩
theorem lex_str (l : List UInt8) : (Wn.str l).data.toList = l := rfl
end Go.Proofs.YtjmocdoimiomdaaGreatDoor
set_option maxRecDepth 20000
namespace Wn
/-- the text of tokens behind another one -/
def texts : Option Tok → List Tok → List UInt8
  | _, [] => []
  | none, t :: l => oneText t ++ texts (some t) l
  | some p, t :: l => (if apart (oneText p ++ oneText t) p t then [47, 42, 42, 47] else []) ++ (oneText t ++ texts (some t) l)
def text (l : List Tok) : List UInt8 := texts none l
/-- the token ahead of a place -/
def ahead (l : List Tok) (k : Nat) : Option Tok := if k = 0 then none else l[k - 1]?
/-- its text; nothing ahead of the first -/
def aheadText (l : List Tok) (k : Nat) : List UInt8 := match ahead l k with | none => [] | some t => oneText t
theorem ahead_succ (l : List Tok) (k : Nat) (t : Tok) (h : l[k]? = some t) : ahead l (k + 1) = some t := by simp [ahead, h]
theorem aheadText_succ (l : List Tok) (k : Nat) (t : Tok) (h : l[k]? = some t) : aheadText l (k + 1) = oneText t := by simp [aheadText, ahead_succ l k t h]
end Wn
namespace Go.Proofs.YtjmocdoimiomdaaGreatDoor
open Go.RowKit
/-- a token as a Go program may hold it here: a short text, a number that is an int -/
def Fine (t : Wn.Tok) : Prop := t.2.1.length ≤ 1048576 ∧ -9223372036854775808 ≤ t.2.2 ∧ t.2.2 ≤ 9223372036854775807
theorem Fine.one {t : Wn.Tok} (h : Fine t) : (Wn.oneText t).length ≤ 1048596 := by have := Wn.oneText_len t h.2.1 h.2.2; have := h.1; omega
theorem bld_new (w : World) : Bld w.heap.size w.heap.size [] (w.alloc (.cells #[.pointer none, .slice none 0 0] 79)) :=
  .inl ⟨Nat.le_refl _, _, heap_alloc_new w _, World.ownsRow_nil _ _ _ _, by simp [Value.ownBlock]⟩
theorem grown_none {w w' : World} (h : Below w.heap.size w w') : w.grownBy w' none := ⟨h.os, h.tape, h.output, h.size, fun k hk _ => h.block k hk⟩
theorem ownsRow_later {w w' : World} {B : Nat} {e : TypeId} {size : Nat} {v : Value} {n : Nat} {xs : List Value} (h : w.ownsRow B e size v n xs) (hb : Below w.heap.size w w') : w'.ownsRow B e size v n xs := by
  refine h.kept (grown_none hb) ?_
  cases v.ownBlock with
  | none => exact .inl rfl
  | some k => exact .inr (by simp)
theorem Bld.later {B b : Nat} {l : List UInt8} {w w' : World} (h : Bld B b l w) (hb : Below w.heap.size w w') : Bld B b l w' := by
  have go : ∀ p, Lib.BuilderAt 79 5 B b p (Lib.byteCells l) w → Lib.BuilderAt 79 5 B b p (Lib.byteCells l) w' := fun p h => by
    have hl := h.lt
    obtain ⟨hB, v, hbk, hown, hne⟩ := h
    exact ⟨hB, v, by rw [hb.block b hl]; exact hbk, ownsRow_later hown hb, hne⟩
  rcases h with h | h
  · exact .inl (go _ h)
  · exact .inr (go _ h)
theorem Bld.drewN {B b : Nat} {l : List UInt8} {w : World} (h : Bld B b l w) (n : Nat) : Bld B b l (w.drewN n) := h.later ⟨rfl, rfl, rfl, Nat.le_refl _, fun _ _ => rfl⟩
theorem below_drewN' {B : Nat} {a w : World} (h : Below B a w) (n : Nat) : Below B a (w.drewN n) := ⟨h.os, h.tape, h.output, h.size, h.block⟩
/-- WriteString of a text that is known as a string -/
theorem WriteString_z (B b : Nat) (l m : List UInt8) (z : ByteArray) (w : World) (hz : Wn.str m = z) (h : Bld B b l w) (hlen : l.length + m.length ≤ 140737488355328) (hBw : B ≤ w.heap.size) :
    Calls Tryz.prog 52 #[.pointer (some ⟨b, 0, none⟩), .string z] w fun e w' => e = .returned (.tuple #[.int .i64 m.length, .nilIface]) ∧ Bld B b (l ++ m) w' ∧ Below B w w' := by
  subst hz; exact WriteString_any B b l m w h hlen hBw
theorem Bld.lt {B b : Nat} {l : List UInt8} {w : World} (h : Bld B b l w) : b < w.heap.size := by
  rcases h with h | h <;> exact h.lt
set_option maxRecDepth 100000 in
set_option maxHeartbeats 2000000 in
theorem Text_any (v : Value) (l : List Wn.Tok) (w : World) (ht : Tab w) (hW : Toks w v l) (hf : ∀ t ∈ l, Fine t) (hlen : l.length ≤ 1048576) :
    Calls Tryz.prog 35 #[v] w fun e w' => e = .returned (.string (Wn.str (Wn.text l))) ∧ Below w.heap.size w w' := by
  obtain ⟨ao, cap, rfl, hc1, hc2, hcell⟩ := hW
  have HCell := Lib.hid hcell; clear hcell
  have HF := Lib.hid hf; clear hf
  have HT := Lib.hid ht; clear ht
  unfold maxLen at hc2
  go_enter Tryz.func35, Tryz.ntmps35
  go_wp2_with fail
  have HB0 : Hid (Below w.heap.size w (w.alloc (.cells #[.pointer none, .slice none 0 0] 79))) := Lib.hid ((Below.refl _ _).alloc (Nat.le_refl _) _)
  have HK0 := Lib.hid (bld_new w)
  go_loopw [4, 10] (fun v4 v10 wr => ∃ (k : Nat) (acc : List UInt8), k ≤ l.length ∧ v10 = .int .i64 (k : Int) ∧ v4 = .string (Wn.str (Wn.aheadText l k)) ∧ acc.length ≤ k * 1048600 ∧ Hid (Bld w.heap.size w.heap.size acc wr) ∧ Hid (Below w.heap.size w wr) ∧ Hid (acc ++ Wn.texts (Wn.ahead l k) (l.drop k) = Wn.text l)) (fun _ v10 _ => l.length - (intOf v10).toNat)
  case atStart => exact ⟨0, [], by omega, rfl, rfl, by simp, HK0, HB0, Lib.hid rfl⟩
  case round =>
    obtain ⟨k, acc, hk, rfl, rfl, hacc, HK, HB, HA⟩ := hrel
    have hsz := HK.out.lt
    by_cases hlt : k < l.length
    · obtain ⟨t, hTk⟩ : ∃ t, l[k]? = some t := ⟨l[k], List.getElem?_eq_getElem hlt⟩
      obtain ⟨b, off, rfl, hin⟩ := HCell.out k _ hTk
      have hfine := HF.out t (List.mem_of_getElem? hTk)
      have hin' := hin.below HB.out hin.lt
      have q1 := fun w ht => One_any t w ht (by have := hfine.1; omega) hfine.2.1 hfine.2.2
      have hone := hfine.one
      rw [tokV_str] at q1
      have BX := Lib.hid (box1 wr t)
      have HTK := Lib.hid hTk
      have HFI := Lib.hid hfine
      have hat : Wn.ahead l (k + 1) = some t := Wn.ahead_succ l k t hTk
      have hatt : Wn.aheadText l (k + 1) = Wn.oneText t := Wn.aheadText_succ l k t hTk
      have HAT := Lib.hid hat
      have HATT := Lib.hid hatt
      clear hin hTk hfine hat hatt
      obtain ⟨i0, i1, i2⟩ := hin'
      generalize hx : Wn.str t.2.1 = x at *
      generalize hz : Wn.str (Wn.oneText t) = z at *
      have Q1 := Lib.hid q1; clear q1
      have HX := Lib.hid hx; clear hx
      have HZ := Lib.hid hz; clear hz
      have HZ0 : Hid ((wr.alloc (Obj.cells #[Value.int IntKind.i64 t.1, Value.string x, Value.int IntKind.i64 t.2.2] 45)).heap.size = wr.heap.size + 1) := Lib.hid (by simp)
      go_wp2_with fail
      refine (Q1.out _ (HT.out.below (HB.out.alloc (by omega) _))).mono ?_
      rintro e w1 ⟨rfl, hb⟩
      have hs1 : wr.heap.size + 1 ≤ w1.heap.size := by have := hb.size; rw [HZ0.out] at this; exact this
      have HB1 : Hid (Below w.heap.size w w1) := Lib.hid ((HB.out.alloc (by omega) _).trans (hb.mono (by rw [HZ0.out]; omega)))
      have HK1 : Hid (Bld w.heap.size w.heap.size acc w1) := Lib.hid ((HK.out.later ((Below.refl _ _).alloc (Nat.le_refl _) _)).later hb)
      have T1 := BX.out.later hb
      (have k0t1 : w1.cell? ⟨wr.heap.size, 0, none⟩ = some _ := (T1).c0); (have k1t1 : w1.cell? ⟨wr.heap.size, 1, none⟩ = some _ := (T1).c1); (have k2t1 : w1.cell? ⟨wr.heap.size, 2, none⟩ = some _ := (T1).c2); (try dsimp only at k0t1 k1t1 k2t1)
      rw [HX.out] at k1t1
      have hzl : z.size ≤ 1048596 := by rw [← HZ.out, Wn.str_size]; exact hone
      clear hb T1 i0 i1 i2 BX
      cases k with
      | zero =>
        rw [Nat.zero_mul] at hacc
        have he : Wn.aheadText l 0 = [] := rfl
        have ha0 : Wn.ahead l 0 = none := rfl
        have HDR : Hid (l.drop 0 = t :: l.drop 1) := Lib.hid (by rw [List.drop_eq_getElem_cons hlt]; have := HTK.out; rw [List.getElem?_eq_getElem hlt] at this; rw [Option.some.inj this])
        have HAA : Hid (acc ++ Wn.oneText t ++ Wn.texts (some t) (l.drop 1) = Wn.text l) := Lib.hid (by rw [← HA.out, HDR.out, ha0]; simp [Wn.texts])
        clear he ha0
        go_wp2_with fail
        go_quiet (fail)
        go_wp2_with fail
        refine (WriteString_z _ _ acc (Wn.oneText t) z _ HZ.out (HK1.out.drewN _) (by omega) (by simp; omega)).mono ?_
        rintro e w2 ⟨rfl, hk2, hb2⟩
        have HK2 := Lib.hid hk2
        have HB2 : Hid (Below w.heap.size w w2) := Lib.hid ((below_drewN' HB1.out _).trans hb2)
        clear hk2 hb2
        go_wp2_with fail
        refine ⟨⟨1, acc ++ Wn.oneText t, by omega, by go_num, ?_, ?_, HK2, HB2, Lib.hid ?_⟩, by simp [intOf]; omega⟩
        · have e1 := HATT.out
          rw [Nat.zero_add] at e1
          rw [e1, HZ.out]
        · simp; omega
        · have e1 := HAT.out
          rw [Nat.zero_add] at e1
          rw [e1]; exact HAA.out
      | succ j =>
        obtain ⟨p, hTj⟩ : ∃ p, l[j]? = some p := ⟨l[j], List.getElem?_eq_getElem (by omega)⟩
        have haj : Wn.ahead l (j + 1) = some p := Wn.ahead_succ l j p hTj
        have hatj : Wn.aheadText l (j + 1) = Wn.oneText p := Wn.aheadText_succ l j p hTj
        have hpf := HF.out p (List.mem_of_getElem? hTj)
        have HDR : Hid (l.drop (j + 1) = t :: l.drop (j + 1 + 1)) := Lib.hid (by rw [List.drop_eq_getElem_cons hlt]; have := HTK.out; rw [List.getElem?_eq_getElem hlt] at this; rw [Option.some.inj this])
        have HAA : Hid (acc ++ ((if Wn.apart (Wn.oneText p ++ Wn.oneText t) p t then [47, 42, 42, 47] else []) ++ Wn.oneText t) ++ Wn.texts (some t) (l.drop (j + 1 + 1)) = Wn.text l) := Lib.hid (by rw [← HA.out, HDR.out, haj]; simp [Wn.texts])
        obtain ⟨b', off', hbo, hinp⟩ := HCell.out j _ hTj
        simp only [Option.some.injEq, Addr.mk.injEq] at hbo
        obtain ⟨rfl, rfl, _⟩ := hbo
        obtain ⟨p0, p1, p2⟩ := hinp.below HB1.out hinp.lt
        have q2 := fun w => apart_any (Wn.oneText p ++ Wn.oneText t) p t w (by have := hpf.one; simp; omega)
        rw [← Wn.str_append, ← hatj, HZ.out, tokV_str, tokV_str, HX.out] at q2
        have hpl : (Wn.str (Wn.aheadText l (j + 1))).size ≤ 1048596 := by rw [hatj, Wn.str_size]; exact hpf.one
        generalize Wn.str (Wn.aheadText l (j + 1)) = y at *
        generalize hy : Wn.str p.2.1 = px at *
        rw [hatj] at q2
        generalize hD : Wn.apart (Wn.oneText p ++ Wn.oneText t) p t = D at *
        have Q2 := Lib.hid q2
        have hadd : ¬ 9223372036854775807 < y.size + z.size := by omega
        have hj1 : (j : Int) < (l.length : Int) := by omega
        have hj2 : j < l.length := by omega
        have hj3 : IntKind.i64.wrap (j : Int) = (j : Int) := IntWalk.i64_in _ (by omega)
        clear q2 hinp hTj haj hatj hpf hD hy
        go_wp2_with fail
        refine region_tail 12 (by kernel_rfl) (by kernel_rfl) ?_
        simp only [List.take_succ_cons, List.take_zero, List.drop_succ_cons, List.drop_zero]
        repeat still_step
        refine wpStill_nil ?_
        go_wp2_with fail
        refine (Q2.out _).mono ?_
        rintro e w2 ⟨rfl, hb2⟩
        have hs2 : w1.heap.size ≤ w2.heap.size := hb2.size
        have HB2 : Hid (Below w.heap.size w w2) := Lib.hid (HB1.out.drew.trans (hb2.mono (by show w.heap.size ≤ w1.heap.size; omega)))
        have HK2 : Hid (Bld w.heap.size w.heap.size acc w2) := Lib.hid ((HK1.out.drewN 1).later hb2)
        clear hb2 p0 p1 p2 k0t1 k1t1 k2t1
        cases D
        · have HA2 : Hid (acc ++ Wn.oneText t ++ Wn.texts (some t) (l.drop (j + 1 + 1)) = Wn.text l) := Lib.hid (by rw [← HAA.out]; simp)
          go_wp2_with fail
          refine (WriteString_z _ _ acc (Wn.oneText t) z _ HZ.out HK2.out (by omega) (by omega)).mono ?_
          rintro e w3 ⟨rfl, hk3, hb3⟩
          have HK3 := Lib.hid hk3
          have HB3 : Hid (Below w.heap.size w w3) := Lib.hid (HB2.out.trans hb3)
          clear hk3 hb3
          go_wp2_with fail
          refine ⟨⟨j + 1 + 1, acc ++ Wn.oneText t, by omega, by go_num, ?_, ?_, HK3, HB3, Lib.hid ?_⟩, by simp [intOf]; omega⟩
          · rw [HATT.out, HZ.out]
          · simp; omega
          · rw [HAT.out]; exact HA2.out
        · have HA2 : Hid (acc ++ [47, 42, 42, 47] ++ Wn.oneText t ++ Wn.texts (some t) (l.drop (j + 1 + 1)) = Wn.text l) := Lib.hid (by rw [← HAA.out]; simp)
          go_wp2_with fail
          refine (WriteString_z _ _ acc [47, 42, 42, 47] _ _ rfl HK2.out (by simp; omega) (by omega)).mono ?_
          rintro e w3 ⟨rfl, hk3, hb3⟩
          have hs3 := hb3.size
          have HK3 := Lib.hid hk3
          have HB3 : Hid (Below w.heap.size w w3) := Lib.hid (HB2.out.trans hb3)
          clear hk3 hb3
          go_wp2_with fail
          refine (WriteString_z _ _ _ (Wn.oneText t) z _ HZ.out HK3.out (by simp; omega) (by omega)).mono ?_
          rintro e w4 ⟨rfl, hk4, hb4⟩
          have HK4 := Lib.hid hk4
          have HB4 : Hid (Below w.heap.size w w4) := Lib.hid (HB3.out.trans hb4)
          clear hk4 hb4
          go_wp2_with fail
          refine ⟨⟨j + 1 + 1, acc ++ [47, 42, 42, 47] ++ Wn.oneText t, by omega, by go_num, ?_, ?_, HK4, HB4, Lib.hid ?_⟩, by simp [intOf]; omega⟩
          · rw [HATT.out, HZ.out]
          · simp; omega
          · rw [HAT.out]; exact HA2.out
    · have hd : l.drop k = [] := List.drop_of_length_le (by omega)
      have HR : Hid (acc = Wn.text l) := Lib.hid (by rw [← HA.out, hd]; cases Wn.ahead l k <;> simp [Wn.texts])
      clear hd
      go_wp2_with fail
      refine (Tryz.Builder_String_any w.heap.size w.heap.size acc _ HK.out (by omega)).mono ?_
      rintro e w1 ⟨rfl, hb1⟩
      have HB1 : Hid (Below w.heap.size w w1) := Lib.hid (HB.out.trans hb1)
      clear hb1
      go_wp2_with fail
      go_ret
      exact ⟨ret_str (by rw [← HR.out]; rfl), HB1.out⟩
end Go.Proofs.YtjmocdoimiomdaaGreatDoor
