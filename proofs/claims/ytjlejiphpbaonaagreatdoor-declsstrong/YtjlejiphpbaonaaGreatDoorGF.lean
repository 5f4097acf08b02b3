/- Tokens in memory; what toks.reads answers: are the tokens of a text those wanted? What toks.isDelim, apart, May answer. What toks.Text answers: the text of tokens. -/
import Derived.Test.YtjlejiphpbaonaaGreatDoorGD
set_option maxRecDepth 20000
namespace Go.Proofs.YtjlejiphpbaonaaGreatDoor
open Go.RowKit
/-- the token t lies at this place -/
structure TokIn (w : World) (b o : Nat) (t : Wn.Tok) : Prop where
  c0 : w.cell? ⟨b, o, none⟩ = some (.int .i64 t.1)
  c1 : w.cell? ⟨b, o + 1, none⟩ = some (.string (Wn.str t.2.1))
  c2 : w.cell? ⟨b, o + 2, none⟩ = some (.int .i64 t.2.2)
/-- the slice v reads as the tokens l -/
def Toks (w : World) (v : Value) (l : List Wn.Tok) : Prop :=
  ∃ ao cap, v = .slice ao l.length cap ∧ l.length ≤ cap ∧ cap ≤ maxLen ∧ ∀ i t, l[i]? = some t → ∃ b off, ao = some ⟨b, off, none⟩ ∧ TokIn w b (off + i * 3) t
theorem Toks.nil (w : World) : Toks w (.slice none 0 0) [] := ⟨none, 0, rfl, Nat.le_refl _, by unfold maxLen; omega, fun i t h => by simp at h⟩
theorem TokIn.lt {w : World} {b o : Nat} {t : Wn.Tok} (h : TokIn w b o t) : b < w.heap.size := World.block_lt_of_cell? w ⟨b, o, none⟩ h.c0
theorem TokIn.below {B : Nat} {w w' : World} {b o : Nat} {t : Wn.Tok} (h : TokIn w b o t) (hb : Below B w w') (hB : b < B) : TokIn w' b o t :=
  ⟨(hb.cell (p := ⟨b, o, none⟩) hB).trans h.c0, (hb.cell (p := ⟨b, o + 1, none⟩) hB).trans h.c1, (hb.cell (p := ⟨b, o + 2, none⟩) hB).trans h.c2⟩
/-- what lies in old memory reads as it did -/
theorem Toks.below {w w' : World} {v : Value} {l : List Wn.Tok} (h : Toks w v l) (hb : Below w.heap.size w w') : Toks w' v l := by
  obtain ⟨ao, cap, hv, h1, h2, h3⟩ := h
  exact ⟨ao, cap, hv, h1, h2, fun i t ht => let ⟨b, off, ha, hi⟩ := h3 i t ht; ⟨b, off, ha, hi.below hb hi.lt⟩⟩
theorem toksCells_get : ∀ (l : List Wn.Tok) (i : Nat) (t : Wn.Tok), l[i]? = some t →
    (toksCells l)[i * 3]? = some (.int .i64 t.1) ∧ (toksCells l)[i * 3 + 1]? = some (.string (Wn.str t.2.1)) ∧ (toksCells l)[i * 3 + 2]? = some (.int .i64 t.2.2)
  | [], i, t, h => by simp at h
  | x :: l, 0, t, h => by
    simp at h; subst h
    exact ⟨rfl, rfl, rfl⟩
  | x :: l, i + 1, t, h => by
    have := toksCells_get l i t (by simpa using h)
    have e : toksCells (x :: l) = tokCells x ++ toksCells l := by simp [toksCells]
    rw [e, show (i + 1) * 3 = i * 3 + 3 by omega]
    simpa [tokCells] using this
theorem toksCells_length (l : List Wn.Tok) : (toksCells l).length = l.length * 3 := by
  induction l with
  | nil => rfl
  | cons x l ih => have e : toksCells (x :: l) = tokCells x ++ toksCells l := by simp [toksCells]
                   rw [e]; simp [tokCells, ih]; omega
/-- a row of a call's own reads as its tokens -/
theorem Toks.ofRow {w : World} {B : Nat} {v : Value} {l : List Wn.Tok} (h : w.ownsRow B 47 3 v l.length (toksCells l)) : Toks w v l := by
  rcases h.2 with ⟨hv, hn⟩ | ⟨g, cap, cur, hv, hg, hh, hn, hcap, hsz, htake⟩
  · obtain rfl := List.length_eq_zero_iff.1 hn
    subst hv
    exact Toks.nil w
  · refine ⟨_, cap, hv, hn, hcap, fun i t ht => ⟨g, 0, rfl, ?_⟩⟩
    obtain ⟨k0, k1, k2⟩ := toksCells_get l i t ht
    have hil : i < l.length := (List.getElem?_eq_some_iff.1 ht).1
    have get : ∀ j u, (toksCells l)[j]? = some u → w.cell? ⟨g, j, none⟩ = some u := fun j u hu => by
      have hjl : j < (toksCells l).length := (List.getElem?_eq_some_iff.1 hu).1
      rw [← htake, List.getElem?_take] at hu
      split at hu
      · simp [World.cell?, hh]; simpa using hu
      · cases hu
    exact ⟨by rw [Nat.zero_add]; exact get _ _ k0, by rw [Nat.zero_add]; exact get _ _ k1, by rw [Nat.zero_add]; exact get _ _ k2⟩
theorem cell_alloc_old {w : World} {a : Addr} {v : Value} (h : w.cell? a = some v) (o : Obj) : (w.alloc o).cell? a = some v :=
  (World.cell?_of_block (w := w) (Below.heap_alloc w o a.block (World.block_lt_of_cell? w a h))).trans h
set_option maxRecDepth 100000 in
set_option maxHeartbeats 2000000 in
theorem reads_any (s : ByteArray) (v : Value) (W : List Wn.Tok) (w : World) (hs : s.size ≤ 1099511627776) (hW : Toks w v W) :
    Calls Tryz.prog 87 #[.string s, v] w fun e w' => e = .returned (.bool (decide (Wn.lex s.data.toList = W))) ∧ Below w.heap.size w w' := by
  have hs' : s.size ≤ 4611686018427387000 := by omega
  obtain ⟨ao, cap, rfl, hc1, hc2, hcell⟩ := hW
  generalize hD : decide (Wn.lex s.data.toList = W) = D
  have HD : Hid (decide (Wn.lex (Wn.sfx s 0) = W) = D) := Lib.hid (by rw [← hD]; rfl)
  clear hD
  have HCell := Lib.hid hcell; clear hcell
  unfold maxLen at hc2
  go_enter Tryz.func87, Tryz.ntmps87
  go_wp2_with (go_at_call 107; (with_reducible refine (newScanner_any s _).mono ?_); rintro e w' ⟨rfl, rfl⟩)
  have HB0 : Hid (Below w.heap.size w (w.alloc (Obj.cells #[Value.string s, Value.int IntKind.i64 0] 123))) := Lib.hid ((Below.refl _ _).alloc (Nat.le_refl _) _)
  have HC0 : Hid (ScanAt (w.alloc (Obj.cells #[Value.string s, Value.int IntKind.i64 0] 123)) w.heap.size s 0) := Lib.hid (heap_alloc_new w _)
  have HZ0 : Hid ((w.alloc (Obj.cells #[Value.string s, Value.int IntKind.i64 0] 123)).heap.size = w.heap.size + 1) := Lib.hid (by simp)
  go_loopw [16] (fun v wr => ∃ (k p : Nat), k ≤ W.length ∧ v = .int .i64 (k : Int) ∧ p ≤ s.size ∧ w.heap.size + 1 ≤ wr.heap.size ∧ Hid (ScanAt wr w.heap.size s p) ∧ Hid (Below w.heap.size w wr) ∧ Hid (decide (Wn.lex (Wn.sfx s p) = W.drop k) = D)) (fun v _ => W.length - (intOf v).toNat)
  case atStart => exact ⟨0, 0, by omega, rfl, by omega, by rw [HZ0.out]; omega, HC0, HB0, HD⟩
  case round =>
    obtain ⟨k, p, hk, rfl, hp, hsz, HS, HB, HA⟩ := hrel
    have hq := Wn.skip_le (Wn.sfx s p)
    rw [Wn.sfx_length] at hq
    generalize hqq : p + Wn.skip (Wn.sfx s p) = q at *
    have hq2 : q ≤ s.size := by omega
    have HQ := Lib.hid hqq
    by_cases hlt : k < W.length
    · obtain ⟨⟨tk, tt, tn⟩, hTk⟩ : ∃ t, W[k]? = some t := ⟨W[k], List.getElem?_eq_getElem hlt⟩
      obtain ⟨b, off, rfl, hin⟩ := HCell.out k _ hTk
      have hin' := hin.below HB.out hin.lt
      obtain ⟨i0, i1, i2⟩ := hin'
      dsimp only at i0 i1 i2
      have HDR : Hid (W.drop k = (tk, tt, tn) :: W.drop (k + 1)) := Lib.hid (by rw [List.drop_eq_getElem_cons hlt]; rw [List.getElem?_eq_getElem hlt] at hTk; rw [Option.some.inj hTk])
      clear hin hTk
      by_cases hlq : q < s.size
      · have hne : (Wn.sfx s p).drop (Wn.skip (Wn.sfx s p)) ≠ [] := by
          rw [Wn.sfx_drop, hqq, Wn.sfx_in s q hlq]; simp
        have hcons := Wn.lex_cons hne
        have hpos := Wn.one_pos hne
        rw [Wn.sfx_drop, hqq] at hcons hpos
        rw [Wn.sfx_length] at hpos
        rw [Wn.sfx_drop] at hcons
        obtain ⟨hp1, hp2⟩ := hpos
        have HCO := Lib.hid hcons
        generalize hone : Wn.one (Wn.sfx s q) = ot at *
        obtain ⟨⟨uk, ut, un⟩, n⟩ := ot
        have HON := Lib.hid hone
        clear hne hcons hone hqq hq
        dsimp only at hp1 hp2 HCO
        have hst := str_list tt
        have htl : Wn.str ut = ⟨ut.toArray⟩ := rfl
        by_cases hne : (uk, ut, un) = (tk, tt, tn)
        · simp only [Prod.mk.injEq] at hne
          obtain ⟨rfl, rfl, rfl⟩ := hne
          rw [htl] at *
          clear htl
          go_wp2_with (go_at_call 108; (refine (next_any w.heap.size s p q _ hs' (HS.out.alloc _) hp HQ.out hlq).mono ?_); rw [HON.out]; rintro e w1 ⟨rfl, hm1, hm2⟩; dsimp only [tokV] at *; (have hs1 : wr.heap.size + 1 ≤ w1.heap.size := by have := hm2.size; simpa using this); (have hblk : w1.heap[wr.heap.size]? = some (.cells #[.int .i64 uk, .string ⟨ut.toArray⟩, .int .i64 un] 47) := by rw [hm2.block wr.heap.size (by simp) (by omega)]; exact heap_alloc_new wr _); (have e0 : w1.cell? ⟨wr.heap.size, 0, none⟩ = some (.int .i64 uk) := cell_of_block (o := 0) hblk); (have e1 : w1.cell? ⟨wr.heap.size, 1, none⟩ = some (.string ⟨ut.toArray⟩) := cell_of_block (o := 1) hblk); (have e2 : w1.cell? ⟨wr.heap.size, 2, none⟩ = some (.int .i64 un) := cell_of_block (o := 2) hblk); (have HB1 : Hid (Below w.heap.size w w1) := Lib.hid (Only.below (HB.out.alloc (by omega) _) hm2 (by simp; omega))); have HS1 := Lib.hid hm1; have e0' := cell_alloc_old e0; have e1' := cell_alloc_old e1; have e2' := cell_alloc_old e2; clear hm1 hm2 hblk)
          refine ⟨⟨k + 1, q + n, by omega, by go_num, by omega, by simp; omega, Lib.hid (HS1.out.alloc _), Lib.hid (HB1.out.alloc (by omega) _), Lib.hid ?_⟩, by simp [intOf]; omega⟩
          rw [← HA.out, HCO.out, HDR.out]
          simp
        · have hdf : D = false := by
            rw [← HA.out, HCO.out, HDR.out]
            simp only [decide_eq_false_iff_not, List.cons.injEq]
            exact fun h => hne h.1
          have HDF := Lib.hid hdf; clear hdf
          have HNE := Lib.hid hne; clear hne htl
          go_wp2_with (go_at_call 108; (refine (next_any w.heap.size s p q _ hs' (HS.out.alloc _) hp HQ.out hlq).mono ?_); rw [HON.out]; rintro e w1 ⟨rfl, hm1, hm2⟩; dsimp only [tokV] at *; (have hs1 : wr.heap.size + 1 ≤ w1.heap.size := by have := hm2.size; simpa using this); (have hblk : w1.heap[wr.heap.size]? = some (.cells #[.int .i64 tk, .string (Wn.str tt), .int .i64 tn] 47) := by rw [hm2.block wr.heap.size (by simp) (by omega)]; exact heap_alloc_new wr _); (have e0 : w1.cell? ⟨wr.heap.size, 0, none⟩ = some (.int .i64 tk) := cell_of_block (o := 0) hblk); (have e1 : w1.cell? ⟨wr.heap.size, 1, none⟩ = some (.string (Wn.str tt)) := cell_of_block (o := 1) hblk); (have e2 : w1.cell? ⟨wr.heap.size, 2, none⟩ = some (.int .i64 tn) := cell_of_block (o := 2) hblk); (have HB1 : Hid (Below w.heap.size w w1) := Lib.hid (Only.below (HB.out.alloc (by omega) _) hm2 (by simp; omega))); have HS1 := Lib.hid hm1; have e0' := cell_alloc_old e0; have e1' := cell_alloc_old e1; have e2' := cell_alloc_old e2; clear hm1 hm2 hblk)
          all_goals first
            | (exfalso; refine HNE.out ?_; simp_all; done)
            | (go_ret; exact ⟨ret_bool HDF.out.symm, HB1.out.alloc (by omega) _⟩)
      · have hqs : q = s.size := by omega
        have hnil : Wn.lex (Wn.sfx s p) = [] := by
          apply Wn.lex_end
          rw [Wn.sfx_drop, hqq, Wn.sfx_out s q (by omega)]
        have HDF : Hid (D = false) := Lib.hid (by rw [← HA.out, hnil, HDR.out]; simp)
        have HQS := Lib.hid hqs
        clear hqs hnil hqq hq
        go_wp2_with (go_at_call 108; (refine (next_end w.heap.size s p q _ hs' (HS.out.alloc _) hp HQ.out HQS.out).mono ?_); rintro e w1 ⟨rfl, hm1, hm2⟩; (have HB1 : Hid (Below w.heap.size w w1) := Lib.hid (Only.below (HB.out.alloc (by omega) _) hm2 (by simp; omega))); (have hs1 : wr.heap.size + 1 ≤ w1.heap.size := by have := hm2.size; simpa using this); clear hm1 hm2)
        go_ret
        exact ⟨ret_bool HDF.out.symm, HB1.out.alloc (by omega) _⟩
    · have hkk : W.drop k = [] := List.drop_of_length_le (by omega)
      by_cases hlq : q < s.size
      · have hne : (Wn.sfx s p).drop (Wn.skip (Wn.sfx s p)) ≠ [] := by
          rw [Wn.sfx_drop, hqq, Wn.sfx_in s q hlq]; simp
        have HDF : Hid (D = false) := Lib.hid (by rw [← HA.out, hkk, Wn.lex_cons hne]; simp)
        clear hne hkk hqq hq
        generalize hone : Wn.one (Wn.sfx s q) = ot at *
        obtain ⟨⟨uk, ut, un⟩, n⟩ := ot
        have HON := Lib.hid hone; clear hone
        go_wp2_with (go_at_call 108; (refine (next_any w.heap.size s p q _ hs' HS.out hp HQ.out hlq).mono ?_); rw [HON.out]; rintro e w1 ⟨rfl, hm1, hm2⟩; dsimp only [tokV] at *; (have HB1 : Hid (Below w.heap.size w w1) := Lib.hid (Only.below HB.out hm2 (by omega))); (have hs1 := hm2.size); clear hm1 hm2)
        go_ret
        exact ⟨ret_bool HDF.out.symm, HB1.out.alloc (by omega) _⟩
      · have hqs : q = s.size := by omega
        have hnil : Wn.lex (Wn.sfx s p) = [] := by
          apply Wn.lex_end
          rw [Wn.sfx_drop, hqq, Wn.sfx_out s q (by omega)]
        have HDF : Hid (D = true) := Lib.hid (by rw [← HA.out, hnil, hkk]; simp)
        have HQS := Lib.hid hqs
        clear hqs hnil hqq hq hkk
        go_wp2_with (go_at_call 108; (refine (next_end w.heap.size s p q _ hs' HS.out hp HQ.out HQS.out).mono ?_); rintro e w1 ⟨rfl, hm1, hm2⟩; (have HB1 : Hid (Below w.heap.size w w1) := Lib.hid (Only.below HB.out hm2 (by omega))); (have hs1 := hm2.size); clear hm1 hm2)
        go_ret
        exact ⟨ret_bool HDF.out.symm, HB1.out.alloc (by omega) _⟩
end Go.Proofs.YtjlejiphpbaonaaGreatDoor
set_option maxRecDepth 20000
namespace Wn
def isDelim (t : Tok) (x : List UInt8) : Bool := decide (t.1 = 7) && decide (t.2.1 = x)
/-- must a comment stand between two tokens? -/
def apart (j : List UInt8) (a b : Tok) : Bool := (isDelim a [60] && isDelim b [47]) || !decide (lex j = [a, b])
def may (t : Tok) : Bool := decide (lex (oneText t) = [t])
end Wn
namespace Go.Proofs.YtjlejiphpbaonaaGreatDoor
open Go.RowKit
theorem Toks.mk1 (w : World) (t : Wn.Tok) : Toks (w.alloc (.cells #[.int .i64 t.1, .string (Wn.str t.2.1), .int .i64 t.2.2] 47)) (.slice (some ⟨w.heap.size, 0, none⟩) 1 1) [t] := by
  have hb := heap_alloc_new w (.cells #[.int .i64 t.1, .string (Wn.str t.2.1), .int .i64 t.2.2] 47)
  refine ⟨_, 1, rfl, Nat.le_refl _, by unfold maxLen; omega, fun i u hi => ⟨_, _, rfl, ?_⟩⟩
  match i, hi with
  | 0, hi => simp at hi; subst hi; exact ⟨cell_of_block (o := 0) hb, cell_of_block (o := 1) hb, cell_of_block (o := 2) hb⟩
theorem Toks.mk2 (w : World) (t u : Wn.Tok) : Toks (w.alloc (.cells #[.int .i64 t.1, .string (Wn.str t.2.1), .int .i64 t.2.2, .int .i64 u.1, .string (Wn.str u.2.1), .int .i64 u.2.2] 47)) (.slice (some ⟨w.heap.size, 0, none⟩) 2 2) [t, u] := by
  have hb := heap_alloc_new w (.cells #[.int .i64 t.1, .string (Wn.str t.2.1), .int .i64 t.2.2, .int .i64 u.1, .string (Wn.str u.2.1), .int .i64 u.2.2] 47)
  refine ⟨_, 2, rfl, Nat.le_refl _, by unfold maxLen; omega, fun i x hi => ⟨_, _, rfl, ?_⟩⟩
  match i, hi with
  | 0, hi => simp at hi; subst hi; exact ⟨cell_of_block (o := 0) hb, cell_of_block (o := 1) hb, cell_of_block (o := 2) hb⟩
  | 1, hi => simp at hi; subst hi; exact ⟨cell_of_block (o := 3) hb, cell_of_block (o := 4) hb, cell_of_block (o := 5) hb⟩
/-- two tokens in two boxes that were made -/
theorem box2 (w : World) (t u : Wn.Tok) : TokIn ((w.alloc (.cells #[.int .i64 t.1, .string (Wn.str t.2.1), .int .i64 t.2.2] 47)).alloc (.cells #[.int .i64 u.1, .string (Wn.str u.2.1), .int .i64 u.2.2] 47)) w.heap.size 0 t ∧
    TokIn ((w.alloc (.cells #[.int .i64 t.1, .string (Wn.str t.2.1), .int .i64 t.2.2] 47)).alloc (.cells #[.int .i64 u.1, .string (Wn.str u.2.1), .int .i64 u.2.2] 47)) (w.heap.size + 1) 0 u := by
  have hb := heap_alloc_new w (.cells #[.int .i64 t.1, .string (Wn.str t.2.1), .int .i64 t.2.2] 47)
  have hc := heap_alloc_new (w.alloc (.cells #[.int .i64 t.1, .string (Wn.str t.2.1), .int .i64 t.2.2] 47)) (.cells #[.int .i64 u.1, .string (Wn.str u.2.1), .int .i64 u.2.2] 47)
  have hz : (w.alloc (.cells #[.int .i64 t.1, .string (Wn.str t.2.1), .int .i64 t.2.2] 47)).heap.size = w.heap.size + 1 := by simp
  rw [hz] at hc
  exact ⟨⟨cell_alloc_old (cell_of_block (o := 0) hb) _, cell_alloc_old (cell_of_block (o := 1) hb) _, cell_alloc_old (cell_of_block (o := 2) hb) _⟩, ⟨cell_of_block (o := 0) hc, cell_of_block (o := 1) hc, cell_of_block (o := 2) hc⟩⟩
theorem box1 (w : World) (t : Wn.Tok) : TokIn (w.alloc (.cells #[.int .i64 t.1, .string (Wn.str t.2.1), .int .i64 t.2.2] 47)) w.heap.size 0 t := by
  have hb := heap_alloc_new w (.cells #[.int .i64 t.1, .string (Wn.str t.2.1), .int .i64 t.2.2] 47)
  exact ⟨cell_of_block (o := 0) hb, cell_of_block (o := 1) hb, cell_of_block (o := 2) hb⟩
theorem TokIn.later {w w' : World} {b o : Nat} {t : Wn.Tok} (h : TokIn w b o t) (hb : Below w.heap.size w w') : TokIn w' b o t := h.below hb h.lt
theorem lex_str (l : List UInt8) : (Wn.str l).data.toList = l := rfl
set_option maxHeartbeats 2000000 in
theorem May_any (t : Wn.Tok) (w : World) (ht : Tab w) (hl : t.2.1.length ≤ 1099511627000) (hn0 : -9223372036854775808 ≤ t.2.2) (hn1 : t.2.2 ≤ 9223372036854775807) :
    Calls Tryz.prog 68 #[tokV t] w fun e w' => e = .returned (.bool (Wn.may t)) ∧ Below w.heap.size w w' := by
  have hlen : (Wn.oneText t).length ≤ 1099511627776 := by have := Wn.oneText_len t hn0 hn1; omega
  have q1 := fun w ht => One_any t w ht (by omega) hn0 hn1
  have q3 := fun v w hW => reads_any (Wn.str (Wn.oneText t)) v [t] w (by rw [Wn.str_size]; exact hlen) hW
  rw [Wn.toList_str] at q3
  have e : Wn.may t = decide (Wn.lex (Wn.oneText t) = [t]) := rfl
  rw [← e] at q3
  clear e
  generalize Wn.may t = R at *
  rw [tokV_str] at q1
  rw [tokV_str]
  have m1 := fun w => Toks.mk1 w t
  have bx := box1 w t
  generalize Wn.str (Wn.oneText t) = z at *
  obtain ⟨tk, tt, tn⟩ := t
  dsimp only at *
  generalize hx : Wn.str tt = x at *
  have Q1 := Lib.hid q1; clear q1
  have Q3 := Lib.hid q3; clear q3
  have M1 := Lib.hid m1; clear m1
  have BX := Lib.hid bx; clear bx
  have HX := Lib.hid hx; clear hx
  have HT := Lib.hid ht; clear ht hlen hl hn0 hn1
  have HB0 : Hid (Below w.heap.size w (w.alloc (Obj.cells #[Value.int IntKind.i64 tk, Value.string x, Value.int IntKind.i64 tn] 47))) := Lib.hid ((Below.refl _ _).alloc (Nat.le_refl _) _)
  go_enter Tryz.func68, Tryz.ntmps68
  go_wp2_with fail
  have HZ0 : Hid ((w.alloc (Obj.cells #[Value.int IntKind.i64 tk, Value.string x, Value.int IntKind.i64 tn] 47)).heap.size = w.heap.size + 1) := Lib.hid (by simp)
  go_region_with (first
    | (go_at_call 88; (refine (Q1.out _ (HT.out.below (by first | exact HB0.out.drew | exact (HB0.out.alloc (by simp) _).drew))).mono ?_); rintro e w1 ⟨rfl, hb⟩; (have hb1 : Below (w.alloc (Obj.cells #[Value.int IntKind.i64 tk, Value.string x, Value.int IntKind.i64 tn] 47)).heap.size (w.alloc (Obj.cells #[Value.int IntKind.i64 tk, Value.string x, Value.int IntKind.i64 tn] 47)) w1 := by first | exact ((Below.refl _ _).drew).trans hb | exact (((Below.refl _ _).alloc (Nat.le_refl _) _).drew).trans (hb.mono (by simp))); (have hs1 : w.heap.size + 1 ≤ w1.heap.size := by have := hb1.size; rw [HZ0.out] at this; exact this); (have HB1 : Hid (Below w.heap.size w w1) := Lib.hid (HB0.out.trans (hb1.mono (by rw [HZ0.out]; omega)))); have HBB := Lib.hid hb; (have T1 := BX.out.later hb1); (have k0t1 : w1.cell? ⟨w.heap.size, 0, none⟩ = some _ := (T1).c0); (have k1t1 : w1.cell? ⟨w.heap.size, 1, none⟩ = some _ := (T1).c1); (have k2t1 : w1.cell? ⟨w.heap.size, 2, none⟩ = some _ := (T1).c2); (try dsimp only at k0t1 k1t1 k2t1); rw [HX.out] at k1t1; clear T1 hb hb1)
    | (go_at_call 87; (refine (Q3.out _ _ (by first | exact M1.out w1 | (have m := M1.out (w.alloc (Obj.cells #[Value.int IntKind.i64 tk, Value.string x, Value.int IntKind.i64 tn] 47)); rw [HZ0.out] at m; exact m.below (((Below.refl _ _).drew).trans HBB.out)))).mono ?_); rintro e w2 ⟨rfl, hb2⟩; (have HB2 : Hid (Below w.heap.size w w2) := Lib.hid (by first | exact HB1.out.trans (hb2.mono (by omega)) | exact (HB1.out.alloc (by omega) _).trans (hb2.mono (by simp; omega)))); clear hb2))
  all_goals
    go_wp2_with fail
    go_ret
    exact ⟨rfl, HB2.out⟩
end Go.Proofs.YtjlejiphpbaonaaGreatDoor
set_option maxRecDepth 20000
namespace Wn
/-- the text of tokens behind another one -/
def texts : Option Tok → List Tok → List UInt8
  | _, [] => []
  | none, t :: l => oneText t ++ texts (some t) l
  | some p, t :: l => (if apart (oneText p ++ oneText t) p t then [47, 42, 42, 47] else []) ++ (oneText t ++ texts (some t) l)
def text (l : List Tok) : List UInt8 := texts none l
/-- the token ahead of a place -/
def ahead (l : List Tok) (k : Nat) : Option Tok := if k = 0 then none else l[k - 1]?
/-- its text; nothing ahead of the first -/
def aheadText (l : List Tok) (k : Nat) : List UInt8 := match ahead l k with | none => [] | some t => oneText t
theorem ahead_succ (l : List Tok) (k : Nat) (t : Tok) (h : l[k]? = some t) : ahead l (k + 1) = some t := by simp [ahead, h]
theorem aheadText_succ (l : List Tok) (k : Nat) (t : Tok) (h : l[k]? = some t) : aheadText l (k + 1) = oneText t := by simp [aheadText, ahead_succ l k t h]
end Wn
namespace Go.Proofs.YtjlejiphpbaonaaGreatDoor
open Go.RowKit
/-- a token as a Go program may hold it here: a short text, a number that is an int -/
def Fine (t : Wn.Tok) : Prop := t.2.1.length ≤ 1048576 ∧ -9223372036854775808 ≤ t.2.2 ∧ t.2.2 ≤ 9223372036854775807
theorem Fine.one {t : Wn.Tok} (h : Fine t) : (Wn.oneText t).length ≤ 1048596 := by have := Wn.oneText_len t h.2.1 h.2.2; have := h.1; omega
theorem grown_none {w w' : World} (h : Below w.heap.size w w') : w.grownBy w' none := ⟨h.os, h.tape, h.output, h.size, fun k hk _ => h.block k hk⟩
theorem ownsRow_later {w w' : World} {B : Nat} {e : TypeId} {size : Nat} {v : Value} {n : Nat} {xs : List Value} (h : w.ownsRow B e size v n xs) (hb : Below w.heap.size w w') : w'.ownsRow B e size v n xs := by
  refine h.kept (grown_none hb) ?_
  cases v.ownBlock with
  | none => exact .inl rfl
  | some k => exact .inr (by simp)
theorem below_drewN' {B : Nat} {a w : World} (h : Below B a w) (n : Nat) : Below B a (w.drewN n) := ⟨h.os, h.tape, h.output, h.size, h.block⟩
end Go.Proofs.YtjlejiphpbaonaaGreatDoor
