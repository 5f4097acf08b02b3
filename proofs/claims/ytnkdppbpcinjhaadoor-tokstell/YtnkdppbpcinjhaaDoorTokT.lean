/- What toks.isDelim, apart, May answer. -/
import Derived.Test.YtnkdppbpcinjhaaDoorTokS
set_option maxRecDepth 20000
namespace Wn
def isDelim (t : Tok) (x : List UInt8) : Bool := decide (t.1 = 7) && decide (t.2.1 = x)
/-- must a comment stand between two tokens? -/
def apart (j : List UInt8) (a b : Tok) : Bool := (isDelim a [60] && isDelim b [47]) || !decide (lex j = [a, b])
def may (t : Tok) : Bool := decide (lex (oneText t) = [t])
end Wn
namespace Go.Proofs.YtnkdppbpcinjhaaDoor
open Go.RowKit
set_option maxHeartbeats 400000 in
theorem isDelim_any (t : Wn.Tok) (x : List UInt8) (w : World) :
    Calls Tryd.prog 81 #[tokV t, .string (Wn.str x)] w fun e w' => e = .returned (.bool (Wn.isDelim t x)) ∧ Below w.heap.size w w' := by
  obtain ⟨k, l, n⟩ := t
  rw [tokV_str]
  dsimp only at *
  have hl := str_list l
  have hx := str_list x
  have e : Wn.isDelim (k, l, n) x = ((k == 7) && (l == x)) := by
    unfold Wn.isDelim; rw [Bool.eq_iff_iff]; simp
  generalize Wn.isDelim (k, l, n) x = R at *
  generalize Wn.str l = y at *
  generalize Wn.str x = z at *
  subst hl hx
  have E := Lib.hid e; clear e
  go_enter Tryd.func81, Tryd.ntmps81
  go_wp2
  all_goals
    go_ret
    refine ⟨ret_bool ?_, (Below.refl _ _).alloc (Nat.le_refl _) _⟩
    rw [E.out]
    simp [*]
theorem Toks.mk1 (w : World) (t : Wn.Tok) : Toks (w.alloc (.cells #[.int .i64 t.1, .string (Wn.str t.2.1), .int .i64 t.2.2] 24)) (.slice (some ⟨w.heap.size, 0, none⟩) 1 1) [t] := by
  have hb := heap_alloc_new w (.cells #[.int .i64 t.1, .string (Wn.str t.2.1), .int .i64 t.2.2] 24)
  refine ⟨_, 1, rfl, Nat.le_refl _, by unfold maxLen; omega, fun i u hi => ⟨_, _, rfl, ?_⟩⟩
  match i, hi with
  | 0, hi => simp at hi; subst hi; exact ⟨cell_of_block (o := 0) hb, cell_of_block (o := 1) hb, cell_of_block (o := 2) hb⟩
theorem Toks.mk2 (w : World) (t u : Wn.Tok) : Toks (w.alloc (.cells #[.int .i64 t.1, .string (Wn.str t.2.1), .int .i64 t.2.2, .int .i64 u.1, .string (Wn.str u.2.1), .int .i64 u.2.2] 24)) (.slice (some ⟨w.heap.size, 0, none⟩) 2 2) [t, u] := by
  have hb := heap_alloc_new w (.cells #[.int .i64 t.1, .string (Wn.str t.2.1), .int .i64 t.2.2, .int .i64 u.1, .string (Wn.str u.2.1), .int .i64 u.2.2] 24)
  refine ⟨_, 2, rfl, Nat.le_refl _, by unfold maxLen; omega, fun i x hi => ⟨_, _, rfl, ?_⟩⟩
  match i, hi with
  | 0, hi => simp at hi; subst hi; exact ⟨cell_of_block (o := 0) hb, cell_of_block (o := 1) hb, cell_of_block (o := 2) hb⟩
  | 1, hi => simp at hi; subst hi; exact ⟨cell_of_block (o := 3) hb, cell_of_block (o := 4) hb, cell_of_block (o := 5) hb⟩
/-- two tokens in two boxes that were made -/
theorem box2 (w : World) (t u : Wn.Tok) : TokIn ((w.alloc (.cells #[.int .i64 t.1, .string (Wn.str t.2.1), .int .i64 t.2.2] 24)).alloc (.cells #[.int .i64 u.1, .string (Wn.str u.2.1), .int .i64 u.2.2] 24)) w.heap.size 0 t ∧
    TokIn ((w.alloc (.cells #[.int .i64 t.1, .string (Wn.str t.2.1), .int .i64 t.2.2] 24)).alloc (.cells #[.int .i64 u.1, .string (Wn.str u.2.1), .int .i64 u.2.2] 24)) (w.heap.size + 1) 0 u := by
  have hb := heap_alloc_new w (.cells #[.int .i64 t.1, .string (Wn.str t.2.1), .int .i64 t.2.2] 24)
  have hc := heap_alloc_new (w.alloc (.cells #[.int .i64 t.1, .string (Wn.str t.2.1), .int .i64 t.2.2] 24)) (.cells #[.int .i64 u.1, .string (Wn.str u.2.1), .int .i64 u.2.2] 24)
  have hz : (w.alloc (.cells #[.int .i64 t.1, .string (Wn.str t.2.1), .int .i64 t.2.2] 24)).heap.size = w.heap.size + 1 := by simp
  rw [hz] at hc
  exact ⟨⟨cell_alloc_old (cell_of_block (o := 0) hb) _, cell_alloc_old (cell_of_block (o := 1) hb) _, cell_alloc_old (cell_of_block (o := 2) hb) _⟩, ⟨cell_of_block (o := 0) hc, cell_of_block (o := 1) hc, cell_of_block (o := 2) hc⟩⟩
theorem box1 (w : World) (t : Wn.Tok) : TokIn (w.alloc (.cells #[.int .i64 t.1, .string (Wn.str t.2.1), .int .i64 t.2.2] 24)) w.heap.size 0 t := by
  have hb := heap_alloc_new w (.cells #[.int .i64 t.1, .string (Wn.str t.2.1), .int .i64 t.2.2] 24)
  exact ⟨cell_of_block (o := 0) hb, cell_of_block (o := 1) hb, cell_of_block (o := 2) hb⟩
theorem TokIn.later {w w' : World} {b o : Nat} {t : Wn.Tok} (h : TokIn w b o t) (hb : Below w.heap.size w w') : TokIn w' b o t := h.below hb h.lt
set_option maxHeartbeats 2000000 in
theorem apart_any (j : List UInt8) (t u : Wn.Tok) (w : World) (hj : j.length ≤ 1099511627776) :
    Calls Tryd.prog 42 #[.string (Wn.str j), tokV t, tokV u] w fun e w' => e = .returned (.bool (Wn.apart j t u)) ∧ Below w.heap.size w w' := by
  have q1 := fun w => isDelim_any t [60] w
  have q2 := fun w => isDelim_any u [47] w
  have q3 := fun v w hW => reads_any (Wn.str j) v [t, u] w (by rw [Wn.str_size]; exact hj) hW
  rw [Wn.toList_str] at q3
  have e : Wn.apart j t u = ((Wn.isDelim t [60] && Wn.isDelim u [47]) || !decide (Wn.lex j = [t, u])) := rfl
  generalize Wn.apart j t u = R at *
  generalize decide (Wn.lex j = [t, u]) = D at *
  generalize Wn.isDelim t [60] = d1 at *
  generalize Wn.isDelim u [47] = d2 at *
  rw [tokV_str] at q1 q2
  rw [tokV_str, tokV_str]
  have m2 := fun w => Toks.mk2 w t u
  have bx := box2 w t u
  obtain ⟨tk, tt, tn⟩ := t
  obtain ⟨uk, ut, un⟩ := u
  dsimp only at *
  generalize hx : Wn.str tt = x at *
  generalize hy : Wn.str ut = y at *
  generalize Wn.str j = z at *
  have Q1 := Lib.hid q1; clear q1
  have Q2 := Lib.hid q2; clear q2
  have Q3 := Lib.hid q3; clear q3
  have M2 := Lib.hid m2; clear m2
  have BX := Lib.hid bx; clear bx
  have E := Lib.hid e; clear e
  have HX := Lib.hid hx; clear hx
  have HY := Lib.hid hy; clear hy
  have HB0 : Hid (Below w.heap.size w ((w.alloc (Obj.cells #[Value.int IntKind.i64 tk, Value.string x, Value.int IntKind.i64 tn] 24)).alloc (Obj.cells #[Value.int IntKind.i64 uk, Value.string y, Value.int IntKind.i64 un] 24))) := Lib.hid (((Below.refl _ _).alloc (Nat.le_refl _) _).alloc (by simp) _)
  have hz0 : ((w.alloc (Obj.cells #[Value.int IntKind.i64 tk, Value.string x, Value.int IntKind.i64 tn] 24)).alloc (Obj.cells #[Value.int IntKind.i64 uk, Value.string y, Value.int IntKind.i64 un] 24)).heap.size = w.heap.size + 2 := by simp
  have HZ0 := Lib.hid hz0; clear hz0
  go_enter Tryd.func42, Tryd.ntmps42
  go_wp2_with fail
  refine (Q1.out _).mono ?_
  rintro e w1 ⟨rfl, hb⟩
  have hs1 : w.heap.size + 2 ≤ w1.heap.size := by have := hb.size; rw [HZ0.out] at this; exact this
  have HB1 : Hid (Below w.heap.size w w1) := Lib.hid (HB0.out.trans (hb.mono (by rw [HZ0.out]; omega)))
  have T1 := Lib.hid (BX.out.1.later hb)
  have U1 := Lib.hid (BX.out.2.later hb)
  (have k0t1 : w1.cell? ⟨w.heap.size, 0, none⟩ = some _ := (T1.out).c0); (have k1t1 : w1.cell? ⟨w.heap.size, 1, none⟩ = some _ := (T1.out).c1); (have k2t1 : w1.cell? ⟨w.heap.size, 2, none⟩ = some _ := (T1.out).c2); (try dsimp only at k0t1 k1t1 k2t1)
  (have k0u1 : w1.cell? ⟨w.heap.size + 1, 0, none⟩ = some _ := (U1.out).c0); (have k1u1 : w1.cell? ⟨w.heap.size + 1, 1, none⟩ = some _ := (U1.out).c1); (have k2u1 : w1.cell? ⟨w.heap.size + 1, 2, none⟩ = some _ := (U1.out).c2); (try dsimp only at k0u1 k1u1 k2u1)
  rw [HX.out] at k1t1
  rw [HY.out] at k1u1
  clear hb BX HB0 HZ0
  cases d1
  · go_wp2_with fail
    refine (Q3.out _ _ (M2.out w1)).mono ?_
    rintro e w2 ⟨rfl, hb2⟩
    have HB2 : Hid (Below w.heap.size w w2) := Lib.hid ((HB1.out.alloc (by omega) _).trans (hb2.mono (by simp; omega)))
    clear hb2
    go_wp2_with fail
    go_ret
    exact ⟨ret_bool (by rw [E.out]; simp), HB2.out⟩
  · go_wp2_with fail
    refine (Q2.out _).mono ?_
    rintro e w2 ⟨rfl, hb2⟩
    have hs2 := hb2.size
    have HB2 : Hid (Below w.heap.size w w2) := Lib.hid (HB1.out.trans (hb2.mono (by omega)))
    have T2 := T1.out.later hb2
    have U2 := U1.out.later hb2
    (have k0t2 : w2.cell? ⟨w.heap.size, 0, none⟩ = some _ := (T2).c0); (have k1t2 : w2.cell? ⟨w.heap.size, 1, none⟩ = some _ := (T2).c1); (have k2t2 : w2.cell? ⟨w.heap.size, 2, none⟩ = some _ := (T2).c2); (try dsimp only at k0t2 k1t2 k2t2)
    (have k0u2 : w2.cell? ⟨w.heap.size + 1, 0, none⟩ = some _ := (U2).c0); (have k1u2 : w2.cell? ⟨w.heap.size + 1, 1, none⟩ = some _ := (U2).c1); (have k2u2 : w2.cell? ⟨w.heap.size + 1, 2, none⟩ = some _ := (U2).c2); (try dsimp only at k0u2 k1u2 k2u2)
    rw [HX.out] at k1t2
    rw [HY.out] at k1u2
    clear hb2 T2 U2 T1 U1 k0t1 k1t1 k2t1 k0u1 k1u1 k2u1
    cases d2
    · go_wp2_with fail
      refine (Q3.out _ _ (M2.out w2)).mono ?_
      rintro e w3 ⟨rfl, hb3⟩
      have HB3 : Hid (Below w.heap.size w w3) := Lib.hid ((HB2.out.alloc (by omega) _).trans (hb3.mono (by simp; omega)))
      clear hb3
      go_wp2_with fail
      go_ret
      exact ⟨ret_bool (by rw [E.out]; simp), HB3.out⟩
    · go_wp2_with fail
      go_ret
      exact ⟨ret_bool (by rw [E.out]; simp), HB2.out⟩
theorem lex_str (l : List UInt8) : (Wn.str l).data.toList = l := rfl
set_option maxHeartbeats 2000000 in
theorem May_any (t : Wn.Tok) (w : World) (ht : Tab w) (hl : t.2.1.length ≤ 1099511627000) (hn0 : -9223372036854775808 ≤ t.2.2) (hn1 : t.2.2 ≤ 9223372036854775807) :
    Calls Tryd.prog 23 #[tokV t] w fun e w' => e = .returned (.bool (Wn.may t)) ∧ Below w.heap.size w w' := by
  have hlen : (Wn.oneText t).length ≤ 1099511627776 := by have := Wn.oneText_len t hn0 hn1; omega
  have q1 := fun w ht => One_any t w ht (by omega) hn0 hn1
  have q3 := fun v w hW => reads_any (Wn.str (Wn.oneText t)) v [t] w (by rw [Wn.str_size]; exact hlen) hW
  rw [Wn.toList_str] at q3
  have e : Wn.may t = decide (Wn.lex (Wn.oneText t) = [t]) := rfl
  rw [← e] at q3
  clear e
  generalize Wn.may t = R at *
  rw [tokV_str] at q1
  rw [tokV_str]
  have m1 := fun w => Toks.mk1 w t
  have bx := box1 w t
  generalize Wn.str (Wn.oneText t) = z at *
  obtain ⟨tk, tt, tn⟩ := t
  dsimp only at *
  generalize hx : Wn.str tt = x at *
  have Q1 := Lib.hid q1; clear q1
  have Q3 := Lib.hid q3; clear q3
  have M1 := Lib.hid m1; clear m1
  have BX := Lib.hid bx; clear bx
  have HX := Lib.hid hx; clear hx
  have HT := Lib.hid ht; clear ht hlen hl hn0 hn1
  have HB0 : Hid (Below w.heap.size w (w.alloc (Obj.cells #[Value.int IntKind.i64 tk, Value.string x, Value.int IntKind.i64 tn] 24))) := Lib.hid ((Below.refl _ _).alloc (Nat.le_refl _) _)
  go_enter Tryd.func23, Tryd.ntmps23
  go_wp2_with fail
  have HZ0 : Hid ((w.alloc (Obj.cells #[Value.int IntKind.i64 tk, Value.string x, Value.int IntKind.i64 tn] 24)).heap.size = w.heap.size + 1) := Lib.hid (by simp)
  go_region_with (first
    | (go_at_call 21; (refine (Q1.out _ (HT.out.below (by first | exact HB0.out.drew | exact (HB0.out.alloc (by simp) _).drew))).mono ?_); rintro e w1 ⟨rfl, hb⟩; (have hb1 : Below (w.alloc (Obj.cells #[Value.int IntKind.i64 tk, Value.string x, Value.int IntKind.i64 tn] 24)).heap.size (w.alloc (Obj.cells #[Value.int IntKind.i64 tk, Value.string x, Value.int IntKind.i64 tn] 24)) w1 := by first | exact ((Below.refl _ _).drew).trans hb | exact (((Below.refl _ _).alloc (Nat.le_refl _) _).drew).trans (hb.mono (by simp))); (have hs1 : w.heap.size + 1 ≤ w1.heap.size := by have := hb1.size; rw [HZ0.out] at this; exact this); (have HB1 : Hid (Below w.heap.size w w1) := Lib.hid (HB0.out.trans (hb1.mono (by rw [HZ0.out]; omega)))); have HBB := Lib.hid hb; (have T1 := BX.out.later hb1); (have k0t1 : w1.cell? ⟨w.heap.size, 0, none⟩ = some _ := (T1).c0); (have k1t1 : w1.cell? ⟨w.heap.size, 1, none⟩ = some _ := (T1).c1); (have k2t1 : w1.cell? ⟨w.heap.size, 2, none⟩ = some _ := (T1).c2); (try dsimp only at k0t1 k1t1 k2t1); rw [HX.out] at k1t1; clear T1 hb hb1)
    | (go_at_call 50; (refine (Q3.out _ _ (by first | exact M1.out w1 | (have m := M1.out (w.alloc (Obj.cells #[Value.int IntKind.i64 tk, Value.string x, Value.int IntKind.i64 tn] 24)); rw [HZ0.out] at m; exact m.below (((Below.refl _ _).drew).trans HBB.out)))).mono ?_); rintro e w2 ⟨rfl, hb2⟩; (have HB2 : Hid (Below w.heap.size w w2) := Lib.hid (by first | exact HB1.out.trans (hb2.mono (by omega)) | exact (HB1.out.alloc (by omega) _).trans (hb2.mono (by simp; omega)))); clear hb2))
  all_goals
    go_wp2_with fail
    go_ret
    exact ⟨rfl, HB2.out⟩
end Go.Proofs.YtnkdppbpcinjhaaDoor
