/- What the iterator of split.parts tells: the parts between the values that it cuts at. Lists of lists of values in memory; what split.parts hands back. What split.At answers. -/
import Derived.RangeFuncBox
import Derived.RangeFuncNested
import Derived.RangeFuncBound
import Derived.RangeFuncCalls
import Derived.RangeFuncLeaves
import Derived.Shelf.Abstract
import Derived.Shelf.RegionOpen
import Derived.WalkKit
import Derived.OwnWalkIn
import Derived.TacticsInMore
import Derived.LoopNIn
import Derived.LoopIn
import Derived.Test.YtjlejiphpbaonaaGreatDoorGW
import Derived.Maps.OwnIn
import Derived.Deep.Onto
set_option linter.unusedVariables false
set_option linter.unusedSimpArgs false
set_option maxRecDepth 20000
namespace Go.Proofs.YtjlejiphpbaonaaGreatDoor
open Go.RowKit Go.Sort Go.Shelf
attribute [local go_sem] Oper.semAt_some
/-- a part: a slice, and the values that it reads as in world w -/
abbrev Part (w : World) (M : Nat) := { x : Value × Wn.Fs // ValsP w (fun b => b < w.heap.size) x.1 x.2 ∧ x.2.size ≤ M }
abbrev Part.fs {w : World} {M : Nat} (x : Part w M) : Wn.Fs := x.1.2
/-- what a round keeps: all that lay below n, and all above it up to m -/
structure PK (n m : Nat) (W W' : World) : Prop where
  below : Below n W W'
  same : ∀ b, n < b → b < m → W'.heap[b]? = W.heap[b]?
theorem PK.refl (n m : Nat) (W : World) : PK n m W W := ⟨Below.refl _ _, fun _ _ _ => rfl⟩
theorem PK.trans {n m : Nat} {A B C : World} (h : PK n m A B) (k : PK n m B C) : PK n m A C := ⟨h.below.trans k.below, fun b h1 h2 => (k.same b h1 h2).trans (h.same b h1 h2)⟩
theorem PK.of {n m : Nat} {A B : World} (h : Below A.heap.size A B) (hn : n ≤ A.heap.size) (hm : m ≤ A.heap.size) : PK n m A B := ⟨h.mono hn, fun b _ h2 => h.block b (by omega)⟩
/-- the part from i to j -/
def subV (ao : Option Addr) (cap : Nat) (i j : Nat) : Value := match ao with
  | some a => .slice (some (a.add (i * 5))) (j - i) (cap - i)
  | Option.none => .slice Option.none 0 0
section
variable {w W : World} {n m l B1 B2 M : Nat} {f : Wn.Fs} {J Jx : List (Part w M) → World → Prop}
set_option maxRecDepth 100000 in
set_option maxHeartbeats 1000000 in
theorem parts1_blank (b o cap : Nat) (hv : ValsP w (fun b => b < w.heap.size) (.slice (some ⟨b, o, none⟩) f.len cap) f) (hM : f.size ≤ M) (hcap : cap ≤ maxLen) (hlc : f.len ≤ cap) (hn : 1 ≤ n)
    (hJ : ∀ pre A B, J pre A → Below A.heap.size A B → J pre B)
    (hY : ∀ pre x W1, J pre W1 → pre.length < f.len + 1 → YieldAt Fence.wide (n - 1) Tryz.prog l #[x.1.1] W1 fun e W' => (e = .returned (.bool true) ∧ J (pre ++ [x]) W' ∧ PK w.heap.size m W1 W') ∨ (e = .returned (.bool false) ∧ Jx (pre ++ [x]) W'))
    (hW : Below w.heap.size w W) (hm : m ≤ W.heap.size) (h1 : w.heap.size < B1 ∧ B1 < m) (h2 : w.heap.size < B2 ∧ B2 < m) (hB1 : W.heap[B1]? = some (.cells #[.slice (some ⟨b, o, none⟩) f.len cap] 22)) (hB2 : W.heap[B2]? = some (.cells #[.func (.func 62) #[] #[]] 45)) (h0 : J [] W) :
    CallsIn Fence.wide n Tryz.prog 79 #[.func (.yield l) #[] #[], .pointer (some ⟨B1, 0, none⟩), .pointer (some ⟨B2, 0, none⟩)] W fun e W' => (∃ v, e = .returned v) ∧ ((∃ ys : List (Part w M), ys.map Part.fs = Wn.cuts Wn.blankV f ∧ J ys W') ∨ (∃ pre, Jx pre W')) := by
  have HV := Lib.hid hv; clear hv
  have HJ := Lib.hid hJ; clear hJ
  have HY := Lib.hid hY; clear hY
  have HW := Lib.hid hW; clear hW
  have HB1 := Lib.hid hB1; clear hB1
  have HB2 := Lib.hid hB2; clear hB2
  have H0 := Lib.hid h0; clear h0
  have c1 := cell_of_block (o := 0) HB1.out
  simp only [List.getElem?_toArray, List.getElem?_cons_zero] at c1
  unfold maxLen at hcap
  refine callsIn_of_wp Tryz.func79 rfl trivial ?_ rfl
  simp only [Tryz.ntmps79, List.size_toArray, List.length_cons, List.length_nil, Nat.reduceAdd, Nat.reduceSub, Array.replicate_succ, Array.replicate_zero, List.push_toArray, List.append_toArray, List.nil_append, List.cons_append]
  gi_wp2
  gi_loopw [4, 9] (fun v4 v9 wr => ∃ (s i : Nat) (pre : List (Part w M)), s ≤ i ∧ i ≤ f.len ∧ pre.length ≤ s ∧ v4 = .int .i64 (s : Int) ∧ v9 = .int .i64 (i : Int) ∧ Hid (J pre wr) ∧ Hid (PK w.heap.size m W wr) ∧ m ≤ wr.heap.size ∧ Hid (pre.map Part.fs ++ Wn.addHead ((f.drop s).take (i - s)) (Wn.cuts Wn.blankV (f.drop i)) = Wn.cuts Wn.blankV f)) (fun _ v9 _ => f.len - (intOf v9).toNat)
  case atStart => exact ⟨0, 0, [], Nat.le_refl _, Nat.zero_le _, Nat.le_refl _, rfl, rfl, H0, Lib.hid (PK.refl _ _ _), hm, Lib.hid (by rw [Wn.Fs.drop_zero, Nat.sub_zero, Wn.Fs.take_zero, Wn.addHead_nil (Wn.cuts_ne _ _)]; rfl)⟩
  case round =>
    obtain ⟨s, i, pre, hsi, hil, hps, rfl, rfl, HJr, HP, hmr, HE⟩ := hrel
    have HBw : Hid (Below w.heap.size w wr) := Lib.hid (HW.out.trans HP.out.below)
    have HVr : Hid (ValsP wr (fun b => b < w.heap.size) (.slice (some ⟨b, o, none⟩) f.len cap) f) := Lib.hid (HV.out.same (fun b hb _ => HBw.out.block b hb) (fun _ h _ => h))
    have d1 := (HP.out.same B1 h1.1 h1.2).trans HB1.out
    have d2 := (HP.out.same B2 h2.1 h2.2).trans HB2.out
    by_cases hlt : i < f.len
    · obtain ⟨k, t, x, hd⟩ := Wn.Fs.drop_cons hlt
      obtain ⟨b', o', ha, j0, ⟨j1, j2, j3⟩, u, j4, hu⟩ := HVr.out.at hd
      simp only [Option.some.injEq, Addr.mk.injEq] at ha
      obtain ⟨rfl, rfl, _⟩ := ha
      have hform : ∃ ao n c, u = .slice ao n c := by obtain ⟨ao, cap, hv, _⟩ := hu.form; exact ⟨_, _, _, hv⟩
      obtain ⟨uo, un, uc, rfl⟩ := hform
      rw [show o + i * 5 + 1 + 1 = o + i * 5 + 2 by omega] at j2
      rw [show o + i * 5 + 1 + 2 = o + i * 5 + 3 by omega] at j3
      have hi1 : (i : Int) < (f.len : Int) := by omega
      have HD := Lib.hid hd
      have QB := Lib.hid (fun w => isBlank_v k t (.slice uo un uc) w ⟨_, _, _, rfl⟩)
      clear hd hu
      generalize hy : Wn.str t.2.1 = y at *
      clear hy
      have e2 := cell_of_block (o := 0) (block_alloc d2 (.cells #[.int .i64 k, .int .i64 t.1, .string y, .int .i64 t.2.2, .slice uo un uc] 49))
      simp only [List.getElem?_toArray, List.getElem?_cons_zero] at e2
      have e2' := cell_of_block (o := 0) d2
      simp only [List.getElem?_toArray, List.getElem?_cons_zero] at e2'
      have hBx : Below wr.heap.size wr (wr.alloc (.cells #[.int .i64 k, .int .i64 t.1, .string y, .int .i64 t.2.2, .slice uo un uc] 49)) := (Below.refl _ _).alloc (Nat.le_refl _) _
      have HBx := Lib.hid hBx
      have hb2 : ¬ B2 = wr.heap.size := by omega
      clear hBx
      gi_wp2
      generalize wr.alloc (.cells #[.int .i64 k, .int .i64 t.1, .string y, .int .i64 t.2.2, .slice uo un uc] 49) = W1 at *
      refine ⟨trivial, ?_⟩
      refine (callsIn_wide.2 (QB.out W1)).mono ?_
      rintro e w5 ⟨rfl, b5⟩
      have HB5 := Lib.hid (HBx.out.trans (b5.mono HBx.out.size))
      have HJ5 := Lib.hid (HJ.out pre wr w5 HJr.out HB5.out)
      have HP5 := Lib.hid (HP.out.trans (PK.of HB5.out HBw.out.size hmr))
      have hm5 : m ≤ w5.heap.size := Nat.le_trans hmr HB5.out.size
      have d5 := block_lat HB5.out d1
      have e1 := cell_of_block (o := 0) d5
      simp only [List.getElem?_toArray, List.getElem?_cons_zero] at e1
      clear b5 QB HBx e2 e2' j0 j1 j2 j3 j4 d1 d2 d5
      have hdd : (f.drop s).drop (i - s) = f.drop i := by rw [Wn.Fs.drop_drop, show s + (i - s) = i by omega]
      cases hbl : Wn.blankV k t
      · have HE1 : Hid (pre.map Part.fs ++ Wn.addHead ((f.drop s).take (i + 1 - s)) (Wn.cuts Wn.blankV (f.drop (i + 1))) = Wn.cuts Wn.blankV f) := Lib.hid (by
          rw [show i + 1 - s = (i - s) + 1 by omega, Wn.Fs.take_succ (f.drop s) (hdd.trans HD.out), ← Wn.addHead_app _ _ (Wn.cuts_ne _ _), ← Wn.cuts_no hbl, ← HD.out]; exact HE.out)
        clear hdd
        gi_wp2
        go_roundw
        case rel => exact ⟨s, i + 1, pre, by omega, by omega, hps, rfl, by go_num, HJ5, HP5, hm5, HE1⟩
        case measure => simp [intOf]; omega
      · have hsub := HV.out.sub s i hsi hil
        have hszp : ((f.drop s).take (i - s)).size ≤ M := by have := Wn.Fs.size_take (f.drop s) (i - s); have := Wn.Fs.size_dropn f s; omega
        obtain ⟨xp, hxp⟩ : ∃ xp : Part w M, xp = ⟨(_, _), hsub, hszp⟩ := ⟨_, rfl⟩
        have HX1 : Hid (xp.fs = (f.drop s).take (i - s)) := Lib.hid (by rw [hxp])
        have hx2 : xp.1.1 = .slice (some ⟨b, o + s * 5, none⟩) (i - s) (cap - s) := by rw [hxp]
        have HE1 : Hid ((pre ++ [xp]).map Part.fs ++ Wn.addHead ((f.drop (i + 1)).take (i + 1 - (i + 1))) (Wn.cuts Wn.blankV (f.drop (i + 1))) = Wn.cuts Wn.blankV f) := Lib.hid (by
          rw [Nat.sub_self, Wn.Fs.take_zero, Wn.addHead_nil (Wn.cuts_ne _ _), List.map_append, List.append_assoc, ← HE.out, HD.out, Wn.cuts_yes hbl]
          simp [Wn.addHead, Wn.Fs.app_nil, HX1.out])
        obtain ⟨fn, tmps, assign, body, hy, hR⟩ := HY.out pre xp w5 HJ5.out (by omega)
        rw [hx2] at hy
        have HR := Lib.hid hR
        clear hdd hR hsub hxp hx2 HX1
        gi_wp2
        refine HR.out.mono ?_
        rintro e W3 (⟨rfl, hJ3, hk3⟩ | ⟨rfl, hJx3⟩)
        · have HJ3 := Lib.hid hJ3
          have HP3 := Lib.hid (HP5.out.trans hk3)
          have hm3 : m ≤ W3.heap.size := Nat.le_trans hm5 hk3.below.size
          clear hJ3 hk3 HR hy
          gi_wp2
          go_roundw
          case rel => exact ⟨i + 1, i + 1, pre ++ [xp], by omega, by omega, by simp; omega, by go_num, by go_num, HJ3, HP3, hm3, HE1⟩
          case measure => simp [intOf]; omega
        · gi_wp2
          refine bodyPost_ret (results_none rfl _ _ _) rfl ?_
          exact ⟨⟨_, rfl⟩, .inr ⟨_, hJx3⟩⟩
    · have hie : i = f.len := by omega
      have hsub := HV.out.subC s f.len (by omega) (Nat.le_refl _)
      have hszp : ((f.drop s).take (f.len - s)).size ≤ M := by have := Wn.Fs.size_take (f.drop s) (f.len - s); have := Wn.Fs.size_dropn f s; omega
      obtain ⟨xp, hxp⟩ : ∃ xp : Part w M, xp = ⟨(_, _), hsub, hszp⟩ := ⟨_, rfl⟩
      have HX1 : Hid (xp.fs = (f.drop s).take (f.len - s)) := Lib.hid (by rw [hxp])
      have hx2 : xp.1.1 = .slice (if cap = s then some ⟨b, o, none⟩ else some ⟨b, o + s * 5, none⟩) (f.len - s) (cap - s) := by rw [hxp]
      have HE1 : Hid ((pre ++ [xp]).map Part.fs = Wn.cuts Wn.blankV f) := Lib.hid (by
        rw [← HE.out, hie, Wn.Fs.drop_len (f := f) (i := f.len) (Nat.le_refl _)]
        simp [Wn.cuts, Wn.addHead, Wn.Fs.app_nil, HX1.out])
      obtain ⟨fn, tmps, assign, body, hy, hR⟩ := HY.out pre xp wr HJr.out (by omega)
      rw [hx2] at hy
      have HR := Lib.hid hR
      have e1 := cell_of_block (o := 0) d1
      simp only [List.getElem?_toArray, List.getElem?_cons_zero] at e1
      have hsl : s ≤ f.len := by omega
      clear hR hsub hxp hx2 HX1 hie d1 d2
      gi_wp2
      all_goals
        refine HR.out.mono ?_
        rintro e W3 (⟨rfl, hJ3, hk3⟩ | ⟨rfl, hJx3⟩)
        · gi_wp2
          go_end0
          exact ⟨⟨_, rfl⟩, .inl ⟨_, HE1.out, hJ3⟩⟩
        · gi_wp2
          go_end0
          exact ⟨⟨_, rfl⟩, .inr ⟨_, hJx3⟩⟩
set_option maxRecDepth 100000 in
set_option maxHeartbeats 1000000 in
theorem parts1_sign (s0 : List UInt8) (B3 : Nat) (h3 : w.heap.size < B3 ∧ B3 < m) (hB3 : W.heap[B3]? = some (.cells #[.int .i64 1, .int .i64 7, .string (Wn.str s0), .int .i64 0, .slice none 0 0] 49)) (b o cap : Nat) (hv : ValsP w (fun b => b < w.heap.size) (.slice (some ⟨b, o, none⟩) f.len cap) f) (hM : f.size ≤ M) (hcap : cap ≤ maxLen) (hlc : f.len ≤ cap) (hn : 1 ≤ n)
    (hJ : ∀ pre A B, J pre A → Below A.heap.size A B → J pre B)
    (hY : ∀ pre x W1, J pre W1 → pre.length < f.len + 1 → YieldAt Fence.wide (n - 1) Tryz.prog l #[x.1.1] W1 fun e W' => (e = .returned (.bool true) ∧ J (pre ++ [x]) W' ∧ PK w.heap.size m W1 W') ∨ (e = .returned (.bool false) ∧ Jx (pre ++ [x]) W'))
    (hW : Below w.heap.size w W) (hm : m ≤ W.heap.size) (h1 : w.heap.size < B1 ∧ B1 < m) (h2 : w.heap.size < B2 ∧ B2 < m) (hB1 : W.heap[B1]? = some (.cells #[.slice (some ⟨b, o, none⟩) f.len cap] 22)) (hB2 : W.heap[B2]? = some (.cells #[.func (.func 80) #[] #[.pointer (some ⟨B3, 0, none⟩)]] 45)) (h0 : J [] W) :
    CallsIn Fence.wide n Tryz.prog 79 #[.func (.yield l) #[] #[], .pointer (some ⟨B1, 0, none⟩), .pointer (some ⟨B2, 0, none⟩)] W fun e W' => (∃ v, e = .returned v) ∧ ((∃ ys : List (Part w M), ys.map Part.fs = Wn.cuts (Wn.signV s0) f ∧ J ys W') ∨ (∃ pre, Jx pre W')) := by
  have HV := Lib.hid hv; clear hv
  have HB3 := Lib.hid hB3; clear hB3
  have HJ := Lib.hid hJ; clear hJ
  have HY := Lib.hid hY; clear hY
  have HW := Lib.hid hW; clear hW
  have HB1 := Lib.hid hB1; clear hB1
  have HB2 := Lib.hid hB2; clear hB2
  have H0 := Lib.hid h0; clear h0
  have c1 := cell_of_block (o := 0) HB1.out
  simp only [List.getElem?_toArray, List.getElem?_cons_zero] at c1
  unfold maxLen at hcap
  refine callsIn_of_wp Tryz.func79 rfl trivial ?_ rfl
  simp only [Tryz.ntmps79, List.size_toArray, List.length_cons, List.length_nil, Nat.reduceAdd, Nat.reduceSub, Array.replicate_succ, Array.replicate_zero, List.push_toArray, List.append_toArray, List.nil_append, List.cons_append]
  gi_wp2
  gi_loopw [4, 9] (fun v4 v9 wr => ∃ (s i : Nat) (pre : List (Part w M)), s ≤ i ∧ i ≤ f.len ∧ pre.length ≤ s ∧ v4 = .int .i64 (s : Int) ∧ v9 = .int .i64 (i : Int) ∧ Hid (J pre wr) ∧ Hid (PK w.heap.size m W wr) ∧ m ≤ wr.heap.size ∧ Hid (pre.map Part.fs ++ Wn.addHead ((f.drop s).take (i - s)) (Wn.cuts (Wn.signV s0) (f.drop i)) = Wn.cuts (Wn.signV s0) f)) (fun _ v9 _ => f.len - (intOf v9).toNat)
  case atStart => exact ⟨0, 0, [], Nat.le_refl _, Nat.zero_le _, Nat.le_refl _, rfl, rfl, H0, Lib.hid (PK.refl _ _ _), hm, Lib.hid (by rw [Wn.Fs.drop_zero, Nat.sub_zero, Wn.Fs.take_zero, Wn.addHead_nil (Wn.cuts_ne _ _)]; rfl)⟩
  case round =>
    obtain ⟨s, i, pre, hsi, hil, hps, rfl, rfl, HJr, HP, hmr, HE⟩ := hrel
    have HBw : Hid (Below w.heap.size w wr) := Lib.hid (HW.out.trans HP.out.below)
    have HVr : Hid (ValsP wr (fun b => b < w.heap.size) (.slice (some ⟨b, o, none⟩) f.len cap) f) := Lib.hid (HV.out.same (fun b hb _ => HBw.out.block b hb) (fun _ h _ => h))
    have d1 := (HP.out.same B1 h1.1 h1.2).trans HB1.out
    have d2 := (HP.out.same B2 h2.1 h2.2).trans HB2.out
    by_cases hlt : i < f.len
    · obtain ⟨k, t, x, hd⟩ := Wn.Fs.drop_cons hlt
      obtain ⟨b', o', ha, j0, ⟨j1, j2, j3⟩, u, j4, hu⟩ := HVr.out.at hd
      simp only [Option.some.injEq, Addr.mk.injEq] at ha
      obtain ⟨rfl, rfl, _⟩ := ha
      have hform : ∃ ao n c, u = .slice ao n c := by obtain ⟨ao, cap, hv, _⟩ := hu.form; exact ⟨_, _, _, hv⟩
      obtain ⟨uo, un, uc, rfl⟩ := hform
      rw [show o + i * 5 + 1 + 1 = o + i * 5 + 2 by omega] at j2
      rw [show o + i * 5 + 1 + 2 = o + i * 5 + 3 by omega] at j3
      have hi1 : (i : Int) < (f.len : Int) := by omega
      have HD := Lib.hid hd
      have d3 := (HP.out.same B3 h3.1 h3.2).trans HB3.out
      have QB := Lib.hid (fun w hg => sameToken1_s s0 k t (.slice uo un uc) B3 w ⟨_, _, _, rfl⟩ hg)
      have HT1 : Hid (TokIn (wr.alloc (.cells #[.int .i64 k, .int .i64 t.1, .string (Wn.str t.2.1), .int .i64 t.2.2, .slice uo un uc] 49)) B3 1 (Wn.dlm s0)) := Lib.hid ⟨cell_of_block (o := 1) (block_alloc d3 _), cell_of_block (o := 2) (block_alloc d3 _), cell_of_block (o := 3) (block_alloc d3 _)⟩
      clear d3
      clear hd hu
      generalize hy : Wn.str t.2.1 = y at *
      clear hy
      have e2 := cell_of_block (o := 0) (block_alloc d2 (.cells #[.int .i64 k, .int .i64 t.1, .string y, .int .i64 t.2.2, .slice uo un uc] 49))
      simp only [List.getElem?_toArray, List.getElem?_cons_zero] at e2
      have e2' := cell_of_block (o := 0) d2
      simp only [List.getElem?_toArray, List.getElem?_cons_zero] at e2'
      have hBx : Below wr.heap.size wr (wr.alloc (.cells #[.int .i64 k, .int .i64 t.1, .string y, .int .i64 t.2.2, .slice uo un uc] 49)) := (Below.refl _ _).alloc (Nat.le_refl _) _
      have HBx := Lib.hid hBx
      have hb2 : ¬ B2 = wr.heap.size := by omega
      clear hBx
      gi_wp2
      generalize wr.alloc (.cells #[.int .i64 k, .int .i64 t.1, .string y, .int .i64 t.2.2, .slice uo un uc] 49) = W1 at *
      refine ⟨trivial, ?_⟩
      refine (callsIn_wide.2 (QB.out W1 HT1.out)).mono ?_
      rintro e w5 ⟨rfl, b5⟩
      have HB5 := Lib.hid (HBx.out.trans (b5.mono HBx.out.size))
      have HJ5 := Lib.hid (HJ.out pre wr w5 HJr.out HB5.out)
      have HP5 := Lib.hid (HP.out.trans (PK.of HB5.out HBw.out.size hmr))
      have hm5 : m ≤ w5.heap.size := Nat.le_trans hmr HB5.out.size
      have d5 := block_lat HB5.out d1
      have e1 := cell_of_block (o := 0) d5
      simp only [List.getElem?_toArray, List.getElem?_cons_zero] at e1
      clear b5 QB HT1 HBx e2 e2' j0 j1 j2 j3 j4 d1 d2 d5
      have hdd : (f.drop s).drop (i - s) = f.drop i := by rw [Wn.Fs.drop_drop, show s + (i - s) = i by omega]
      cases hbl : Wn.signV s0 k t
      · have HE1 : Hid (pre.map Part.fs ++ Wn.addHead ((f.drop s).take (i + 1 - s)) (Wn.cuts (Wn.signV s0) (f.drop (i + 1))) = Wn.cuts (Wn.signV s0) f) := Lib.hid (by
          rw [show i + 1 - s = (i - s) + 1 by omega, Wn.Fs.take_succ (f.drop s) (hdd.trans HD.out), ← Wn.addHead_app _ _ (Wn.cuts_ne _ _), ← Wn.cuts_no hbl, ← HD.out]; exact HE.out)
        clear hdd
        gi_wp2
        go_roundw
        case rel => exact ⟨s, i + 1, pre, by omega, by omega, hps, rfl, by go_num, HJ5, HP5, hm5, HE1⟩
        case measure => simp [intOf]; omega
      · have hsub := HV.out.sub s i hsi hil
        have hszp : ((f.drop s).take (i - s)).size ≤ M := by have := Wn.Fs.size_take (f.drop s) (i - s); have := Wn.Fs.size_dropn f s; omega
        obtain ⟨xp, hxp⟩ : ∃ xp : Part w M, xp = ⟨(_, _), hsub, hszp⟩ := ⟨_, rfl⟩
        have HX1 : Hid (xp.fs = (f.drop s).take (i - s)) := Lib.hid (by rw [hxp])
        have hx2 : xp.1.1 = .slice (some ⟨b, o + s * 5, none⟩) (i - s) (cap - s) := by rw [hxp]
        have HE1 : Hid ((pre ++ [xp]).map Part.fs ++ Wn.addHead ((f.drop (i + 1)).take (i + 1 - (i + 1))) (Wn.cuts (Wn.signV s0) (f.drop (i + 1))) = Wn.cuts (Wn.signV s0) f) := Lib.hid (by
          rw [Nat.sub_self, Wn.Fs.take_zero, Wn.addHead_nil (Wn.cuts_ne _ _), List.map_append, List.append_assoc, ← HE.out, HD.out, Wn.cuts_yes hbl]
          simp [Wn.addHead, Wn.Fs.app_nil, HX1.out])
        obtain ⟨fn, tmps, assign, body, hy, hR⟩ := HY.out pre xp w5 HJ5.out (by omega)
        rw [hx2] at hy
        have HR := Lib.hid hR
        clear hdd hR hsub hxp hx2 HX1
        gi_wp2
        refine HR.out.mono ?_
        rintro e W3 (⟨rfl, hJ3, hk3⟩ | ⟨rfl, hJx3⟩)
        · have HJ3 := Lib.hid hJ3
          have HP3 := Lib.hid (HP5.out.trans hk3)
          have hm3 : m ≤ W3.heap.size := Nat.le_trans hm5 hk3.below.size
          clear hJ3 hk3 HR hy
          gi_wp2
          go_roundw
          case rel => exact ⟨i + 1, i + 1, pre ++ [xp], by omega, by omega, by simp; omega, by go_num, by go_num, HJ3, HP3, hm3, HE1⟩
          case measure => simp [intOf]; omega
        · gi_wp2
          refine bodyPost_ret (results_none rfl _ _ _) rfl ?_
          exact ⟨⟨_, rfl⟩, .inr ⟨_, hJx3⟩⟩
    · have hie : i = f.len := by omega
      have hsub := HV.out.subC s f.len (by omega) (Nat.le_refl _)
      have hszp : ((f.drop s).take (f.len - s)).size ≤ M := by have := Wn.Fs.size_take (f.drop s) (f.len - s); have := Wn.Fs.size_dropn f s; omega
      obtain ⟨xp, hxp⟩ : ∃ xp : Part w M, xp = ⟨(_, _), hsub, hszp⟩ := ⟨_, rfl⟩
      have HX1 : Hid (xp.fs = (f.drop s).take (f.len - s)) := Lib.hid (by rw [hxp])
      have hx2 : xp.1.1 = .slice (if cap = s then some ⟨b, o, none⟩ else some ⟨b, o + s * 5, none⟩) (f.len - s) (cap - s) := by rw [hxp]
      have HE1 : Hid ((pre ++ [xp]).map Part.fs = Wn.cuts (Wn.signV s0) f) := Lib.hid (by
        rw [← HE.out, hie, Wn.Fs.drop_len (f := f) (i := f.len) (Nat.le_refl _)]
        simp [Wn.cuts, Wn.addHead, Wn.Fs.app_nil, HX1.out])
      obtain ⟨fn, tmps, assign, body, hy, hR⟩ := HY.out pre xp wr HJr.out (by omega)
      rw [hx2] at hy
      have HR := Lib.hid hR
      have e1 := cell_of_block (o := 0) d1
      simp only [List.getElem?_toArray, List.getElem?_cons_zero] at e1
      have hsl : s ≤ f.len := by omega
      clear hR hsub hxp hx2 HX1 hie d1 d2
      gi_wp2
      all_goals
        refine HR.out.mono ?_
        rintro e W3 (⟨rfl, hJ3, hk3⟩ | ⟨rfl, hJx3⟩)
        · gi_wp2
          go_end0
          exact ⟨⟨_, rfl⟩, .inl ⟨_, HE1.out, hJ3⟩⟩
        · gi_wp2
          go_end0
          exact ⟨⟨_, rfl⟩, .inr ⟨_, hJx3⟩⟩
set_option maxRecDepth 100000 in
set_option maxHeartbeats 1000000 in
theorem parts1_nil (p : Int → Wn.Tok → Bool) (cv : Value) (ao : Option Addr) (cap : Nat) (hv : ValsP w (fun b => b < w.heap.size) (.slice ao 0 cap) .nil) (hcap : cap ≤ maxLen) (hn : 1 ≤ n)
    (hY : ∀ pre x W1, J pre W1 → pre.length < (Wn.Fs.nil).len + 1 → YieldAt Fence.wide (n - 1) Tryz.prog l #[x.1.1] W1 fun e W' => (e = .returned (.bool true) ∧ J (pre ++ [x]) W' ∧ PK w.heap.size m W1 W') ∨ (e = .returned (.bool false) ∧ Jx (pre ++ [x]) W'))
    (hB1 : W.heap[B1]? = some (.cells #[.slice ao 0 cap] 22)) (h0 : J [] W) :
    CallsIn Fence.wide n Tryz.prog 79 #[.func (.yield l) #[] #[], .pointer (some ⟨B1, 0, none⟩), cv] W fun e W' => (∃ v, e = .returned v) ∧ ((∃ ys : List (Part w M), ys.map Part.fs = Wn.cuts p .nil ∧ J ys W') ∨ (∃ pre, Jx pre W')) := by
  have c1 := cell_of_block (o := 0) hB1
  simp only [List.getElem?_toArray, List.getElem?_cons_zero] at c1
  obtain ⟨fn, tmps, assign, body, hy, hR⟩ := hY [] ⟨(.slice ao 0 cap, .nil), hv, Nat.zero_le _⟩ W h0 (by simp)
  dsimp only at hy
  have HR := Lib.hid hR
  have H0 := Lib.hid h0
  have hz := ValsP.nilCap hv
  unfold maxLen at hcap
  clear hY hR h0 hB1
  cases ao with
  | none =>
    obtain rfl := hz rfl
    clear hz
    refine callsIn_of_wp Tryz.func79 rfl trivial ?_ rfl
    simp only [Tryz.ntmps79, List.size_toArray, List.length_cons, List.length_nil, Nat.reduceAdd, Nat.reduceSub, Array.replicate_succ, Array.replicate_zero, List.push_toArray, List.append_toArray, List.nil_append, List.cons_append]
    gi_wp2
    gi_loopw [4, 9] (fun v4 v9 wr => v4 = .int .i64 0 ∧ v9 = .int .i64 0 ∧ wr = W) (fun _ _ _ => 0)
    case atStart => exact ⟨rfl, rfl, rfl⟩
    case round =>
      obtain ⟨rfl, rfl, rfl⟩ := hrel
      gi_wp2
      all_goals
        refine HR.out.mono ?_
        rintro e W3 (⟨rfl, hJ3, hk3⟩ | ⟨rfl, hJx3⟩)
        · gi_wp2
          go_end0
          exact ⟨⟨_, rfl⟩, .inl ⟨_, rfl, hJ3⟩⟩
        · gi_wp2
          go_end0
          exact ⟨⟨_, rfl⟩, .inr ⟨_, hJx3⟩⟩
  | some a =>
    clear hz
    obtain ⟨ab, aof, asp⟩ := a
    refine callsIn_of_wp Tryz.func79 rfl trivial ?_ rfl
    simp only [Tryz.ntmps79, List.size_toArray, List.length_cons, List.length_nil, Nat.reduceAdd, Nat.reduceSub, Array.replicate_succ, Array.replicate_zero, List.push_toArray, List.append_toArray, List.nil_append, List.cons_append]
    gi_wp2
    gi_loopw [4, 9] (fun v4 v9 wr => v4 = .int .i64 0 ∧ v9 = .int .i64 0 ∧ wr = W) (fun _ _ _ => 0)
    case atStart => exact ⟨rfl, rfl, rfl⟩
    case round =>
      obtain ⟨rfl, rfl, rfl⟩ := hrel
      gi_wp2
      all_goals
        refine HR.out.mono ?_
        rintro e W3 (⟨rfl, hJ3, hk3⟩ | ⟨rfl, hJx3⟩)
        · gi_wp2
          go_end0
          exact ⟨⟨_, rfl⟩, .inl ⟨_, rfl, hJ3⟩⟩
        · gi_wp2
          go_end0
          exact ⟨⟨_, rfl⟩, .inr ⟨_, hJx3⟩⟩
end
theorem abides_below {α : Type} {J : List α → World → Prop} {B : Nat} (h : AbidesFrom B J) : ∀ pre A C, J pre A → Below A.heap.size A C → J pre C :=
  fun pre A C hj hb => h pre A C Option.none hj ⟨hb.os, hb.tape, hb.output, hb.size, fun k hk _ => hb.block k hk⟩ (fun r e => by cases e)
/-- the iterator, cutting at blanks -/
theorem parts_stops_blank {w W0 : World} {n m B1 B2 M : Nat} {f : Wn.Fs} (v : Value) (hv : ValsP w (fun b => b < w.heap.size) v f) (hM : f.size ≤ M) (hn : 1 ≤ n) (hW : Below w.heap.size w W0) (hm : m = W0.heap.size) (h1 : w.heap.size < B1 ∧ B1 < m) (h2 : w.heap.size < B2 ∧ B2 < m)
    (hB1 : W0.heap[B1]? = some (.cells #[v] 22)) (hB2 : W0.heap[B2]? = some (.cells #[.func (.func 62) #[] #[]] 45)) :
    SeqStopsK Fence.wide n Tryz.prog 79 #[.pointer (some ⟨B1, 0, none⟩), .pointer (some ⟨B2, 0, none⟩)] (fun x : Part w M => #[x.1.1]) (PK w.heap.size m) (fun ys => ys.map Part.fs = Wn.cuts Wn.blankV f) (fun _ => True) (f.len + 1) W0 := fun l J Jx W hW0 hJ _ hY h0 => by
  subst hm
  have hB1' := block_lat hW0 hB1
  have hB2' := block_lat hW0 hB2
  have hb : Below w.heap.size w W := hW.trans (hW0.mono hW.size)
  obtain ⟨ao, cap, he, hlc, hcm, _, hx⟩ := id hv
  subst he
  by_cases hf : f = .nil
  · subst hf
    exact (parts1_nil Wn.blankV _ ao cap hv hcm hn hY hB1' h0).mono fun e W' ⟨a, h⟩ => ⟨a, h.imp id (fun ⟨p, hp⟩ => ⟨p, trivial, hp⟩)⟩
  · obtain ⟨b, o, rfl, _⟩ := hx hf
    exact (parts1_blank b o cap hv hM hcm hlc hn (abides_below hJ) hY hb hW0.size h1 h2 hB1' hB2' h0).mono fun e W' ⟨a, h⟩ => ⟨a, h.imp id (fun ⟨p, hp⟩ => ⟨p, trivial, hp⟩)⟩
/-- the iterator, cutting at a delimiter -/
theorem parts_stops_sign (s0 : List UInt8) {w W0 : World} {n m B1 B2 B3 M : Nat} {f : Wn.Fs} (v : Value) (hv : ValsP w (fun b => b < w.heap.size) v f) (hM : f.size ≤ M) (hn : 1 ≤ n) (hW : Below w.heap.size w W0) (hm : m = W0.heap.size) (h1 : w.heap.size < B1 ∧ B1 < m) (h2 : w.heap.size < B2 ∧ B2 < m)
    (h3 : w.heap.size < B3 ∧ B3 < m) (hB3 : W0.heap[B3]? = some (.cells #[.int .i64 1, .int .i64 7, .string (Wn.str s0), .int .i64 0, .slice none 0 0] 49)) (hB1 : W0.heap[B1]? = some (.cells #[v] 22)) (hB2 : W0.heap[B2]? = some (.cells #[.func (.func 80) #[] #[.pointer (some ⟨B3, 0, none⟩)]] 45)) :
    SeqStopsK Fence.wide n Tryz.prog 79 #[.pointer (some ⟨B1, 0, none⟩), .pointer (some ⟨B2, 0, none⟩)] (fun x : Part w M => #[x.1.1]) (PK w.heap.size m) (fun ys => ys.map Part.fs = Wn.cuts (Wn.signV s0) f) (fun _ => True) (f.len + 1) W0 := fun l J Jx W hW0 hJ _ hY h0 => by
  subst hm
  have hB1' := block_lat hW0 hB1
  have hB2' := block_lat hW0 hB2
  have hb : Below w.heap.size w W := hW.trans (hW0.mono hW.size)
  obtain ⟨ao, cap, he, hlc, hcm, _, hx⟩ := id hv
  subst he
  by_cases hf : f = .nil
  · subst hf
    exact (parts1_nil (Wn.signV s0) _ ao cap hv hcm hn hY hB1' h0).mono fun e W' ⟨a, h⟩ => ⟨a, h.imp id (fun ⟨p, hp⟩ => ⟨p, trivial, hp⟩)⟩
  · obtain ⟨b, o, rfl, _⟩ := hx hf
    exact (parts1_sign s0 B3 h3 (block_lat hW0 hB3) b o cap hv hM hcm hlc hn (abides_below hJ) hY hb hW0.size h1 h2 hB1' hB2' h0).mono fun e W' ⟨a, h⟩ => ⟨a, h.imp id (fun ⟨p, hp⟩ => ⟨p, trivial, hp⟩)⟩
end Go.Proofs.YtjlejiphpbaonaaGreatDoor
set_option linter.unusedVariables false
set_option linter.unusedSimpArgs false
set_option maxRecDepth 20000
namespace Go.Proofs.YtjlejiphpbaonaaGreatDoor
open Go.RowKit Go.Sort Go.Shelf
theorem VAt.kept {A B : World} {ok : Nat → Prop} {row : Option Nat} (hg : A.grownBy B row) (hr : ∀ r, row = some r → ∃ o : Obj, A.heap[r]? = some o ∧ o.isCells = false) : ∀ {f : Wn.Fs} {b o : Nat}, VAt A ok f b o → VAt B ok f b o
  | .nil, _, _, _ => trivial
  | .cons k t x r, b, o, ⟨h0, h1, h2, ⟨ao, cap, h3, h4, h5, h5b, h6⟩, h7⟩ =>
    ⟨h0, cell_kept h1 hg hr, ⟨cell_kept h2.c0 hg hr, cell_kept h2.c1 hg hr, cell_kept h2.c2 hg hr⟩, ⟨ao, cap, cell_kept h3 hg hr, h4, h5, h5b, fun hx => let ⟨b', o', ha, hv⟩ := h6 hx; ⟨b', o', ha, VAt.kept hg hr hv⟩⟩, VAt.kept hg hr h7⟩
theorem ValsP.kept {A B : World} {ok : Nat → Prop} {row : Option Nat} {v : Value} {f : Wn.Fs} (h : ValsP A ok v f) (hg : A.grownBy B row) (hr : ∀ r, row = some r → ∃ o : Obj, A.heap[r]? = some o ∧ o.isCells = false) : ValsP B ok v f := by
  obtain ⟨ao, cap, hv, h1, h2, h2b, h3⟩ := h
  exact ⟨ao, cap, hv, h1, h2, h2b, fun hf => let ⟨b, o, ha, hx⟩ := h3 hf; ⟨b, o, ha, hx.kept hg hr⟩⟩
/-- slices that read as values, one by one -/
def Each (W : World) (ok : Nat → Prop) : List Value → List Wn.Fs → Prop
  | [], [] => True
  | u :: us, g :: gs => ValsP W ok u g ∧ Each W ok us gs
  | _, _ => False
theorem Each.len {W : World} {ok : Nat → Prop} : ∀ {us : List Value} {gs : List Wn.Fs}, Each W ok us gs → us.length = gs.length
  | [], [], _ => rfl
  | u :: us, g :: gs, h => by simp [Each.len h.2]
  | [], _ :: _, h => h.elim
  | _ :: _, [], h => h.elim
theorem Each.map {W W' : World} {ok ok' : Nat → Prop} (hm : ∀ u g, ValsP W ok u g → ValsP W' ok' u g) : ∀ {us : List Value} {gs : List Wn.Fs}, Each W ok us gs → Each W' ok' us gs
  | [], [], _ => trivial
  | u :: us, g :: gs, h => ⟨hm u g h.1, Each.map hm h.2⟩
  | [], _ :: _, h => h.elim
  | _ :: _, [], h => h.elim
theorem Each.snoc {W : World} {ok : Nat → Prop} {u : Value} {g : Wn.Fs} (hu : ValsP W ok u g) : ∀ {us : List Value} {gs : List Wn.Fs}, Each W ok us gs → Each W ok (us ++ [u]) (gs ++ [g])
  | [], [], _ => ⟨hu, trivial⟩
  | u' :: us, g' :: gs, h => ⟨h.1, Each.snoc hu h.2⟩
  | [], _ :: _, h => h.elim
  | _ :: _, [], h => h.elim
theorem Each.get {W : World} {ok : Nat → Prop} : ∀ {us : List Value} {gs : List Wn.Fs} {i : Nat} {g : Wn.Fs}, Each W ok us gs → gs[i]? = some g → ∃ u, us[i]? = some u ∧ ValsP W ok u g
  | u :: us, g :: gs, 0, g', h, e => by simp at e; subst e; exact ⟨u, rfl, h.1⟩
  | u :: us, g :: gs, i + 1, g', h, e => by simp at e; obtain ⟨u', a, b⟩ := Each.get h.2 e; exact ⟨u', by simpa using a, b⟩
  | [], [], i, g', _, e => by simp at e
  | [], _ :: _, _, _, h, _ => h.elim
  | _ :: _, [], _, _, h, _ => h.elim
theorem info_slv : (Tryz.prog.info? 22).map (fun i => (i.zero, i.size, i.bytes)) = some (some (.slice none 0 0), 1, 24) := by kernel_rfl
/-- the list that a loop over parts gathers: its box is block n -/
structure LI (n m : Nat) (w : World) (gs : List Wn.Fs) (v : Value) (us : List Value) (W : World) : Prop where
  lt : n < m
  eq : n = w.heap.size
  sz : m ≤ W.heap.size
  box : Boxed W n 41 v
  own : W.ownsRow m 22 1 v us.length us
  each : Each W (fun b => m ≤ b ∧ v.ownBlock ≠ some b) us gs
  below : Below n w W
theorem LI.kept {n m : Nat} {w A B : World} {gs : List Wn.Fs} {v : Value} {us : List Value} {row : Option Nat} (h : LI n m w gs v us A) (hg : A.grownBy B row) (hr : ∀ r, row = some r → m ≤ r ∧ ∃ o : Obj, A.heap[r]? = some o ∧ o.isCells = false) : LI n m w gs v us B := by
  refine ⟨h.lt, h.eq, Nat.le_trans h.sz hg.size, h.box.kept hg (fun e => ?_), h.own.kept hg ?_, h.each.map (fun u g hu => hu.kept hg (fun r e => (hr r e).2)), ?_⟩
  · have := (hr n e.symm).1; have := h.lt; omega
  · rcases h.own.2 with ⟨hv, _⟩ | ⟨q, cap, cur, hv, _, hq, _⟩
    · exact .inl (by rw [hv]; rfl)
    · refine .inr fun e => ?_
      rw [hv] at e
      obtain ⟨_, o, ho, hc⟩ := hr q (by rw [← e]; rfl)
      rw [hq] at ho
      cases ho
      cases hc
  · refine h.below.trans ⟨hg.os, hg.tape, hg.output, hg.size, fun k hk => ?_⟩
    have := h.below.size
    exact hg.block k (by have := h.eq; omega) (fun e => by have := (hr k e.symm).1; have := h.lt; omega)
theorem LI.later {n m : Nat} {w A B : World} {gs : List Wn.Fs} {v : Value} {us : List Value} (h : LI n m w gs v us A) (hb : Below A.heap.size A B) : LI n m w gs v us B :=
  h.kept (row := Option.none) ⟨hb.os, hb.tape, hb.output, hb.size, fun k hk _ => hb.block k hk⟩ (fun r e => by cases e)
section
variable {n m : Nat} {w W w2 w8 : World} {gs : List Wn.Fs} {v v8 : Value} {us : List Value} {o : Obj} {r9 : Value} {g : Wn.Fs}
/-- one part more, its row put back into its box -/
theorem LI.next (h : LI n m w gs v us W) (hm : m ≤ W.heap.size) (hb : Below W.heap.size W w2) (hr : ValsP w2 (fun b => W.heap.size ≤ b) r9 g) (hown : w8.ownsRow m 22 1 v8 (us.length + 1) (us ++ [r9])) (hgr : (w2.alloc o).grownBy w8 v.ownBlock) (hat : v8.ownBlock = v.ownBlock ∨ v8.ownBlock = some (w2.alloc o).heap.size) :
    LI n m w (gs ++ [g]) v8 (us ++ [r9]) (w8.setCell ⟨n, 0, none⟩ v8) ∧ PK n m W (w8.setCell ⟨n, 0, none⟩ v8) ∧ KeepsFrom m W (w8.setCell ⟨n, 0, none⟩ v8) := by
  have hlt := h.lt
  have hs2 := hb.size
  have hob : ∀ k, v.ownBlock = some k → m ≤ k ∧ k < W.heap.size := fun k e => h.own.lt k e
  have hset : ∀ b, b ≠ n → (w8.setCell ⟨n, 0, none⟩ v8).heap[b]? = w8.heap[b]? := fun b hb => Below.heap_setCell _ _ _ _ hb
  have h28 : ∀ b, b < w2.heap.size → v.ownBlock ≠ some b → w8.heap[b]? = w2.heap[b]? := fun b hb' hne => (hgr.block b (by simp; omega) (fun e => hne e.symm)).trans (Below.heap_alloc _ _ b hb')
  have hW8 : ∀ b, b < W.heap.size → v.ownBlock ≠ some b → w8.heap[b]? = W.heap[b]? := fun b hb' hne => (h28 b (by omega) hne).trans (hb.block b hb')
  have hav : ∀ b, b < w2.heap.size → v.ownBlock ≠ some b → v8.ownBlock ≠ some b := fun b hl hb' => by
    rcases hat with e | e
    · rw [e]; exact hb'
    · rw [e]; intro e'; simp at e'; omega
  have hnn : v.ownBlock ≠ some n := fun e => by have := (hob n e).1; omega
  have hsz : (w2.alloc o).heap.size = w2.heap.size + 1 := by simp
  have hs8 : w2.heap.size + 1 ≤ w8.heap.size := by have := hgr.size; omega
  have hbel : Below n W (w8.setCell ⟨n, 0, none⟩ v8) := ⟨(hgr.os.trans rfl).trans hb.os, (hgr.tape.trans rfl).trans hb.tape, (hgr.output.trans rfl).trans hb.output, by rw [size_set]; omega, fun k hk => (hset k (by omega)).trans (hW8 k (by omega) (fun e => by have := (hob k e).1; omega))⟩
  refine ⟨⟨hlt, h.eq, by rw [size_set]; omega, ?_, ?_, ?_, h.below.trans hbel⟩, ⟨hbel, fun b h1 h2 => (hset b (by omega)).trans (hW8 b (by omega) (fun e => by have := (hob b e).1; omega))⟩, ?_⟩
  · exact heap_set_at ((hW8 n (by omega) hnn).trans h.box) v8
  · rw [List.length_append]
    exact hown.kept (grownBy_setCell' w8 n v8) (.inr (fun e => by have := (hown.lt n e).1; omega))
  · refine Each.snoc ?_ (h.each.map (fun u q hu => ?_))
    · exact hr.same (fun b hb' hl => (hset b (by omega)).trans (h28 b hl (fun e => by have := (hob b e).2; omega))) (fun b hb' hl => ⟨by omega, hav b hl (fun e => by have := (hob b e).2; omega)⟩)
    · exact hu.same (fun b hb' hl => (hset b (by omega)).trans (hW8 b hl hb'.2)) (fun b hb' hl => ⟨hb'.1, hav b (by omega) hb'.2⟩)
  · refine ⟨?_, fun j q hj hq hc => ?_⟩
    · rw [size_set]; omega
    · have hjl : j < W.heap.size := (Array.getElem?_eq_some_iff.1 hq).1
      refine (hset j (by omega)).trans ((hW8 j hjl (fun e => ?_)).trans hq)
      rcases h.own.2 with ⟨hv, _⟩ | ⟨q', cap, cur, hv, _, hq', _⟩
      · rw [hv] at e; simp [Value.ownBlock] at e
      · rw [hv] at e
        simp [Value.ownBlock] at e
        rw [← e, hq'] at hq
        cases hq
        cases hc
end
set_option maxHeartbeats 400000 in
theorem parts_v (ao : Option Addr) (len cap : Nat) (fn : Fn) (cb : Array Value) (w : World) :
    Calls Tryz.prog 53 #[.slice ao len cap, .func fn #[] cb] w fun e w' => e = .returned (.func (.func 79) #[] #[.pointer (some ⟨w.heap.size, 0, none⟩), .pointer (some ⟨w.heap.size + 1, 0, none⟩)]) ∧ w' = (w.alloc (.cells #[.slice ao len cap] 22)).alloc (.cells #[.func fn #[] cb] 45) := by
  go_enter Tryz.func53, Tryz.ntmps53
  go_wp2
  go_ret
  exact ⟨rfl, rfl⟩
theorem of_wanted {c : Prop} [Decidable c] {A B : Prop} (h : c) (ha : A) : (if c then A else B) := by rw [if_pos h]; exact ha
/-- an append onto a row of one's own, as one operation inside a fence -/
theorem opIn_append {F : Fence} {nF : Nat} {P : Program} {w : World} {o : Oper} {a : Act} {K' : Act → World → Prop} {Q : Exit → Act → World → Prop} (s x : Operand) (t : TypeId)
    (ho : o.op = .call { callee := .builtin .append, args := #[s, x], argTypes := #[t, t] })
    (base : Nat) (e : TypeId) (i : TypeInfo) (z : Value) (size bytes : Nat) (ht : P.underlying t = some (.slice e)) (hi : P.info? e = some i) (hz : i.zero = some z)
    (hsize : i.size = size) (hby : i.bytes = bytes) (hzs : z.cells.size = size) (hsz : 0 < size)
    (v : Value) (n : Nat) (xs : List Value) (hs : a.eval s = v) (hown : w.ownsRow base e size v n xs)
    (ad : Addr) (m c : Nat) (news : List Value) (hx : a.eval x = .slice (some ad) m c) (hl : news.length = m * size) (hnews : ∀ j u, news[j]? = some u → w.cell? (ad.add j) = some u) (h1 : ∀ u ∈ news, u.oneCell' = true)
    (h63 : n + m ≤ maxLen) (hbytes : (n + m) * bytes ≤ 140737488355328) (hbase : base ≤ w.heap.size)
    (h : ∀ v' w', w'.ownsRow base e size v' (n + m) (xs ++ news) → w.grownBy w' v.ownBlock → (v'.ownBlock = v.ownBlock ∨ v'.ownBlock = some w.heap.size) → K' (a.put o.dst v') w') :
    Oper.wpIn F nF P o a w K' Q := by
  obtain ⟨v', w', hr, h2, h3, h4, h5⟩ := run_append_own_at (P := P) w base t o.type e i z size bytes ht hi hz hsize hby hzs hsz v n xs hown ad m c news hl hnews h1 h63 hbytes hbase
  unfold Oper.wpIn
  refine ⟨by simp [Oper.about, ho, resolve, Target.leads, Sem.run_pure], ?_⟩
  rw [Oper.semAt_plain F _ _ (by rw [ho]; intro c hc'; cases hc')]
  simp [execOp, ho, resolve, invoke, builtin, hs, hx, hr, Result.andThen]
  exact h v' w' h2 h3 h5
/-- the words of values: the parts between blanks that are not empty -/
def wordsOf (l : List Wn.Fs) : List Wn.Fs := l.filter fun g => decide (g ≠ .nil)
end Go.Proofs.YtjlejiphpbaonaaGreatDoor
set_option linter.unusedVariables false
set_option linter.unusedSimpArgs false
set_option maxRecDepth 20000
namespace Go.Proofs.YtjlejiphpbaonaaGreatDoor
open Go.RowKit Go.Sort Go.Shelf
attribute [local go_sem] Oper.semAt_some
set_option maxRecDepth 100000 in
set_option maxHeartbeats 1000000 in
theorem At_any (s0 : List UInt8) (v : Value) (f : Wn.Fs) (w : World) (hv : Vals w v f) (hf : f.size ≤ 100000) :
    Calls Tryz.prog 30 #[v, .string (Wn.str s0)] w fun e w' => ∃ r us, e = .returned r ∧ w'.ownsRow w.heap.size 22 1 r us.length us ∧ Each w' (fun b => w.heap.size ≤ b) us (Wn.cuts (Wn.signV s0) f) ∧ Below w.heap.size w w' := by
  have HV : Hid (ValsP w (fun b => b < w.heap.size) v f) := Lib.hid hv.old
  obtain ⟨vo, vc, rfl, c1, c2⟩ := hv.form
  clear hv
  obtain ⟨i0, hi0, hz0, hz1, hz2⟩ := info_parts info_slv
  refine (callsIn_wide (n := 5)).1 ?_
  refine callsIn_of_wp_marks Tryz.func30 rfl trivial ?_ rfl
  simp only [Tryz.ntmps30, List.size_toArray, List.length_cons, List.length_nil, Nat.reduceAdd, Nat.reduceSub, Array.replicate_succ, Array.replicate_zero, List.push_toArray, List.append_toArray, List.nil_append, List.cons_append]
  gi_wp2_with fail
  refine ⟨trivial, ?_⟩
  refine (callsIn_wide.2 (delimiter_v _ _)).mono ?_
  rintro e w2 ⟨rfl, b2⟩
  have s1 : (w.alloc (.cells #[.slice none 0 0] 41)).heap.size = w.heap.size + 1 := by simp
  have n0 := heap_alloc_new w (.cells #[.slice none 0 0] 41)
  have n0b := block_lat b2 n0
  have hW2 : Below w.heap.size w w2 := ((Below.refl _ _).alloc (Nat.le_refl _) _).trans (b2.mono (by omega))
  have hw2 : w.heap.size + 1 ≤ w2.heap.size := by have := b2.size; omega
  clear b2 n0 s1
  gi_wp2_with fail
  refine ⟨trivial, ?_⟩
  refine (callsIn_wide.2 (sameToken_v 1 (7, s0, 0) (.slice none 0 0) _ ⟨_, _, _, rfl⟩)).mono ?_
  rintro e w3 ⟨rfl, rfl⟩
  gi_wp2_with fail
  refine ⟨trivial, ?_⟩
  refine (callsIn_wide.2 (parts_v vo f.len vc (.func 80) #[.pointer (some ⟨w2.heap.size, 0, none⟩)] _)).mono ?_
  rintro e w' ⟨rfl, rfl⟩
  gi_wp2_with fail
  have s3 : (w2.alloc (.cells #[.int .i64 1, .int .i64 7, .string (Wn.str s0), .int .i64 0, .slice none 0 0] 49)).heap.size = w2.heap.size + 1 := by simp
  have s4 : ((w2.alloc (.cells #[.int .i64 1, .int .i64 7, .string (Wn.str s0), .int .i64 0, .slice none 0 0] 49)).alloc (.cells #[.slice vo f.len vc] 22)).heap.size = w2.heap.size + 1 + 1 := by simp
  have s5 : (((w2.alloc (.cells #[.int .i64 1, .int .i64 7, .string (Wn.str s0), .int .i64 0, .slice none 0 0] 49)).alloc (.cells #[.slice vo f.len vc] 22)).alloc (.cells #[.func (.func 80) #[] #[.pointer (some ⟨w2.heap.size, 0, none⟩)]] 45)).heap.size = w2.heap.size + 1 + 1 + 1 := by simp
  have m0 := heap_alloc_new w2 (.cells #[.int .i64 1, .int .i64 7, .string (Wn.str s0), .int .i64 0, .slice none 0 0] 49)
  have m1 := heap_alloc_new (w2.alloc (.cells #[.int .i64 1, .int .i64 7, .string (Wn.str s0), .int .i64 0, .slice none 0 0] 49)) (.cells #[.slice vo f.len vc] 22)
  have m2 := heap_alloc_new ((w2.alloc (.cells #[.int .i64 1, .int .i64 7, .string (Wn.str s0), .int .i64 0, .slice none 0 0] 49)).alloc (.cells #[.slice vo f.len vc] 22)) (.cells #[.func (.func 80) #[] #[.pointer (some ⟨w2.heap.size, 0, none⟩)]] 45)
  rw [s3] at m1
  rw [s4] at m2
  have m0' := block_alloc (block_alloc m0 (.cells #[.slice vo f.len vc] 22)) (.cells #[.func (.func 80) #[] #[.pointer (some ⟨w2.heap.size, 0, none⟩)]] 45)
  have m1' := block_alloc m1 (.cells #[.func (.func 80) #[] #[.pointer (some ⟨w2.heap.size, 0, none⟩)]] 45)
  have n0' := block_alloc (block_alloc (block_alloc n0b (.cells #[.int .i64 1, .int .i64 7, .string (Wn.str s0), .int .i64 0, .slice none 0 0] 49)) (.cells #[.slice vo f.len vc] 22)) (.cells #[.func (.func 80) #[] #[.pointer (some ⟨w2.heap.size, 0, none⟩)]] 45)
  have hW0 : Below w.heap.size w (((w2.alloc (.cells #[.int .i64 1, .int .i64 7, .string (Wn.str s0), .int .i64 0, .slice none 0 0] 49)).alloc (.cells #[.slice vo f.len vc] 22)).alloc (.cells #[.func (.func 80) #[] #[.pointer (some ⟨w2.heap.size, 0, none⟩)]] 45)) := ((hW2.alloc (by omega) _).alloc (by omega) _).alloc (by omega) _
  clear m0 m1 n0b s4
  clear s3
  generalize ((w2.alloc (.cells #[.int .i64 1, .int .i64 7, .string (Wn.str s0), .int .i64 0, .slice none 0 0] 49)).alloc (.cells #[.slice vo f.len vc] 22)).alloc (.cells #[.func (.func 80) #[] #[.pointer (some ⟨w2.heap.size, 0, none⟩)]] 45) = W0 at *
  generalize w2.heap.size = n2 at *
  refine wpIn_rangeFunc_ownG rfl (by omega) (gf := 79) (lb := #[.pointer (some ⟨n2 + 1, 0, none⟩), .pointer (some ⟨n2 + 1 + 1, 0, none⟩)]) rfl trivial (enters_of Tryz.func79 (by kernel_rfl) rfl)
    (parts_stops_sign s0 (n := 4) (m := W0.heap.size) (M := 100000) (B3 := n2) _ HV.out hf (by omega) hW0 rfl (by omega) (by omega) (by omega) m0' m1' m2) (fun h k => PK.trans h k)
    (fun W l o o' hl ho hc hw => ⟨belowK_b hW0.size W l o o' hl ho hc hw, fun b h1 h2 => World.putObj_heap_other (by omega)⟩) (Below.refl _ _) (fun _ => rfl)
    (fun pre W => ∃ v us, LI w.heap.size W0.heap.size w (pre.map Part.fs) v us W) (fun _ _ _ => False)
    (fun s A B row hs hg hr => by obtain ⟨v, us, h⟩ := hs; exact ⟨v, us, h.kept hg hr⟩) (fun _ _ _ _ _ hs _ _ => hs)
    ⟨_, [], by omega, rfl, Nat.le_refl _, n0', World.ownsRow_nil _ _ _ _, trivial, hW0⟩
    (fun x => { tmps := #[.slice vo f.len vc, .string (Wn.str s0), undef, undef, .slice none 0 0, .pointer (some ⟨w.heap.size, 0, none⟩), x.1.1, .slice vo f.len vc, .string (Wn.str s0), .agg #[.int .i64 1, .int .i64 7, .string (Wn.str s0), .int .i64 0, .slice none 0 0], .func (.func 80) #[] #[.pointer (some ⟨n2, 0, none⟩)], .func (.func 79) #[] #[.pointer (some ⟨n2 + 1, 0, none⟩), .pointer (some ⟨n2 + 1 + 1, 0, none⟩)], x.1.1, undef, undef, undef, undef, undef, undef], defers := [] }) ?assign ?body ?done ?stop
  case assign =>
    intro l x W K hK
    gi_wp2
    exact hK
  case body =>
    rintro l pre x W ⟨v, us, h⟩ hlt
    obtain ⟨g, hg⟩ : ∃ g, x.fs = g := ⟨_, rfl⟩
    obtain ⟨px, hpx⟩ : ∃ px, pre ++ [x] = px := ⟨_, rfl⟩
    have hxv := x.2.1
    have hxs := x.2.2
    obtain ⟨xo, xc, hx1, d1, d2⟩ := hxv.form
    rw [show x.1.2 = g from hg] at hxv hxs hx1 d1
    rw [hx1] at hxv
    rw [hpx, hx1]
    have HL := Lib.hid h
    have hmW : W0.heap.size ≤ W.heap.size := h.sz
    have hul : us.length ≤ 100001 := by
      have a := h.each.len
      rw [List.length_map] at a
      have := Wn.Fs.len_le_size f
      omega
    have HVx : Hid (Vals W (.slice xo g.len xc) g) := Lib.hid (hxv.same (fun b hb _ => h.below.block b hb) (fun _ _ _ => trivial))
    have QC := Lib.hid (copy_any (.slice xo g.len xc) g W.drew (HVx.out.below (Below.refl _ _).drew) (by omega))
    clear h hxv hx1 n0' m0' m1' m2
    have HS : Hid (px.map Part.fs = pre.map Part.fs ++ [g]) := Lib.hid (by rw [← hpx]; simp [hg])
    have p0 := HL.out.box.cell
    have f0 := HL.out.box.frozen
    clear hpx hg HVx
    have hmx : Tryz.prog.follows .mixedOrders = true := by kernel_rfl
    gi_wp2
    refine wpIn_region_any hmx ?_
    change wpAnyIn _ _ _ _ _ _ _ _ _ (World.drew _)
    (refine wpAnyIn_ready (rs := [0, 1]) (by kernel_rfl) (by simp) ?_); (refine AllReadyIn.cons rfl (fun K hK => ?_) (AllReadyIn.cons rfl (fun K hK => ?_) AllReadyIn.nil))
    · (go_simp; (refine hK _ _ ?_); clear hK K)
      (refine wpAnyIn_ready (rs := [1]) (by kernel_rfl) (by simp) ?_); (refine AllReadyIn.cons rfl (fun K hK => ?_) AllReadyIn.nil)
      (go_simp; (refine hK _ _ ?_); clear hK K)
      (refine wpAnyIn_ready (rs := [2]) (by kernel_rfl) (by simp) ?_); (refine AllReadyIn.cons rfl (fun K hK => ?_) AllReadyIn.nil)
      go_simp
      refine ⟨trivial, ?_⟩
      refine (CallsIn.inRound l (callsIn_wide.2 QC.out)).mono ?_
      rintro e w2 ⟨r9, rfl, hv9, b2⟩
      dsimp only
      have hform9 : ∃ ao n c, r9 = .slice ao n c := by obtain ⟨ao, cap, hv, _⟩ := hv9.form; exact ⟨_, _, _, hv⟩
      obtain ⟨so, sn, sc, rfl⟩ := hform9
      have HB2 : Hid (Below W.heap.size W w2) := Lib.hid ((Below.refl W.heap.size W).drew.trans b2)
      have HV9 : Hid (ValsP w2 (fun b => W.heap.size ≤ b) (.slice so sn sc) g) := Lib.hid hv9
      have HL2 := Lib.hid (HL.out.later HB2.out)
      have hs2 : W.heap.size ≤ w2.heap.size := HB2.out.size
      have p2 := HL2.out.box.cell
      have hn2 : w.heap.size < w2.heap.size := by omega
      have hn3 : ¬ w.heap.size = w2.heap.size := by omega
      refine hK _ _ ?_
      clear hK K hv9 b2 QC
      (refine wpAnyIn_ready (rs := [3]) (by kernel_rfl) (by simp) ?_); (refine AllReadyIn.cons rfl (fun K hK => ?_) AllReadyIn.nil)
      (go_simp; (refine hK _ _ ?_); clear hK K)
      (refine wpAnyIn_ready (rs := [4]) (by kernel_rfl) (by simp) ?_); (refine AllReadyIn.cons rfl (fun K hK => ?_) AllReadyIn.nil)
      refine of_wanted rfl ?_
      refine opIn_append _ _ _ rfl W0.heap.size 22 i0 (.slice none 0 0) 1 24 Tryz.underlying41 hi0 hz0 hz1 hz2 rfl (by decide) v us.length us rfl (HL2.out.own.alloc _) ⟨w2.heap.size, 0, none⟩ 1 1 [.slice so sn sc] rfl rfl (cell_one_new _ _ _) (by simp [Value.oneCell']) (by unfold maxLen; omega) (by omega) (by simp; omega) ?_
      intro v8 w8 hown8 hgr8 hat8
      obtain ⟨LN, PN, KN⟩ := HL.out.next hmW HB2.out HV9.out hown8 hgr8 hat8
      obtain ⟨to8, tn8, tc8, rfl⟩ := own_slice hown8
      have HLN := Lib.hid LN
      have HPN := Lib.hid PN
      have HKN := Lib.hid KN
      have bx : Boxed w8 w.heap.size 41 v := (HL2.out.box.alloc _).kept hgr8 (fun e => by have := (HL2.out.own.lt _ e.symm).1; omega)
      have p8 := bx.cell
      have f8 := bx.frozen
      refine hK _ _ ?_
      clear hK K LN PN KN bx hown8 hgr8 hat8
      (refine wpAnyIn_ready (rs := [5]) (by kernel_rfl) (by simp) ?_); (refine AllReadyIn.cons rfl (fun K hK => ?_) AllReadyIn.nil)
      (go_simp; (refine hK _ _ ?_); clear hK K)
      refine wpAnyIn_done (by kernel_rfl) ?_ _
      gi_wp2
      exact ⟨HKN.out, HPN.out, _, _, by rw [HS.out]; exact HLN.out⟩
    · (go_simp; (refine hK _ _ ?_); clear hK K)
      (refine wpAnyIn_ready (rs := [0, 2]) (by kernel_rfl) (by simp) ?_); (refine AllReadyIn.cons rfl (fun K hK => ?_) (AllReadyIn.cons rfl (fun K hK => ?_) AllReadyIn.nil))
      · (go_simp; (refine hK _ _ ?_); clear hK K)
        (refine wpAnyIn_ready (rs := [2]) (by kernel_rfl) (by simp) ?_); (refine AllReadyIn.cons rfl (fun K hK => ?_) AllReadyIn.nil)
        go_simp
        refine ⟨trivial, ?_⟩
        refine (CallsIn.inRound l (callsIn_wide.2 QC.out)).mono ?_
        rintro e w2 ⟨r9, rfl, hv9, b2⟩
        dsimp only
        have hform9 : ∃ ao n c, r9 = .slice ao n c := by obtain ⟨ao, cap, hv, _⟩ := hv9.form; exact ⟨_, _, _, hv⟩
        obtain ⟨so, sn, sc, rfl⟩ := hform9
        have HB2 : Hid (Below W.heap.size W w2) := Lib.hid ((Below.refl W.heap.size W).drew.trans b2)
        have HV9 : Hid (ValsP w2 (fun b => W.heap.size ≤ b) (.slice so sn sc) g) := Lib.hid hv9
        have HL2 := Lib.hid (HL.out.later HB2.out)
        have hs2 : W.heap.size ≤ w2.heap.size := HB2.out.size
        have p2 := HL2.out.box.cell
        have hn2 : w.heap.size < w2.heap.size := by omega
        have hn3 : ¬ w.heap.size = w2.heap.size := by omega
        refine hK _ _ ?_
        clear hK K hv9 b2 QC
        (refine wpAnyIn_ready (rs := [3]) (by kernel_rfl) (by simp) ?_); (refine AllReadyIn.cons rfl (fun K hK => ?_) AllReadyIn.nil)
        (go_simp; (refine hK _ _ ?_); clear hK K)
        (refine wpAnyIn_ready (rs := [4]) (by kernel_rfl) (by simp) ?_); (refine AllReadyIn.cons rfl (fun K hK => ?_) AllReadyIn.nil)
        refine of_wanted rfl ?_
        refine opIn_append _ _ _ rfl W0.heap.size 22 i0 (.slice none 0 0) 1 24 Tryz.underlying41 hi0 hz0 hz1 hz2 rfl (by decide) v us.length us rfl (HL2.out.own.alloc _) ⟨w2.heap.size, 0, none⟩ 1 1 [.slice so sn sc] rfl rfl (cell_one_new _ _ _) (by simp [Value.oneCell']) (by unfold maxLen; omega) (by omega) (by simp; omega) ?_
        intro v8 w8 hown8 hgr8 hat8
        obtain ⟨LN, PN, KN⟩ := HL.out.next hmW HB2.out HV9.out hown8 hgr8 hat8
        obtain ⟨to8, tn8, tc8, rfl⟩ := own_slice hown8
        have HLN := Lib.hid LN
        have HPN := Lib.hid PN
        have HKN := Lib.hid KN
        have bx : Boxed w8 w.heap.size 41 v := (HL2.out.box.alloc _).kept hgr8 (fun e => by have := (HL2.out.own.lt _ e.symm).1; omega)
        have p8 := bx.cell
        have f8 := bx.frozen
        refine hK _ _ ?_
        clear hK K LN PN KN bx hown8 hgr8 hat8
        (refine wpAnyIn_ready (rs := [5]) (by kernel_rfl) (by simp) ?_); (refine AllReadyIn.cons rfl (fun K hK => ?_) AllReadyIn.nil)
        (go_simp; (refine hK _ _ ?_); clear hK K)
        refine wpAnyIn_done (by kernel_rfl) ?_ _
        gi_wp2
        exact ⟨HKN.out, HPN.out, _, _, by rw [HS.out]; exact HLN.out⟩
      · skip
        go_simp
        refine ⟨trivial, ?_⟩
        refine (CallsIn.inRound l (callsIn_wide.2 QC.out)).mono ?_
        rintro e w2 ⟨r9, rfl, hv9, b2⟩
        dsimp only
        have hform9 : ∃ ao n c, r9 = .slice ao n c := by obtain ⟨ao, cap, hv, _⟩ := hv9.form; exact ⟨_, _, _, hv⟩
        obtain ⟨so, sn, sc, rfl⟩ := hform9
        have HB2 : Hid (Below W.heap.size W w2) := Lib.hid ((Below.refl W.heap.size W).drew.trans b2)
        have HV9 : Hid (ValsP w2 (fun b => W.heap.size ≤ b) (.slice so sn sc) g) := Lib.hid hv9
        have HL2 := Lib.hid (HL.out.later HB2.out)
        have hs2 : W.heap.size ≤ w2.heap.size := HB2.out.size
        have p2 := HL2.out.box.cell
        have hn2 : w.heap.size < w2.heap.size := by omega
        have hn3 : ¬ w.heap.size = w2.heap.size := by omega
        refine hK _ _ ?_
        clear hK K hv9 b2 QC
        (refine wpAnyIn_ready (rs := [0, 3]) (by kernel_rfl) (by simp) ?_); (refine AllReadyIn.cons rfl (fun K hK => ?_) (AllReadyIn.cons rfl (fun K hK => ?_) AllReadyIn.nil))
        · (go_simp; (refine hK _ _ ?_); clear hK K)
          (refine wpAnyIn_ready (rs := [3]) (by kernel_rfl) (by simp) ?_); (refine AllReadyIn.cons rfl (fun K hK => ?_) AllReadyIn.nil)
          (go_simp; (refine hK _ _ ?_); clear hK K)
          (refine wpAnyIn_ready (rs := [4]) (by kernel_rfl) (by simp) ?_); (refine AllReadyIn.cons rfl (fun K hK => ?_) AllReadyIn.nil)
          refine of_wanted rfl ?_
          refine opIn_append _ _ _ rfl W0.heap.size 22 i0 (.slice none 0 0) 1 24 Tryz.underlying41 hi0 hz0 hz1 hz2 rfl (by decide) v us.length us rfl (HL2.out.own.alloc _) ⟨w2.heap.size, 0, none⟩ 1 1 [.slice so sn sc] rfl rfl (cell_one_new _ _ _) (by simp [Value.oneCell']) (by unfold maxLen; omega) (by omega) (by simp; omega) ?_
          intro v8 w8 hown8 hgr8 hat8
          obtain ⟨LN, PN, KN⟩ := HL.out.next hmW HB2.out HV9.out hown8 hgr8 hat8
          obtain ⟨to8, tn8, tc8, rfl⟩ := own_slice hown8
          have HLN := Lib.hid LN
          have HPN := Lib.hid PN
          have HKN := Lib.hid KN
          have bx : Boxed w8 w.heap.size 41 v := (HL2.out.box.alloc _).kept hgr8 (fun e => by have := (HL2.out.own.lt _ e.symm).1; omega)
          have p8 := bx.cell
          have f8 := bx.frozen
          refine hK _ _ ?_
          clear hK K LN PN KN bx hown8 hgr8 hat8
          (refine wpAnyIn_ready (rs := [5]) (by kernel_rfl) (by simp) ?_); (refine AllReadyIn.cons rfl (fun K hK => ?_) AllReadyIn.nil)
          (go_simp; (refine hK _ _ ?_); clear hK K)
          refine wpAnyIn_done (by kernel_rfl) ?_ _
          gi_wp2
          exact ⟨HKN.out, HPN.out, _, _, by rw [HS.out]; exact HLN.out⟩
        · (go_simp; (refine hK _ _ ?_); clear hK K)
          (refine wpAnyIn_ready (rs := [0]) (by kernel_rfl) (by simp) ?_); (refine AllReadyIn.cons rfl (fun K hK => ?_) AllReadyIn.nil)
          (go_simp; (refine hK _ _ ?_); clear hK K)
          (refine wpAnyIn_ready (rs := [4]) (by kernel_rfl) (by simp) ?_); (refine AllReadyIn.cons rfl (fun K hK => ?_) AllReadyIn.nil)
          refine of_wanted rfl ?_
          refine opIn_append _ _ _ rfl W0.heap.size 22 i0 (.slice none 0 0) 1 24 Tryz.underlying41 hi0 hz0 hz1 hz2 rfl (by decide) v us.length us rfl (HL2.out.own.alloc _) ⟨w2.heap.size, 0, none⟩ 1 1 [.slice so sn sc] rfl rfl (cell_one_new _ _ _) (by simp [Value.oneCell']) (by unfold maxLen; omega) (by omega) (by simp; omega) ?_
          intro v8 w8 hown8 hgr8 hat8
          obtain ⟨LN, PN, KN⟩ := HL.out.next hmW HB2.out HV9.out hown8 hgr8 hat8
          obtain ⟨to8, tn8, tc8, rfl⟩ := own_slice hown8
          have HLN := Lib.hid LN
          have HPN := Lib.hid PN
          have HKN := Lib.hid KN
          have bx : Boxed w8 w.heap.size 41 v := (HL2.out.box.alloc _).kept hgr8 (fun e => by have := (HL2.out.own.lt _ e.symm).1; omega)
          have p8 := bx.cell
          have f8 := bx.frozen
          refine hK _ _ ?_
          clear hK K LN PN KN bx hown8 hgr8 hat8
          (refine wpAnyIn_ready (rs := [5]) (by kernel_rfl) (by simp) ?_); (refine AllReadyIn.cons rfl (fun K hK => ?_) AllReadyIn.nil)
          (go_simp; (refine hK _ _ ?_); clear hK K)
          refine wpAnyIn_done (by kernel_rfl) ?_ _
          gi_wp2
          exact ⟨HKN.out, HPN.out, _, _, by rw [HS.out]; exact HLN.out⟩
  case done =>
    rintro D ys W hD hS ⟨v, us, h⟩ hK
    have p0 := h.box.cell
    have h' := h.kept (grownBy_putObj' _ D (.deferred Option.none)) (fun r e => by cases e; exact ⟨hD, _, hK, rfl⟩)
    rw [hS] at h'
    have HL := Lib.hid h'
    have hle := h.lt
    obtain ⟨vo', vn', vc', rfl⟩ := own_slice h.own
    clear h h' hS
    gi_wp2
    refine ⟨by simp, .inl ⟨_, _, rfl, run_takeDeferred hK, ?_⟩⟩
    exact ⟨_, results_tmp rfl _ _ _, _, us, rfl, World.ownsRow.mono HL.out.own (by omega), HL.out.each.map (fun u q hu => hu.mono (fun b hb _ => by have := hb.1; omega)), HL.out.below⟩
  case stop =>
    rintro D c pre W _ _ h _
    exact h.elim
end Go.Proofs.YtjlejiphpbaonaaGreatDoor
