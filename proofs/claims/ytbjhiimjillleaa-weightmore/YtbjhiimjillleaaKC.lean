/- What the program's weights answer: count adds into the weight that it is given. What the program's weights answer: the weight of a complex selector; it is the one that the verifier's own writing answers. The text that the sixth layer's fixed calls read, and what its three selectors weigh. A region that draws its order: three calls in a chain and three variables that are made beside them, in whatever order. Condition: the callees leave all blocks that there were. Two weights are the same just if their three numbers are. -/
import Derived.Test.YtbjhiimjillleaaKA
import Derived.Test.YtbjhiimjillleaaHL
import Derived.Test.YtbjhiimjillleaaHH
import Derived.Test.YtbjhiimjillleaaJL
import Derived.Deep.RegionHeld3
import Derived.ChangeKeysEq
set_option maxRecDepth 20000
namespace Wn
theorem wc1_3 (g y : W3) : wc1 g 3 y = (Go.RowKit.wrap64 (g.1 + 1), g.2.1, g.2.2) := rfl
theorem wc1_2 (g y : W3) : wc1 g 2 y = (g.1, g.2.1, Go.RowKit.wrap64 (g.2.2 + 1)) := rfl
theorem wc1_11 (g y : W3) : wc1 g 11 y = y := rfl
theorem wc1_c {k : Int} (h1 : 4 ≤ k) (h2 : k ≤ 10) (g y : W3) : wc1 g k y = (g.1, Go.RowKit.wrap64 (g.2.1 + 1), g.2.2) := by
  unfold wc1; rw [if_neg (by omega), if_pos ⟨h1, h2⟩]
theorem wc1_no {k : Int} (h : k < 2 ∨ 11 < k) (g y : W3) : wc1 g k y = g := by
  unfold wc1; rw [if_neg (by omega), if_neg (by omega), if_neg (by omega), if_neg (by omega)]
end Wn
namespace Go.Proofs.Ytbjhiimjillleaa
open Go.RowKit Go.Sort
abbrev w3w (g : Wn.W3) : Obj := .cells #[.int .i64 g.1, .int .i64 g.2.1, .int .i64 g.2.2] 27
theorem SsP.at2 {w : World} {ok : Nat → Prop} {ao : Option Addr} {n cap : Nat} {f : Wn.Ss} (h : SsP w ok (.slice ao n cap) f) {i : Nat} {k : Int} {nm v : List UInt8} {a b : Int} {x r : Wn.Ss} (hd : f.drop i = .cons k nm v a b x r) :
    ∃ g o u, ao = some ⟨g, o, none⟩ ∧ ok g ∧ g < w.heap.size ∧ w.cell? ⟨g, o + i * 6, none⟩ = some (.int .i64 k) ∧ w.cell? ⟨g, o + i * 6 + 1, none⟩ = some (.string (Wn.str nm)) ∧ w.cell? ⟨g, o + i * 6 + 2, none⟩ = some (.string (Wn.str v)) ∧ w.cell? ⟨g, o + i * 6 + 3, none⟩ = some (.int .i64 a) ∧ w.cell? ⟨g, o + i * 6 + 4, none⟩ = some (.int .i64 b) ∧ w.cell? ⟨g, o + i * 6 + 5, none⟩ = some u ∧ SsP w ok u x := by
  obtain ⟨g, o, cs, rfl, hb, hl, hR, hL⟩ := (SsP.k.1 h).at (Wn.Ss.toL_get hd)
  obtain ⟨u, rfl, hu⟩ := hR
  exact ⟨g, o, u, rfl, hb, hl, hL 0 _ rfl, hL 1 _ rfl, hL 2 _ rfl, hL 3 _ rfl, hL 4 _ rfl, hL 5 _ rfl, hu⟩
/-- a block that holds a weight, and what else may have changed: nothing that was there -/
structure Wi (w W : World) (g : Nat) (y : Wn.W3) : Prop where
  only : Only g w W
  blk : W.heap[g]? = some (w3w y)
theorem Wi.lt {w W : World} {g : Nat} {y : Wn.W3} (h : Wi w W g y) : g < W.heap.size := lt_of_block h.blk
theorem Wi.drew {w W : World} {g : Nat} {y : Wn.W3} (h : Wi w W g y) : Wi w W.drew g y := ⟨h.only.drew, h.blk⟩
theorem Wi.alloc {w W : World} {g : Nat} {y : Wn.W3} (h : Wi w W g y) (o : Obj) : Wi w (W.alloc o) g y := ⟨h.only.alloc o, block_alloc h.blk o⟩
theorem Wi.set0 {w W : World} {g : Nat} {y : Wn.W3} (h : Wi w W g y) (z : Int) : Wi w (W.setCell ⟨g, 0, none⟩ (.int .i64 z)) g (z, y.2.1, y.2.2) :=
  ⟨h.only.setCell rfl _, by have hh := h.blk; simp [World.setCell, Array.getElem?_modify, hh]⟩
theorem Wi.set1 {w W : World} {g : Nat} {y : Wn.W3} (h : Wi w W g y) (z : Int) : Wi w (W.setCell ⟨g, 1, none⟩ (.int .i64 z)) g (y.1, z, y.2.2) :=
  ⟨h.only.setCell rfl _, by have hh := h.blk; simp [World.setCell, Array.getElem?_modify, hh]⟩
theorem Wi.set2 {w W : World} {g : Nat} {y : Wn.W3} (h : Wi w W g y) (z : Int) : Wi w (W.setCell ⟨g, 2, none⟩ (.int .i64 z)) g (y.1, y.2.1, z) :=
  ⟨h.only.setCell rfl _, by have hh := h.blk; simp [World.setCell, Array.getElem?_modify, hh]⟩
def WCSaid (f : Wn.Ss) : Prop := ∀ (x : Wn.W3) (g : Nat) (v : Value) (w : World), w.heap[g]? = some (w3w x) → SsP w (fun b => b ≠ g) v f →
  Calls Try.prog 21 #[.pointer (some ⟨g, 0, none⟩), v] w fun e w' => e = .returned (.tuple #[]) ∧ Wi w w' g (Wn.wcF x f)
set_option maxRecDepth 100000 in
set_option maxHeartbeats 2000000 in
theorem wcount_step (f : Wn.Ss) (IH : ∀ x : Wn.Ss, x.size < f.size → WCSaid x) : WCSaid f := by
  intro x0 g v w hg hv
  have HIH := Lib.hid IH; clear IH
  have HV := Lib.hid hv
  obtain ⟨ao, cap, rfl, c1, c2⟩ := hv.form
  unfold maxLen at c2
  clear hv
  have HI0 : Hid (Wi w w g x0) := Lib.hid ⟨Only.refl _ _, hg⟩
  clear hg
  generalize hR : Wn.wcF x0 f = R
  have HR : Hid (Wn.wcF x0 (f.drop 0) = R) := Lib.hid (by rw [Wn.Ss.drop_zero]; exact hR)
  clear hR
  go_enter Try.func21, Try.ntmps21
  go_wp2_with fail
  go_loopw [8] (fun v8 wr => ∃ (i : Nat) (y : Wn.W3), i ≤ f.len ∧ v8 = .int .i64 (i : Int) ∧ Hid (Wi w wr g y) ∧ Hid (Wn.wcF y (f.drop i) = R)) (fun v8 _ => f.len - (intOf v8).toNat)
  case atStart => exact ⟨0, x0, by omega, rfl, HI0, HR⟩
  case round =>
    clear HR HI0
    obtain ⟨i, y, hil, rfl, HI, HE⟩ := hrel
    by_cases hlt : i < f.len
    · obtain ⟨k, n, t, a, b, x, hd⟩ := Wn.Ss.drop_cons hlt
      obtain ⟨p, o, u, rfl, hpg, hpl, j0, j1, j2, j3, j4, j5, hu⟩ := (HV.out.same (fun b hb hl => HI.out.only.block b hl hb) (fun _ h _ => h) : SsP wr (fun b => b ≠ g) _ f).at2 hd
      have hsz := Wn.Ss.drop_lt hd
      have HE2 : Hid (Wn.wcF (Wn.wc1 y k (Wn.wcF y x)) (f.drop (i + 1)) = R) := Lib.hid (by rw [← HE.out, hd, Wn.wcF])
      obtain ⟨uo, uc, rfl, _, _⟩ := hu.form
      have HU := Lib.hid hu
      have HQ := Lib.hid (HIH.out x hsz)
      clear hu hsz HE hd
      have hi1 : (i : Int) < (f.len : Int) := by omega
      have hgl := HI.out.lt
      have hgn : ¬ g = wr.heap.size := by omega
      have hpn : ¬ p = wr.heap.size := by omega
      generalize Wn.str n = ny at *
      generalize Wn.str t = ty at *
      have hg := HI.out.blk
      have g0 := cell_of_block (o := 0) hg
      have g1 := cell_of_block (o := 1) hg
      have g2 := cell_of_block (o := 2) hg
      have gf0 := frozen_blk hg 0
      have gf1 := frozen_blk hg 1
      have gf2 := frozen_blk hg 2
      simp only [List.getElem?_toArray, List.getElem?_cons_zero, List.getElem?_cons_succ] at g0 g1 g2
      clear hg
      have hc : k = 3 ∨ (4 ≤ k ∧ k ≤ 10) ∨ k = 2 ∨ k = 11 ∨ (k < 2 ∨ 11 < k) := by omega
      rcases hc with hk | hk | hk | hk | hk
      · have HE3 : Hid (Wn.wcF (wrap64 (y.1 + 1), y.2.1, y.2.2) (f.drop (i + 1)) = R) := Lib.hid (by rw [← Wn.wc1_3 y (Wn.wcF y x), ← hk]; exact HE2.out)
        subst hk
        clear HE2 HQ HU g1 g2 gf1 gf2
        go_wp2_with fail
        go_region
        all_goals go_wp2_with fail
        all_goals exact ⟨⟨i + 1, _, by omega, by go_num, Lib.hid (by (repeat (first | with_reducible exact HI.out | (with_reducible refine Wi.drew ?_) | (with_reducible refine Wi.alloc ?_ _) | (with_reducible refine Wi.set0 (y := y) ?_ _) | (with_reducible refine Wi.set1 (y := y) ?_ _) | (with_reducible refine Wi.set2 (y := y) ?_ _)))), HE3⟩, by simp [intOf]; try omega⟩
      · have HE3 : Hid (Wn.wcF (y.1, wrap64 (y.2.1 + 1), y.2.2) (f.drop (i + 1)) = R) := Lib.hid (by rw [← Wn.wc1_c hk.1 hk.2 y (Wn.wcF y x)]; exact HE2.out)
        clear HE2 HQ HU g0 g2 gf0 gf2
        have hk' : k = 4 ∨ k = 5 ∨ k = 6 ∨ k = 7 ∨ k = 8 ∨ k = 9 ∨ k = 10 := by omega
        clear hk
        rcases hk' with hk | hk | hk | hk | hk | hk | hk
        all_goals
          subst hk
          go_wp2_with fail
          go_region
          all_goals go_wp2_with fail
          all_goals exact ⟨⟨i + 1, _, by omega, by go_num, Lib.hid (by (repeat (first | with_reducible exact HI.out | (with_reducible refine Wi.drew ?_) | (with_reducible refine Wi.alloc ?_ _) | (with_reducible refine Wi.set0 (y := y) ?_ _) | (with_reducible refine Wi.set1 (y := y) ?_ _) | (with_reducible refine Wi.set2 (y := y) ?_ _)))), HE3⟩, by simp [intOf]; try omega⟩
      · have HE3 : Hid (Wn.wcF (y.1, y.2.1, wrap64 (y.2.2 + 1)) (f.drop (i + 1)) = R) := Lib.hid (by rw [← Wn.wc1_2 y (Wn.wcF y x), ← hk]; exact HE2.out)
        subst hk
        clear HE2 HQ HU g1 g0 gf1 gf0
        go_wp2_with fail
        go_region
        all_goals go_wp2_with fail
        all_goals exact ⟨⟨i + 1, _, by omega, by go_num, Lib.hid (by (repeat (first | with_reducible exact HI.out | (with_reducible refine Wi.drew ?_) | (with_reducible refine Wi.alloc ?_ _) | (with_reducible refine Wi.set0 (y := y) ?_ _) | (with_reducible refine Wi.set1 (y := y) ?_ _) | (with_reducible refine Wi.set2 (y := y) ?_ _)))), HE3⟩, by simp [intOf]; try omega⟩
      · have HE3 : Hid (Wn.wcF (Wn.wcF y x) (f.drop (i + 1)) = R) := Lib.hid (by have := HE2.out; rw [hk, Wn.wc1_11] at this; exact this)
        subst hk
        have HB : Hid (∀ o : Obj, (wr.alloc o).heap[g]? = some (w3w y) ∧ SsP (wr.alloc o) (fun b => b ≠ g) (.slice uo x.len uc) x) := Lib.hid (fun o => ⟨block_alloc HI.out.blk o, HU.out.below ((Below.refl _ _).alloc (Nat.le_refl _) _)⟩)
        clear HE2 HU g0 g1 g2 gf0 gf1 gf2
        go_wp2_with fail
        refine (HQ.out y g _ _ (HB.out _).1 (HB.out _).2).mono ?_
        rintro e w1 ⟨rfl, h1⟩
        have HJ : Hid (Wi w w1 g (Wn.wcF y x)) := Lib.hid ⟨(HI.out.only.alloc _).trans h1.only, h1.blk⟩
        clear h1
        go_wp2_with fail
        exact ⟨⟨i + 1, _, by omega, by go_num, HJ, HE3⟩, by simp [intOf]; try omega⟩
      · have HE3 : Hid (Wn.wcF y (f.drop (i + 1)) = R) := Lib.hid (by have := HE2.out; rw [Wn.wc1_no hk] at this; exact this)
        have n2 : (k == 2) = false := beq_eq_false_iff_ne.2 (by omega)
        have n3 : (k == 3) = false := beq_eq_false_iff_ne.2 (by omega)
        have n4 : (k == 4) = false := beq_eq_false_iff_ne.2 (by omega)
        have n5 : (k == 5) = false := beq_eq_false_iff_ne.2 (by omega)
        have n6 : (k == 6) = false := beq_eq_false_iff_ne.2 (by omega)
        have n7 : (k == 7) = false := beq_eq_false_iff_ne.2 (by omega)
        have n8 : (k == 8) = false := beq_eq_false_iff_ne.2 (by omega)
        have n9 : (k == 9) = false := beq_eq_false_iff_ne.2 (by omega)
        have n10 : (k == 10) = false := beq_eq_false_iff_ne.2 (by omega)
        have n11 : (k == 11) = false := beq_eq_false_iff_ne.2 (by omega)
        clear HE2 HQ HU g0 g1 g2 gf0 gf1 gf2 hk
        go_wp2_with fail
        exact ⟨⟨i + 1, _, by omega, by go_num, Lib.hid (by (repeat (first | with_reducible exact HI.out | (with_reducible refine Wi.drew ?_) | (with_reducible refine Wi.alloc ?_ _) | (with_reducible refine Wi.set0 (y := y) ?_ _) | (with_reducible refine Wi.set1 (y := y) ?_ _) | (with_reducible refine Wi.set2 (y := y) ?_ _)))), HE3⟩, by simp [intOf]; try omega⟩
    · have HE2 : Hid (R = y) := Lib.hid (by rw [← HE.out, Wn.Ss.drop_len (by omega)]; rfl)
      have hni : ¬ (i : Int) < (f.len : Int) := by omega
      clear HE
      go_wp2_with fail
      refine ⟨rfl, .tuple #[], by simp [results, Try.results21], rfl, by rw [HE2.out]; exact HI.out⟩
theorem wcount_all : ∀ (n : Nat) (f : Wn.Ss), f.size < n → WCSaid f
  | 0, f, h => by omega
  | n + 1, f, h => wcount_step f fun g hg => wcount_all n g (by omega)
end Go.Proofs.Ytbjhiimjillleaa
set_option maxRecDepth 20000
namespace Wn
open Go.RowKit
def owStep (g : W3) (p : Int × List Sm) : W3 := wcF g (Ss.ofL p.2)
theorem ow_eq {g : W3} (h : wGood g) (p : Int × List Sm) : owStep g p = ofStep g p ∧ wGood (owStep g p) := by
  unfold owStep ofStep
  rw [wcF_eq _ _ h, cntF_eq 3 3 _ 0 (by unfold wrap64; omega), cntF_eq 4 10 _ 0 (by unfold wrap64; omega), cntF_eq 2 2 _ 0 (by unfold wrap64; omega)]
  refine ⟨?_, wAdd_good _ _⟩
  unfold wAdd
  simp only [w64_r, Int.zero_add]
theorem ow_fold : ∀ (l : List (Int × List Sm)) (g : W3), wGood g → l.foldl owStep g = l.foldl ofStep g ∧ wGood (l.foldl ofStep g)
  | [], g, h => ⟨rfl, h⟩
  | p :: l, g, h => by
    obtain ⟨h1, h2⟩ := ow_eq h p
    rw [List.foldl_cons, List.foldl_cons, h1]
    rw [h1] at h2
    exact ow_fold l _ h2
def owP (l : List (Int × List Sm)) : W3 := l.foldl owStep (0, 0, 0)
theorem w64_0 : wrap64 0 = 0 := by unfold wrap64; omega
theorem zGood : wGood (0, 0, 0) := ⟨w64_0, w64_0, w64_0⟩
theorem owP_eq (l : List (Int × List Sm)) : owP l = ofP l := (ow_fold l _ zGood).1
theorem ofP_good (l : List (Int × List Sm)) : wGood (ofP l) := (ow_fold l _ zGood).2
theorem ofC_good (c : Cx) : wGood (ofC c) := by
  obtain ⟨h1, h2, h3⟩ := ofP_good c.1
  unfold ofC ofEnd
  split
  · exact ⟨h1, h2, h3⟩
  · exact ⟨h1, h2, w64_w _⟩
theorem owP_step {l : List (Int × List Sm)} {k : Nat} {x : Int × List Sm} (h : l[k]? = some x) : owP (l.take (k + 1)) = wcF (owP (l.take k)) (Ss.ofL x.2) := by
  unfold owP
  rw [List.take_add_one, h, Option.toList_some, List.foldl_append]
  rfl
end Wn
namespace Go.Proofs.Ytbjhiimjillleaa
open Go.RowKit Go.Sort
/-- what the loop keeps: the selector that it got, the result's block, the block that it counts in -/
structure OfW (w W : World) (u y : Value) (g : Wn.W3) : Prop where
  bel : Below w.heap.size w W
  s : W.heap[w.heap.size]? = some (.cells #[u, y] 31)
  r : W.heap[w.heap.size + 1]? = some (w3w (0, 0, 0))
  g : W.heap[w.heap.size + 1 + 1]? = some (w3w g)
theorem OfW.alloc {w W : World} {u y : Value} {g : Wn.W3} (h : OfW w W u y g) (o : Obj) : OfW w (W.alloc o) u y g :=
  ⟨h.bel.alloc h.bel.size _, block_alloc h.s o, block_alloc h.r o, block_alloc h.g o⟩
theorem OfW.count {w W W' : World} {u y : Value} {g g' : Wn.W3} (h : OfW w W u y g) (h1 : Wi W W' (w.heap.size + 1 + 1) g') : OfW w W' u y g' :=
  ⟨⟨h1.only.os.trans h.bel.os, h1.only.tape.trans h.bel.tape, h1.only.output.trans h.bel.output, Nat.le_trans h.bel.size h1.only.size, fun k hk => (h1.only.block k (Nat.lt_of_lt_of_le hk h.bel.size) (by omega)).trans (h.bel.block k hk)⟩,
    (h1.only.block _ (lt_of_block h.s) (by omega)).trans h.s, (h1.only.block _ (lt_of_block h.r) (by omega)).trans h.r, h1.blk⟩
set_option maxRecDepth 100000 in
set_option maxHeartbeats 2000000 in
theorem wOf_v (c : Wn.Cx) (so : Option Addr) (sc : Nat) (w : World) (hv : ptK.P w (fun b => b < w.heap.size) (.slice so c.1.length sc) c.1) :
    Calls Try.prog 11 #[.agg #[.slice so c.1.length sc, .string (Wn.str c.2)]] w fun e w' => e = .returned (.agg #[.int .i64 (Wn.ofC c).1, .int .i64 (Wn.ofC c).2.1, .int .i64 (Wn.ofC c).2.2]) ∧ Below w.heap.size w w' := by
  obtain ⟨l, q⟩ := c
  dsimp only at hv ⊢
  obtain ⟨ao, cap, he, hc1, hc2⟩ := hv.form
  simp only [Value.slice.injEq, true_and] at he
  obtain ⟨rfl, rfl⟩ := he
  unfold maxLen at hc2
  have HV := Lib.hid hv
  clear hv
  have HMX : Hid (Wn.ofC (l, q) = Wn.ofEnd q (Wn.owP (l.take l.length))) := Lib.hid (by rw [List.take_length, Wn.owP_eq]; rfl)
  generalize Wn.ofC (l, q) = M at *
  have hq := str_list q
  generalize Wn.str q = y at *
  subst hq
  have HI0 : Hid (OfW w (((w.alloc (.cells #[.slice so l.length sc, .string y] 31)).alloc (w3w (0, 0, 0))).alloc (w3w (0, 0, 0))) (.slice so l.length sc) (.string y) (Wn.owP (l.take 0))) := Lib.hid ⟨(((Below.refl _ _).alloc (Nat.le_refl _) _).alloc (by simp) _).alloc (by simp; omega) _, block_alloc (block_alloc (heap_alloc_new w _) _) _, by
      have := heap_alloc_new (w.alloc (.cells #[.slice so l.length sc, .string y] 31)) (w3w (0, 0, 0))
      rw [show (w.alloc (.cells #[.slice so l.length sc, .string y] 31)).heap.size = w.heap.size + 1 by simp] at this
      exact block_alloc this _, by
      have := heap_alloc_new ((w.alloc (.cells #[.slice so l.length sc, .string y] 31)).alloc (w3w (0, 0, 0))) (w3w (0, 0, 0))
      rw [show ((w.alloc (.cells #[.slice so l.length sc, .string y] 31)).alloc (w3w (0, 0, 0))).heap.size = w.heap.size + 1 + 1 by simp] at this
      exact this⟩
  go_enter Try.func11, Try.ntmps11
  go_wp2_with fail
  generalize ((w.alloc (.cells #[.slice so l.length sc, .string y] 31)).alloc (w3w (0, 0, 0))).alloc (w3w (0, 0, 0)) = W0 at *
  go_loopw [9] (fun v9 wr => ∃ k : Nat, k ≤ l.length ∧ v9 = .int .i64 (k : Int) ∧ Hid (OfW w wr (.slice so l.length sc) (.string y) (Wn.owP (l.take k)))) (fun v9 _ => l.length - (intOf v9).toNat)
  case atStart => exact ⟨0, Nat.zero_le _, rfl, HI0⟩
  case round =>
    clear HI0
    obtain ⟨k, hk, rfl, HI⟩ := hrel
    by_cases hkl : k < l.length
    · have hki : (k : Int) < (l.length : Int) := by omega
      obtain ⟨x, hx⟩ : ∃ x, l[k]? = some x := ⟨l[k], List.getElem?_eq_getElem hkl⟩
      have HST := Lib.hid (Wn.owP_step hx)
      obtain ⟨b, o, cs, rfl, hb, _, hR, hL⟩ := (HV.out.same (fun b hb _ => HI.out.bel.block b hb) (fun _ h _ => h) : ptK.P wr (fun b => b < w.heap.size) _ l).at hx
      obtain ⟨u, rfl, hu⟩ := hR
      obtain ⟨po, pc, rfl, _, _⟩ := hu.form
      have j0 : wr.cell? ⟨b, o + k * 2, none⟩ = some (.int .i64 x.1) := hL 0 _ rfl
      have j1 : wr.cell? ⟨b, o + k * 2 + 1, none⟩ = some (.slice po x.2.length pc) := hL 1 _ rfl
      have hsz := HI.out.bel.size
      have hbn : ¬ b = wr.heap.size := by omega
      have hbl : b < wr.heap.size := by omega
      have HB : Hid (∀ ob : Obj, (wr.alloc ob).heap[w.heap.size + 1 + 1]? = some (w3w (Wn.owP (l.take k))) ∧ SsP (wr.alloc ob) (fun b => b ≠ w.heap.size + 1 + 1) (.slice po x.2.length pc) (Wn.Ss.ofL x.2)) := Lib.hid (fun ob => ⟨block_alloc HI.out.g ob, by
        refine SsP.k.2 ?_
        rw [Wn.Ss.toL_ofL]
        exact (hu.mono (fun b hb _ => by have : b < w.heap.size := hb; omega)).below ((Below.refl _ _).alloc (Nat.le_refl _) _)⟩)
      generalize x.2.length = xl at *
      generalize x.1 = x1 at *
      clear hL hu
      go_wp2_with fail
      refine (wcount_all _ (Wn.Ss.ofL x.2) (Nat.lt_succ_self _) _ _ _ _ (HB.out _).1 (HB.out _).2).mono ?_
      rintro e w1 ⟨rfl, h1⟩
      have HJ := Lib.hid ((HI.out.alloc _).count h1)
      rw [← HST.out] at HJ
      clear h1
      go_wp2_with fail
      exact ⟨⟨k + 1, by omega, by go_num, HJ⟩, by simp [intOf]; try omega⟩
    · have hkn : ¬ (k : Int) < (l.length : Int) := by omega
      have HE : Hid (M = Wn.ofEnd y.toList (Wn.owP (l.take k))) := Lib.hid (by rw [HMX.out, show k = l.length by omega])
      generalize Wn.owP (l.take k) = acc at *
      have hs := HI.out.s
      have s1 := cell_of_block (o := 1) hs
      have hg := HI.out.g
      have g0 := cell_of_block (o := 0) hg
      have g1 := cell_of_block (o := 1) hg
      have g2 := cell_of_block (o := 2) hg
      have gf2 := frozen_blk hg 2
      have hgl := lt_of_block hg
      have hr := HI.out.r
      have r0 := cell_of_block (o := 0) hr
      have r1 := cell_of_block (o := 1) hr
      have r2 := cell_of_block (o := 2) hr
      have rf0 := frozen_blk hr 0
      have rf1 := frozen_blk hr 1
      have rf2 := frozen_blk hr 2
      simp only [List.getElem?_toArray, List.getElem?_cons_zero, List.getElem?_cons_succ] at s1 g0 g1 g2 r0 r1 r2
      clear hr hs hg
      have HB2 := Lib.hid HI.out.bel
      cases hy : (y.toList == [])
      · have HE2 : Hid (M = (acc.1, acc.2.1, wrap64 (acc.2.2 + 1))) := Lib.hid (by rw [HE.out]; unfold Wn.ofEnd; exact if_neg (by simpa using hy))
        go_wp2_with fail
        refine bodyPost_ret (v := .agg #[.int .i64 acc.1, .int .i64 acc.2.1, .int .i64 (wrap64 (acc.2.2 + 1))]) (by simp [results, Try.results11, go_sem, r0, r1, r2]) rfl ⟨by rw [HE2.out], (by (repeat (first | with_reducible exact HB2.out | (with_reducible refine Below.drew ?_) | (with_reducible refine below_drewN' ?_ _) | ((with_reducible refine Below.setCell ?_ ?_ _); rotate_left; (focus (first | omega | (simp; done) | (simp; omega)))) | ((with_reducible refine Below.alloc ?_ ?_ _); rotate_left; (focus (first | omega | (simp; omega)))))))⟩
      · have HE2 : Hid (M = acc) := Lib.hid (by rw [HE.out]; unfold Wn.ofEnd; exact if_pos (by simpa using hy))
        go_wp2_with fail
        refine bodyPost_ret (v := .agg #[.int .i64 acc.1, .int .i64 acc.2.1, .int .i64 acc.2.2]) (by simp [results, Try.results11, go_sem, r0, r1, r2]) rfl ⟨by rw [HE2.out], (by (repeat (first | with_reducible exact HB2.out | (with_reducible refine Below.drew ?_) | (with_reducible refine below_drewN' ?_ _) | ((with_reducible refine Below.setCell ?_ ?_ _); rotate_left; (focus (first | omega | (simp; done) | (simp; omega)))) | ((with_reducible refine Below.alloc ?_ ?_ _); rotate_left; (focus (first | omega | (simp; omega)))))))⟩
end Go.Proofs.Ytbjhiimjillleaa
set_option maxRecDepth 20000
namespace Wn
def tW : List UInt8 := [35, 97, 32, 46, 98, 58, 110, 111, 116, 40, 99, 41, 44, 32, 42, 44, 32, 120, 58, 58, 98, 101, 102, 111, 114, 101]
def cWa : Cx := ([(0, [sNam 3 [97]]), (1, [sNam 4 [98], ⟨11, [], [], 0, 0, (sNam 2 [99]).on .nil⟩])], [])
def cWb : Cx := ([(0, [sBare 1])], [])
def cWc : Cx := ([(0, [sNam 2 [120]])], [98, 101, 102, 111, 114, 101])
set_option maxRecDepth 100000 in
theorem read_tW : selsRead tW = some [cWa, cWb, cWc] := by decide +kernel
theorem of_Wa : ofC cWa = (1, 1, 1) := by decide +kernel
theorem of_Wb : ofC cWb = (0, 0, 0) := by decide +kernel
theorem of_Wc : ofC cWc = (0, 0, 2) := by decide +kernel
end Wn
namespace Go.Proofs.Ytbjhiimjillleaa
open Go.RowKit Go.Sort
theorem read6 (w : World) : Calls Try.prog 20 #[.string ⟨#[35, 97, 32, 46, 98, 58, 110, 111, 116, 40, 99, 41, 44, 32, 42, 44, 32, 120, 58, 58, 98, 101, 102, 111, 114, 101]⟩] w fun e w' => ∃ v, e = .returned (.tuple #[v, .int .i64 0]) ∧ cxK.P w' (fun _ => True) v [Wn.cWa, Wn.cWb, Wn.cWc] ∧ Below w.heap.size w w' := by
  refine (r4Read ⟨#[35, 97, 32, 46, 98, 58, 110, 111, 116, 40, 99, 41, 44, 32, 42, 44, 32, 120, 58, 58, 98, 101, 102, 111, 114, 101]⟩ w (by show 26 ≤ _; omega)).mono ?_
  rintro e w1 ⟨v, c, rfl, b1, ⟨rfl, l, hl, hp⟩ | ⟨_, _, hn⟩⟩
  · have he : some l = some [Wn.cWa, Wn.cWb, Wn.cWc] := hl.symm.trans Wn.read_tW
    cases he
    exact ⟨v, rfl, hp.any, b1⟩
  · have he : none = some [Wn.cWa, Wn.cWb, Wn.cWc] := hn.symm.trans Wn.read_tW
    cases he
end Go.Proofs.Ytbjhiimjillleaa
set_option maxRecDepth 20000
namespace Go.Proofs.Ytbjhiimjillleaa
open Go.RowKit Go.Sort
/-- a slot that is set or not yet -/
def pIf (b : Bool) (d : Nat) (v : Value) (a : Act) : Act := if b then a.put (some d) v else a
theorem pIf_put {b : Bool} {d d' : Nat} {v v' : Value} {a : Act} (h : d ≠ d') : (pIf b d v a).put (some d') v' = pIf b d v (a.put (some d') v') := by
  cases b
  · rfl
  · exact Act.put_comm (x := some d) (y := some d') a v v' (fun e he => by simp only [Option.some.injEq] at he; subst he; simpa using (Ne.symm h))
theorem pIf_eval {b : Bool} {d t : Nat} {v : Value} {a : Act} (h : t ≠ d) : (pIf b d v a).eval (.tmp t) = a.eval (.tmp t) := by
  cases b
  · rfl
  · exact Act.eval_put (dst := some d) (fun e he => by simp only [Option.some.injEq] at he; subst he; simpa using h)
/-- the frame when so many calls have answered and these variables are made -/
def frW (x1 x2 x3 : Value) (c : Nat) (b3 b4 b5 : Bool) (A B C : Nat) (a0 : Act) : Act :=
  pIf b5 5 (.pointer (some ⟨C, 0, none⟩)) (pIf b4 4 (.pointer (some ⟨B, 0, none⟩)) (pIf b3 3 (.pointer (some ⟨A, 0, none⟩)) (pIf (decide (2 < c)) 24 x3 (pIf (decide (1 < c)) 20 x2 (pIf (decide (0 < c)) 16 x1 a0)))))
theorem frW_eval {x1 x2 x3 : Value} {c : Nat} {b3 b4 b5 : Bool} {A B C : Nat} {a0 : Act} {t : Nat} (h : t ≠ 3 ∧ t ≠ 4 ∧ t ≠ 5 ∧ t ≠ 16 ∧ t ≠ 20 ∧ t ≠ 24) : (frW x1 x2 x3 c b3 b4 b5 A B C a0).eval (.tmp t) = a0.eval (.tmp t) := by
  obtain ⟨h1, h2, h3, h4, h5, h6⟩ := h
  unfold frW
  rw [pIf_eval h3, pIf_eval h2, pIf_eval h1, pIf_eval h6, pIf_eval h5, pIf_eval h4]
/-- what has come up of eighteen operations, all that yields in any world among it -/
def liW (c : Nat) (b3 b4 b5 : Bool) : Array Bool := #[true, true, true, decide (0 < c), true, true, true, decide (1 < c), true, true, true, decide (2 < c), b3, b4, b5, false, false, false]
def rdW (c : Nat) (b3 b4 b5 : Bool) : List Nat := (if c < 3 then [4 * c + 3] else []) ++ ((if b3 then [] else [12]) ++ ((if b4 then [] else [13]) ++ (if b5 then [] else [14])))
/-- one operation of a region is carried out -/
def StepW (P : Program) (ops : Array Oper) (Q : Exit → Act → World → Prop) (i : Nat) (a : Act) (w : World) (K : Act → World → Prop) : Prop :=
  ∃ o, ops[i]? = some o ∧ if Region.wanted o (yielded ops a.tmps) = true then Oper.wp P o a w K Q else K (a.put o.dst undef) w
theorem StepW.op {P : Program} {ops : Array Oper} {Q : Exit → Act → World → Prop} {i : Nat} {a : Act} {w : World} {K : Act → World → Prop} (h : ∀ K', (∀ a w, K a w → K' a w) → StepW P ops Q i a w K') : wpOp P ops Q i K a w := by
  obtain ⟨o, ho, _⟩ := h K (fun _ _ h => h)
  refine wpOp_step ho fun K' hK => ?_
  obtain ⟨o', ho', h'⟩ := h K' hK
  rw [ho] at ho'
  cases ho'
  exact h'
/-- the variables that are made so far -/
structure MdW (w1 w : World) (z : Obj) (b3 b4 b5 : Bool) (A B C : Nat) : Prop where
  bel : Below w1.heap.size w1 w
  a : b3 = true → w1.heap.size ≤ A ∧ w.heap[A]? = some z
  b : b4 = true → w1.heap.size ≤ B ∧ w.heap[B]? = some z
  c : b5 = true → w1.heap.size ≤ C ∧ w.heap[C]? = some z
  ab : b3 = true → b4 = true → A ≠ B
  ac : b3 = true → b5 = true → A ≠ C
  bc : b4 = true → b5 = true → B ≠ C
theorem MdW.below {w1 w w' : World} {z : Obj} {b3 b4 b5 : Bool} {A B C : Nat} (h : MdW w1 w z b3 b4 b5 A B C) (hb : Below w.heap.size w w') : MdW w1 w' z b3 b4 b5 A B C :=
  ⟨h.bel.trans (hb.mono h.bel.size), fun e => ⟨(h.a e).1, block_lat hb (h.a e).2⟩, fun e => ⟨(h.b e).1, block_lat hb (h.b e).2⟩, fun e => ⟨(h.c e).1, block_lat hb (h.c e).2⟩, h.ab, h.ac, h.bc⟩
theorem MdW.alloc {w1 w : World} {z : Obj} {b3 b4 b5 : Bool} {A B C : Nat} (h : MdW w1 w z b3 b4 b5 A B C) : MdW w1 (w.alloc z) z b3 b4 b5 A B C := h.below ((Below.refl _ _).alloc (Nat.le_refl _) _)
theorem MdW.a' {w1 w : World} {z : Obj} {b4 b5 : Bool} {A B C : Nat} (h : MdW w1 w z false b4 b5 A B C) : MdW w1 (w.alloc z) z true b4 b5 w.heap.size B C :=
  ⟨h.alloc.bel, fun _ => ⟨h.bel.size, heap_alloc_new w z⟩, h.alloc.b, h.alloc.c, fun _ e => by have := lt_of_block (h.b e).2; omega, fun _ e => by have := lt_of_block (h.c e).2; omega, h.bc⟩
theorem MdW.b' {w1 w : World} {z : Obj} {b3 b5 : Bool} {A B C : Nat} (h : MdW w1 w z b3 false b5 A B C) : MdW w1 (w.alloc z) z b3 true b5 A w.heap.size C :=
  ⟨h.alloc.bel, h.alloc.a, fun _ => ⟨h.bel.size, heap_alloc_new w z⟩, h.alloc.c, fun e _ => by have := lt_of_block (h.a e).2; omega, h.ac, fun _ e => by have := lt_of_block (h.c e).2; omega⟩
theorem MdW.c' {w1 w : World} {z : Obj} {b3 b4 : Bool} {A B C : Nat} (h : MdW w1 w z b3 b4 false A B C) : MdW w1 (w.alloc z) z b3 b4 true A B w.heap.size :=
  ⟨h.alloc.bel, h.alloc.a, h.alloc.b, fun _ => ⟨h.bel.size, heap_alloc_new w z⟩, h.ab, fun e _ => by have := lt_of_block (h.a e).2; omega, fun e _ => by have := lt_of_block (h.b e).2; omega⟩
section
variable {P : Program} {ops : Array Oper} {Q : Exit → Act → World → Prop} {a0 : Act} {w1 : World} {x1 x2 x3 : Value} {z : Obj} {n0 : Nat}
theorem weave (hR : ∀ c b3 b4 b5, c ≤ 3 → (c < 3 ∨ b3 = false ∨ b4 = false ∨ b5 = false) → Region.ready .any ops (liW c b3 b4 b5) = rdW c b3 b4 b5)
    (hC1 : ∀ a w K, a.eval (.tmp 15) = a0.eval (.tmp 15) → Below w1.heap.size w1 w → (∀ w', Below w.heap.size w w' → K (a.put (some 16) x1) w') → StepW P ops Q 3 a w K)
    (hC2 : ∀ a w K, a.eval (.tmp 19) = a0.eval (.tmp 19) → Below w1.heap.size w1 w → (∀ w', Below w.heap.size w w' → K (a.put (some 20) x2) w') → StepW P ops Q 7 a w K)
    (hC3 : ∀ a w K, a.eval (.tmp 23) = a0.eval (.tmp 23) → Below w1.heap.size w1 w → (∀ w', Below w.heap.size w w' → K (a.put (some 24) x3) w') → StepW P ops Q 11 a w K)
    (hA : ∀ a w K, K (a.put (some 3) (.pointer (some ⟨w.heap.size, 0, none⟩))) (w.alloc z) → StepW P ops Q 12 a w K)
    (hB : ∀ a w K, K (a.put (some 4) (.pointer (some ⟨w.heap.size, 0, none⟩))) (w.alloc z) → StepW P ops Q 13 a w K)
    (hC : ∀ a w K, K (a.put (some 5) (.pointer (some ⟨w.heap.size, 0, none⟩))) (w.alloc z) → StepW P ops Q 14 a w K)
    (hE : ∀ A B C w, MdW w1 w z true true true A B C → wpAnyH P .any ops Q (fun W => Below w1.heap.size w1 W) n0 (liW 3 true true true) (frW x1 x2 x3 3 true true true A B C a0) w) :
    ∀ (m c : Nat) (b3 b4 b5 : Bool) (A B C : Nat) (w : World), c ≤ 3 → m = (3 - c) + ((!b3).toNat + ((!b4).toNat + (!b5).toNat)) → MdW w1 w z b3 b4 b5 A B C →
      wpAnyH P .any ops Q (fun W => Below w1.heap.size w1 W) (n0 + m) (liW c b3 b4 b5) (frW x1 x2 x3 c b3 b4 b5 A B C a0) w := by
  intro m
  induction m with
  | zero =>
    intro c b3 b4 b5 A B C w hc hm hd
    have h3 : c = 3 := by omega
    have e3 : b3 = true := by cases b3 <;> first | rfl | (exfalso; simp only [Bool.not_false, Bool.toNat_true] at hm; omega)
    have e4 : b4 = true := by cases b4 <;> first | rfl | (exfalso; simp only [Bool.not_false, Bool.toNat_true] at hm; omega)
    have e5 : b5 = true := by cases b5 <;> first | rfl | (exfalso; simp only [Bool.not_false, Bool.toNat_true] at hm; omega)
    subst h3 e3 e4 e5
    exact hE A B C w hd
  | succ m ih =>
    intro c b3 b4 b5 A B C w hc hm hd
    have hne : c < 3 ∨ b3 = false ∨ b4 = false ∨ b5 = false := by
      by_cases h : c < 3
      · exact .inl h
      · right
        cases b3 <;> cases b4 <;> cases b5 <;> first | exact .inl rfl | exact .inr (.inl rfl) | exact .inr (.inr rfl) | (exfalso; simp only [Bool.not_true, Bool.toNat_false] at hm; omega)
    refine wpAnyH_all (hR c b3 b4 b5 hc hne) ?_ ?_
    · unfold rdW
      rcases hne with h | h | h | h <;> simp [h]
    · intro i hi
      unfold rdW at hi
      simp only [List.mem_append] at hi
      rcases hi with hi | hi | hi | hi
      · by_cases h : c < 3
        · rw [if_pos h, List.mem_singleton] at hi
          subst hi
          have hc3 : c = 0 ∨ c = 1 ∨ c = 2 := by omega
          rcases hc3 with rfl | rfl | rfl
          · refine StepW.op fun K' hK => hC1 _ _ _ (frW_eval (by decide)) hd.bel fun w' hb => hK _ _ ⟨(hd.below hb).bel, ?_⟩
            have := ih 1 b3 b4 b5 A B C w' (by omega) (by omega) (hd.below hb)
            have e : (frW x1 x2 x3 0 b3 b4 b5 A B C a0).put (some 16) x1 = frW x1 x2 x3 1 b3 b4 b5 A B C a0 := by
              unfold frW
              rw [pIf_put (by decide), pIf_put (by decide), pIf_put (by decide)]
              rfl
            rw [e]
            exact this
          · refine StepW.op fun K' hK => hC2 _ _ _ (frW_eval (by decide)) hd.bel fun w' hb => hK _ _ ⟨(hd.below hb).bel, ?_⟩
            have := ih 2 b3 b4 b5 A B C w' (by omega) (by omega) (hd.below hb)
            have e : (frW x1 x2 x3 1 b3 b4 b5 A B C a0).put (some 20) x2 = frW x1 x2 x3 2 b3 b4 b5 A B C a0 := by
              unfold frW
              rw [pIf_put (by decide), pIf_put (by decide), pIf_put (by decide)]
              rfl
            rw [e]
            exact this
          · refine StepW.op fun K' hK => hC3 _ _ _ (frW_eval (by decide)) hd.bel fun w' hb => hK _ _ ⟨(hd.below hb).bel, ?_⟩
            have := ih 3 b3 b4 b5 A B C w' (by omega) (by omega) (hd.below hb)
            have e : (frW x1 x2 x3 2 b3 b4 b5 A B C a0).put (some 24) x3 = frW x1 x2 x3 3 b3 b4 b5 A B C a0 := by
              unfold frW
              rw [pIf_put (by decide), pIf_put (by decide), pIf_put (by decide)]
              rfl
            rw [e]
            exact this
        · rw [if_neg h] at hi; cases hi
      · cases b3
        · simp only [Bool.false_eq_true, if_false, List.mem_singleton] at hi
          subst hi
          refine StepW.op fun K' hK => hA _ _ _ (hK _ _ ⟨hd.alloc.bel, ?_⟩)
          have := ih c true b4 b5 w.heap.size B C _ hc (by simp at hm ⊢; omega) hd.a'
          have e : (frW x1 x2 x3 c false b4 b5 A B C a0).put (some 3) (.pointer (some ⟨w.heap.size, 0, none⟩)) = frW x1 x2 x3 c true b4 b5 w.heap.size B C a0 := by
            unfold frW
            rw [pIf_put (by decide), pIf_put (by decide)]
            rfl
          rw [e]
          exact this
        · simp at hi
      · cases b4
        · simp only [Bool.false_eq_true, if_false, List.mem_singleton] at hi
          subst hi
          refine StepW.op fun K' hK => hB _ _ _ (hK _ _ ⟨hd.alloc.bel, ?_⟩)
          have := ih c b3 true b5 A w.heap.size C _ hc (by simp at hm ⊢; omega) hd.b'
          have e : (frW x1 x2 x3 c b3 false b5 A B C a0).put (some 4) (.pointer (some ⟨w.heap.size, 0, none⟩)) = frW x1 x2 x3 c b3 true b5 A w.heap.size C a0 := by
            unfold frW
            rw [pIf_put (by decide)]
            rfl
          rw [e]
          exact this
        · simp at hi
      · cases b5
        · simp only [Bool.false_eq_true, if_false, List.mem_singleton] at hi
          subst hi
          refine StepW.op fun K' hK => hC _ _ _ (hK _ _ ⟨hd.alloc.bel, ?_⟩)
          have := ih c b3 b4 true A B w.heap.size _ hc (by simp at hm ⊢; omega) hd.c'
          have e : (frW x1 x2 x3 c b3 b4 false A B C a0).put (some 5) (.pointer (some ⟨w.heap.size, 0, none⟩)) = frW x1 x2 x3 c b3 b4 true A B w.heap.size a0 := by
            unfold frW
            rfl
          rw [e]
          exact this
        · simp at hi
theorem weave0 {w : World} (hR : ∀ c b3 b4 b5, c ≤ 3 → (c < 3 ∨ b3 = false ∨ b4 = false ∨ b5 = false) → Region.ready .any ops (liW c b3 b4 b5) = rdW c b3 b4 b5)
    (hC1 : ∀ a w K, a.eval (.tmp 15) = a0.eval (.tmp 15) → Below w1.heap.size w1 w → (∀ w', Below w.heap.size w w' → K (a.put (some 16) x1) w') → StepW P ops Q 3 a w K)
    (hC2 : ∀ a w K, a.eval (.tmp 19) = a0.eval (.tmp 19) → Below w1.heap.size w1 w → (∀ w', Below w.heap.size w w' → K (a.put (some 20) x2) w') → StepW P ops Q 7 a w K)
    (hC3 : ∀ a w K, a.eval (.tmp 23) = a0.eval (.tmp 23) → Below w1.heap.size w1 w → (∀ w', Below w.heap.size w w' → K (a.put (some 24) x3) w') → StepW P ops Q 11 a w K)
    (hA : ∀ a w K, K (a.put (some 3) (.pointer (some ⟨w.heap.size, 0, none⟩))) (w.alloc z) → StepW P ops Q 12 a w K)
    (hB : ∀ a w K, K (a.put (some 4) (.pointer (some ⟨w.heap.size, 0, none⟩))) (w.alloc z) → StepW P ops Q 13 a w K)
    (hC : ∀ a w K, K (a.put (some 5) (.pointer (some ⟨w.heap.size, 0, none⟩))) (w.alloc z) → StepW P ops Q 14 a w K)
    (hw : Below w1.heap.size w1 w)
    (hE : ∀ A B C w, MdW w1 w z true true true A B C → wpAnyH P .any ops Q (fun W => Below w1.heap.size w1 W) n0 #[true, true, true, true, true, true, true, true, true, true, true, true, true, true, true, false, false, false]
      ((((((a0.put (some 16) x1).put (some 20) x2).put (some 24) x3).put (some 3) (.pointer (some ⟨A, 0, none⟩))).put (some 4) (.pointer (some ⟨B, 0, none⟩))).put (some 5) (.pointer (some ⟨C, 0, none⟩))) w) :
    wpAnyH P .any ops Q (fun W => Below w1.heap.size w1 W) (n0 + 6) #[true, true, true, false, true, true, true, false, true, true, true, false, false, false, false, false, false, false] a0 w :=
  weave hR hC1 hC2 hC3 hA hB hC hE 6 0 false false false 0 0 0 w (by decide) (by decide) ⟨hw, fun h => (by cases h), fun h => (by cases h), fun h => (by cases h), fun h => (by cases h), fun h => (by cases h), fun h => (by cases h)⟩
end
end Go.Proofs.Ytbjhiimjillleaa
set_option maxRecDepth 20000
namespace Go.Proofs.Ytbjhiimjillleaa
open Go.RowKit Go.Sort
theorem eq3_run (x0 x1 x2 y0 y1 y2 : Int) (w : World) :
    (Op.equalIn 10000 27 (.agg #[.int .i64 x0, .int .i64 x1, .int .i64 x2]) (.agg #[.int .i64 y0, .int .i64 y1, .int .i64 y2])).run Try.prog w = .ok (x0 == y0 && (x1 == y1 && x2 == y2)) w := by
  have hi : ∃ i, Try.prog.info? 3 = some i := ⟨_, rfl⟩
  obtain ⟨i, hi⟩ := hi
  rw [run_equalIn_array (w := w) 9999 (t := 27) (e := 3) (n := 3) _ _ Try.underlying27 hi]
  have hc : Try.prog.cellsOf 3 = 1 := by kernel_rfl
  have hp : ∀ (xs : Array Value) (k : Nat) (v : Int), xs[k]? = some (.int .i64 v) → ∀ W, (part 3 xs k).run Try.prog W = .ok (.int .i64 v) W := by
    intro xs k v h W
    exact run_part_plain (w := W) (by kernel_rfl) h
  have he : ∀ (a b : Int) (W : World), (Op.equalIn 9999 3 (.int .i64 a) (.int .i64 b)).run Try.prog W = .ok (a == b) W := fun a b W => run_equalIn_int W 9998 _ _ .i64 a b Try.underlying3
  rw [hc]
  show (Op.eqItems 9999 3 1 _ _ [0, 1, 2]).run _ _ = _
  simp only [Op.eqItems, Sem.run_bind]
  rw [hp _ _ x0 rfl]
  simp only [Result.andThen_ok]
  rw [hp _ _ y0 rfl]
  simp only [Result.andThen_ok]
  rw [he]
  simp only [Result.andThen_ok]
  cases x0 == y0
  · simp
  · simp only [Bool.not_true, Bool.false_eq_true, if_false, Sem.run_bind, Bool.true_and]
    rw [hp _ _ x1 rfl]
    simp only [Result.andThen_ok]
    rw [hp _ _ y1 rfl]
    simp only [Result.andThen_ok]
    rw [he]
    simp only [Result.andThen_ok]
    cases x1 == y1
    · simp
    · simp only [Bool.not_true, Bool.false_eq_true, if_false, Sem.run_bind, Bool.true_and]
      rw [hp _ _ x2 rfl]
      simp only [Result.andThen_ok]
      rw [hp _ _ y2 rfl]
      simp only [Result.andThen_ok]
      rw [he]
      simp only [Result.andThen_ok]
      cases x2 == y2 <;> simp
end Go.Proofs.Ytbjhiimjillleaa
