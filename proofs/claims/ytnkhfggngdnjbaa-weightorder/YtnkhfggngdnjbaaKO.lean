/- WeightOrder: whatever the weights, the law answers true, and nothing that was there has turned. WeightOrder holds for all weights: the call returns true, and each argument reads afterwards as it read before. -/
import Derived.Test.YtnkhfggngdnjbaaKD
import Derived.Test.YtnkhfggngdnjbaaKE
import Derived.Test.YtnkhfggngdnjbaaKC
import Derived.Lib.QuietBelow
import Derived.Deep.Cut
import Derived.Test.YtnkhfggngdnjbaaGG
import Derived.Test.YtnkhfggngdnjbaaGH
set_option maxRecDepth 20000
namespace Go.Proofs.Ytnkhfggngdnjbaa
open Go.RowKit Go.Sort
abbrev w3a (g : Wn.W3) : Obj := .cells #[.int .i64 g.1, .int .i64 g.2.1, .int .i64 g.2.2] 24
theorem blocks3 (w : World) (a b c : Obj) : (((w.alloc a).alloc b).alloc c).heap[w.heap.size]? = some a ∧ (((w.alloc a).alloc b).alloc c).heap[w.heap.size + 1]? = some b ∧ (((w.alloc a).alloc b).alloc c).heap[w.heap.size + 1 + 1]? = some c ∧ Below w.heap.size w (((w.alloc a).alloc b).alloc c) := by
  have e1 : (w.alloc a).heap.size = w.heap.size + 1 := by simp
  have e2 : ((w.alloc a).alloc b).heap.size = w.heap.size + 1 + 1 := by simp
  refine ⟨block_alloc (block_alloc (heap_alloc_new w _) _) _, ?_, ?_, (((Below.refl _ _).alloc (Nat.le_refl _) _).alloc (by simp) _).alloc (by simp; omega) _⟩
  · have := block_alloc (heap_alloc_new (w.alloc a) b) c
    rw [e1] at this
    exact this
  · have := heap_alloc_new ((w.alloc a).alloc b) c
    rw [e2] at this
    exact this
set_option maxRecDepth 100000 in
set_option maxHeartbeats 8000000 in
theorem lwOrder_any (x y z : Wn.W3) (w : World) :
    Calls Try.prog 4 #[wV x, wV y, wV z] w fun e w' => e = .returned (.bool true) ∧ Below w.heap.size w w' := by
  obtain ⟨x0, x1, x2⟩ := x
  obtain ⟨y0, y1, y2⟩ := y
  obtain ⟨z0, z1, z2⟩ := z
  obtain ⟨hx, hy, hz, hb⟩ := blocks3 w (w3a (x0, x1, x2)) (w3a (y0, y1, y2)) (w3a (z0, z1, z2))
  have HX := Lib.hid hx
  have HY := Lib.hid hy
  have HZ := Lib.hid hz
  have HB := Lib.hid hb
  clear hx hy hz hb
  go_enter Try.func4, Try.ntmps4
  go_wp2_with fail
  generalize ((w.alloc (w3a (x0, x1, x2))).alloc (w3a (y0, y1, y2))).alloc (w3a (z0, z1, z2)) = W0 at *
  refine (fixed06 _).mono ?_
  rintro e w1 ⟨rfl, b1⟩
  have HX1 := Lib.hid (block_lat b1 HX.out)
  have HY1 := Lib.hid (block_lat b1 HY.out)
  have HZ1 := Lib.hid (block_lat b1 HZ.out)
  have HB1 := Lib.hid (HB.out.trans (b1.mono HB.out.size))
  clear b1 HX HY HZ HB
  go_wp2_with fail
  have x0' := cell_of_block (o := 0) HX1.out
  have x1' := cell_of_block (o := 1) HX1.out
  have x2' := cell_of_block (o := 2) HX1.out
  have y0' := cell_of_block (o := 0) HY1.out
  have y1' := cell_of_block (o := 1) HY1.out
  have y2' := cell_of_block (o := 2) HY1.out
  have z0' := cell_of_block (o := 0) HZ1.out
  have z1' := cell_of_block (o := 1) HZ1.out
  have z2' := cell_of_block (o := 2) HZ1.out
  simp only [List.getElem?_toArray, List.getElem?_cons_zero, List.getElem?_cons_succ] at x0' x1' x2' y0' y1' y2' z0' z1' z2'
  refine wp_region_held_drew (S := fun W => Below w1.heap.size w1 W) (by kernel_rfl) (Below.refl _ _).drew ?_
  intro hS
  have HJ : Hid (∀ W, Below w1.heap.size w1 W → (W.cell? ⟨w.heap.size, 0, none⟩ = some (.int .i64 x0) ∧ W.cell? ⟨w.heap.size, 0 + 1, none⟩ = some (.int .i64 x1) ∧ W.cell? ⟨w.heap.size, 0 + 2, none⟩ = some (.int .i64 x2)) ∧ (W.cell? ⟨w.heap.size + 1, 0, none⟩ = some (.int .i64 y0) ∧ W.cell? ⟨w.heap.size + 1, 0 + 1, none⟩ = some (.int .i64 y1) ∧ W.cell? ⟨w.heap.size + 1, 0 + 2, none⟩ = some (.int .i64 y2)) ∧ (W.cell? ⟨w.heap.size + 1 + 1, 0, none⟩ = some (.int .i64 z0) ∧ W.cell? ⟨w.heap.size + 1 + 1, 0 + 1, none⟩ = some (.int .i64 z1) ∧ W.cell? ⟨w.heap.size + 1 + 1, 0 + 2, none⟩ = some (.int .i64 z2))) := Lib.hid (fun W h => ⟨⟨cell_latq h x0', cell_latq h x1', cell_latq h x2'⟩, ⟨cell_latq h y0', cell_latq h y1', cell_latq h y2'⟩, ⟨cell_latq h z0', cell_latq h z1', cell_latq h z2'⟩⟩)
  clear x0' x1' x2' y0' y1' y2' z0' z1' z2' HX1 HY1 HZ1
  have hsz := HB1.out.size
  generalize w.heap.size + 1 + 1 = n2 at *
  generalize w.heap.size + 1 = n1 at *
  (refine wpAnyH_take (i := 0) (v := ?_) rfl (by kernel_rfl) (by kernel_rfl) (by kernel_rfl) (fun _ _ _ h => h) (Or.inl ⟨by rfl, ?hy⟩) (by assumption) ?_; (case hy => (intro W hSw; obtain ⟨⟨x0, x1, x2⟩, ⟨x3, x4, x5⟩, ⟨x6, x7, x8⟩⟩ := HJ.out W hSw; go_simp; (try with_reducible rfl))); simp only [Act.put])
  (refine wpAnyH_take (i := 1) (v := ?_) rfl (by kernel_rfl) (by kernel_rfl) (by kernel_rfl) (fun _ _ _ h => h) (Or.inl ⟨by rfl, ?hy⟩) (by assumption) ?_; (case hy => (intro W hSw; obtain ⟨⟨x0, x1, x2⟩, ⟨x3, x4, x5⟩, ⟨x6, x7, x8⟩⟩ := HJ.out W hSw; go_simp; (try with_reducible rfl))); simp only [Act.put])
  (refine wpAnyH_take (i := 2) (v := ?_) rfl (by kernel_rfl) (by kernel_rfl) (by kernel_rfl) (fun _ _ _ h => h) (Or.inl ⟨by rfl, ?hy⟩) (by assumption) ?_; (case hy => (intro W hSw; obtain ⟨⟨x0, x1, x2⟩, ⟨x3, x4, x5⟩, ⟨x6, x7, x8⟩⟩ := HJ.out W hSw; go_simp; (try with_reducible rfl))); simp only [Act.put])
  refine weaveA (w1 := w1) (z := w3w (0, 0, 0)) (d1 := 7) (d2 := 8) (d3 := 9) (i1 := 3) (i2 := 4) (i3 := 5) (n0 := 3) (fun a b c => #[true, true, true, a, b, c, false, false, false]) (fun _ _ => rfl) (fun _ _ => rfl) (fun _ _ => rfl) (by decide) ?hR ?hA ?hB ?hC (fun _ h => h) ?hE 3 false false false 0 0 0 _ rfl ⟨hS, fun h => (by cases h), fun h => (by cases h), fun h => (by cases h), fun h => (by cases h), fun h => (by cases h), fun h => (by cases h)⟩
  case hR =>
    intro b3 b4 b5 h
    cases b3 <;> cases b4 <;> cases b5 <;> first | (simp at h; done) | (show Region.ready _ _ _ = _; kernel_rfl)
  case hA =>
    intro a w K h
    refine ⟨_, rfl, ?_⟩
    go_simp
    exact h
  case hB =>
    intro a w K h
    refine ⟨_, rfl, ?_⟩
    go_simp
    exact h
  case hC =>
    intro a w K h
    refine ⟨_, rfl, ?_⟩
    go_simp
    exact h
  case hE =>
    intro A B C W2 hM
    clear hS HJ
    simp only [Act.put]
    obtain ⟨hbl, ha, hb, hc, hab, hac, hbc⟩ := hM
    obtain ⟨hNA, hA⟩ := ha rfl
    obtain ⟨hNB, hB⟩ := hb rfl
    obtain ⟨hNC, hC⟩ := hc rfl
    have hab := hab rfl rfl
    have hac := hac rfl rfl
    have hbc := hbc rfl rfl
    have HS : Hid (Below w1.heap.size w1 W2) := Lib.hid hbl
    have HA := Lib.hid hA
    have HB := Lib.hid hB
    have HC := Lib.hid hC
    clear ha hb hc hA hB hC hbl
    (have hlA := lt_of_block HA.out; have a0 := cell_of_block (o := 0) HA.out; have a1 := cell_of_block (o := 1) HA.out; have a2 := cell_of_block (o := 2) HA.out; have f0 := frozen_blk HA.out 0; have f1 := frozen_blk HA.out 1; have f2 := frozen_blk HA.out 2; simp only [List.getElem?_toArray, List.getElem?_cons_zero, List.getElem?_cons_succ] at a0 a1 a2; (refine wpAnyH_ready (rs := [6]) (by kernel_rfl) (by simp) ?_); (refine AllReadyH.cons rfl (fun K hK => ?_) AllReadyH.nil); go_simp; clear a0 a1 a2 f0 f1 f2 hlA; have HT := Lib.hid ((st3_below HS.out hNA (x0, x1, x2))); (refine hK.out _ _ HT.out ?_); intro hz; clear hz hK K)
    have HA2 := Lib.hid (st3_same (y := (x0, x1, x2)) HA.out)
    have HB2 := Lib.hid ((st3_other (y := (x0, x1, x2)) (W := W2) hab).trans HB.out)
    have HC2 := Lib.hid ((st3_other (y := (x0, x1, x2)) (W := W2) hac).trans HC.out)
    change wpAnyH _ _ _ _ _ _ _ _ (st3 W2 A (x0, x1, x2))
    generalize st3 W2 A (x0, x1, x2) = W3 at *
    clear HA HB HC HS
    (have hlA := lt_of_block HB2.out; have a0 := cell_of_block (o := 0) HB2.out; have a1 := cell_of_block (o := 1) HB2.out; have a2 := cell_of_block (o := 2) HB2.out; have f0 := frozen_blk HB2.out 0; have f1 := frozen_blk HB2.out 1; have f2 := frozen_blk HB2.out 2; simp only [List.getElem?_toArray, List.getElem?_cons_zero, List.getElem?_cons_succ] at a0 a1 a2; (refine wpAnyH_ready (rs := [7]) (by kernel_rfl) (by simp) ?_); (refine AllReadyH.cons rfl (fun K hK => ?_) AllReadyH.nil); go_simp; clear a0 a1 a2 f0 f1 f2 hlA; have HT := Lib.hid ((st3_below HT.out hNB (y0, y1, y2))); (refine hK.out _ _ HT.out ?_); intro hz; clear hz hK K)
    have HA3 := Lib.hid ((st3_other (y := (y0, y1, y2)) (W := W3) hab.symm).trans HA2.out)
    have HB3 := Lib.hid (st3_same (y := (y0, y1, y2)) HB2.out)
    have HC3 := Lib.hid ((st3_other (y := (y0, y1, y2)) (W := W3) hbc).trans HC2.out)
    change wpAnyH _ _ _ _ _ _ _ _ (st3 W3 B (y0, y1, y2))
    generalize st3 W3 B (y0, y1, y2) = W4 at *
    clear HA2 HB2 HC2
    (have hlA := lt_of_block HC3.out; have a0 := cell_of_block (o := 0) HC3.out; have a1 := cell_of_block (o := 1) HC3.out; have a2 := cell_of_block (o := 2) HC3.out; have f0 := frozen_blk HC3.out 0; have f1 := frozen_blk HC3.out 1; have f2 := frozen_blk HC3.out 2; simp only [List.getElem?_toArray, List.getElem?_cons_zero, List.getElem?_cons_succ] at a0 a1 a2; (refine wpAnyH_ready (rs := [8]) (by kernel_rfl) (by simp) ?_); (refine AllReadyH.cons rfl (fun K hK => ?_) AllReadyH.nil); go_simp; clear a0 a1 a2 f0 f1 f2 hlA; have HT := Lib.hid ((st3_below HT.out hNC (z0, z1, z2))); (refine hK.out _ _ HT.out ?_); intro hz; clear hz hK K)
    have HA4 := Lib.hid ((st3_other (y := (z0, z1, z2)) (W := W4) hac.symm).trans HA3.out)
    have HB4 := Lib.hid ((st3_other (y := (z0, z1, z2)) (W := W4) hbc.symm).trans HB3.out)
    have HC4 := Lib.hid (st3_same (y := (z0, z1, z2)) HC3.out)
    change wpAnyH _ _ _ _ _ _ _ _ (st3 W4 C (z0, z1, z2))
    generalize st3 W4 C (z0, z1, z2) = W5 at *
    clear HA3 HB3 HC3
    have HS5 : Hid (Below w.heap.size w W5) := Lib.hid (HB1.out.trans (HT.out.mono hsz))
    clear HT HB1
    refine wpAnyH_done (by kernel_rfl) ?_ _
    have hlA := lt_of_block HA4.out
    have hlB := lt_of_block HB4.out
    have hlC := lt_of_block HC4.out
    have a0 := cell_of_block (o := 0) HA4.out
    have a1 := cell_of_block (o := 1) HA4.out
    have a2 := cell_of_block (o := 2) HA4.out
    have b0 := cell_of_block (o := 0) HB4.out
    have b1 := cell_of_block (o := 1) HB4.out
    have b2 := cell_of_block (o := 2) HB4.out
    have c0 := cell_of_block (o := 0) HC4.out
    have c1 := cell_of_block (o := 1) HC4.out
    have c2 := cell_of_block (o := 2) HC4.out
    simp only [List.getElem?_toArray, List.getElem?_cons_zero, List.getElem?_cons_succ] at a0 a1 a2 b0 b1 b2 c0 c1 c2
    go_wp2_with fail
    generalize hm : Wn.wmax [(x0, x1, x2), (y0, y1, y2), (z0, z1, z2)] = m at *
    have HM := Lib.hid hm
    have HX : Hid (∀ (X : World) (t : Nat), Calls Try.prog 15 #[.slice (some ⟨X.heap.size, 0, none⟩) 3 3] (X.alloc (.cells #[.int .i64 x0, .int .i64 x1, .int .i64 x2, .int .i64 y0, .int .i64 y1, .int .i64 y2, .int .i64 z0, .int .i64 z1, .int .i64 z2] t)) fun e w' => e = .returned (wV m) ∧ Below X.heap.size X w') := Lib.hid (fun X t => by
      refine (wMax_v (.slice (some ⟨X.heap.size, 0, none⟩) 3 3) [(x0, x1, x2), (y0, y1, y2), (z0, z1, z2)] (X.alloc _) (RK.P.mk (K := wK) (es := [[.int .i64 x0, .int .i64 x1, .int .i64 x2], [.int .i64 y0, .int .i64 y1, .int .i64 y2], [.int .i64 z0, .int .i64 z1, .int .i64 z2]]) (heap_alloc_new X _) ⟨rfl, rfl, rfl, trivial⟩ rfl rfl (by simp) (by simp)) (by simp)).mono ?_
      rintro e w' ⟨he, hb⟩
      rw [HM.out] at he
      exact ⟨he, ((Below.refl _ _).alloc (Nat.le_refl _) _).trans (hb.mono (by simp))⟩)
    have HX2 : Hid (∀ (X : World) (t : Nat), Calls Try.prog 15 #[.slice (some ⟨X.heap.size, 0, none⟩) 3 3] (X.alloc (.cells #[.int .i64 z0, .int .i64 z1, .int .i64 z2, .int .i64 x0, .int .i64 x1, .int .i64 x2, .int .i64 y0, .int .i64 y1, .int .i64 y2] t)) fun e w' => e = .returned (wV m) ∧ Below (X.alloc (.cells #[.int .i64 z0, .int .i64 z1, .int .i64 z2, .int .i64 x0, .int .i64 x1, .int .i64 x2, .int .i64 y0, .int .i64 y1, .int .i64 y2] t)).heap.size (X.alloc (.cells #[.int .i64 z0, .int .i64 z1, .int .i64 z2, .int .i64 x0, .int .i64 x1, .int .i64 x2, .int .i64 y0, .int .i64 y1, .int .i64 y2] t)) w') := Lib.hid (fun X t => by
      refine (wMax_v (.slice (some ⟨X.heap.size, 0, none⟩) 3 3) [(z0, z1, z2), (x0, x1, x2), (y0, y1, y2)] (X.alloc _) (RK.P.mk (K := wK) (es := [[.int .i64 z0, .int .i64 z1, .int .i64 z2], [.int .i64 x0, .int .i64 x1, .int .i64 x2], [.int .i64 y0, .int .i64 y1, .int .i64 y2]]) (heap_alloc_new X _) ⟨rfl, rfl, rfl, trivial⟩ rfl rfl (by simp) (by simp)) (by simp)).mono ?_
      rintro e w' ⟨he, hb⟩
      have hu : Wn.wmax [(z0, z1, z2), (x0, x1, x2), (y0, y1, y2)] = m := by
        rw [← HM.out]
        exact Wn.IsMax.uniq (Wn.wmax_is (by simp)) (Wn.wmax_is (by simp)) (fun x => by simp only [List.mem_cons, List.not_mem_nil, or_false]; constructor <;> (rintro (h | h | h) <;> simp [h]))
      rw [hu] at he
      exact ⟨he, hb⟩)
    have hmax : Wn.IsMax m [(x0, x1, x2), (y0, y1, y2), (z0, z1, z2)] := by rw [← HM.out]; exact Wn.wmax_is (by simp)
    have HMX := Lib.hid hmax
    clear hm hmax HM
    obtain ⟨m0, m1, m2⟩ := m
    refine (HX.out _ _).mono ?_
    rintro e w6 ⟨rfl, b6⟩
    have HA6 := Lib.hid (block_lat b6 HA4.out)
    have HB6 := Lib.hid (block_lat b6 HB4.out)
    have HC6 := Lib.hid (block_lat b6 HC4.out)
    have HS6 := Lib.hid (HS5.out.trans (b6.mono HS5.out.size))
    clear a0 a1 a2 b0 b1 b2 c0 c1 c2 b6 HA4 HB4 HC4 HS5 hlA hlB hlC HX
    go_wp2_with fail
    have HA7 := Lib.hid (block_alloc HA6.out (w3w (m0, m1, m2)))
    have HB7 := Lib.hid (block_alloc HB6.out (w3w (m0, m1, m2)))
    have HC7 := Lib.hid (block_alloc HC6.out (w3w (m0, m1, m2)))
    have HD7 := Lib.hid (heap_alloc_new w6 (w3w (m0, m1, m2)))
    have HS7 := Lib.hid (HS6.out.alloc HS6.out.size (w3w (m0, m1, m2)))
    generalize w6.alloc (w3w (m0, m1, m2)) = W7 at *
    generalize w6.heap.size = D at *
    clear HA6 HB6 HC6 HS6
    have a0 := cell_regrown (cell_of_block (o := 0) HA7.out : W7.cell? ⟨A, 0, none⟩ = some (.int .i64 x0))
    have a1 := cell_regrown (cell_of_block (o := 1) HA7.out : W7.cell? ⟨A, 0 + 1, none⟩ = some (.int .i64 x1))
    have a2 := cell_regrown (cell_of_block (o := 2) HA7.out : W7.cell? ⟨A, 0 + 2, none⟩ = some (.int .i64 x2))
    have b0 := cell_regrown (cell_of_block (o := 0) HB7.out : W7.cell? ⟨B, 0, none⟩ = some (.int .i64 y0))
    have b1 := cell_regrown (cell_of_block (o := 1) HB7.out : W7.cell? ⟨B, 0 + 1, none⟩ = some (.int .i64 y1))
    have b2 := cell_regrown (cell_of_block (o := 2) HB7.out : W7.cell? ⟨B, 0 + 2, none⟩ = some (.int .i64 y2))
    have c0 := cell_regrown (cell_of_block (o := 0) HC7.out : W7.cell? ⟨C, 0, none⟩ = some (.int .i64 z0))
    have c1 := cell_regrown (cell_of_block (o := 1) HC7.out : W7.cell? ⟨C, 0 + 1, none⟩ = some (.int .i64 z1))
    have c2 := cell_regrown (cell_of_block (o := 2) HC7.out : W7.cell? ⟨C, 0 + 2, none⟩ = some (.int .i64 z2))
    have C12 : Hid (∀ d os, Calls Try.prog 13 #[wV (x0, x1, x2), wV (y0, y1, y2)] (grow (redrawn W7 d) os) fun e w'' => e = .returned (.bool (Wn.wless (x0, x1, x2) (y0, y1, y2))) ∧ ∃ p : Regrown, w'' = grow (redrawn W7 p.d) p.os) := Lib.hid (fun d os => Calls.regrown_of (less_v (x0, x1, x2) (y0, y1, y2) _))
    have C21 : Hid (∀ d os, Calls Try.prog 13 #[wV (y0, y1, y2), wV (x0, x1, x2)] (grow (redrawn W7 d) os) fun e w'' => e = .returned (.bool (Wn.wless (y0, y1, y2) (x0, x1, x2))) ∧ ∃ p : Regrown, w'' = grow (redrawn W7 p.d) p.os) := Lib.hid (fun d os => Calls.regrown_of (less_v (y0, y1, y2) (x0, x1, x2) _))
    have C23 : Hid (∀ d os, Calls Try.prog 13 #[wV (y0, y1, y2), wV (z0, z1, z2)] (grow (redrawn W7 d) os) fun e w'' => e = .returned (.bool (Wn.wless (y0, y1, y2) (z0, z1, z2))) ∧ ∃ p : Regrown, w'' = grow (redrawn W7 p.d) p.os) := Lib.hid (fun d os => Calls.regrown_of (less_v (y0, y1, y2) (z0, z1, z2) _))
    have C13 : Hid (∀ d os, Calls Try.prog 13 #[wV (x0, x1, x2), wV (z0, z1, z2)] (grow (redrawn W7 d) os) fun e w'' => e = .returned (.bool (Wn.wless (x0, x1, x2) (z0, z1, z2))) ∧ ∃ p : Regrown, w'' = grow (redrawn W7 p.d) p.os) := Lib.hid (fun d os => Calls.regrown_of (less_v (x0, x1, x2) (z0, z1, z2) _))
    have hE12 : ∀ W : World, (Op.equalIn 10000 27 (wV (x0, x1, x2)) (wV (y0, y1, y2))).run Try.prog W = .ok (!(Wn.wless (x0, x1, x2) (y0, y1, y2) || Wn.wless (y0, y1, y2) (x0, x1, x2))) W := fun W => by rw [← Wn.weq_less]; exact eq3_run _ _ _ _ _ _ W
    have hcs : (Wn.wless (x0, x1, x2) (y0, y1, y2) = true ∧ Wn.wless (y0, y1, y2) (x0, x1, x2) = false ∧ ((Wn.wless (y0, y1, y2) (z0, z1, z2) = true ∧ Wn.wless (x0, x1, x2) (z0, z1, z2) = true) ∨ Wn.wless (y0, y1, y2) (z0, z1, z2) = false)) ∨ (Wn.wless (x0, x1, x2) (y0, y1, y2) = false ∧ Wn.wless (y0, y1, y2) (x0, x1, x2) = true) ∨ (Wn.wless (x0, x1, x2) (y0, y1, y2) = false ∧ Wn.wless (y0, y1, y2) (x0, x1, x2) = false) := by
      cases h1 : Wn.wless (x0, x1, x2) (y0, y1, y2)
      · cases Wn.wless (y0, y1, y2) (x0, x1, x2) <;> simp
      · refine .inl ⟨rfl, Wn.wless_asym h1, ?_⟩
        cases h2 : Wn.wless (y0, y1, y2) (z0, z1, z2)
        · exact .inr rfl
        · exact .inl ⟨rfl, Wn.wless_trans h1 h2⟩
    have hem : (Wn.weq (m0, m1, m2) (x0, x1, x2) = true) ∨ (Wn.weq (m0, m1, m2) (x0, x1, x2) = false ∧ Wn.weq (m0, m1, m2) (y0, y1, y2) = true) ∨ (Wn.weq (m0, m1, m2) (x0, x1, x2) = false ∧ Wn.weq (m0, m1, m2) (y0, y1, y2) = false ∧ Wn.weq (m0, m1, m2) (z0, z1, z2) = true) := by
      have h := HMX.out.1
      simp only [List.mem_cons, List.not_mem_nil, or_false, ← Wn.weq_iff] at h
      cases h1 : Wn.weq (m0, m1, m2) (x0, x1, x2)
      · cases h2 : Wn.weq (m0, m1, m2) (y0, y1, y2)
        · rw [h1, h2] at h
          exact .inr (.inr ⟨rfl, rfl, by simpa using h⟩)
        · exact .inr (.inl ⟨rfl, rfl⟩)
      · exact .inl rfl
    have HEM := Lib.hid hem
    have E1 : Hid (∀ W : World, (Op.equalIn 10000 27 (wV (m0, m1, m2)) (wV (x0, x1, x2))).run Try.prog W = .ok (Wn.weq (m0, m1, m2) (x0, x1, x2)) W) := Lib.hid (fun W => eq3_run _ _ _ _ _ _ W)
    have E2 : Hid (∀ W : World, (Op.equalIn 10000 27 (wV (m0, m1, m2)) (wV (y0, y1, y2))).run Try.prog W = .ok (Wn.weq (m0, m1, m2) (y0, y1, y2)) W) := Lib.hid (fun W => eq3_run _ _ _ _ _ _ W)
    have E3 : Hid (∀ W : World, (Op.equalIn 10000 27 (wV (m0, m1, m2)) (wV (z0, z1, z2))).run Try.prog W = .ok (Wn.weq (m0, m1, m2) (z0, z1, z2)) W) := Lib.hid (fun W => eq3_run _ _ _ _ _ _ W)
    have E0 : Hid (∀ W : World, (Op.equalIn 10000 27 (wV (m0, m1, m2)) (wV (m0, m1, m2))).run Try.prog W = .ok true W) := Lib.hid (fun W => by have := eq3_run m0 m1 m2 m0 m1 m2 W; simpa using this)
    have M1 : Hid (∀ W, Calls Try.prog 13 #[wV (m0, m1, m2), wV (x0, x1, x2)] W fun e w' => e = .returned (.bool false) ∧ Below W.heap.size W w') := Lib.hid (fun W => by have := less_v (m0, m1, m2) (x0, x1, x2) W; rw [HMX.out.2 _ (by simp)] at this; exact this)
    have M2 : Hid (∀ W, Calls Try.prog 13 #[wV (m0, m1, m2), wV (y0, y1, y2)] W fun e w' => e = .returned (.bool false) ∧ Below W.heap.size W w') := Lib.hid (fun W => by have := less_v (m0, m1, m2) (y0, y1, y2) W; rw [HMX.out.2 _ (by simp)] at this; exact this)
    have M3 : Hid (∀ W, Calls Try.prog 13 #[wV (m0, m1, m2), wV (z0, z1, z2)] W fun e w' => e = .returned (.bool false) ∧ Below W.heap.size W w') := Lib.hid (fun W => by have := less_v (m0, m1, m2) (z0, z1, z2) W; rw [HMX.out.2 _ (by simp)] at this; exact this)
    have HSM : Hid (∀ W W' : World, (Below w.heap.size w W ∧ W.cell? ⟨A, 0, none⟩ = some (.int .i64 x0) ∧ W.cell? ⟨A, 0 + 1, none⟩ = some (.int .i64 x1) ∧ W.cell? ⟨A, 0 + 2, none⟩ = some (.int .i64 x2) ∧ W.cell? ⟨B, 0, none⟩ = some (.int .i64 y0) ∧ W.cell? ⟨B, 0 + 1, none⟩ = some (.int .i64 y1) ∧ W.cell? ⟨B, 0 + 2, none⟩ = some (.int .i64 y2) ∧ W.cell? ⟨C, 0, none⟩ = some (.int .i64 z0) ∧ W.cell? ⟨C, 0 + 1, none⟩ = some (.int .i64 z1) ∧ W.cell? ⟨C, 0 + 2, none⟩ = some (.int .i64 z2) ∧ W.cell? ⟨D, 0, none⟩ = some (.int .i64 m0) ∧ W.cell? ⟨D, 0 + 1, none⟩ = some (.int .i64 m1) ∧ W.cell? ⟨D, 0 + 2, none⟩ = some (.int .i64 m2)) → Below W.heap.size W W' → (Below w.heap.size w W' ∧ W'.cell? ⟨A, 0, none⟩ = some (.int .i64 x0) ∧ W'.cell? ⟨A, 0 + 1, none⟩ = some (.int .i64 x1) ∧ W'.cell? ⟨A, 0 + 2, none⟩ = some (.int .i64 x2) ∧ W'.cell? ⟨B, 0, none⟩ = some (.int .i64 y0) ∧ W'.cell? ⟨B, 0 + 1, none⟩ = some (.int .i64 y1) ∧ W'.cell? ⟨B, 0 + 2, none⟩ = some (.int .i64 y2) ∧ W'.cell? ⟨C, 0, none⟩ = some (.int .i64 z0) ∧ W'.cell? ⟨C, 0 + 1, none⟩ = some (.int .i64 z1) ∧ W'.cell? ⟨C, 0 + 2, none⟩ = some (.int .i64 z2) ∧ W'.cell? ⟨D, 0, none⟩ = some (.int .i64 m0) ∧ W'.cell? ⟨D, 0 + 1, none⟩ = some (.int .i64 m1) ∧ W'.cell? ⟨D, 0 + 2, none⟩ = some (.int .i64 m2))) := Lib.hid (fun W W' h hb => by
      obtain ⟨h0, h1, h2, h3, h4, h5, h6, h7, h8, h9, h10, h11, h12⟩ := h
      exact ⟨h0.trans (hb.mono h0.size), cell_latq hb h1, cell_latq hb h2, cell_latq hb h3, cell_latq hb h4, cell_latq hb h5, cell_latq hb h6, cell_latq hb h7, cell_latq hb h8, cell_latq hb h9, cell_latq hb h10, cell_latq hb h11, cell_latq hb h12⟩)
    have HS8 : Hid (Below w.heap.size w W7 ∧ W7.cell? ⟨A, 0, none⟩ = some (.int .i64 x0) ∧ W7.cell? ⟨A, 0 + 1, none⟩ = some (.int .i64 x1) ∧ W7.cell? ⟨A, 0 + 2, none⟩ = some (.int .i64 x2) ∧ W7.cell? ⟨B, 0, none⟩ = some (.int .i64 y0) ∧ W7.cell? ⟨B, 0 + 1, none⟩ = some (.int .i64 y1) ∧ W7.cell? ⟨B, 0 + 2, none⟩ = some (.int .i64 y2) ∧ W7.cell? ⟨C, 0, none⟩ = some (.int .i64 z0) ∧ W7.cell? ⟨C, 0 + 1, none⟩ = some (.int .i64 z1) ∧ W7.cell? ⟨C, 0 + 2, none⟩ = some (.int .i64 z2) ∧ W7.cell? ⟨D, 0, none⟩ = some (.int .i64 m0) ∧ W7.cell? ⟨D, 0 + 1, none⟩ = some (.int .i64 m1) ∧ W7.cell? ⟨D, 0 + 2, none⟩ = some (.int .i64 m2)) := Lib.hid ⟨HS7.out, cell_of_block HA7.out, cell_of_block HA7.out, cell_of_block HA7.out, cell_of_block HB7.out, cell_of_block HB7.out, cell_of_block HB7.out, cell_of_block HC7.out, cell_of_block HC7.out, cell_of_block HC7.out, cell_of_block HD7.out, cell_of_block HD7.out, cell_of_block HD7.out⟩
    clear hem HMX HA7 HB7 HC7 HD7 HS7 hNA hNB hNC hab hac hbc
    generalize Wn.wless (x0, x1, x2) (y0, y1, y2) = l12 at *
    generalize Wn.wless (y0, y1, y2) (x0, x1, x2) = l21 at *
    generalize Wn.wless (y0, y1, y2) (z0, z1, z2) = l23 at *
    generalize Wn.wless (x0, x1, x2) (z0, z1, z2) = l13 at *
    generalize Wn.weq (m0, m1, m2) (x0, x1, x2) = q1 at *
    generalize Wn.weq (m0, m1, m2) (y0, y1, y2) = q2 at *
    generalize Wn.weq (m0, m1, m2) (z0, z1, z2) = q3 at *
    go_cut [58] from 21 (fun s58 w' => s58 = .bool false ∧ Hid (Below w.heap.size w w' ∧ w'.cell? ⟨A, 0, none⟩ = some (.int .i64 x0) ∧ w'.cell? ⟨A, 0 + 1, none⟩ = some (.int .i64 x1) ∧ w'.cell? ⟨A, 0 + 2, none⟩ = some (.int .i64 x2) ∧ w'.cell? ⟨B, 0, none⟩ = some (.int .i64 y0) ∧ w'.cell? ⟨B, 0 + 1, none⟩ = some (.int .i64 y1) ∧ w'.cell? ⟨B, 0 + 2, none⟩ = some (.int .i64 y2) ∧ w'.cell? ⟨C, 0, none⟩ = some (.int .i64 z0) ∧ w'.cell? ⟨C, 0 + 1, none⟩ = some (.int .i64 z1) ∧ w'.cell? ⟨C, 0 + 2, none⟩ = some (.int .i64 z2) ∧ w'.cell? ⟨D, 0, none⟩ = some (.int .i64 m0) ∧ w'.cell? ⟨D, 0 + 1, none⟩ = some (.int .i64 m1) ∧ w'.cell? ⟨D, 0 + 2, none⟩ = some (.int .i64 m2)))
    case first =>
      clear E0 E1 E2 E3 M1 M2 M3 HX2 HEM
      rcases hcs with ⟨rfl, rfl, ⟨rfl, rfl⟩ | rfl⟩ | ⟨rfl, rfl⟩ | ⟨rfl, rfl⟩
      all_goals
        simp only [Bool.or_false, Bool.or_true, Bool.not_true, Bool.not_false] at hE12
        (refine wp_region_quiet_below (by kernel_rfl) (by kernel_rfl) ?_); (repeat (first | go_big_quiet_skip | quiet_step (first | with_reducible exact C12.out _ _ | with_reducible exact C21.out _ _ | with_reducible exact C23.out _ _ | with_reducible exact C13.out _ _))); (refine wpQuiet_nil ?_); intro _ hw'; obtain ⟨⟨dq, osq⟩, hw''⟩ := hw'; subst hw''
        go_wp2_with fail
        go_meet
        case rel => exact ⟨rfl, Lib.hid (HSM.out _ _ HS8.out (below_regrown W7 dq osq))⟩
    case rest =>
      clear a0 a1 a2 b0 b1 b2 c0 c1 c2 C12 C21 C23 C13 hE12 hcs HS8
      obtain ⟨rfl, HS9⟩ := hcut
      generalize wc = W8 at *
      go_wp2_with fail
      have HF : Hid (∀ W : World, (Below w.heap.size w W ∧ W.cell? ⟨A, 0, none⟩ = some (.int .i64 x0) ∧ W.cell? ⟨A, 0 + 1, none⟩ = some (.int .i64 x1) ∧ W.cell? ⟨A, 0 + 2, none⟩ = some (.int .i64 x2) ∧ W.cell? ⟨B, 0, none⟩ = some (.int .i64 y0) ∧ W.cell? ⟨B, 0 + 1, none⟩ = some (.int .i64 y1) ∧ W.cell? ⟨B, 0 + 2, none⟩ = some (.int .i64 y2) ∧ W.cell? ⟨C, 0, none⟩ = some (.int .i64 z0) ∧ W.cell? ⟨C, 0 + 1, none⟩ = some (.int .i64 z1) ∧ W.cell? ⟨C, 0 + 2, none⟩ = some (.int .i64 z2) ∧ W.cell? ⟨D, 0, none⟩ = some (.int .i64 m0) ∧ W.cell? ⟨D, 0 + 1, none⟩ = some (.int .i64 m1) ∧ W.cell? ⟨D, 0 + 2, none⟩ = some (.int .i64 m2)) → Below w.heap.size w W) := Lib.hid (fun _ h => h.1)
      have e0 := E0.out
      refine wp_region_held_drew (S := fun W => Below w.heap.size w W ∧ W.cell? ⟨A, 0, none⟩ = some (.int .i64 x0) ∧ W.cell? ⟨A, 0 + 1, none⟩ = some (.int .i64 x1) ∧ W.cell? ⟨A, 0 + 2, none⟩ = some (.int .i64 x2) ∧ W.cell? ⟨B, 0, none⟩ = some (.int .i64 y0) ∧ W.cell? ⟨B, 0 + 1, none⟩ = some (.int .i64 y1) ∧ W.cell? ⟨B, 0 + 2, none⟩ = some (.int .i64 y2) ∧ W.cell? ⟨C, 0, none⟩ = some (.int .i64 z0) ∧ W.cell? ⟨C, 0 + 1, none⟩ = some (.int .i64 z1) ∧ W.cell? ⟨C, 0 + 2, none⟩ = some (.int .i64 z2) ∧ W.cell? ⟨D, 0, none⟩ = some (.int .i64 m0) ∧ W.cell? ⟨D, 0 + 1, none⟩ = some (.int .i64 m1) ∧ W.cell? ⟨D, 0 + 2, none⟩ = some (.int .i64 m2)) (by kernel_rfl) (HSM.out _ _ HS9.out (Below.refl _ _).drew) ?_
      intro hS
      have HJ : Hid (∀ W : World, (Below w.heap.size w W ∧ W.cell? ⟨A, 0, none⟩ = some (.int .i64 x0) ∧ W.cell? ⟨A, 0 + 1, none⟩ = some (.int .i64 x1) ∧ W.cell? ⟨A, 0 + 2, none⟩ = some (.int .i64 x2) ∧ W.cell? ⟨B, 0, none⟩ = some (.int .i64 y0) ∧ W.cell? ⟨B, 0 + 1, none⟩ = some (.int .i64 y1) ∧ W.cell? ⟨B, 0 + 2, none⟩ = some (.int .i64 y2) ∧ W.cell? ⟨C, 0, none⟩ = some (.int .i64 z0) ∧ W.cell? ⟨C, 0 + 1, none⟩ = some (.int .i64 z1) ∧ W.cell? ⟨C, 0 + 2, none⟩ = some (.int .i64 z2) ∧ W.cell? ⟨D, 0, none⟩ = some (.int .i64 m0) ∧ W.cell? ⟨D, 0 + 1, none⟩ = some (.int .i64 m1) ∧ W.cell? ⟨D, 0 + 2, none⟩ = some (.int .i64 m2)) → (Below w.heap.size w W ∧ W.cell? ⟨A, 0, none⟩ = some (.int .i64 x0) ∧ W.cell? ⟨A, 0 + 1, none⟩ = some (.int .i64 x1) ∧ W.cell? ⟨A, 0 + 2, none⟩ = some (.int .i64 x2) ∧ W.cell? ⟨B, 0, none⟩ = some (.int .i64 y0) ∧ W.cell? ⟨B, 0 + 1, none⟩ = some (.int .i64 y1) ∧ W.cell? ⟨B, 0 + 2, none⟩ = some (.int .i64 y2) ∧ W.cell? ⟨C, 0, none⟩ = some (.int .i64 z0) ∧ W.cell? ⟨C, 0 + 1, none⟩ = some (.int .i64 z1) ∧ W.cell? ⟨C, 0 + 2, none⟩ = some (.int .i64 z2) ∧ W.cell? ⟨D, 0, none⟩ = some (.int .i64 m0) ∧ W.cell? ⟨D, 0 + 1, none⟩ = some (.int .i64 m1) ∧ W.cell? ⟨D, 0 + 2, none⟩ = some (.int .i64 m2))) := Lib.hid (fun _ h => h)
      rcases HEM.out with rfl | ⟨rfl, rfl⟩ | ⟨rfl, rfl, rfl⟩
      · have e1 := E1.out
        clear E1 E2 E3 E0
        (refine wpAnyH_take (i := 0) (v := ?_) rfl (by kernel_rfl) (by kernel_rfl) (by kernel_rfl) (fun _ _ _ h => h) (Or.inl ⟨by kernel_rfl, ?hy⟩) (by assumption) ?_; (case hy => (intro W hSw; obtain ⟨_, x0, x1, x2, x3, x4, x5, x6, x7, x8, x9, x10, x11⟩ := HJ.out W hSw; go_simp; (try with_reducible rfl))); (change wpAnyH _ _ _ _ _ _ _ (Act.put _ (some 59) _) _); simp only [Act.put])
        (refine wpAnyH_take (i := 1) (v := ?_) rfl (by kernel_rfl) (by kernel_rfl) (by kernel_rfl) (fun _ _ _ h => h) (Or.inl ⟨by kernel_rfl, ?hy⟩) (by assumption) ?_; (case hy => (intro W hSw; obtain ⟨_, x0, x1, x2, x3, x4, x5, x6, x7, x8, x9, x10, x11⟩ := HJ.out W hSw; go_simp; (try with_reducible rfl))); (change wpAnyH _ _ _ _ _ _ _ (Act.put _ (some 60) _) _); simp only [Act.put])
        (refine wpAnyH_take (i := 2) (v := ?_) rfl (by kernel_rfl) (by kernel_rfl) (by kernel_rfl) (fun _ _ _ h => h) (Or.inl ⟨by kernel_rfl, ?hy⟩) (by assumption) ?_; (case hy => (intro W hSw; obtain ⟨_, x0, x1, x2, x3, x4, x5, x6, x7, x8, x9, x10, x11⟩ := HJ.out W hSw; go_simp; (try with_reducible rfl))); (change wpAnyH _ _ _ _ _ _ _ (Act.put _ (some 61) _) _); simp only [Act.put])
        (refine wpAnyH_take (i := 3) (v := ?_) rfl (by kernel_rfl) (by kernel_rfl) (by kernel_rfl) (fun _ _ _ h => h) (Or.inl ⟨by kernel_rfl, ?hy⟩) (by assumption) ?_; (case hy => (intro W hSw; obtain ⟨_, x0, x1, x2, x3, x4, x5, x6, x7, x8, x9, x10, x11⟩ := HJ.out W hSw; go_simp; (try with_reducible rfl))); (change wpAnyH _ _ _ _ _ _ _ (Act.put _ (some 62) _) _); simp only [Act.put])
        (refine wpAnyH_take (i := 4) (v := undef) rfl (by kernel_rfl) (by kernel_rfl) (by kernel_rfl) (fun _ _ _ h => h) (Or.inr ⟨by kernel_rfl, rfl⟩) (by assumption) ?_; (change wpAnyH _ _ _ _ _ _ _ (Act.put _ (some 63) undef) _); simp only [Act.put])
        (refine wpAnyH_take (i := 5) (v := undef) rfl (by kernel_rfl) (by kernel_rfl) (by kernel_rfl) (fun _ _ _ h => h) (Or.inr ⟨by kernel_rfl, rfl⟩) (by assumption) ?_; (change wpAnyH _ _ _ _ _ _ _ (Act.put _ (some 64) undef) _); simp only [Act.put])
        (refine wpAnyH_take (i := 6) (v := undef) rfl (by kernel_rfl) (by kernel_rfl) (by kernel_rfl) (fun _ _ _ h => h) (Or.inr ⟨by kernel_rfl, rfl⟩) (by assumption) ?_; (change wpAnyH _ _ _ _ _ _ _ (Act.put _ (some 65) undef) _); simp only [Act.put])
        (refine wpAnyH_take (i := 7) (v := ?_) rfl (by kernel_rfl) (by kernel_rfl) (by kernel_rfl) (fun _ _ _ h => h) (Or.inl ⟨by kernel_rfl, ?hy⟩) (by assumption) ?_; (case hy => (intro W hSw; obtain ⟨_, x0, x1, x2, x3, x4, x5, x6, x7, x8, x9, x10, x11⟩ := HJ.out W hSw; go_simp; (try with_reducible rfl))); (change wpAnyH _ _ _ _ _ _ _ (Act.put _ (some 66) _) _); simp only [Act.put])
        (refine wpAnyH_take (i := 8) (v := ?_) rfl (by kernel_rfl) (by kernel_rfl) (by kernel_rfl) (fun _ _ _ h => h) (Or.inl ⟨by kernel_rfl, ?hy⟩) (by assumption) ?_; (case hy => (intro W hSw; obtain ⟨_, x0, x1, x2, x3, x4, x5, x6, x7, x8, x9, x10, x11⟩ := HJ.out W hSw; go_simp; (try with_reducible rfl))); (change wpAnyH _ _ _ _ _ _ _ (Act.put _ (some 67) _) _); simp only [Act.put])
        (refine wpAnyH_take (i := 9) (v := undef) rfl (by kernel_rfl) (by kernel_rfl) (by kernel_rfl) (fun _ _ _ h => h) (Or.inr ⟨by kernel_rfl, rfl⟩) (by assumption) ?_; (change wpAnyH _ _ _ _ _ _ _ (Act.put _ (some 68) undef) _); simp only [Act.put])
        (refine wpAnyH_take (i := 10) (v := undef) rfl (by kernel_rfl) (by kernel_rfl) (by kernel_rfl) (fun _ _ _ h => h) (Or.inr ⟨by kernel_rfl, rfl⟩) (by assumption) ?_; (change wpAnyH _ _ _ _ _ _ _ (Act.put _ (some 69) undef) _); simp only [Act.put])
        (refine wpAnyH_take (i := 11) (v := undef) rfl (by kernel_rfl) (by kernel_rfl) (by kernel_rfl) (fun _ _ _ h => h) (Or.inr ⟨by kernel_rfl, rfl⟩) (by assumption) ?_; (change wpAnyH _ _ _ _ _ _ _ (Act.put _ (some 70) undef) _); simp only [Act.put])
        (refine wpAnyH_take (i := 12) (v := ?_) rfl (by kernel_rfl) (by kernel_rfl) (by kernel_rfl) (fun _ _ _ h => h) (Or.inl ⟨by kernel_rfl, ?hy⟩) (by assumption) ?_; (case hy => (intro W hSw; obtain ⟨_, x0, x1, x2, x3, x4, x5, x6, x7, x8, x9, x10, x11⟩ := HJ.out W hSw; go_simp; (try with_reducible rfl))); (change wpAnyH _ _ _ _ _ _ _ (Act.put _ (some 71) _) _); simp only [Act.put])
        (refine wpAnyH_take (i := 13) (v := ?_) rfl (by kernel_rfl) (by kernel_rfl) (by kernel_rfl) (fun _ _ _ h => h) (Or.inl ⟨by kernel_rfl, ?hy⟩) (by assumption) ?_; (case hy => (intro W hSw; obtain ⟨_, x0, x1, x2, x3, x4, x5, x6, x7, x8, x9, x10, x11⟩ := HJ.out W hSw; go_simp; (try with_reducible rfl))); (change wpAnyH _ _ _ _ _ _ _ (Act.put _ (some 72) _) _); simp only [Act.put])
        (refine wpAnyH_take (i := 14) (v := ?_) rfl (by kernel_rfl) (by kernel_rfl) (by kernel_rfl) (fun _ _ _ h => h) (Or.inl ⟨by kernel_rfl, ?hy⟩) (by assumption) ?_; (case hy => (intro W hSw; obtain ⟨_, x0, x1, x2, x3, x4, x5, x6, x7, x8, x9, x10, x11⟩ := HJ.out W hSw; go_simp; (try with_reducible rfl))); (change wpAnyH _ _ _ _ _ _ _ (Act.put _ (some 73) _) _); simp only [Act.put])
        (refine wpAnyH_take (i := 15) (v := ?_) rfl (by kernel_rfl) (by kernel_rfl) (by kernel_rfl) (fun _ _ _ h => h) (Or.inl ⟨by kernel_rfl, ?hy⟩) (by assumption) ?_; (case hy => (intro W hSw; obtain ⟨_, x0, x1, x2, x3, x4, x5, x6, x7, x8, x9, x10, x11⟩ := HJ.out W hSw; go_simp; (try with_reducible rfl))); (change wpAnyH _ _ _ _ _ _ _ (Act.put _ (some 74) _) _); simp only [Act.put])
        (refine wpAnyH_ready (rs := [16]) (by kernel_rfl) (by simp) ?_); (refine AllReadyH.cons rfl (fun K hK => ?_) AllReadyH.nil); go_simp; (with_reducible refine (M1.out _).mono ?_); rintro e w' ⟨rfl, b⟩; have hT := HSM.out _ _ hS b; (refine hK.out _ _ hT ?_); clear hK K hS b; intro hS; (try clear hT)
        (refine wpAnyH_take (i := 17) (v := ?_) rfl (by kernel_rfl) (by kernel_rfl) (by kernel_rfl) (fun _ _ _ h => h) (Or.inl ⟨by kernel_rfl, ?hy⟩) (by assumption) ?_; (case hy => (intro W hSw; obtain ⟨_, x0, x1, x2, x3, x4, x5, x6, x7, x8, x9, x10, x11⟩ := HJ.out W hSw; go_simp; (try with_reducible rfl))); (change wpAnyH _ _ _ _ _ _ _ (Act.put _ (some 76) _) _); simp only [Act.put])
        (refine wpAnyH_take (i := 18) (v := ?_) rfl (by kernel_rfl) (by kernel_rfl) (by kernel_rfl) (fun _ _ _ h => h) (Or.inl ⟨by kernel_rfl, ?hy⟩) (by assumption) ?_; (case hy => (intro W hSw; obtain ⟨_, x0, x1, x2, x3, x4, x5, x6, x7, x8, x9, x10, x11⟩ := HJ.out W hSw; go_simp; (try with_reducible rfl))); (change wpAnyH _ _ _ _ _ _ _ (Act.put _ (some 77) _) _); simp only [Act.put])
        (refine wpAnyH_take (i := 19) (v := ?_) rfl (by kernel_rfl) (by kernel_rfl) (by kernel_rfl) (fun _ _ _ h => h) (Or.inl ⟨by kernel_rfl, ?hy⟩) (by assumption) ?_; (case hy => (intro W hSw; obtain ⟨_, x0, x1, x2, x3, x4, x5, x6, x7, x8, x9, x10, x11⟩ := HJ.out W hSw; go_simp; (try with_reducible rfl))); (change wpAnyH _ _ _ _ _ _ _ (Act.put _ (some 78) _) _); simp only [Act.put])
        (refine wpAnyH_take (i := 20) (v := ?_) rfl (by kernel_rfl) (by kernel_rfl) (by kernel_rfl) (fun _ _ _ h => h) (Or.inl ⟨by kernel_rfl, ?hy⟩) (by assumption) ?_; (case hy => (intro W hSw; obtain ⟨_, x0, x1, x2, x3, x4, x5, x6, x7, x8, x9, x10, x11⟩ := HJ.out W hSw; go_simp; (try with_reducible rfl))); (change wpAnyH _ _ _ _ _ _ _ (Act.put _ (some 79) _) _); simp only [Act.put])
        (refine wpAnyH_take (i := 21) (v := ?_) rfl (by kernel_rfl) (by kernel_rfl) (by kernel_rfl) (fun _ _ _ h => h) (Or.inl ⟨by kernel_rfl, ?hy⟩) (by assumption) ?_; (case hy => (intro W hSw; obtain ⟨_, x0, x1, x2, x3, x4, x5, x6, x7, x8, x9, x10, x11⟩ := HJ.out W hSw; go_simp; (try with_reducible rfl))); (change wpAnyH _ _ _ _ _ _ _ (Act.put _ (some 80) _) _); simp only [Act.put])
        (refine wpAnyH_ready (rs := [22]) (by kernel_rfl) (by simp) ?_); (refine AllReadyH.cons rfl (fun K hK => ?_) AllReadyH.nil); go_simp; (with_reducible refine (M2.out _).mono ?_); rintro e w' ⟨rfl, b⟩; have hT := HSM.out _ _ hS b; (refine hK.out _ _ hT ?_); clear hK K hS b; intro hS; (try clear hT)
        (refine wpAnyH_take (i := 23) (v := ?_) rfl (by kernel_rfl) (by kernel_rfl) (by kernel_rfl) (fun _ _ _ h => h) (Or.inl ⟨by kernel_rfl, ?hy⟩) (by assumption) ?_; (case hy => (intro W hSw; obtain ⟨_, x0, x1, x2, x3, x4, x5, x6, x7, x8, x9, x10, x11⟩ := HJ.out W hSw; go_simp; (try with_reducible rfl))); (change wpAnyH _ _ _ _ _ _ _ (Act.put _ (some 82) _) _); simp only [Act.put])
        (refine wpAnyH_take (i := 24) (v := ?_) rfl (by kernel_rfl) (by kernel_rfl) (by kernel_rfl) (fun _ _ _ h => h) (Or.inl ⟨by kernel_rfl, ?hy⟩) (by assumption) ?_; (case hy => (intro W hSw; obtain ⟨_, x0, x1, x2, x3, x4, x5, x6, x7, x8, x9, x10, x11⟩ := HJ.out W hSw; go_simp; (try with_reducible rfl))); (change wpAnyH _ _ _ _ _ _ _ (Act.put _ (some 83) _) _); simp only [Act.put])
        (refine wpAnyH_take (i := 25) (v := ?_) rfl (by kernel_rfl) (by kernel_rfl) (by kernel_rfl) (fun _ _ _ h => h) (Or.inl ⟨by kernel_rfl, ?hy⟩) (by assumption) ?_; (case hy => (intro W hSw; obtain ⟨_, x0, x1, x2, x3, x4, x5, x6, x7, x8, x9, x10, x11⟩ := HJ.out W hSw; go_simp; (try with_reducible rfl))); (change wpAnyH _ _ _ _ _ _ _ (Act.put _ (some 84) _) _); simp only [Act.put])
        (refine wpAnyH_take (i := 26) (v := ?_) rfl (by kernel_rfl) (by kernel_rfl) (by kernel_rfl) (fun _ _ _ h => h) (Or.inl ⟨by kernel_rfl, ?hy⟩) (by assumption) ?_; (case hy => (intro W hSw; obtain ⟨_, x0, x1, x2, x3, x4, x5, x6, x7, x8, x9, x10, x11⟩ := HJ.out W hSw; go_simp; (try with_reducible rfl))); (change wpAnyH _ _ _ _ _ _ _ (Act.put _ (some 85) _) _); simp only [Act.put])
        (refine wpAnyH_take (i := 27) (v := ?_) rfl (by kernel_rfl) (by kernel_rfl) (by kernel_rfl) (fun _ _ _ h => h) (Or.inl ⟨by kernel_rfl, ?hy⟩) (by assumption) ?_; (case hy => (intro W hSw; obtain ⟨_, x0, x1, x2, x3, x4, x5, x6, x7, x8, x9, x10, x11⟩ := HJ.out W hSw; go_simp; (try with_reducible rfl))); (change wpAnyH _ _ _ _ _ _ _ (Act.put _ (some 86) _) _); simp only [Act.put])
        (refine wpAnyH_ready (rs := [28]) (by kernel_rfl) (by simp) ?_); (refine AllReadyH.cons rfl (fun K hK => ?_) AllReadyH.nil); go_simp; (with_reducible refine (M3.out _).mono ?_); rintro e w' ⟨rfl, b⟩; have hT := HSM.out _ _ hS b; (refine hK.out _ _ hT ?_); clear hK K hS b; intro hS; (try clear hT)
        (refine wpAnyH_take (i := 29) (v := ?_) rfl (by kernel_rfl) (by kernel_rfl) (by kernel_rfl) (fun _ _ _ h => h) (Or.inl ⟨by kernel_rfl, ?hy⟩) (by assumption) ?_; (case hy => (intro W hSw; obtain ⟨_, x0, x1, x2, x3, x4, x5, x6, x7, x8, x9, x10, x11⟩ := HJ.out W hSw; go_simp; (try with_reducible rfl))); (change wpAnyH _ _ _ _ _ _ _ (Act.put _ (some 88) _) _); simp only [Act.put])
        (refine wpAnyH_take (i := 30) (v := ?_) rfl (by kernel_rfl) (by kernel_rfl) (by kernel_rfl) (fun _ _ _ h => h) (Or.inl ⟨by kernel_rfl, ?hy⟩) (by assumption) ?_; (case hy => (intro W hSw; obtain ⟨_, x0, x1, x2, x3, x4, x5, x6, x7, x8, x9, x10, x11⟩ := HJ.out W hSw; go_simp; (try with_reducible rfl))); (change wpAnyH _ _ _ _ _ _ _ (Act.put _ (some 89) _) _); simp only [Act.put])
        (refine wpAnyH_take (i := 31) (v := ?_) rfl (by kernel_rfl) (by kernel_rfl) (by kernel_rfl) (fun _ _ _ h => h) (Or.inl ⟨by kernel_rfl, ?hy⟩) (by assumption) ?_; (case hy => (intro W hSw; obtain ⟨_, x0, x1, x2, x3, x4, x5, x6, x7, x8, x9, x10, x11⟩ := HJ.out W hSw; go_simp; (try with_reducible rfl))); (change wpAnyH _ _ _ _ _ _ _ (Act.put _ (some 90) _) _); simp only [Act.put])
        (refine wpAnyH_take (i := 32) (v := ?_) rfl (by kernel_rfl) (by kernel_rfl) (by kernel_rfl) (fun _ _ _ h => h) (Or.inl ⟨by kernel_rfl, ?hy⟩) (by assumption) ?_; (case hy => (intro W hSw; obtain ⟨_, x0, x1, x2, x3, x4, x5, x6, x7, x8, x9, x10, x11⟩ := HJ.out W hSw; go_simp; (try with_reducible rfl))); (change wpAnyH _ _ _ _ _ _ _ (Act.put _ (some 91) _) _); simp only [Act.put])
        (refine wpAnyH_take (i := 33) (v := ?_) rfl (by kernel_rfl) (by kernel_rfl) (by kernel_rfl) (fun _ _ _ h => h) (Or.inl ⟨by kernel_rfl, ?hy⟩) (by assumption) ?_; (case hy => (intro W hSw; obtain ⟨_, x0, x1, x2, x3, x4, x5, x6, x7, x8, x9, x10, x11⟩ := HJ.out W hSw; go_simp; (try with_reducible rfl))); (change wpAnyH _ _ _ _ _ _ _ (Act.put _ (some 92) _) _); simp only [Act.put])
        (refine wpAnyH_take (i := 34) (v := ?_) rfl (by kernel_rfl) (by kernel_rfl) (by kernel_rfl) (fun _ _ _ h => h) (Or.inl ⟨by kernel_rfl, ?hy⟩) (by assumption) ?_; (case hy => (intro W hSw; obtain ⟨_, x0, x1, x2, x3, x4, x5, x6, x7, x8, x9, x10, x11⟩ := HJ.out W hSw; go_simp; (try with_reducible rfl))); (change wpAnyH _ _ _ _ _ _ _ (Act.put _ (some 93) _) _); simp only [Act.put])
        (refine wpAnyH_take (i := 37) (v := ?_) rfl (by kernel_rfl) (by kernel_rfl) (by kernel_rfl) (fun _ _ _ h => h) (Or.inl ⟨by kernel_rfl, ?hy⟩) (by assumption) ?_; (case hy => (intro W hSw; obtain ⟨_, x0, x1, x2, x3, x4, x5, x6, x7, x8, x9, x10, x11⟩ := HJ.out W hSw; go_simp; (try with_reducible rfl))); (change wpAnyH _ _ _ _ _ _ _ (Act.put _ (some 96) _) _); simp only [Act.put])
        (refine wpAnyH_ready (rs := [35]) (by kernel_rfl) (by simp) ?_); (refine AllReadyH.cons rfl (fun K hK => ?_) AllReadyH.nil); go_simp; (refine hK.out _ _ (HSM.out _ _ hS ((Below.refl _ _).alloc (Nat.le_refl _) _)) ?_); clear hK K hS; intro hS
        (refine wpAnyH_ready (rs := [36]) (by kernel_rfl) (by simp) ?_); (refine AllReadyH.cons rfl (fun K hK => ?_) AllReadyH.nil); go_simp; (with_reducible refine (HX2.out _ _).mono ?_); rintro e w' ⟨rfl, b⟩; have hT := HSM.out _ _ hS b; (refine hK.out _ _ hT ?_); clear hK K hS b; intro hS; (try clear hT)
        (refine wpAnyH_take (i := 38) (v := ?_) rfl (by kernel_rfl) (by kernel_rfl) (by kernel_rfl) (fun _ _ _ h => h) (Or.inl ⟨by kernel_rfl, ?hy⟩) (by assumption) ?_; (case hy => (intro W hSw; obtain ⟨_, x0, x1, x2, x3, x4, x5, x6, x7, x8, x9, x10, x11⟩ := HJ.out W hSw; go_simp; (try with_reducible rfl))); (change wpAnyH _ _ _ _ _ _ _ (Act.put _ (some 97) _) _); simp only [Act.put])
        (refine wpAnyH_take (i := 39) (v := ?_) rfl (by kernel_rfl) (by kernel_rfl) (by kernel_rfl) (fun _ _ _ h => h) (Or.inl ⟨by kernel_rfl, ?hy⟩) (by assumption) ?_; (case hy => (intro W hSw; obtain ⟨_, x0, x1, x2, x3, x4, x5, x6, x7, x8, x9, x10, x11⟩ := HJ.out W hSw; go_simp; (try with_reducible rfl))); (change wpAnyH _ _ _ _ _ _ _ (Act.put _ (some 98) _) _); simp only [Act.put])
        (refine wpAnyH_take (i := 40) (v := ?_) rfl (by kernel_rfl) (by kernel_rfl) (by kernel_rfl) (fun _ _ _ h => h) (Or.inl ⟨by kernel_rfl, ?hy⟩) (by assumption) ?_; (case hy => (intro W hSw; obtain ⟨_, x0, x1, x2, x3, x4, x5, x6, x7, x8, x9, x10, x11⟩ := HJ.out W hSw; go_simp; (try with_reducible rfl))); (change wpAnyH _ _ _ _ _ _ _ (Act.put _ (some 6) _) _); simp only [Act.put])
        refine wpAnyH_done (by kernel_rfl) ?_ _
        go_wp2_with fail
        go_ret
        exact ⟨rfl, HF.out _ hS⟩
      · have e1 := E1.out
        have e2 := E2.out
        clear E1 E2 E3 E0
        (refine wpAnyH_take (i := 0) (v := ?_) rfl (by kernel_rfl) (by kernel_rfl) (by kernel_rfl) (fun _ _ _ h => h) (Or.inl ⟨by kernel_rfl, ?hy⟩) (by assumption) ?_; (case hy => (intro W hSw; obtain ⟨_, x0, x1, x2, x3, x4, x5, x6, x7, x8, x9, x10, x11⟩ := HJ.out W hSw; go_simp; (try with_reducible rfl))); (change wpAnyH _ _ _ _ _ _ _ (Act.put _ (some 59) _) _); simp only [Act.put])
        (refine wpAnyH_take (i := 1) (v := ?_) rfl (by kernel_rfl) (by kernel_rfl) (by kernel_rfl) (fun _ _ _ h => h) (Or.inl ⟨by kernel_rfl, ?hy⟩) (by assumption) ?_; (case hy => (intro W hSw; obtain ⟨_, x0, x1, x2, x3, x4, x5, x6, x7, x8, x9, x10, x11⟩ := HJ.out W hSw; go_simp; (try with_reducible rfl))); (change wpAnyH _ _ _ _ _ _ _ (Act.put _ (some 60) _) _); simp only [Act.put])
        (refine wpAnyH_take (i := 2) (v := ?_) rfl (by kernel_rfl) (by kernel_rfl) (by kernel_rfl) (fun _ _ _ h => h) (Or.inl ⟨by kernel_rfl, ?hy⟩) (by assumption) ?_; (case hy => (intro W hSw; obtain ⟨_, x0, x1, x2, x3, x4, x5, x6, x7, x8, x9, x10, x11⟩ := HJ.out W hSw; go_simp; (try with_reducible rfl))); (change wpAnyH _ _ _ _ _ _ _ (Act.put _ (some 61) _) _); simp only [Act.put])
        (refine wpAnyH_take (i := 3) (v := ?_) rfl (by kernel_rfl) (by kernel_rfl) (by kernel_rfl) (fun _ _ _ h => h) (Or.inl ⟨by kernel_rfl, ?hy⟩) (by assumption) ?_; (case hy => (intro W hSw; obtain ⟨_, x0, x1, x2, x3, x4, x5, x6, x7, x8, x9, x10, x11⟩ := HJ.out W hSw; go_simp; (try with_reducible rfl))); (change wpAnyH _ _ _ _ _ _ _ (Act.put _ (some 62) _) _); simp only [Act.put])
        (refine wpAnyH_take (i := 4) (v := ?_) rfl (by kernel_rfl) (by kernel_rfl) (by kernel_rfl) (fun _ _ _ h => h) (Or.inl ⟨by kernel_rfl, ?hy⟩) (by assumption) ?_; (case hy => (intro W hSw; obtain ⟨_, x0, x1, x2, x3, x4, x5, x6, x7, x8, x9, x10, x11⟩ := HJ.out W hSw; go_simp; (try with_reducible rfl))); (change wpAnyH _ _ _ _ _ _ _ (Act.put _ (some 63) _) _); simp only [Act.put])
        (refine wpAnyH_take (i := 5) (v := ?_) rfl (by kernel_rfl) (by kernel_rfl) (by kernel_rfl) (fun _ _ _ h => h) (Or.inl ⟨by kernel_rfl, ?hy⟩) (by assumption) ?_; (case hy => (intro W hSw; obtain ⟨_, x0, x1, x2, x3, x4, x5, x6, x7, x8, x9, x10, x11⟩ := HJ.out W hSw; go_simp; (try with_reducible rfl))); (change wpAnyH _ _ _ _ _ _ _ (Act.put _ (some 64) _) _); simp only [Act.put])
        (refine wpAnyH_take (i := 6) (v := ?_) rfl (by kernel_rfl) (by kernel_rfl) (by kernel_rfl) (fun _ _ _ h => h) (Or.inl ⟨by kernel_rfl, ?hy⟩) (by assumption) ?_; (case hy => (intro W hSw; obtain ⟨_, x0, x1, x2, x3, x4, x5, x6, x7, x8, x9, x10, x11⟩ := HJ.out W hSw; go_simp; (try with_reducible rfl))); (change wpAnyH _ _ _ _ _ _ _ (Act.put _ (some 65) _) _); simp only [Act.put])
        (refine wpAnyH_take (i := 7) (v := ?_) rfl (by kernel_rfl) (by kernel_rfl) (by kernel_rfl) (fun _ _ _ h => h) (Or.inl ⟨by kernel_rfl, ?hy⟩) (by assumption) ?_; (case hy => (intro W hSw; obtain ⟨_, x0, x1, x2, x3, x4, x5, x6, x7, x8, x9, x10, x11⟩ := HJ.out W hSw; go_simp; (try with_reducible rfl))); (change wpAnyH _ _ _ _ _ _ _ (Act.put _ (some 66) _) _); simp only [Act.put])
        (refine wpAnyH_take (i := 8) (v := ?_) rfl (by kernel_rfl) (by kernel_rfl) (by kernel_rfl) (fun _ _ _ h => h) (Or.inl ⟨by kernel_rfl, ?hy⟩) (by assumption) ?_; (case hy => (intro W hSw; obtain ⟨_, x0, x1, x2, x3, x4, x5, x6, x7, x8, x9, x10, x11⟩ := HJ.out W hSw; go_simp; (try with_reducible rfl))); (change wpAnyH _ _ _ _ _ _ _ (Act.put _ (some 67) _) _); simp only [Act.put])
        (refine wpAnyH_take (i := 9) (v := undef) rfl (by kernel_rfl) (by kernel_rfl) (by kernel_rfl) (fun _ _ _ h => h) (Or.inr ⟨by kernel_rfl, rfl⟩) (by assumption) ?_; (change wpAnyH _ _ _ _ _ _ _ (Act.put _ (some 68) undef) _); simp only [Act.put])
        (refine wpAnyH_take (i := 10) (v := undef) rfl (by kernel_rfl) (by kernel_rfl) (by kernel_rfl) (fun _ _ _ h => h) (Or.inr ⟨by kernel_rfl, rfl⟩) (by assumption) ?_; (change wpAnyH _ _ _ _ _ _ _ (Act.put _ (some 69) undef) _); simp only [Act.put])
        (refine wpAnyH_take (i := 11) (v := undef) rfl (by kernel_rfl) (by kernel_rfl) (by kernel_rfl) (fun _ _ _ h => h) (Or.inr ⟨by kernel_rfl, rfl⟩) (by assumption) ?_; (change wpAnyH _ _ _ _ _ _ _ (Act.put _ (some 70) undef) _); simp only [Act.put])
        (refine wpAnyH_take (i := 12) (v := ?_) rfl (by kernel_rfl) (by kernel_rfl) (by kernel_rfl) (fun _ _ _ h => h) (Or.inl ⟨by kernel_rfl, ?hy⟩) (by assumption) ?_; (case hy => (intro W hSw; obtain ⟨_, x0, x1, x2, x3, x4, x5, x6, x7, x8, x9, x10, x11⟩ := HJ.out W hSw; go_simp; (try with_reducible rfl))); (change wpAnyH _ _ _ _ _ _ _ (Act.put _ (some 71) _) _); simp only [Act.put])
        (refine wpAnyH_take (i := 13) (v := ?_) rfl (by kernel_rfl) (by kernel_rfl) (by kernel_rfl) (fun _ _ _ h => h) (Or.inl ⟨by kernel_rfl, ?hy⟩) (by assumption) ?_; (case hy => (intro W hSw; obtain ⟨_, x0, x1, x2, x3, x4, x5, x6, x7, x8, x9, x10, x11⟩ := HJ.out W hSw; go_simp; (try with_reducible rfl))); (change wpAnyH _ _ _ _ _ _ _ (Act.put _ (some 72) _) _); simp only [Act.put])
        (refine wpAnyH_take (i := 14) (v := ?_) rfl (by kernel_rfl) (by kernel_rfl) (by kernel_rfl) (fun _ _ _ h => h) (Or.inl ⟨by kernel_rfl, ?hy⟩) (by assumption) ?_; (case hy => (intro W hSw; obtain ⟨_, x0, x1, x2, x3, x4, x5, x6, x7, x8, x9, x10, x11⟩ := HJ.out W hSw; go_simp; (try with_reducible rfl))); (change wpAnyH _ _ _ _ _ _ _ (Act.put _ (some 73) _) _); simp only [Act.put])
        (refine wpAnyH_take (i := 15) (v := ?_) rfl (by kernel_rfl) (by kernel_rfl) (by kernel_rfl) (fun _ _ _ h => h) (Or.inl ⟨by kernel_rfl, ?hy⟩) (by assumption) ?_; (case hy => (intro W hSw; obtain ⟨_, x0, x1, x2, x3, x4, x5, x6, x7, x8, x9, x10, x11⟩ := HJ.out W hSw; go_simp; (try with_reducible rfl))); (change wpAnyH _ _ _ _ _ _ _ (Act.put _ (some 74) _) _); simp only [Act.put])
        (refine wpAnyH_ready (rs := [16]) (by kernel_rfl) (by simp) ?_); (refine AllReadyH.cons rfl (fun K hK => ?_) AllReadyH.nil); go_simp; (with_reducible refine (M1.out _).mono ?_); rintro e w' ⟨rfl, b⟩; have hT := HSM.out _ _ hS b; (refine hK.out _ _ hT ?_); clear hK K hS b; intro hS; (try clear hT)
        (refine wpAnyH_take (i := 17) (v := ?_) rfl (by kernel_rfl) (by kernel_rfl) (by kernel_rfl) (fun _ _ _ h => h) (Or.inl ⟨by kernel_rfl, ?hy⟩) (by assumption) ?_; (case hy => (intro W hSw; obtain ⟨_, x0, x1, x2, x3, x4, x5, x6, x7, x8, x9, x10, x11⟩ := HJ.out W hSw; go_simp; (try with_reducible rfl))); (change wpAnyH _ _ _ _ _ _ _ (Act.put _ (some 76) _) _); simp only [Act.put])
        (refine wpAnyH_take (i := 18) (v := ?_) rfl (by kernel_rfl) (by kernel_rfl) (by kernel_rfl) (fun _ _ _ h => h) (Or.inl ⟨by kernel_rfl, ?hy⟩) (by assumption) ?_; (case hy => (intro W hSw; obtain ⟨_, x0, x1, x2, x3, x4, x5, x6, x7, x8, x9, x10, x11⟩ := HJ.out W hSw; go_simp; (try with_reducible rfl))); (change wpAnyH _ _ _ _ _ _ _ (Act.put _ (some 77) _) _); simp only [Act.put])
        (refine wpAnyH_take (i := 19) (v := ?_) rfl (by kernel_rfl) (by kernel_rfl) (by kernel_rfl) (fun _ _ _ h => h) (Or.inl ⟨by kernel_rfl, ?hy⟩) (by assumption) ?_; (case hy => (intro W hSw; obtain ⟨_, x0, x1, x2, x3, x4, x5, x6, x7, x8, x9, x10, x11⟩ := HJ.out W hSw; go_simp; (try with_reducible rfl))); (change wpAnyH _ _ _ _ _ _ _ (Act.put _ (some 78) _) _); simp only [Act.put])
        (refine wpAnyH_take (i := 20) (v := ?_) rfl (by kernel_rfl) (by kernel_rfl) (by kernel_rfl) (fun _ _ _ h => h) (Or.inl ⟨by kernel_rfl, ?hy⟩) (by assumption) ?_; (case hy => (intro W hSw; obtain ⟨_, x0, x1, x2, x3, x4, x5, x6, x7, x8, x9, x10, x11⟩ := HJ.out W hSw; go_simp; (try with_reducible rfl))); (change wpAnyH _ _ _ _ _ _ _ (Act.put _ (some 79) _) _); simp only [Act.put])
        (refine wpAnyH_take (i := 21) (v := ?_) rfl (by kernel_rfl) (by kernel_rfl) (by kernel_rfl) (fun _ _ _ h => h) (Or.inl ⟨by kernel_rfl, ?hy⟩) (by assumption) ?_; (case hy => (intro W hSw; obtain ⟨_, x0, x1, x2, x3, x4, x5, x6, x7, x8, x9, x10, x11⟩ := HJ.out W hSw; go_simp; (try with_reducible rfl))); (change wpAnyH _ _ _ _ _ _ _ (Act.put _ (some 80) _) _); simp only [Act.put])
        (refine wpAnyH_ready (rs := [22]) (by kernel_rfl) (by simp) ?_); (refine AllReadyH.cons rfl (fun K hK => ?_) AllReadyH.nil); go_simp; (with_reducible refine (M2.out _).mono ?_); rintro e w' ⟨rfl, b⟩; have hT := HSM.out _ _ hS b; (refine hK.out _ _ hT ?_); clear hK K hS b; intro hS; (try clear hT)
        (refine wpAnyH_take (i := 23) (v := ?_) rfl (by kernel_rfl) (by kernel_rfl) (by kernel_rfl) (fun _ _ _ h => h) (Or.inl ⟨by kernel_rfl, ?hy⟩) (by assumption) ?_; (case hy => (intro W hSw; obtain ⟨_, x0, x1, x2, x3, x4, x5, x6, x7, x8, x9, x10, x11⟩ := HJ.out W hSw; go_simp; (try with_reducible rfl))); (change wpAnyH _ _ _ _ _ _ _ (Act.put _ (some 82) _) _); simp only [Act.put])
        (refine wpAnyH_take (i := 24) (v := ?_) rfl (by kernel_rfl) (by kernel_rfl) (by kernel_rfl) (fun _ _ _ h => h) (Or.inl ⟨by kernel_rfl, ?hy⟩) (by assumption) ?_; (case hy => (intro W hSw; obtain ⟨_, x0, x1, x2, x3, x4, x5, x6, x7, x8, x9, x10, x11⟩ := HJ.out W hSw; go_simp; (try with_reducible rfl))); (change wpAnyH _ _ _ _ _ _ _ (Act.put _ (some 83) _) _); simp only [Act.put])
        (refine wpAnyH_take (i := 25) (v := ?_) rfl (by kernel_rfl) (by kernel_rfl) (by kernel_rfl) (fun _ _ _ h => h) (Or.inl ⟨by kernel_rfl, ?hy⟩) (by assumption) ?_; (case hy => (intro W hSw; obtain ⟨_, x0, x1, x2, x3, x4, x5, x6, x7, x8, x9, x10, x11⟩ := HJ.out W hSw; go_simp; (try with_reducible rfl))); (change wpAnyH _ _ _ _ _ _ _ (Act.put _ (some 84) _) _); simp only [Act.put])
        (refine wpAnyH_take (i := 26) (v := ?_) rfl (by kernel_rfl) (by kernel_rfl) (by kernel_rfl) (fun _ _ _ h => h) (Or.inl ⟨by kernel_rfl, ?hy⟩) (by assumption) ?_; (case hy => (intro W hSw; obtain ⟨_, x0, x1, x2, x3, x4, x5, x6, x7, x8, x9, x10, x11⟩ := HJ.out W hSw; go_simp; (try with_reducible rfl))); (change wpAnyH _ _ _ _ _ _ _ (Act.put _ (some 85) _) _); simp only [Act.put])
        (refine wpAnyH_take (i := 27) (v := ?_) rfl (by kernel_rfl) (by kernel_rfl) (by kernel_rfl) (fun _ _ _ h => h) (Or.inl ⟨by kernel_rfl, ?hy⟩) (by assumption) ?_; (case hy => (intro W hSw; obtain ⟨_, x0, x1, x2, x3, x4, x5, x6, x7, x8, x9, x10, x11⟩ := HJ.out W hSw; go_simp; (try with_reducible rfl))); (change wpAnyH _ _ _ _ _ _ _ (Act.put _ (some 86) _) _); simp only [Act.put])
        (refine wpAnyH_ready (rs := [28]) (by kernel_rfl) (by simp) ?_); (refine AllReadyH.cons rfl (fun K hK => ?_) AllReadyH.nil); go_simp; (with_reducible refine (M3.out _).mono ?_); rintro e w' ⟨rfl, b⟩; have hT := HSM.out _ _ hS b; (refine hK.out _ _ hT ?_); clear hK K hS b; intro hS; (try clear hT)
        (refine wpAnyH_take (i := 29) (v := ?_) rfl (by kernel_rfl) (by kernel_rfl) (by kernel_rfl) (fun _ _ _ h => h) (Or.inl ⟨by kernel_rfl, ?hy⟩) (by assumption) ?_; (case hy => (intro W hSw; obtain ⟨_, x0, x1, x2, x3, x4, x5, x6, x7, x8, x9, x10, x11⟩ := HJ.out W hSw; go_simp; (try with_reducible rfl))); (change wpAnyH _ _ _ _ _ _ _ (Act.put _ (some 88) _) _); simp only [Act.put])
        (refine wpAnyH_take (i := 30) (v := ?_) rfl (by kernel_rfl) (by kernel_rfl) (by kernel_rfl) (fun _ _ _ h => h) (Or.inl ⟨by kernel_rfl, ?hy⟩) (by assumption) ?_; (case hy => (intro W hSw; obtain ⟨_, x0, x1, x2, x3, x4, x5, x6, x7, x8, x9, x10, x11⟩ := HJ.out W hSw; go_simp; (try with_reducible rfl))); (change wpAnyH _ _ _ _ _ _ _ (Act.put _ (some 89) _) _); simp only [Act.put])
        (refine wpAnyH_take (i := 31) (v := ?_) rfl (by kernel_rfl) (by kernel_rfl) (by kernel_rfl) (fun _ _ _ h => h) (Or.inl ⟨by kernel_rfl, ?hy⟩) (by assumption) ?_; (case hy => (intro W hSw; obtain ⟨_, x0, x1, x2, x3, x4, x5, x6, x7, x8, x9, x10, x11⟩ := HJ.out W hSw; go_simp; (try with_reducible rfl))); (change wpAnyH _ _ _ _ _ _ _ (Act.put _ (some 90) _) _); simp only [Act.put])
        (refine wpAnyH_take (i := 32) (v := ?_) rfl (by kernel_rfl) (by kernel_rfl) (by kernel_rfl) (fun _ _ _ h => h) (Or.inl ⟨by kernel_rfl, ?hy⟩) (by assumption) ?_; (case hy => (intro W hSw; obtain ⟨_, x0, x1, x2, x3, x4, x5, x6, x7, x8, x9, x10, x11⟩ := HJ.out W hSw; go_simp; (try with_reducible rfl))); (change wpAnyH _ _ _ _ _ _ _ (Act.put _ (some 91) _) _); simp only [Act.put])
        (refine wpAnyH_take (i := 33) (v := ?_) rfl (by kernel_rfl) (by kernel_rfl) (by kernel_rfl) (fun _ _ _ h => h) (Or.inl ⟨by kernel_rfl, ?hy⟩) (by assumption) ?_; (case hy => (intro W hSw; obtain ⟨_, x0, x1, x2, x3, x4, x5, x6, x7, x8, x9, x10, x11⟩ := HJ.out W hSw; go_simp; (try with_reducible rfl))); (change wpAnyH _ _ _ _ _ _ _ (Act.put _ (some 92) _) _); simp only [Act.put])
        (refine wpAnyH_take (i := 34) (v := ?_) rfl (by kernel_rfl) (by kernel_rfl) (by kernel_rfl) (fun _ _ _ h => h) (Or.inl ⟨by kernel_rfl, ?hy⟩) (by assumption) ?_; (case hy => (intro W hSw; obtain ⟨_, x0, x1, x2, x3, x4, x5, x6, x7, x8, x9, x10, x11⟩ := HJ.out W hSw; go_simp; (try with_reducible rfl))); (change wpAnyH _ _ _ _ _ _ _ (Act.put _ (some 93) _) _); simp only [Act.put])
        (refine wpAnyH_take (i := 37) (v := ?_) rfl (by kernel_rfl) (by kernel_rfl) (by kernel_rfl) (fun _ _ _ h => h) (Or.inl ⟨by kernel_rfl, ?hy⟩) (by assumption) ?_; (case hy => (intro W hSw; obtain ⟨_, x0, x1, x2, x3, x4, x5, x6, x7, x8, x9, x10, x11⟩ := HJ.out W hSw; go_simp; (try with_reducible rfl))); (change wpAnyH _ _ _ _ _ _ _ (Act.put _ (some 96) _) _); simp only [Act.put])
        (refine wpAnyH_ready (rs := [35]) (by kernel_rfl) (by simp) ?_); (refine AllReadyH.cons rfl (fun K hK => ?_) AllReadyH.nil); go_simp; (refine hK.out _ _ (HSM.out _ _ hS ((Below.refl _ _).alloc (Nat.le_refl _) _)) ?_); clear hK K hS; intro hS
        (refine wpAnyH_ready (rs := [36]) (by kernel_rfl) (by simp) ?_); (refine AllReadyH.cons rfl (fun K hK => ?_) AllReadyH.nil); go_simp; (with_reducible refine (HX2.out _ _).mono ?_); rintro e w' ⟨rfl, b⟩; have hT := HSM.out _ _ hS b; (refine hK.out _ _ hT ?_); clear hK K hS b; intro hS; (try clear hT)
        (refine wpAnyH_take (i := 38) (v := ?_) rfl (by kernel_rfl) (by kernel_rfl) (by kernel_rfl) (fun _ _ _ h => h) (Or.inl ⟨by kernel_rfl, ?hy⟩) (by assumption) ?_; (case hy => (intro W hSw; obtain ⟨_, x0, x1, x2, x3, x4, x5, x6, x7, x8, x9, x10, x11⟩ := HJ.out W hSw; go_simp; (try with_reducible rfl))); (change wpAnyH _ _ _ _ _ _ _ (Act.put _ (some 97) _) _); simp only [Act.put])
        (refine wpAnyH_take (i := 39) (v := ?_) rfl (by kernel_rfl) (by kernel_rfl) (by kernel_rfl) (fun _ _ _ h => h) (Or.inl ⟨by kernel_rfl, ?hy⟩) (by assumption) ?_; (case hy => (intro W hSw; obtain ⟨_, x0, x1, x2, x3, x4, x5, x6, x7, x8, x9, x10, x11⟩ := HJ.out W hSw; go_simp; (try with_reducible rfl))); (change wpAnyH _ _ _ _ _ _ _ (Act.put _ (some 98) _) _); simp only [Act.put])
        (refine wpAnyH_take (i := 40) (v := ?_) rfl (by kernel_rfl) (by kernel_rfl) (by kernel_rfl) (fun _ _ _ h => h) (Or.inl ⟨by kernel_rfl, ?hy⟩) (by assumption) ?_; (case hy => (intro W hSw; obtain ⟨_, x0, x1, x2, x3, x4, x5, x6, x7, x8, x9, x10, x11⟩ := HJ.out W hSw; go_simp; (try with_reducible rfl))); (change wpAnyH _ _ _ _ _ _ _ (Act.put _ (some 6) _) _); simp only [Act.put])
        refine wpAnyH_done (by kernel_rfl) ?_ _
        go_wp2_with fail
        go_ret
        exact ⟨rfl, HF.out _ hS⟩
      · have e1 := E1.out
        have e2 := E2.out
        have e3 := E3.out
        clear E1 E2 E3 E0
        (refine wpAnyH_take (i := 0) (v := ?_) rfl (by kernel_rfl) (by kernel_rfl) (by kernel_rfl) (fun _ _ _ h => h) (Or.inl ⟨by kernel_rfl, ?hy⟩) (by assumption) ?_; (case hy => (intro W hSw; obtain ⟨_, x0, x1, x2, x3, x4, x5, x6, x7, x8, x9, x10, x11⟩ := HJ.out W hSw; go_simp; (try with_reducible rfl))); (change wpAnyH _ _ _ _ _ _ _ (Act.put _ (some 59) _) _); simp only [Act.put])
        (refine wpAnyH_take (i := 1) (v := ?_) rfl (by kernel_rfl) (by kernel_rfl) (by kernel_rfl) (fun _ _ _ h => h) (Or.inl ⟨by kernel_rfl, ?hy⟩) (by assumption) ?_; (case hy => (intro W hSw; obtain ⟨_, x0, x1, x2, x3, x4, x5, x6, x7, x8, x9, x10, x11⟩ := HJ.out W hSw; go_simp; (try with_reducible rfl))); (change wpAnyH _ _ _ _ _ _ _ (Act.put _ (some 60) _) _); simp only [Act.put])
        (refine wpAnyH_take (i := 2) (v := ?_) rfl (by kernel_rfl) (by kernel_rfl) (by kernel_rfl) (fun _ _ _ h => h) (Or.inl ⟨by kernel_rfl, ?hy⟩) (by assumption) ?_; (case hy => (intro W hSw; obtain ⟨_, x0, x1, x2, x3, x4, x5, x6, x7, x8, x9, x10, x11⟩ := HJ.out W hSw; go_simp; (try with_reducible rfl))); (change wpAnyH _ _ _ _ _ _ _ (Act.put _ (some 61) _) _); simp only [Act.put])
        (refine wpAnyH_take (i := 3) (v := ?_) rfl (by kernel_rfl) (by kernel_rfl) (by kernel_rfl) (fun _ _ _ h => h) (Or.inl ⟨by kernel_rfl, ?hy⟩) (by assumption) ?_; (case hy => (intro W hSw; obtain ⟨_, x0, x1, x2, x3, x4, x5, x6, x7, x8, x9, x10, x11⟩ := HJ.out W hSw; go_simp; (try with_reducible rfl))); (change wpAnyH _ _ _ _ _ _ _ (Act.put _ (some 62) _) _); simp only [Act.put])
        (refine wpAnyH_take (i := 4) (v := ?_) rfl (by kernel_rfl) (by kernel_rfl) (by kernel_rfl) (fun _ _ _ h => h) (Or.inl ⟨by kernel_rfl, ?hy⟩) (by assumption) ?_; (case hy => (intro W hSw; obtain ⟨_, x0, x1, x2, x3, x4, x5, x6, x7, x8, x9, x10, x11⟩ := HJ.out W hSw; go_simp; (try with_reducible rfl))); (change wpAnyH _ _ _ _ _ _ _ (Act.put _ (some 63) _) _); simp only [Act.put])
        (refine wpAnyH_take (i := 5) (v := ?_) rfl (by kernel_rfl) (by kernel_rfl) (by kernel_rfl) (fun _ _ _ h => h) (Or.inl ⟨by kernel_rfl, ?hy⟩) (by assumption) ?_; (case hy => (intro W hSw; obtain ⟨_, x0, x1, x2, x3, x4, x5, x6, x7, x8, x9, x10, x11⟩ := HJ.out W hSw; go_simp; (try with_reducible rfl))); (change wpAnyH _ _ _ _ _ _ _ (Act.put _ (some 64) _) _); simp only [Act.put])
        (refine wpAnyH_take (i := 6) (v := ?_) rfl (by kernel_rfl) (by kernel_rfl) (by kernel_rfl) (fun _ _ _ h => h) (Or.inl ⟨by kernel_rfl, ?hy⟩) (by assumption) ?_; (case hy => (intro W hSw; obtain ⟨_, x0, x1, x2, x3, x4, x5, x6, x7, x8, x9, x10, x11⟩ := HJ.out W hSw; go_simp; (try with_reducible rfl))); (change wpAnyH _ _ _ _ _ _ _ (Act.put _ (some 65) _) _); simp only [Act.put])
        (refine wpAnyH_take (i := 7) (v := ?_) rfl (by kernel_rfl) (by kernel_rfl) (by kernel_rfl) (fun _ _ _ h => h) (Or.inl ⟨by kernel_rfl, ?hy⟩) (by assumption) ?_; (case hy => (intro W hSw; obtain ⟨_, x0, x1, x2, x3, x4, x5, x6, x7, x8, x9, x10, x11⟩ := HJ.out W hSw; go_simp; (try with_reducible rfl))); (change wpAnyH _ _ _ _ _ _ _ (Act.put _ (some 66) _) _); simp only [Act.put])
        (refine wpAnyH_take (i := 8) (v := ?_) rfl (by kernel_rfl) (by kernel_rfl) (by kernel_rfl) (fun _ _ _ h => h) (Or.inl ⟨by kernel_rfl, ?hy⟩) (by assumption) ?_; (case hy => (intro W hSw; obtain ⟨_, x0, x1, x2, x3, x4, x5, x6, x7, x8, x9, x10, x11⟩ := HJ.out W hSw; go_simp; (try with_reducible rfl))); (change wpAnyH _ _ _ _ _ _ _ (Act.put _ (some 67) _) _); simp only [Act.put])
        (refine wpAnyH_take (i := 9) (v := ?_) rfl (by kernel_rfl) (by kernel_rfl) (by kernel_rfl) (fun _ _ _ h => h) (Or.inl ⟨by kernel_rfl, ?hy⟩) (by assumption) ?_; (case hy => (intro W hSw; obtain ⟨_, x0, x1, x2, x3, x4, x5, x6, x7, x8, x9, x10, x11⟩ := HJ.out W hSw; go_simp; (try with_reducible rfl))); (change wpAnyH _ _ _ _ _ _ _ (Act.put _ (some 68) _) _); simp only [Act.put])
        (refine wpAnyH_take (i := 10) (v := ?_) rfl (by kernel_rfl) (by kernel_rfl) (by kernel_rfl) (fun _ _ _ h => h) (Or.inl ⟨by kernel_rfl, ?hy⟩) (by assumption) ?_; (case hy => (intro W hSw; obtain ⟨_, x0, x1, x2, x3, x4, x5, x6, x7, x8, x9, x10, x11⟩ := HJ.out W hSw; go_simp; (try with_reducible rfl))); (change wpAnyH _ _ _ _ _ _ _ (Act.put _ (some 69) _) _); simp only [Act.put])
        (refine wpAnyH_take (i := 11) (v := ?_) rfl (by kernel_rfl) (by kernel_rfl) (by kernel_rfl) (fun _ _ _ h => h) (Or.inl ⟨by kernel_rfl, ?hy⟩) (by assumption) ?_; (case hy => (intro W hSw; obtain ⟨_, x0, x1, x2, x3, x4, x5, x6, x7, x8, x9, x10, x11⟩ := HJ.out W hSw; go_simp; (try with_reducible rfl))); (change wpAnyH _ _ _ _ _ _ _ (Act.put _ (some 70) _) _); simp only [Act.put])
        (refine wpAnyH_take (i := 12) (v := ?_) rfl (by kernel_rfl) (by kernel_rfl) (by kernel_rfl) (fun _ _ _ h => h) (Or.inl ⟨by kernel_rfl, ?hy⟩) (by assumption) ?_; (case hy => (intro W hSw; obtain ⟨_, x0, x1, x2, x3, x4, x5, x6, x7, x8, x9, x10, x11⟩ := HJ.out W hSw; go_simp; (try with_reducible rfl))); (change wpAnyH _ _ _ _ _ _ _ (Act.put _ (some 71) _) _); simp only [Act.put])
        (refine wpAnyH_take (i := 13) (v := ?_) rfl (by kernel_rfl) (by kernel_rfl) (by kernel_rfl) (fun _ _ _ h => h) (Or.inl ⟨by kernel_rfl, ?hy⟩) (by assumption) ?_; (case hy => (intro W hSw; obtain ⟨_, x0, x1, x2, x3, x4, x5, x6, x7, x8, x9, x10, x11⟩ := HJ.out W hSw; go_simp; (try with_reducible rfl))); (change wpAnyH _ _ _ _ _ _ _ (Act.put _ (some 72) _) _); simp only [Act.put])
        (refine wpAnyH_take (i := 14) (v := ?_) rfl (by kernel_rfl) (by kernel_rfl) (by kernel_rfl) (fun _ _ _ h => h) (Or.inl ⟨by kernel_rfl, ?hy⟩) (by assumption) ?_; (case hy => (intro W hSw; obtain ⟨_, x0, x1, x2, x3, x4, x5, x6, x7, x8, x9, x10, x11⟩ := HJ.out W hSw; go_simp; (try with_reducible rfl))); (change wpAnyH _ _ _ _ _ _ _ (Act.put _ (some 73) _) _); simp only [Act.put])
        (refine wpAnyH_take (i := 15) (v := ?_) rfl (by kernel_rfl) (by kernel_rfl) (by kernel_rfl) (fun _ _ _ h => h) (Or.inl ⟨by kernel_rfl, ?hy⟩) (by assumption) ?_; (case hy => (intro W hSw; obtain ⟨_, x0, x1, x2, x3, x4, x5, x6, x7, x8, x9, x10, x11⟩ := HJ.out W hSw; go_simp; (try with_reducible rfl))); (change wpAnyH _ _ _ _ _ _ _ (Act.put _ (some 74) _) _); simp only [Act.put])
        (refine wpAnyH_ready (rs := [16]) (by kernel_rfl) (by simp) ?_); (refine AllReadyH.cons rfl (fun K hK => ?_) AllReadyH.nil); go_simp; (with_reducible refine (M1.out _).mono ?_); rintro e w' ⟨rfl, b⟩; have hT := HSM.out _ _ hS b; (refine hK.out _ _ hT ?_); clear hK K hS b; intro hS; (try clear hT)
        (refine wpAnyH_take (i := 17) (v := ?_) rfl (by kernel_rfl) (by kernel_rfl) (by kernel_rfl) (fun _ _ _ h => h) (Or.inl ⟨by kernel_rfl, ?hy⟩) (by assumption) ?_; (case hy => (intro W hSw; obtain ⟨_, x0, x1, x2, x3, x4, x5, x6, x7, x8, x9, x10, x11⟩ := HJ.out W hSw; go_simp; (try with_reducible rfl))); (change wpAnyH _ _ _ _ _ _ _ (Act.put _ (some 76) _) _); simp only [Act.put])
        (refine wpAnyH_take (i := 18) (v := ?_) rfl (by kernel_rfl) (by kernel_rfl) (by kernel_rfl) (fun _ _ _ h => h) (Or.inl ⟨by kernel_rfl, ?hy⟩) (by assumption) ?_; (case hy => (intro W hSw; obtain ⟨_, x0, x1, x2, x3, x4, x5, x6, x7, x8, x9, x10, x11⟩ := HJ.out W hSw; go_simp; (try with_reducible rfl))); (change wpAnyH _ _ _ _ _ _ _ (Act.put _ (some 77) _) _); simp only [Act.put])
        (refine wpAnyH_take (i := 19) (v := ?_) rfl (by kernel_rfl) (by kernel_rfl) (by kernel_rfl) (fun _ _ _ h => h) (Or.inl ⟨by kernel_rfl, ?hy⟩) (by assumption) ?_; (case hy => (intro W hSw; obtain ⟨_, x0, x1, x2, x3, x4, x5, x6, x7, x8, x9, x10, x11⟩ := HJ.out W hSw; go_simp; (try with_reducible rfl))); (change wpAnyH _ _ _ _ _ _ _ (Act.put _ (some 78) _) _); simp only [Act.put])
        (refine wpAnyH_take (i := 20) (v := ?_) rfl (by kernel_rfl) (by kernel_rfl) (by kernel_rfl) (fun _ _ _ h => h) (Or.inl ⟨by kernel_rfl, ?hy⟩) (by assumption) ?_; (case hy => (intro W hSw; obtain ⟨_, x0, x1, x2, x3, x4, x5, x6, x7, x8, x9, x10, x11⟩ := HJ.out W hSw; go_simp; (try with_reducible rfl))); (change wpAnyH _ _ _ _ _ _ _ (Act.put _ (some 79) _) _); simp only [Act.put])
        (refine wpAnyH_take (i := 21) (v := ?_) rfl (by kernel_rfl) (by kernel_rfl) (by kernel_rfl) (fun _ _ _ h => h) (Or.inl ⟨by kernel_rfl, ?hy⟩) (by assumption) ?_; (case hy => (intro W hSw; obtain ⟨_, x0, x1, x2, x3, x4, x5, x6, x7, x8, x9, x10, x11⟩ := HJ.out W hSw; go_simp; (try with_reducible rfl))); (change wpAnyH _ _ _ _ _ _ _ (Act.put _ (some 80) _) _); simp only [Act.put])
        (refine wpAnyH_ready (rs := [22]) (by kernel_rfl) (by simp) ?_); (refine AllReadyH.cons rfl (fun K hK => ?_) AllReadyH.nil); go_simp; (with_reducible refine (M2.out _).mono ?_); rintro e w' ⟨rfl, b⟩; have hT := HSM.out _ _ hS b; (refine hK.out _ _ hT ?_); clear hK K hS b; intro hS; (try clear hT)
        (refine wpAnyH_take (i := 23) (v := ?_) rfl (by kernel_rfl) (by kernel_rfl) (by kernel_rfl) (fun _ _ _ h => h) (Or.inl ⟨by kernel_rfl, ?hy⟩) (by assumption) ?_; (case hy => (intro W hSw; obtain ⟨_, x0, x1, x2, x3, x4, x5, x6, x7, x8, x9, x10, x11⟩ := HJ.out W hSw; go_simp; (try with_reducible rfl))); (change wpAnyH _ _ _ _ _ _ _ (Act.put _ (some 82) _) _); simp only [Act.put])
        (refine wpAnyH_take (i := 24) (v := ?_) rfl (by kernel_rfl) (by kernel_rfl) (by kernel_rfl) (fun _ _ _ h => h) (Or.inl ⟨by kernel_rfl, ?hy⟩) (by assumption) ?_; (case hy => (intro W hSw; obtain ⟨_, x0, x1, x2, x3, x4, x5, x6, x7, x8, x9, x10, x11⟩ := HJ.out W hSw; go_simp; (try with_reducible rfl))); (change wpAnyH _ _ _ _ _ _ _ (Act.put _ (some 83) _) _); simp only [Act.put])
        (refine wpAnyH_take (i := 25) (v := ?_) rfl (by kernel_rfl) (by kernel_rfl) (by kernel_rfl) (fun _ _ _ h => h) (Or.inl ⟨by kernel_rfl, ?hy⟩) (by assumption) ?_; (case hy => (intro W hSw; obtain ⟨_, x0, x1, x2, x3, x4, x5, x6, x7, x8, x9, x10, x11⟩ := HJ.out W hSw; go_simp; (try with_reducible rfl))); (change wpAnyH _ _ _ _ _ _ _ (Act.put _ (some 84) _) _); simp only [Act.put])
        (refine wpAnyH_take (i := 26) (v := ?_) rfl (by kernel_rfl) (by kernel_rfl) (by kernel_rfl) (fun _ _ _ h => h) (Or.inl ⟨by kernel_rfl, ?hy⟩) (by assumption) ?_; (case hy => (intro W hSw; obtain ⟨_, x0, x1, x2, x3, x4, x5, x6, x7, x8, x9, x10, x11⟩ := HJ.out W hSw; go_simp; (try with_reducible rfl))); (change wpAnyH _ _ _ _ _ _ _ (Act.put _ (some 85) _) _); simp only [Act.put])
        (refine wpAnyH_take (i := 27) (v := ?_) rfl (by kernel_rfl) (by kernel_rfl) (by kernel_rfl) (fun _ _ _ h => h) (Or.inl ⟨by kernel_rfl, ?hy⟩) (by assumption) ?_; (case hy => (intro W hSw; obtain ⟨_, x0, x1, x2, x3, x4, x5, x6, x7, x8, x9, x10, x11⟩ := HJ.out W hSw; go_simp; (try with_reducible rfl))); (change wpAnyH _ _ _ _ _ _ _ (Act.put _ (some 86) _) _); simp only [Act.put])
        (refine wpAnyH_ready (rs := [28]) (by kernel_rfl) (by simp) ?_); (refine AllReadyH.cons rfl (fun K hK => ?_) AllReadyH.nil); go_simp; (with_reducible refine (M3.out _).mono ?_); rintro e w' ⟨rfl, b⟩; have hT := HSM.out _ _ hS b; (refine hK.out _ _ hT ?_); clear hK K hS b; intro hS; (try clear hT)
        (refine wpAnyH_take (i := 29) (v := ?_) rfl (by kernel_rfl) (by kernel_rfl) (by kernel_rfl) (fun _ _ _ h => h) (Or.inl ⟨by kernel_rfl, ?hy⟩) (by assumption) ?_; (case hy => (intro W hSw; obtain ⟨_, x0, x1, x2, x3, x4, x5, x6, x7, x8, x9, x10, x11⟩ := HJ.out W hSw; go_simp; (try with_reducible rfl))); (change wpAnyH _ _ _ _ _ _ _ (Act.put _ (some 88) _) _); simp only [Act.put])
        (refine wpAnyH_take (i := 30) (v := ?_) rfl (by kernel_rfl) (by kernel_rfl) (by kernel_rfl) (fun _ _ _ h => h) (Or.inl ⟨by kernel_rfl, ?hy⟩) (by assumption) ?_; (case hy => (intro W hSw; obtain ⟨_, x0, x1, x2, x3, x4, x5, x6, x7, x8, x9, x10, x11⟩ := HJ.out W hSw; go_simp; (try with_reducible rfl))); (change wpAnyH _ _ _ _ _ _ _ (Act.put _ (some 89) _) _); simp only [Act.put])
        (refine wpAnyH_take (i := 31) (v := ?_) rfl (by kernel_rfl) (by kernel_rfl) (by kernel_rfl) (fun _ _ _ h => h) (Or.inl ⟨by kernel_rfl, ?hy⟩) (by assumption) ?_; (case hy => (intro W hSw; obtain ⟨_, x0, x1, x2, x3, x4, x5, x6, x7, x8, x9, x10, x11⟩ := HJ.out W hSw; go_simp; (try with_reducible rfl))); (change wpAnyH _ _ _ _ _ _ _ (Act.put _ (some 90) _) _); simp only [Act.put])
        (refine wpAnyH_take (i := 32) (v := ?_) rfl (by kernel_rfl) (by kernel_rfl) (by kernel_rfl) (fun _ _ _ h => h) (Or.inl ⟨by kernel_rfl, ?hy⟩) (by assumption) ?_; (case hy => (intro W hSw; obtain ⟨_, x0, x1, x2, x3, x4, x5, x6, x7, x8, x9, x10, x11⟩ := HJ.out W hSw; go_simp; (try with_reducible rfl))); (change wpAnyH _ _ _ _ _ _ _ (Act.put _ (some 91) _) _); simp only [Act.put])
        (refine wpAnyH_take (i := 33) (v := ?_) rfl (by kernel_rfl) (by kernel_rfl) (by kernel_rfl) (fun _ _ _ h => h) (Or.inl ⟨by kernel_rfl, ?hy⟩) (by assumption) ?_; (case hy => (intro W hSw; obtain ⟨_, x0, x1, x2, x3, x4, x5, x6, x7, x8, x9, x10, x11⟩ := HJ.out W hSw; go_simp; (try with_reducible rfl))); (change wpAnyH _ _ _ _ _ _ _ (Act.put _ (some 92) _) _); simp only [Act.put])
        (refine wpAnyH_take (i := 34) (v := ?_) rfl (by kernel_rfl) (by kernel_rfl) (by kernel_rfl) (fun _ _ _ h => h) (Or.inl ⟨by kernel_rfl, ?hy⟩) (by assumption) ?_; (case hy => (intro W hSw; obtain ⟨_, x0, x1, x2, x3, x4, x5, x6, x7, x8, x9, x10, x11⟩ := HJ.out W hSw; go_simp; (try with_reducible rfl))); (change wpAnyH _ _ _ _ _ _ _ (Act.put _ (some 93) _) _); simp only [Act.put])
        (refine wpAnyH_take (i := 37) (v := ?_) rfl (by kernel_rfl) (by kernel_rfl) (by kernel_rfl) (fun _ _ _ h => h) (Or.inl ⟨by kernel_rfl, ?hy⟩) (by assumption) ?_; (case hy => (intro W hSw; obtain ⟨_, x0, x1, x2, x3, x4, x5, x6, x7, x8, x9, x10, x11⟩ := HJ.out W hSw; go_simp; (try with_reducible rfl))); (change wpAnyH _ _ _ _ _ _ _ (Act.put _ (some 96) _) _); simp only [Act.put])
        (refine wpAnyH_ready (rs := [35]) (by kernel_rfl) (by simp) ?_); (refine AllReadyH.cons rfl (fun K hK => ?_) AllReadyH.nil); go_simp; (refine hK.out _ _ (HSM.out _ _ hS ((Below.refl _ _).alloc (Nat.le_refl _) _)) ?_); clear hK K hS; intro hS
        (refine wpAnyH_ready (rs := [36]) (by kernel_rfl) (by simp) ?_); (refine AllReadyH.cons rfl (fun K hK => ?_) AllReadyH.nil); go_simp; (with_reducible refine (HX2.out _ _).mono ?_); rintro e w' ⟨rfl, b⟩; have hT := HSM.out _ _ hS b; (refine hK.out _ _ hT ?_); clear hK K hS b; intro hS; (try clear hT)
        (refine wpAnyH_take (i := 38) (v := ?_) rfl (by kernel_rfl) (by kernel_rfl) (by kernel_rfl) (fun _ _ _ h => h) (Or.inl ⟨by kernel_rfl, ?hy⟩) (by assumption) ?_; (case hy => (intro W hSw; obtain ⟨_, x0, x1, x2, x3, x4, x5, x6, x7, x8, x9, x10, x11⟩ := HJ.out W hSw; go_simp; (try with_reducible rfl))); (change wpAnyH _ _ _ _ _ _ _ (Act.put _ (some 97) _) _); simp only [Act.put])
        (refine wpAnyH_take (i := 39) (v := ?_) rfl (by kernel_rfl) (by kernel_rfl) (by kernel_rfl) (fun _ _ _ h => h) (Or.inl ⟨by kernel_rfl, ?hy⟩) (by assumption) ?_; (case hy => (intro W hSw; obtain ⟨_, x0, x1, x2, x3, x4, x5, x6, x7, x8, x9, x10, x11⟩ := HJ.out W hSw; go_simp; (try with_reducible rfl))); (change wpAnyH _ _ _ _ _ _ _ (Act.put _ (some 98) _) _); simp only [Act.put])
        (refine wpAnyH_take (i := 40) (v := ?_) rfl (by kernel_rfl) (by kernel_rfl) (by kernel_rfl) (fun _ _ _ h => h) (Or.inl ⟨by kernel_rfl, ?hy⟩) (by assumption) ?_; (case hy => (intro W hSw; obtain ⟨_, x0, x1, x2, x3, x4, x5, x6, x7, x8, x9, x10, x11⟩ := HJ.out W hSw; go_simp; (try with_reducible rfl))); (change wpAnyH _ _ _ _ _ _ _ (Act.put _ (some 6) _) _); simp only [Act.put])
        refine wpAnyH_done (by kernel_rfl) ?_ _
        go_wp2_with fail
        go_ret
        exact ⟨rfl, HF.out _ hS⟩
end Go.Proofs.Ytnkhfggngdnjbaa
set_option maxRecDepth 20000
namespace Go.Proofs.Ytnkhfggngdnjbaa.WOrder
open Go.ChangeShapes Go.WideShapes Go.ChangeAt Go.RowKit
open Go.ChangeMaps (open_string shut_string)
noncomputable def laidWorld (os : Os) : World := World.holding Try.prog os ⟨#[], #[], []⟩
theorem contract (H : Type) (enc : TypeId × Value → H) (W : World) (base : Nat) (args : Array Value) (ds gs : List (DataW H)) (before : List MemPlace)
    (hval : ∀ (j : Nat) t v, Try.f4.params[j]? = some t → args[j]? = some v → Value.okWide Try.prog W .any base t v)
    (hW : DataW.Whole enc Try.prog Try.f4.params.toList Rows.weightOrderSpec.vars false W args.toList ds gs before) (_hL : laidMetH Try.prog Rows.weightOrderRow.laid W) :
    Calls Try.prog 4 args W fun e W' => ∃ v, e = .returned v ∧ Rows.weightOrderSpec.post enc Try.prog Try.f4 false true false false W args v W' := by
  have hW' := hW
  obtain ⟨p, q, hA0, hV, rfl, hfz, hnd⟩ := hW
  have hA : DataW.TrodAll enc Try.prog W 0 (fun _ => true) true Try.f4.params.toList args.toList ds p := hA0
  rw [Try.params4] at hA hval
  obtain ⟨v0, vs0, d0, ds0, p0, q0, hargs, rfl, rfl, h0, r0⟩ := trodAll_cons hA
  obtain ⟨v1, vs1, d1, ds1, p1, q1, rfl, rfl, rfl, h1, r1⟩ := trodAll_cons r0
  obtain ⟨v2, vs2, d2, ds2, p2, q2, rfl, rfl, rfl, h2, r2⟩ := trodAll_cons r1
  obtain ⟨rfl, rfl, rfl⟩ := trodAll_nil r2
  obtain rfl : args = #[v0, v1, v2] := by cases args; simp_all
  obtain ⟨rfl, rfl⟩ := trodVars_none hV
  obtain ⟨g0, hg0⟩ := open_w3 (hval 0 24 v0 rfl rfl) h0
  subst hg0
  obtain ⟨g1, hg1⟩ := open_w3 (hval 1 24 v1 rfl rfl) h1
  subst hg1
  obtain ⟨g2, hg2⟩ := open_w3 (hval 2 24 v2 rfl rfl) h2
  subst hg2
  clear hA0
  simp only [List.append_nil] at hW'
  have hlt : ∀ x ∈ (p0 ++ (p1 ++ p2)), x.block < W.heap.size := fun x hx => hW'.lt x hx
  refine (lwOrder_any g0 g1 g2 W).mono fun e W' ⟨he, hb⟩ => ?_
  subst he
  exact ⟨_, rfl, post_of_below (pa := (p0 ++ (p1 ++ (p2 ++ [])))) (pv := []) hW' (fun _ _ _ => trodAll_cons_mk (shut_bool Try.underlying4 _) trodAll_mk0)
    (fun sp hsp => (trodAll_cons_mk (again (t := 24) (by kernel_rfl) (by decide) h0 hb (fun x hx => hlt x (by simp [hx])) (fun x hx => hsp x (by simp [hx])))
      (trodAll_cons_mk (again (t := 24) (by kernel_rfl) (by decide) h1 hb (fun x hx => hlt x (by simp [hx])) (fun x hx => hsp x (by simp [hx])))
      (trodAll_cons_mk (again (t := 24) (by kernel_rfl) (by decide) h2 hb (fun x hx => hlt x (by simp [hx])) (fun x hx => hsp x (by simp [hx])))
      trodAll_mk0)))) (fun _ _ => rfl) (by simp) hb
    (ok_one (by kernel_rfl) rfl (okWide_bool_mk Try.underlying4 _))⟩
theorem laid_met (os : Os) : laidMet Try.prog Rows.weightOrderRow.laid ((laidWorld os).forCall (fun _ _ => 0) ⟨#[], #[.agg #[.int .i64 0, .int .i64 0, .int .i64 0], .agg #[.int .i64 0, .int .i64 0, .int .i64 0], .agg #[.int .i64 0, .int .i64 0, .int .i64 0]], []⟩).memory :=
  laidMet_of_run' 8 (by kernel_rfl) (by kernel_rfl)
theorem reads (os : Os) {H : Type} (enc : TypeId × Value → H) : ∃ places, DataW.whole enc Try.prog ((laidWorld os).forCall (fun _ _ => 0) ⟨#[], #[.agg #[.int .i64 0, .int .i64 0, .int .i64 0], .agg #[.int .i64 0, .int .i64 0, .int .i64 0], .agg #[.int .i64 0, .int .i64 0, .int .i64 0]], []⟩).memory Try.f4.params.toList Rows.weightOrderSpec.vars false #[Value.agg #[.int .i64 0, .int .i64 0, .int .i64 0], Value.agg #[.int .i64 0, .int .i64 0, .int .i64 0], Value.agg #[.int .i64 0, .int .i64 0, .int .i64 0]].toList 8 = some ([.agg [.lit (.int .i64 0), .lit (.int .i64 0), .lit (.int .i64 0)], .agg [.lit (.int .i64 0), .lit (.int .i64 0), .lit (.int .i64 0)], .agg [.lit (.int .i64 0), .lit (.int .i64 0), .lit (.int .i64 0)]], [], places) :=
  ⟨[], by kernel_rfl⟩
set_option maxRecDepth 100000 in
theorem lifted (os : Os) (started : os.Started) (H : Type) (enc : TypeId × Value → H) (F : Stop.Interp) :
    ReturnsInHanded {} Try.checked os 4 .any ((OpenSpec.ofChange Rows.weightOrderSpec).preRow enc Try.prog Try.f4 Rows.weightOrderRow.domain false Rows.weightOrderRow.laid) (((OpenSpec.ofChange Rows.weightOrderSpec).at F).post enc Try.prog Try.f4 false true false false) := by
  obtain ⟨places, hx⟩ := reads os enc
  refine returnsInHanded_of_row (C := Try.checked) (s := OpenSpec.ofChange Rows.weightOrderSpec) own started (by kernel_rfl) Try.func4
    (witness_row_at (enc := enc) (C := Try.checked) false (laidWorld os) #[.agg #[.int .i64 0, .int .i64 0, .int .i64 0], .agg #[.int .i64 0, .int .i64 0, .int .i64 0], .agg #[.int .i64 0, .int .i64 0, .int .i64 0]] rfl (by kernel_rfl) (by kernel_rfl) (by kernel_rfl)
      (OpenSpec.preRow_of_cond 8 hx (by kernel_rfl) (fun k hk => by cases hk) (by kernel_rfl) (laid_met os))) ?_
  intro W base args ds gs before hval hW _ _ _ hL _ _
  exact contract H enc W base args ds gs before hval hW hL
theorem said : Rows.WeightOrderSaid :=
  OpenClaim.holds_of_cond 4 Try.f4 rfl rfl rfl rfl rfl rfl rfl ⟨rfl, rfl, rfl, rfl, rfl⟩ rfl rfl rfl rfl rfl (by kernel_rfl) Try.func4 (by kernel_rfl)
    (of_decide_eq_true (by kernel_rfl)) (by unfold Func.isWrapper; first | (rw [if_pos (by decide +kernel)]; kernel_rfl) | (rw [if_neg (by decide +kernel)]; exact ⟨rfl, rfl⟩))
    (fun os started H enc _ F => by rw [OpenClaim.pre_eq_preRow]; exact lifted os started H enc F)
end Go.Proofs.Ytnkhfggngdnjbaa.WOrder
namespace Go.Proofs.Ytnkhfggngdnjbaa
open Go
theorem weightOrder_holds : Rows.WeightOrderSaid := WOrder.said
end Go.Proofs.Ytnkhfggngdnjbaa
