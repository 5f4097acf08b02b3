/- What the fixed calls of the sixth layer's laws answer: true. -/
import Derived.Test.YtbjhiimjillleaaKC
import Derived.Test.YtbjhiimjillleaaHL
set_option maxRecDepth 20000
namespace Go.Proofs.Ytbjhiimjillleaa
open Go.RowKit Go.Sort
abbrev wV (g : Wn.W3) : Value := .agg #[.int .i64 g.1, .int .i64 g.2.1, .int .i64 g.2.2]
/-- a weight is stored, cell by cell -/
def st3 (W : World) (A : Nat) (y : Wn.W3) : World := ((W.setCell ⟨A, 0, none⟩ (.int .i64 y.1)).setCell ⟨A, 1, none⟩ (.int .i64 y.2.1)).setCell ⟨A, 2, none⟩ (.int .i64 y.2.2)
theorem st3_below {w1 W : World} {N A : Nat} (h : Below N w1 W) (hA : N ≤ A) (y : Wn.W3) : Below N w1 (st3 W A y) := ((h.setCell (p := ⟨A, 0, none⟩) hA _).setCell (p := ⟨A, 1, none⟩) hA _).setCell (p := ⟨A, 2, none⟩) hA _
theorem st3_same {W : World} {A : Nat} {x y : Wn.W3} (h : W.heap[A]? = some (w3w x)) : (st3 W A y).heap[A]? = some (w3w y) := by simp [st3, World.setCell, Array.getElem?_modify, h]
theorem st3_other {W : World} {A B : Nat} {y : Wn.W3} (h : A ≠ B) : (st3 W A y).heap[B]? = W.heap[B]? := by
  unfold st3
  rw [Below.heap_setCell _ _ _ _ (Ne.symm h), Below.heap_setCell _ _ _ _ (Ne.symm h), Below.heap_setCell _ _ _ _ (Ne.symm h)]
theorem cell_latr {W w1 : World} (hb : Below W.heap.size W w1) {a : Addr} {v : Value} (h : W.cell? a = some v) : w1.cell? a = some v :=
  (hb.cell (p := a) (World.block_lt_of_cell? _ _ h)).trans h
set_option maxRecDepth 100000 in
set_option maxHeartbeats 20000000 in
theorem fixed06 (w : World) :
    Calls Try.prog 10 #[] w fun e w' => e = .returned (.bool true) ∧ Below w.heap.size w w' := by
  have QR := Lib.hid (read6 w)
  go_enter Try.func10, Try.ntmps10
  go_wp2_with fail
  refine QR.out.mono ?_
  rintro e w1 ⟨v, rfl, hp, b1⟩
  obtain ⟨lo, lc, rfl, hc1, hc2⟩ := hp.form
  unfold maxLen at hc2
  obtain ⟨b, o, po1, pc1, rfl, hp1, k0, k1⟩ := cx_at hp (i := 0) rfl
  obtain ⟨b', o', po2, pc2, hbo, hp2, k2, k3⟩ := cx_at hp (i := 1) rfl
  cases hbo
  obtain ⟨b', o', po3, pc3, hbo, hp3, k4, k5⟩ := cx_at hp (i := 2) rfl
  cases hbo
  have K0 : w1.cell? ⟨b, o, none⟩ = some (.slice po1 2 pc1) := k0
  have K1 : w1.cell? ⟨b, o + 1, none⟩ = some (.string ⟨#[]⟩) := k1
  have K2 : w1.cell? ⟨b, o + 2, none⟩ = some (.slice po2 1 pc2) := k2
  have K3 : w1.cell? ⟨b, o + 2 + 1, none⟩ = some (.string ⟨#[]⟩) := k3
  have K4 : w1.cell? ⟨b, o + 4, none⟩ = some (.slice po3 1 pc3) := k4
  have K5 : w1.cell? ⟨b, o + 4 + 1, none⟩ = some (.string ⟨#[98, 101, 102, 111, 114, 101]⟩) := k5
  have HB1 := Lib.hid b1
  rw [show [Wn.cWa, Wn.cWb, Wn.cWc].length = 3 from rfl] at hc1 ⊢
  have Q1 : Hid (∀ W, Below w1.heap.size w1 W → Calls Try.prog 11 #[.agg #[.slice po1 2 pc1, .string ⟨#[]⟩]] W fun e w' => e = .returned (wV (1, 1, 1)) ∧ Below W.heap.size W w') := Lib.hid (fun W h => by have := wOf_v Wn.cWa po1 pc1 W (hp1.old.below h |>.mono fun c hc _ => by have := h.size; have : c < w1.heap.size := hc; omega); rw [Wn.of_Wa] at this; exact this)
  have Q2 : Hid (∀ W, Below w1.heap.size w1 W → Calls Try.prog 11 #[.agg #[.slice po2 1 pc2, .string ⟨#[]⟩]] W fun e w' => e = .returned (wV (0, 0, 0)) ∧ Below W.heap.size W w') := Lib.hid (fun W h => by have := wOf_v Wn.cWb po2 pc2 W (hp2.old.below h |>.mono fun c hc _ => by have := h.size; have : c < w1.heap.size := hc; omega); rw [Wn.of_Wb] at this; exact this)
  have Q3 : Hid (∀ W, Below w1.heap.size w1 W → Calls Try.prog 11 #[.agg #[.slice po3 1 pc3, .string ⟨#[98, 101, 102, 111, 114, 101]⟩]] W fun e w' => e = .returned (wV (0, 0, 2)) ∧ Below W.heap.size W w') := Lib.hid (fun W h => by have := wOf_v Wn.cWc po3 pc3 W (hp3.old.below h |>.mono fun c hc _ => by have := h.size; have : c < w1.heap.size := hc; omega); rw [Wn.of_Wc] at this; exact this)
  clear b1 QR k0 k1 k2 k3 k4 k5 hp hp1 hp2 hp3
  go_wp2_with fail
  refine wp_region_held_drew (S := fun W => Below w1.heap.size w1 W) (by kernel_rfl) (Below.refl _ _).drew ?_
  intro hS
  have HBL : Hid (b < w1.heap.size) := Lib.hid (World.block_lt_of_cell? _ _ K0)
  have J : ∀ W, Below w1.heap.size w1 W → W.cell? ⟨b, o, none⟩ = some (.slice po1 2 pc1) ∧ W.cell? ⟨b, o + 1, none⟩ = some (.string ⟨#[]⟩) ∧ W.cell? ⟨b, o + 2, none⟩ = some (.slice po2 1 pc2) ∧ W.cell? ⟨b, o + 2 + 1, none⟩ = some (.string ⟨#[]⟩) ∧ W.cell? ⟨b, o + 4, none⟩ = some (.slice po3 1 pc3) ∧ W.cell? ⟨b, o + 4 + 1, none⟩ = some (.string ⟨#[98, 101, 102, 111, 114, 101]⟩) := fun W h => ⟨(h.cell (show _ < _ from HBL.out)).trans K0, (h.cell (show _ < _ from HBL.out)).trans K1, (h.cell (show _ < _ from HBL.out)).trans K2, (h.cell (show _ < _ from HBL.out)).trans K3, (h.cell (show _ < _ from HBL.out)).trans K4, (h.cell (show _ < _ from HBL.out)).trans K5⟩
  have HJ := Lib.hid J
  clear J K0 K1 K2 K3 K4 K5
  (refine wpAnyH_take (i := 0) (v := ?_) rfl (by kernel_rfl) (by kernel_rfl) (by kernel_rfl) (fun _ _ _ h => h) (Or.inl ⟨by rfl, ?hy⟩) (by assumption) ?_; (case hy => (intro W hSw; obtain ⟨x0, x1, x2, x3, x4, x5⟩ := HJ.out W hSw; go_simp; (try with_reducible rfl))); simp only [Act.put])
  (refine wpAnyH_take (i := 1) (v := ?_) rfl (by kernel_rfl) (by kernel_rfl) (by kernel_rfl) (fun _ _ _ h => h) (Or.inl ⟨by rfl, ?hy⟩) (by assumption) ?_; (case hy => (intro W hSw; obtain ⟨x0, x1, x2, x3, x4, x5⟩ := HJ.out W hSw; go_simp; (try with_reducible rfl))); simp only [Act.put])
  (refine wpAnyH_take (i := 2) (v := ?_) rfl (by kernel_rfl) (by kernel_rfl) (by kernel_rfl) (fun _ _ _ h => h) (Or.inl ⟨by rfl, ?hy⟩) (by assumption) ?_; (case hy => (intro W hSw; obtain ⟨x0, x1, x2, x3, x4, x5⟩ := HJ.out W hSw; go_simp; (try with_reducible rfl))); simp only [Act.put])
  (refine wpAnyH_take (i := 4) (v := ?_) rfl (by kernel_rfl) (by kernel_rfl) (by kernel_rfl) (fun _ _ _ h => h) (Or.inl ⟨by rfl, ?hy⟩) (by assumption) ?_; (case hy => (intro W hSw; obtain ⟨x0, x1, x2, x3, x4, x5⟩ := HJ.out W hSw; go_simp; (try with_reducible rfl))); simp only [Act.put])
  (refine wpAnyH_take (i := 5) (v := ?_) rfl (by kernel_rfl) (by kernel_rfl) (by kernel_rfl) (fun _ _ _ h => h) (Or.inl ⟨by rfl, ?hy⟩) (by assumption) ?_; (case hy => (intro W hSw; obtain ⟨x0, x1, x2, x3, x4, x5⟩ := HJ.out W hSw; go_simp; (try with_reducible rfl))); simp only [Act.put])
  (refine wpAnyH_take (i := 6) (v := ?_) rfl (by kernel_rfl) (by kernel_rfl) (by kernel_rfl) (fun _ _ _ h => h) (Or.inl ⟨by rfl, ?hy⟩) (by assumption) ?_; (case hy => (intro W hSw; obtain ⟨x0, x1, x2, x3, x4, x5⟩ := HJ.out W hSw; go_simp; (try with_reducible rfl))); simp only [Act.put])
  (refine wpAnyH_take (i := 8) (v := ?_) rfl (by kernel_rfl) (by kernel_rfl) (by kernel_rfl) (fun _ _ _ h => h) (Or.inl ⟨by rfl, ?hy⟩) (by assumption) ?_; (case hy => (intro W hSw; obtain ⟨x0, x1, x2, x3, x4, x5⟩ := HJ.out W hSw; go_simp; (try with_reducible rfl))); simp only [Act.put])
  (refine wpAnyH_take (i := 9) (v := ?_) rfl (by kernel_rfl) (by kernel_rfl) (by kernel_rfl) (fun _ _ _ h => h) (Or.inl ⟨by rfl, ?hy⟩) (by assumption) ?_; (case hy => (intro W hSw; obtain ⟨x0, x1, x2, x3, x4, x5⟩ := HJ.out W hSw; go_simp; (try with_reducible rfl))); simp only [Act.put])
  (refine wpAnyH_take (i := 10) (v := ?_) rfl (by kernel_rfl) (by kernel_rfl) (by kernel_rfl) (fun _ _ _ h => h) (Or.inl ⟨by rfl, ?hy⟩) (by assumption) ?_; (case hy => (intro W hSw; obtain ⟨x0, x1, x2, x3, x4, x5⟩ := HJ.out W hSw; go_simp; (try with_reducible rfl))); simp only [Act.put])
  refine weave0 (x1 := wV (1, 1, 1)) (x2 := wV (0, 0, 0)) (x3 := wV (0, 0, 2)) (z := w3w (0, 0, 0)) (w1 := w1) ?hR ?hC1 ?hC2 ?hC3 ?hA ?hB ?hC hS ?hE
  case hR =>
    intro c b3 b4 b5 hc h
    have hc4 : c = 0 ∨ c = 1 ∨ c = 2 ∨ c = 3 := by omega
    rcases hc4 with rfl | rfl | rfl | rfl <;> cases b3 <;> cases b4 <;> cases b5 <;> first | (simp at h; done) | (show Region.ready _ _ _ = rdW _ _ _ _; kernel_rfl)
  case hA =>
    intro a w K h
    refine ⟨_, rfl, ?_⟩
    go_simp
    exact h
  case hB =>
    intro a w K h
    refine ⟨_, rfl, ?_⟩
    go_simp
    exact h
  case hC =>
    intro a w K h
    refine ⟨_, rfl, ?_⟩
    go_simp
    exact h
  case hC1 =>
    intro a w K he hb h
    refine ⟨_, rfl, ?_⟩
    have he' : a.tmps[15]?.getD undef = .agg #[.slice po1 2 pc1, .string ⟨#[]⟩] := by simpa [Act.eval] using he
    clear he
    go_simp
    refine (Q1.out _ hb).mono ?_
    rintro e w' ⟨rfl, b⟩
    exact h _ b
  case hC2 =>
    intro a w K he hb h
    refine ⟨_, rfl, ?_⟩
    have he' : a.tmps[19]?.getD undef = .agg #[.slice po2 1 pc2, .string ⟨#[]⟩] := by simpa [Act.eval] using he
    clear he
    go_simp
    refine (Q2.out _ hb).mono ?_
    rintro e w' ⟨rfl, b⟩
    exact h _ b
  case hC3 =>
    intro a w K he hb h
    refine ⟨_, rfl, ?_⟩
    have he' : a.tmps[23]?.getD undef = .agg #[.slice po3 1 pc3, .string ⟨#[98, 101, 102, 111, 114, 101]⟩] := by simpa [Act.eval] using he
    clear he
    go_simp
    refine (Q3.out _ hb).mono ?_
    rintro e w' ⟨rfl, b⟩
    exact h _ b
  case hE =>
    intro A B C W2 hM
    clear hS HJ Q1 Q2 Q3
    simp only [Act.put]
    obtain ⟨hbl, ha, hb, hc, hab, hac, hbc⟩ := hM
    obtain ⟨hNA, hA⟩ := ha rfl
    obtain ⟨hNB, hB⟩ := hb rfl
    obtain ⟨hNC, hC⟩ := hc rfl
    have hab := hab rfl rfl
    have hac := hac rfl rfl
    have hbc := hbc rfl rfl
    have HS : Hid (Below w1.heap.size w1 W2) := Lib.hid hbl
    have HA := Lib.hid hA
    have HB := Lib.hid hB
    have HC := Lib.hid hC
    clear ha hb hc hA hB hC hbl
    (have hlA := lt_of_block HA.out; have a0 := cell_of_block (o := 0) HA.out; have a1 := cell_of_block (o := 1) HA.out; have a2 := cell_of_block (o := 2) HA.out; have f0 := frozen_blk HA.out 0; have f1 := frozen_blk HA.out 1; have f2 := frozen_blk HA.out 2; simp only [List.getElem?_toArray, List.getElem?_cons_zero, List.getElem?_cons_succ] at a0 a1 a2; (refine wpAnyH_ready (rs := [15]) (by kernel_rfl) (by simp) ?_); (refine AllReadyH.cons rfl (fun K hK => ?_) AllReadyH.nil); go_simp; clear a0 a1 a2 f0 f1 f2 hlA; have HT := Lib.hid ((st3_below HS.out hNA (1, 1, 1))); (refine hK.out _ _ HT.out ?_); intro hz; clear hz hK K)
    have HA2 := Lib.hid (st3_same (y := (1, 1, 1)) HA.out)
    have HB2 := Lib.hid ((st3_other (y := (1, 1, 1)) (W := W2) hab).trans HB.out)
    have HC2 := Lib.hid ((st3_other (y := (1, 1, 1)) (W := W2) hac).trans HC.out)
    change wpAnyH _ _ _ _ _ _ _ _ (st3 W2 A (1, 1, 1))
    generalize st3 W2 A (1, 1, 1) = W3 at *
    clear HA HB HC HS
    (have hlA := lt_of_block HB2.out; have a0 := cell_of_block (o := 0) HB2.out; have a1 := cell_of_block (o := 1) HB2.out; have a2 := cell_of_block (o := 2) HB2.out; have f0 := frozen_blk HB2.out 0; have f1 := frozen_blk HB2.out 1; have f2 := frozen_blk HB2.out 2; simp only [List.getElem?_toArray, List.getElem?_cons_zero, List.getElem?_cons_succ] at a0 a1 a2; (refine wpAnyH_ready (rs := [16]) (by kernel_rfl) (by simp) ?_); (refine AllReadyH.cons rfl (fun K hK => ?_) AllReadyH.nil); go_simp; clear a0 a1 a2 f0 f1 f2 hlA; have HT := Lib.hid ((st3_below HT.out hNB (0, 0, 0))); (refine hK.out _ _ HT.out ?_); intro hz; clear hz hK K)
    have HA3 := Lib.hid ((st3_other (y := (0, 0, 0)) (W := W3) hab.symm).trans HA2.out)
    have HB3 := Lib.hid (st3_same (y := (0, 0, 0)) HB2.out)
    have HC3 := Lib.hid ((st3_other (y := (0, 0, 0)) (W := W3) hbc).trans HC2.out)
    change wpAnyH _ _ _ _ _ _ _ _ (st3 W3 B (0, 0, 0))
    generalize st3 W3 B (0, 0, 0) = W4 at *
    clear HA2 HB2 HC2
    (have hlA := lt_of_block HC3.out; have a0 := cell_of_block (o := 0) HC3.out; have a1 := cell_of_block (o := 1) HC3.out; have a2 := cell_of_block (o := 2) HC3.out; have f0 := frozen_blk HC3.out 0; have f1 := frozen_blk HC3.out 1; have f2 := frozen_blk HC3.out 2; simp only [List.getElem?_toArray, List.getElem?_cons_zero, List.getElem?_cons_succ] at a0 a1 a2; (refine wpAnyH_ready (rs := [17]) (by kernel_rfl) (by simp) ?_); (refine AllReadyH.cons rfl (fun K hK => ?_) AllReadyH.nil); go_simp; clear a0 a1 a2 f0 f1 f2 hlA; have HT := Lib.hid ((st3_below HT.out hNC (0, 0, 2))); (refine hK.out _ _ HT.out ?_); intro hz; clear hz hK K)
    have HA4 := Lib.hid ((st3_other (y := (0, 0, 2)) (W := W4) hac.symm).trans HA3.out)
    have HB4 := Lib.hid ((st3_other (y := (0, 0, 2)) (W := W4) hbc.symm).trans HB3.out)
    have HC4 := Lib.hid (st3_same (y := (0, 0, 2)) HC3.out)
    change wpAnyH _ _ _ _ _ _ _ _ (st3 W4 C (0, 0, 2))
    generalize st3 W4 C (0, 0, 2) = W5 at *
    clear HA3 HB3 HC3
    refine wpAnyH_done (by kernel_rfl) ?_ _
    go_wp2_with fail
    clear hab hac hbc HBL
    have HL1 : Hid (∀ W, Calls Try.prog 13 #[wV (0, 0, 0), wV (0, 0, 2)] W fun e w' => e = .returned (.bool true) ∧ Below W.heap.size W w') := Lib.hid (fun W => by have := less_v (0, 0, 0) (0, 0, 2) W; rw [show Wn.wless (0, 0, 0) (0, 0, 2) = true by decide] at this; exact this)
    have HL2 : Hid (∀ W, Calls Try.prog 13 #[wV (0, 0, 2), wV (1, 1, 1)] W fun e w' => e = .returned (.bool true) ∧ Below W.heap.size W w') := Lib.hid (fun W => by have := less_v (0, 0, 2) (1, 1, 1) W; rw [show Wn.wless (0, 0, 2) (1, 1, 1) = true by decide] at this; exact this)
    have HL3 : Hid (∀ W, Calls Try.prog 13 #[wV (1, 1, 1), wV (1, 1, 1)] W fun e w' => e = .returned (.bool false) ∧ Below W.heap.size W w') := Lib.hid (fun W => by have := less_v (1, 1, 1) (1, 1, 1) W; rw [show Wn.wless (1, 1, 1) (1, 1, 1) = false by decide] at this; exact this)
    have HN1 : Hid (∀ W, Calls Try.prog 17 #[.int .i64 (2), .int .i64 1, .int .i64 5] W fun e w' => e = .returned (.bool true) ∧ w' = W) := Lib.hid (fun W => by have := wNth_v (2) 1 5 W; rw [show Wn.wnth (2) 1 5 = true by decide] at this; exact this)
    have HN2 : Hid (∀ W, Calls Try.prog 17 #[.int .i64 (2), .int .i64 1, .int .i64 4] W fun e w' => e = .returned (.bool false) ∧ w' = W) := Lib.hid (fun W => by have := wNth_v (2) 1 4 W; rw [show Wn.wnth (2) 1 4 = false by decide] at this; exact this)
    have HN3 : Hid (∀ W, Calls Try.prog 17 #[.int .i64 (-1), .int .i64 3, .int .i64 2] W fun e w' => e = .returned (.bool true) ∧ w' = W) := Lib.hid (fun W => by have := wNth_v (-1) 3 2 W; rw [show Wn.wnth (-1) 3 2 = true by decide] at this; exact this)
    have HN4 : Hid (∀ W, Calls Try.prog 17 #[.int .i64 (-1), .int .i64 3, .int .i64 4] W fun e w' => e = .returned (.bool false) ∧ w' = W) := Lib.hid (fun W => by have := wNth_v (-1) 3 4 W; rw [show Wn.wnth (-1) 3 4 = false by decide] at this; exact this)
    have HN5 : Hid (∀ W, Calls Try.prog 17 #[.int .i64 (0), .int .i64 4, .int .i64 4] W fun e w' => e = .returned (.bool true) ∧ w' = W) := Lib.hid (fun W => by have := wNth_v (0) 4 4 W; rw [show Wn.wnth (0) 4 4 = true by decide] at this; exact this)
    have HN6 : Hid (∀ W, Calls Try.prog 17 #[.int .i64 (3), .int .i64 5, .int .i64 2] W fun e w' => e = .returned (.bool false) ∧ w' = W) := Lib.hid (fun W => by have := wNth_v (3) 5 2 W; rw [show Wn.wnth (3) 5 2 = false by decide] at this; exact this)
    have HN7 : Hid (∀ W, Calls Try.prog 17 #[.int .i64 (1), .int .i64 0, .int .i64 1000000001] W fun e w' => e = .returned (.bool false) ∧ w' = W) := Lib.hid (fun W => by have := wNth_v (1) 0 1000000001 W; rw [show Wn.wnth (1) 0 1000000001 = false by decide] at this; exact this)
    have HX : Hid (∀ (X : World) (t : Nat), Calls Try.prog 15 #[.slice (some ⟨X.heap.size, 0, none⟩) 3 3] (X.alloc (.cells #[.int .i64 0, .int .i64 0, .int .i64 0, .int .i64 1, .int .i64 1, .int .i64 1, .int .i64 0, .int .i64 0, .int .i64 2] t)) fun e w' => e = .returned (wV (1, 1, 1)) ∧ Below (X.alloc (.cells #[.int .i64 0, .int .i64 0, .int .i64 0, .int .i64 1, .int .i64 1, .int .i64 1, .int .i64 0, .int .i64 0, .int .i64 2] t)).heap.size (X.alloc (.cells #[.int .i64 0, .int .i64 0, .int .i64 0, .int .i64 1, .int .i64 1, .int .i64 1, .int .i64 0, .int .i64 0, .int .i64 2] t)) w') := Lib.hid (fun X t => by
      have := wMax_v (.slice (some ⟨X.heap.size, 0, none⟩) 3 3) [(0, 0, 0), (1, 1, 1), (0, 0, 2)] (X.alloc (.cells #[.int .i64 0, .int .i64 0, .int .i64 0, .int .i64 1, .int .i64 1, .int .i64 1, .int .i64 0, .int .i64 0, .int .i64 2] t)) (RK.P.mk (K := wK) (es := [[.int .i64 0, .int .i64 0, .int .i64 0], [.int .i64 1, .int .i64 1, .int .i64 1], [.int .i64 0, .int .i64 0, .int .i64 2]]) (heap_alloc_new X _) ⟨rfl, rfl, rfl, trivial⟩ rfl rfl (by decide) (by simp)) (by decide)
      rw [show Wn.wmax [(0, 0, 0), (1, 1, 1), (0, 0, 2)] = (1, 1, 1) by decide] at this
      exact this)
    have HX0 : Hid (∀ W : World, Calls Try.prog 15 #[.slice none 0 0] W fun e w' => e = .returned (wV (0, 0, 0)) ∧ Below W.heap.size W w') := Lib.hid (fun W => wMax_v (.slice none 0 0) [] W (RK.P.nil W _) (by decide))
    have HSM : Hid (∀ W W' : World, (Below w1.heap.size w1 W ∧ W.cell? ⟨A, 0, none⟩ = some (.int .i64 1) ∧ W.cell? ⟨A, 0 + 1, none⟩ = some (.int .i64 1) ∧ W.cell? ⟨A, 0 + 2, none⟩ = some (.int .i64 1) ∧ W.cell? ⟨B, 0, none⟩ = some (.int .i64 0) ∧ W.cell? ⟨B, 0 + 1, none⟩ = some (.int .i64 0) ∧ W.cell? ⟨B, 0 + 2, none⟩ = some (.int .i64 0) ∧ W.cell? ⟨C, 0, none⟩ = some (.int .i64 0) ∧ W.cell? ⟨C, 0 + 1, none⟩ = some (.int .i64 0) ∧ W.cell? ⟨C, 0 + 2, none⟩ = some (.int .i64 2)) → Below W.heap.size W W' → (Below w1.heap.size w1 W' ∧ W'.cell? ⟨A, 0, none⟩ = some (.int .i64 1) ∧ W'.cell? ⟨A, 0 + 1, none⟩ = some (.int .i64 1) ∧ W'.cell? ⟨A, 0 + 2, none⟩ = some (.int .i64 1) ∧ W'.cell? ⟨B, 0, none⟩ = some (.int .i64 0) ∧ W'.cell? ⟨B, 0 + 1, none⟩ = some (.int .i64 0) ∧ W'.cell? ⟨B, 0 + 2, none⟩ = some (.int .i64 0) ∧ W'.cell? ⟨C, 0, none⟩ = some (.int .i64 0) ∧ W'.cell? ⟨C, 0 + 1, none⟩ = some (.int .i64 0) ∧ W'.cell? ⟨C, 0 + 2, none⟩ = some (.int .i64 2))) := Lib.hid (fun W W' h hb => by
      obtain ⟨h0, h1, h2, h3, h4, h5, h6, h7, h8, h9⟩ := h
      exact ⟨h0.trans (hb.mono h0.size), cell_latr hb h1, cell_latr hb h2, cell_latr hb h3, cell_latr hb h4, cell_latr hb h5, cell_latr hb h6, cell_latr hb h7, cell_latr hb h8, cell_latr hb h9⟩)
    have HS5 : Hid (Below w1.heap.size w1 W5 ∧ W5.cell? ⟨A, 0, none⟩ = some (.int .i64 1) ∧ W5.cell? ⟨A, 0 + 1, none⟩ = some (.int .i64 1) ∧ W5.cell? ⟨A, 0 + 2, none⟩ = some (.int .i64 1) ∧ W5.cell? ⟨B, 0, none⟩ = some (.int .i64 0) ∧ W5.cell? ⟨B, 0 + 1, none⟩ = some (.int .i64 0) ∧ W5.cell? ⟨B, 0 + 2, none⟩ = some (.int .i64 0) ∧ W5.cell? ⟨C, 0, none⟩ = some (.int .i64 0) ∧ W5.cell? ⟨C, 0 + 1, none⟩ = some (.int .i64 0) ∧ W5.cell? ⟨C, 0 + 2, none⟩ = some (.int .i64 2)) := Lib.hid ⟨HT.out, cell_of_block HA4.out, cell_of_block HA4.out, cell_of_block HA4.out, cell_of_block HB4.out, cell_of_block HB4.out, cell_of_block HB4.out, cell_of_block HC4.out, cell_of_block HC4.out, cell_of_block HC4.out⟩
    clear HT HA4 HB4 HC4
    have HEQ : ∀ (x0 x1 x2 y0 y1 y2 : Int) (W : World), (Op.equalIn 10000 27 (.agg #[.int .i64 x0, .int .i64 x1, .int .i64 x2]) (.agg #[.int .i64 y0, .int .i64 y1, .int .i64 y2])).run Try.prog W = .ok (x0 == y0 && (x1 == y1 && x2 == y2)) W := eq3_run
    go_region_held3 (fun W' => Below w1.heap.size w1 W' ∧ W'.cell? ⟨A, 0, none⟩ = some (.int .i64 1) ∧ W'.cell? ⟨A, 0 + 1, none⟩ = some (.int .i64 1) ∧ W'.cell? ⟨A, 0 + 2, none⟩ = some (.int .i64 1) ∧ W'.cell? ⟨B, 0, none⟩ = some (.int .i64 0) ∧ W'.cell? ⟨B, 0 + 1, none⟩ = some (.int .i64 0) ∧ W'.cell? ⟨B, 0 + 2, none⟩ = some (.int .i64 0) ∧ W'.cell? ⟨C, 0, none⟩ = some (.int .i64 0) ∧ W'.cell? ⟨C, 0 + 1, none⟩ = some (.int .i64 0) ∧ W'.cell? ⟨C, 0 + 2, none⟩ = some (.int .i64 2))
      (first | exact HSM.out _ _ HS5.out (Below.refl _ _).drew | exact HSM.out _ _ (by assumption) (by assumption) | exact HSM.out _ _ (by assumption) ((Below.refl _ _).alloc (Nat.le_refl _) _) | assumption)
      (first
        | (go_at_call 13; (first | (with_reducible refine (HL1.out _).mono ?_) | (with_reducible refine (HL2.out _).mono ?_) | (with_reducible refine (HL3.out _).mono ?_)); rintro e w' ⟨rfl, b⟩)
        | (go_at_call 15; (first | (with_reducible refine (HX0.out _).mono ?_) | (with_reducible refine (HX.out _ _).mono ?_)); rintro e w' ⟨rfl, b⟩)
        | (go_at_call 17; (first | (with_reducible refine (HN1.out _).mono ?_) | (with_reducible refine (HN2.out _).mono ?_) | (with_reducible refine (HN3.out _).mono ?_) | (with_reducible refine (HN4.out _).mono ?_) | (with_reducible refine (HN5.out _).mono ?_) | (with_reducible refine (HN6.out _).mono ?_) | (with_reducible refine (HN7.out _).mono ?_)); rintro e w' ⟨rfl, rfl⟩))
    have HF : ∀ W : World, (Below w1.heap.size w1 W ∧ W.cell? ⟨A, 0, none⟩ = some (.int .i64 1) ∧ W.cell? ⟨A, 0 + 1, none⟩ = some (.int .i64 1) ∧ W.cell? ⟨A, 0 + 2, none⟩ = some (.int .i64 1) ∧ W.cell? ⟨B, 0, none⟩ = some (.int .i64 0) ∧ W.cell? ⟨B, 0 + 1, none⟩ = some (.int .i64 0) ∧ W.cell? ⟨B, 0 + 2, none⟩ = some (.int .i64 0) ∧ W.cell? ⟨C, 0, none⟩ = some (.int .i64 0) ∧ W.cell? ⟨C, 0 + 1, none⟩ = some (.int .i64 0) ∧ W.cell? ⟨C, 0 + 2, none⟩ = some (.int .i64 2)) → Below w1.heap.size w1 W := fun _ h => h.1
    go_wp2_with fail
    go_ret
    exact ⟨rfl, HB1.out.trans ((HF _ (by assumption)).mono HB1.out.size)⟩
end Go.Proofs.Ytbjhiimjillleaa
