/- WeightAdds: whatever the selectors, the law answers true, and nothing that was there has turned. Condition: no list is longer than 2^60. WeightAdds holds for all two selectors: the call returns true, and each argument reads afterwards as it read before. -/
import Derived.Test.YtbjhiimjillleaaKD
import Derived.Test.YtbjhiimjillleaaKU
import Derived.Lib.QuietBelow
import Derived.Test.YtbjhiimjillleaaKE
import Derived.Test.YtbjhiimjillleaaKT
import Derived.Test.YtbjhiimjillleaaGG
import Derived.Test.YtbjhiimjillleaaGH
set_option linter.unusedVariables false
set_option linter.unusedSimpArgs false
set_option maxRecDepth 20000
namespace Go.Proofs.Ytbjhiimjillleaa
open Go.RowKit Go.Sort
/-- the numbers of an int are those of 64 bits -/
theorem wrap_w64 (x : Int) : IntKind.i64.wrap x = wrap64 x := by
  unfold IntKind.wrap wrap64
  have h1 : (2 ^ IntKind.i64.bits : Int) = 18446744073709551616 := rfl
  have h2 : (2 ^ (IntKind.i64.bits - 1) : Int) = 9223372036854775808 := rfl
  have h3 : IntKind.i64.signed = true := rfl
  simp only [h1, h2, h3, Bool.true_and, decide_eq_true_eq, ge_iff_le]
  split <;> omega
theorem blocks2 (w : World) (a b : Obj) : ((w.alloc a).alloc b).heap[w.heap.size]? = some a ∧ ((w.alloc a).alloc b).heap[w.heap.size + 1]? = some b ∧ Below w.heap.size w ((w.alloc a).alloc b) := by
  have e1 : (w.alloc a).heap.size = w.heap.size + 1 := by simp
  refine ⟨block_alloc (heap_alloc_new w _) _, ?_, ((Below.refl _ _).alloc (Nat.le_refl _) _).alloc (by simp) _⟩
  have := heap_alloc_new (w.alloc a) b
  rw [e1] at this
  exact this
set_option maxRecDepth 100000 in
set_option maxHeartbeats 4000000 in
theorem lwAdds_any (a b : Wn.Cx) (ao bo : Option Addr) (ac bc : Nat) (w : World) (ha : ptK.P w (fun _ => True) (.slice ao a.1.length ac) a.1) (hb : ptK.P w (fun _ => True) (.slice bo b.1.length bc) b.1) (hal : a.1.length ≤ 1152921504606846976) (hbl : b.1.length ≤ 1152921504606846976) :
    Calls Try.prog 5 #[.agg #[.slice ao a.1.length ac, .string (Wn.str a.2)], .agg #[.slice bo b.1.length bc, .string (Wn.str b.2)]] w fun e w' => e = .returned (.bool true) ∧ Below w.heap.size w w' := by
  obtain ⟨_, _, he, ha1, ha2⟩ := ha.form
  simp only [Value.slice.injEq, true_and] at he
  obtain ⟨rfl, rfl⟩ := he
  obtain ⟨_, _, he, hb1, hb2⟩ := hb.form
  simp only [Value.slice.injEq, true_and] at he
  obtain ⟨rfl, rfl⟩ := he
  unfold maxLen at ha2 hb2
  obtain ⟨hA, hB, hbel⟩ := blocks2 w (.cells #[.slice ao a.1.length ac, .string (Wn.str a.2)] 31) (.cells #[.slice bo b.1.length bc, .string (Wn.str b.2)] 31)
  have HA := Lib.hid (ha.below hbel)
  have HB := Lib.hid (hb.below hbel)
  have HBA := Lib.hid hA
  have HBB := Lib.hid hB
  have HW := Lib.hid hbel
  have HAL := Lib.hid hal
  have HBL := Lib.hid hbl
  have hsz := HW.out.size
  clear ha hb hA hB hbel hal hbl
  have QS : Hid (∀ W : World, ptK.P W (fun _ => True) (.slice ao a.1.length ac) a.1 → ptK.P W (fun _ => True) (.slice bo b.1.length bc) b.1 → Calls Try.prog 9 #[.slice (some ⟨W.heap.size, 0, none⟩) 2 2, .int .i64 100] (W.alloc (.cells #[.slice ao a.1.length ac, .string (Wn.str a.2), .slice bo b.1.length bc, .string (Wn.str b.2)] 31)) (S4Post [a, b] 100 (W.alloc (.cells #[.slice ao a.1.length ac, .string (Wn.str a.2), .slice bo b.1.length bc, .string (Wn.str b.2)] 31)))) := Lib.hid (fun W h1 h2 => by
    have hAl : Below W.heap.size W (W.alloc (.cells #[.slice ao a.1.length ac, .string (Wn.str a.2), .slice bo b.1.length bc, .string (Wn.str b.2)] 31)) := (Below.refl _ _).alloc (Nat.le_refl _) _
    exact small4_s _ [a, b] 100 _ (RK.P.mk (K := cxK) (es := [[.slice ao a.1.length ac, .string (Wn.str a.2)], [.slice bo b.1.length bc, .string (Wn.str b.2)]]) (heap_alloc_new W _) ⟨⟨_, rfl, h1.below hAl⟩, ⟨_, rfl, h2.below hAl⟩, trivial⟩ rfl rfl (by simp) trivial) (by simp) (fun c hc => by
      simp only [List.mem_cons, List.not_mem_nil, or_false] at hc
      rcases hc with rfl | rfl
      · exact HAL.out
      · exact HBL.out) (by decide) (by decide))
  generalize hya : Wn.str a.2 = ya at *
  generalize hyb : Wn.str b.2 = yb at *
  have HYA := Lib.hid hya
  have HYB := Lib.hid hyb
  clear hya hyb
  go_enter Try.func5, Try.ntmps5
  go_wp2_with fail
  generalize (w.alloc (.cells #[.slice ao a.1.length ac, .string ya] 31)).alloc (.cells #[.slice bo b.1.length bc, .string yb] 31) = W0 at *
  refine (fixed06 _).mono ?_
  rintro e w1 ⟨rfl, b1⟩
  have HA1 := Lib.hid (HA.out.below b1)
  have HB1 := Lib.hid (HB.out.below b1)
  have hA1 := block_lat b1 HBA.out
  have hB1 := block_lat b1 HBB.out
  have k0 := cell_of_block (o := 0) hA1
  have k1 := cell_of_block (o := 1) hA1
  have k2 := cell_of_block (o := 0) hB1
  have k3 := cell_of_block (o := 1) hB1
  simp only [List.getElem?_toArray, List.getElem?_cons_zero, List.getElem?_cons_succ] at k0 k1 k2 k3
  have HX := Lib.hid (And.intro hA1 hB1)
  have HW1 := Lib.hid (HW.out.trans (b1.mono hsz))
  clear b1 hA1 hB1 HA HB HBA HBB HW
  go_wp2_with fail
  refine (QS.out _ HA1.out HB1.out).mono ?_
  rintro e w2 ⟨r, rfl, rfl, hr⟩
  have HAl : Hid (Below w1.heap.size w1 (w1.alloc (.cells #[.slice ao a.1.length ac, .string ya, .slice bo b.1.length bc, .string yb] 31))) := Lib.hid ((Below.refl _ _).alloc (Nat.le_refl _) _)
  generalize w1.alloc (.cells #[.slice ao a.1.length ac, .string ya, .slice bo b.1.length bc, .string yb] 31) = W2 at *
  have HW2 := Lib.hid (HW1.out.trans (HAl.out.mono HW1.out.size))
  cases r
  · go_wp2_with fail
    refine (fixed06 _).mono ?_
    rintro e w3 ⟨rfl, b3⟩
    go_wp2_with fail
    go_ret
    exact ⟨rfl, HW2.out.trans (b3.mono HW2.out.size)⟩
  have HTOT := Lib.hid (hr rfl).1
  clear hr QS
  have HA2 := Lib.hid (HA1.out.below HAl.out)
  have HB2 := Lib.hid (HB1.out.below HAl.out)
  have hA2 := block_lat HAl.out HX.out.1
  have hB2 := block_lat HAl.out HX.out.2
  clear HA1 HB1 HX HAl HW1 k0 k1 k2 k3
  go_wp2_with fail
  have hla : a.1.length ≤ 1000 := by have := HTOT.out; have e : Wn.totL [a, b] = 2 + (Wn.totC a + (Wn.totC b + 0)) := rfl; have e2 : Wn.totC a = a.1.length + (a.1.map fun p => (Wn.Ss.ofL p.2).size).sum := rfl; omega
  have hlb : b.1.length ≤ 1000 := by have := HTOT.out; have e : Wn.totL [a, b] = 2 + (Wn.totC a + (Wn.totC b + 0)) := rfl; have e2 : Wn.totC b = b.1.length + (b.1.map fun p => (Wn.Ss.ofL p.2).size).sum := rfl; omega
  have HX := Lib.hid (And.intro hA2 hB2)
  have k0 := cell_of_block (o := 0) hA2
  have k1 := cell_of_block (o := 1) hA2
  have k2 := cell_of_block (o := 0) hB2
  have k3 := cell_of_block (o := 1) hB2
  simp only [List.getElem?_toArray, List.getElem?_cons_zero, List.getElem?_cons_succ] at k0 k1 k2 k3
  have HJ : Hid (∀ W, Below W2.heap.size W2 W → W.cell? ⟨w.heap.size, 0, none⟩ = some (.slice ao a.1.length ac) ∧ W.cell? ⟨w.heap.size, 1, none⟩ = some (.string ya) ∧ W.cell? ⟨w.heap.size + 1, 0, none⟩ = some (.slice bo b.1.length bc) ∧ W.cell? ⟨w.heap.size + 1, 1, none⟩ = some (.string yb)) := Lib.hid (fun W h => ⟨cell_latr h k0, cell_latr h k1, cell_latr h k2, cell_latr h k3⟩)
  clear k0 k1 k2 k3 hA2 hB2 HTOT
  refine wp_region_held_drew (S := fun W => Below W2.heap.size W2 W) (by kernel_rfl) (Below.refl _ _).drew ?_
  intro hS
  (refine wpAnyH_take (i := 1) (v := ?_) rfl (by kernel_rfl) (by kernel_rfl) (by kernel_rfl) (fun _ _ _ h => h) (Or.inl ⟨by kernel_rfl, ?hy⟩) (by assumption) ?_; (case hy => (intro W hSw; obtain ⟨x0, x1, x2, x3⟩ := HJ.out W hSw; go_simp; (try with_reducible rfl))); simp only [Act.put])
  (refine wpAnyH_take (i := 2) (v := ?_) rfl (by kernel_rfl) (by kernel_rfl) (by kernel_rfl) (fun _ _ _ h => h) (Or.inl ⟨by kernel_rfl, ?hy⟩) (by assumption) ?_; (case hy => (intro W hSw; obtain ⟨x0, x1, x2, x3⟩ := HJ.out W hSw; go_simp; (try with_reducible rfl))); simp only [Act.put])
  (refine wpAnyH_take (i := 4) (v := ?_) rfl (by kernel_rfl) (by kernel_rfl) (by kernel_rfl) (fun _ _ _ h => h) (Or.inl ⟨by kernel_rfl, ?hy⟩) (by assumption) ?_; (case hy => (intro W hSw; obtain ⟨x0, x1, x2, x3⟩ := HJ.out W hSw; go_simp; (try with_reducible rfl))); simp only [Act.put])
  (refine wpAnyH_take (i := 5) (v := ?_) rfl (by kernel_rfl) (by kernel_rfl) (by kernel_rfl) (fun _ _ _ h => h) (Or.inl ⟨by kernel_rfl, ?hy⟩) (by assumption) ?_; (case hy => (intro W hSw; obtain ⟨x0, x1, x2, x3⟩ := HJ.out W hSw; go_simp; (try with_reducible rfl))); simp only [Act.put])
  refine chains (M := 4) (N := 1) (n0 := 1) (CatR W2.heap.size W2 a.1 b.1 (.cells #[.slice none 0 0, .string ⟨#[]⟩] 31) _) (fun p q => #[decide (0 < p), true, true, decide (1 < p), true, true, decide (2 < p), decide (3 < p), decide (0 < q), false]) (fun p => if p = 0 then 0 else if p = 1 then 3 else if p = 2 then 6 else 7) (fun _ => 8) ?hf ?hg ?hR ?hF ?hG ?hS2 ?hE 5 0 0 _ _ (by decide) (by decide) rfl ⟨undef, undef, undef, undef, 0, [], [], rfl, rfl, hS, fun h => by omega, fun h => by omega, fun h => by omega, fun h => by omega, fun h => by omega⟩
  case hf =>
    intro p q hp hq
    have hp4 : p = 0 ∨ p = 1 ∨ p = 2 ∨ p = 3 := by omega
    rcases hp4 with rfl | rfl | rfl | rfl <;> rfl
  case hg =>
    intro p q hp hq
    obtain rfl : q = 0 := by omega
    rfl
  case hR =>
    intro p q hp hq h
    have hp4 : p = 0 ∨ p = 1 ∨ p = 2 ∨ p = 3 ∨ p = 4 := by omega
    have hq2 : q = 0 ∨ q = 1 := by omega
    rcases hp4 with rfl | rfl | rfl | rfl | rfl
    · rcases hq2 with rfl | rfl
      · exact rdy_of [0, 8] (by kernel_rfl) (by simp) (by simp)
      · exact rdy_of [0] (by kernel_rfl) (by simp) (by simp)
    · rcases hq2 with rfl | rfl
      · exact rdy_of [3, 8] (by kernel_rfl) (by simp) (by simp)
      · exact rdy_of [3] (by kernel_rfl) (by simp) (by simp)
    · rcases hq2 with rfl | rfl
      · exact rdy_of [6, 8] (by kernel_rfl) (by simp) (by simp)
      · exact rdy_of [6] (by kernel_rfl) (by simp) (by simp)
    · rcases hq2 with rfl | rfl
      · exact rdy_of [7, 8] (by kernel_rfl) (by simp) (by simp)
      · exact rdy_of [7] (by kernel_rfl) (by simp) (by simp)
    · rcases hq2 with rfl | rfl
      · exact rdy_of [8] (by kernel_rfl) (by simp) (by simp)
      · omega
  case hF =>
    intro p q f w' hp hq h K' hK'
    have hp4 : p = 0 ∨ p = 1 ∨ p = 2 ∨ p = 3 := by omega
    rcases hp4 with rfl | rfl | rfl | rfl
    · refine ⟨_, rfl, ?_⟩
      have hk := hK' _ _ (h.start hq)
      go_simp
      exact hk
    · exact h.app1 (fun W hW => (HA2.out.old.below hW)) hla hlb rfl rfl rfl rfl rfl (by simp) hK'
    · exact h.app2 (fun W hW => (HB2.out.old.below hW)) hla hlb rfl rfl rfl rfl rfl (by simp) hK'
    · obtain ⟨ro, rn, rc, hv, hk⟩ := h.build (by simp) hK'
      refine ⟨_, rfl, ?_⟩
      have he' : f.tmps[27]?.getD undef = .slice ro rn rc := by simpa [Act.eval] using hv
      clear hv
      go_simp
      exact hk
  case hG =>
    intro p q f w' hp hq h K' hK'
    have hk := hK' _ _ (h.alloc hp hq)
    refine ⟨_, rfl, ?_⟩
    go_simp
    exact hk
  case hS2 =>
    intro p q f w' h
    obtain ⟨_, _, _, _, _, _, _, _, _, hB, _⟩ := h
    exact hB
  case hE =>
    intro f W3 h
    obtain ⟨v1, v2, v3, cur, A, es, pl, rfl, _, hB3, hA3, hO, _, _, h3⟩ := h
    obtain ⟨rfl, rfl⟩ := h3 (by decide)
    obtain ⟨hO1, hO2⟩ := hO (by decide)
    obtain ⟨hNA, hA4⟩ := hA3 (by decide)
    have hO2 := hO2 (by decide)
    have hP : ptK.P W3 (fun c => c ≠ A) cur (a.1 ++ b.1) := RK.P.ofRow hO1.own (hO1.row.mono (fun c hc _ => by have : c < W2.heap.size := hc.1; omega)) (fun c _ e e2 => hO2 (by rw [e, e2]))
    obtain ⟨ro, rc, rfl, hr1, hr2⟩ := hP.form
    generalize hcl : (a.1 ++ b.1).length = cl at *
    have HCL := Lib.hid hcl
    clear hcl
    have HPR := Lib.hid hP
    have HB3 := Lib.hid hB3
    have HA3 := Lib.hid hA4
    clear hA3 hO hO1 hO2 hP hB3 h3 hA4 HJ hS
    simp only [pIf, Nat.lt_add_one, Nat.zero_lt_succ, decide_true, if_true, Act.put]
    have hlA := lt_of_block HA3.out
    have a0 := cell_of_block (o := 0) HA3.out
    have a1 := cell_of_block (o := 1) HA3.out
    have f0 := frozen_blk HA3.out 0
    have f1 := frozen_blk HA3.out 1
    simp only [List.getElem?_toArray, List.getElem?_cons_zero, List.getElem?_cons_succ] at a0 a1
    refine wpAnyH_ready (rs := [9]) (by kernel_rfl) (by simp) ?_
    refine AllReadyH.cons rfl (fun K hK => ?_) AllReadyH.nil
    go_simp
    have HB4 : Hid (Below W2.heap.size W2 ((W3.setCell ⟨A, 0, none⟩ (.slice ro cl rc)).setCell ⟨A, 1, none⟩ (.string ⟨#[]⟩))) := Lib.hid ((HB3.out.setCell (p := ⟨A, 0, none⟩) hNA _).setCell (p := ⟨A, 1, none⟩) hNA _)
    have HA4 : Hid (((W3.setCell ⟨A, 0, none⟩ (.slice ro cl rc)).setCell ⟨A, 1, none⟩ (.string ⟨#[]⟩)).heap[A]? = some (.cells #[.slice ro cl rc, .string ⟨#[]⟩] 31)) := Lib.hid (by have hh := HA3.out; simp [World.setCell, Array.getElem?_modify, hh])
    have HP4 : Hid (ptK.P ((W3.setCell ⟨A, 0, none⟩ (.slice ro cl rc)).setCell ⟨A, 1, none⟩ (.string ⟨#[]⟩)) (fun c => c ≠ A) (.slice ro cl rc) (a.1 ++ b.1)) := Lib.hid (HPR.out.same (fun c hc _ => by rw [Below.heap_setCell _ _ _ _ hc, Below.heap_setCell _ _ _ _ hc]) (fun _ h _ => h))
    refine hK.out _ _ HB4.out ?_
    intro hz
    clear hz hK K a0 a1 f0 f1 hlA HPR HB3 HA3
    change wpAnyH _ _ _ _ _ _ _ _ ((W3.setCell ⟨A, 0, none⟩ (.slice ro cl rc)).setCell ⟨A, 1, none⟩ (.string ⟨#[]⟩))
    generalize ((W3.setCell ⟨A, 0, none⟩ (.slice ro cl rc)).setCell ⟨A, 1, none⟩ (.string ⟨#[]⟩)) = W4 at *
    refine wpAnyH_done (by kernel_rfl) ?_ _
    have HA5 := Lib.hid (HA2.out.below HB4.out)
    have HB5 := Lib.hid (HB2.out.below HB4.out)
    have hX := And.intro (block_lat HB4.out HX.out.1) (block_lat HB4.out HX.out.2)
    have HW4 := Lib.hid (HW2.out.trans (HB4.out.mono HW2.out.size))
    have HX4 := Lib.hid hX
    have k0 := cell_of_block (o := 0) hX.1
    have k1 := cell_of_block (o := 1) hX.1
    have k2 := cell_of_block (o := 0) hX.2
    have k3 := cell_of_block (o := 1) hX.2
    have k4 := cell_of_block (o := 0) HA4.out
    have k5 := cell_of_block (o := 1) HA4.out
    simp only [List.getElem?_toArray, List.getElem?_cons_zero, List.getElem?_cons_succ] at k0 k1 k2 k3 k4 k5
    have HJ : Hid (∀ W, Below W4.heap.size W4 W → W.cell? ⟨w.heap.size, 0, none⟩ = some (.slice ao a.1.length ac) ∧ W.cell? ⟨w.heap.size + 1, 0, none⟩ = some (.slice bo b.1.length bc) ∧ W.cell? ⟨A, 0, none⟩ = some (.slice ro cl rc) ∧ W.cell? ⟨A, 1, none⟩ = some (.string ⟨#[]⟩)) := Lib.hid (fun W h => ⟨cell_latr h k0, cell_latr h k2, cell_latr h k4, cell_latr h k5⟩)
    have Q1 : Hid (∀ W, Below W4.heap.size W4 W → Calls Try.prog 11 #[.agg #[.slice ao a.1.length ac, .string ⟨#[]⟩]] W fun e w' => e = .returned (wV (Wn.ofP a.1)) ∧ Below W.heap.size W w') := Lib.hid (fun W h => wOf_v (a.1, []) ao ac W (HA5.out.below h).old)
    have Q2 : Hid (∀ W, Below W4.heap.size W4 W → Calls Try.prog 11 #[.agg #[.slice bo b.1.length bc, .string ⟨#[]⟩]] W fun e w' => e = .returned (wV (Wn.ofP b.1)) ∧ Below W.heap.size W w') := Lib.hid (fun W h => wOf_v (b.1, []) bo bc W (HB5.out.below h).old)
    have Q3 : Hid (∀ W, Below W4.heap.size W4 W → Calls Try.prog 11 #[.agg #[.slice ro cl rc, .string ⟨#[]⟩]] W fun e w' => e = .returned (wV (Wn.ofP (a.1 ++ b.1))) ∧ Below W.heap.size W w') := Lib.hid (fun W h => by
      have := wOf_v (a.1 ++ b.1, []) ro rc W (by have := (HP4.out.below h).old; rw [← HCL.out] at this; exact this)
      dsimp only at this
      rw [HCL.out] at this
      exact this)
    clear k0 k1 k2 k3 k4 k5 hX HA2 HB2 HX HW2
    have HADD := Lib.hid (Wn.ofP_app a.1 b.1)
    generalize Wn.ofP (a.1 ++ b.1) = gs at *
    generalize hga : Wn.ofP a.1 = ga at *
    generalize Wn.ofP b.1 = gb at *
    have HGA := Lib.hid hga
    clear hga
    go_wp2_with fail
    refine wp_region_held_drew (S := fun W => Below W4.heap.size W4 W) (by kernel_rfl) (Below.refl _ _).drew ?_
    intro hS
    (refine wpAnyH_take (i := 0) (v := ?_) rfl (by kernel_rfl) (by kernel_rfl) (by kernel_rfl) (fun _ _ _ h => h) (Or.inl ⟨by kernel_rfl, ?hy⟩) (by assumption) ?_; (case hy => (intro W hSw; obtain ⟨x0, x1, x2, x3⟩ := HJ.out W hSw; go_simp; (try with_reducible rfl))); simp only [Act.put])
    (refine wpAnyH_take (i := 1) (v := ?_) rfl (by kernel_rfl) (by kernel_rfl) (by kernel_rfl) (fun _ _ _ h => h) (Or.inl ⟨by kernel_rfl, ?hy⟩) (by assumption) ?_; (case hy => (intro W hSw; obtain ⟨x0, x1, x2, x3⟩ := HJ.out W hSw; go_simp; (try with_reducible rfl))); simp only [Act.put])
    (refine wpAnyH_take (i := 2) (v := ?_) rfl (by kernel_rfl) (by kernel_rfl) (by kernel_rfl) (fun _ _ _ h => h) (Or.inl ⟨by kernel_rfl, ?hy⟩) (by assumption) ?_; (case hy => (intro W hSw; obtain ⟨x0, x1, x2, x3⟩ := HJ.out W hSw; go_simp; (try with_reducible rfl))); simp only [Act.put])
    (refine wpAnyH_take (i := 4) (v := ?_) rfl (by kernel_rfl) (by kernel_rfl) (by kernel_rfl) (fun _ _ _ h => h) (Or.inl ⟨by kernel_rfl, ?hy⟩) (by assumption) ?_; (case hy => (intro W hSw; obtain ⟨x0, x1, x2, x3⟩ := HJ.out W hSw; go_simp; (try with_reducible rfl))); simp only [Act.put])
    (refine wpAnyH_take (i := 5) (v := ?_) rfl (by kernel_rfl) (by kernel_rfl) (by kernel_rfl) (fun _ _ _ h => h) (Or.inl ⟨by kernel_rfl, ?hy⟩) (by assumption) ?_; (case hy => (intro W hSw; obtain ⟨x0, x1, x2, x3⟩ := HJ.out W hSw; go_simp; (try with_reducible rfl))); simp only [Act.put])
    (refine wpAnyH_take (i := 6) (v := ?_) rfl (by kernel_rfl) (by kernel_rfl) (by kernel_rfl) (fun _ _ _ h => h) (Or.inl ⟨by kernel_rfl, ?hy⟩) (by assumption) ?_; (case hy => (intro W hSw; obtain ⟨x0, x1, x2, x3⟩ := HJ.out W hSw; go_simp; (try with_reducible rfl))); simp only [Act.put])
    (refine wpAnyH_take (i := 8) (v := ?_) rfl (by kernel_rfl) (by kernel_rfl) (by kernel_rfl) (fun _ _ _ h => h) (Or.inl ⟨by kernel_rfl, ?hy⟩) (by assumption) ?_; (case hy => (intro W hSw; obtain ⟨x0, x1, x2, x3⟩ := HJ.out W hSw; go_simp; (try with_reducible rfl))); simp only [Act.put])
    refine weaveG (w1 := W4) (z := w3w (0, 0, 0)) (x1 := wV ga) (x2 := wV gb) (x3 := wV gs) (k1 := 3) (k2 := 7) (k3 := 9) (i1 := 10) (i2 := 11) (i3 := 12) (e1 := 32) (e2 := 36) (e3 := 38) (d1 := 6) (d2 := 7) (d3 := 8) (u1 := 31) (u2 := 35) (u3 := 37) (n0 := 3) (fun c b3 b4 b5 => #[true, true, true, decide (0 < c), true, true, true, decide (1 < c), true, decide (2 < c), b3, b4, b5, false, false, false]) (fun _ _ _ => rfl) (fun _ _ _ => rfl) (fun _ _ _ => rfl) (fun _ _ _ => rfl) (fun _ _ _ => rfl) (fun _ _ _ => rfl) (by decide) (by decide) (by decide) (by decide) ?hR ?hC1 ?hC2 ?hC3 ?hA ?hB ?hC ?hE 6 0 false false false 0 0 0 _ (by decide) rfl ⟨hS, fun h => (by cases h), fun h => (by cases h), fun h => (by cases h), fun h => (by cases h), fun h => (by cases h), fun h => (by cases h)⟩
    case hR =>
      intro c b3 b4 b5 hc h
      have hc4 : c = 0 ∨ c = 1 ∨ c = 2 ∨ c = 3 := by omega
      rcases hc4 with rfl | rfl | rfl | rfl <;> cases b3 <;> cases b4 <;> cases b5 <;> first | (simp at h; done) | (show Region.ready _ _ _ = _; kernel_rfl)
    case hA =>
      intro f W K h
      refine ⟨_, rfl, ?_⟩
      go_simp
      exact h
    case hB =>
      intro f W K h
      refine ⟨_, rfl, ?_⟩
      go_simp
      exact h
    case hC =>
      intro f W K h
      refine ⟨_, rfl, ?_⟩
      go_simp
      exact h
    case hC1 =>
      intro f W K he hb h
      refine ⟨_, rfl, ?_⟩
      have he' : f.tmps[31]?.getD undef = .agg #[.slice ao a.1.length ac, .string ⟨#[]⟩] := by simpa [Act.eval] using he
      clear he
      go_simp
      refine (Q1.out _ hb).mono ?_
      rintro e w' ⟨rfl, b⟩
      exact h _ b
    case hC2 =>
      intro f W K he hb h
      refine ⟨_, rfl, ?_⟩
      have he' : f.tmps[35]?.getD undef = .agg #[.slice bo b.1.length bc, .string ⟨#[]⟩] := by simpa [Act.eval] using he
      clear he
      go_simp
      refine (Q2.out _ hb).mono ?_
      rintro e w' ⟨rfl, b⟩
      exact h _ b
    case hC3 =>
      intro f W K he hb h
      refine ⟨_, rfl, ?_⟩
      have he' : f.tmps[37]?.getD undef = .agg #[.slice ro cl rc, .string ⟨#[]⟩] := by simpa [Act.eval] using he
      clear he
      go_simp
      refine (Q3.out _ hb).mono ?_
      rintro e w' ⟨rfl, b⟩
      exact h _ b
    case hE =>
      intro X Y Z W5 hM
      clear hS HJ Q1 Q2 Q3
      simp only [frG, pIf, Nat.lt_add_one, Nat.reduceLT, decide_true, if_true, Act.put]
      obtain ⟨hbl, ha, hb, hc, hab, hac, hbc⟩ := hM
      obtain ⟨hNX, hX⟩ := ha rfl
      obtain ⟨hNY, hY⟩ := hb rfl
      obtain ⟨hNZ, hZ⟩ := hc rfl
      have hab := hab rfl rfl
      have hac := hac rfl rfl
      have hbc := hbc rfl rfl
      have HS : Hid (Below W4.heap.size W4 W5) := Lib.hid hbl
      have HA := Lib.hid hX
      have HB := Lib.hid hY
      have HC := Lib.hid hZ
      clear ha hb hc hX hY hZ hbl
      (have hlA := lt_of_block HA.out; have a0 := cell_of_block (o := 0) HA.out; have a1 := cell_of_block (o := 1) HA.out; have a2 := cell_of_block (o := 2) HA.out; have f0 := frozen_blk HA.out 0; have f1 := frozen_blk HA.out 1; have f2 := frozen_blk HA.out 2; simp only [List.getElem?_toArray, List.getElem?_cons_zero, List.getElem?_cons_succ] at a0 a1 a2; (refine wpAnyH_ready (rs := [13]) (by kernel_rfl) (by simp) ?_); (refine AllReadyH.cons rfl (fun K hK => ?_) AllReadyH.nil); go_simp; clear a0 a1 a2 f0 f1 f2 hlA; have HT := Lib.hid ((st3_below HS.out hNX ga)); (refine hK.out _ _ HT.out ?_); intro hz; clear hz hK K)
      have HA2 := Lib.hid (st3_same (y := ga) HA.out)
      have HB2 := Lib.hid ((st3_other (y := ga) (W := W5) hab).trans HB.out)
      have HC2 := Lib.hid ((st3_other (y := ga) (W := W5) hac).trans HC.out)
      change wpAnyH _ _ _ _ _ _ _ _ (st3 W5 X ga)
      generalize st3 W5 X ga = W6 at *
      clear HA HB HC HS
      (have hlA := lt_of_block HB2.out; have a0 := cell_of_block (o := 0) HB2.out; have a1 := cell_of_block (o := 1) HB2.out; have a2 := cell_of_block (o := 2) HB2.out; have f0 := frozen_blk HB2.out 0; have f1 := frozen_blk HB2.out 1; have f2 := frozen_blk HB2.out 2; simp only [List.getElem?_toArray, List.getElem?_cons_zero, List.getElem?_cons_succ] at a0 a1 a2; (refine wpAnyH_ready (rs := [14]) (by kernel_rfl) (by simp) ?_); (refine AllReadyH.cons rfl (fun K hK => ?_) AllReadyH.nil); go_simp; clear a0 a1 a2 f0 f1 f2 hlA; have HT := Lib.hid ((st3_below HT.out hNY gb)); (refine hK.out _ _ HT.out ?_); intro hz; clear hz hK K)
      have HA3 := Lib.hid ((st3_other (y := gb) (W := W6) hab.symm).trans HA2.out)
      have HB3 := Lib.hid (st3_same (y := gb) HB2.out)
      have HC3 := Lib.hid ((st3_other (y := gb) (W := W6) hbc).trans HC2.out)
      change wpAnyH _ _ _ _ _ _ _ _ (st3 W6 Y gb)
      generalize st3 W6 Y gb = W7 at *
      clear HA2 HB2 HC2
      (have hlA := lt_of_block HC3.out; have a0 := cell_of_block (o := 0) HC3.out; have a1 := cell_of_block (o := 1) HC3.out; have a2 := cell_of_block (o := 2) HC3.out; have f0 := frozen_blk HC3.out 0; have f1 := frozen_blk HC3.out 1; have f2 := frozen_blk HC3.out 2; simp only [List.getElem?_toArray, List.getElem?_cons_zero, List.getElem?_cons_succ] at a0 a1 a2; (refine wpAnyH_ready (rs := [15]) (by kernel_rfl) (by simp) ?_); (refine AllReadyH.cons rfl (fun K hK => ?_) AllReadyH.nil); go_simp; clear a0 a1 a2 f0 f1 f2 hlA; have HT := Lib.hid ((st3_below HT.out hNZ gs)); (refine hK.out _ _ HT.out ?_); intro hz; clear hz hK K)
      have HXX := Lib.hid ((st3_other (y := gs) (W := W7) hac.symm).trans HA3.out)
      have HYY := Lib.hid ((st3_other (y := gs) (W := W7) hbc.symm).trans HB3.out)
      have HZZ := Lib.hid (st3_same (y := gs) HC3.out)
      change wpAnyH _ _ _ _ _ _ _ _ (st3 W7 Z gs)
      generalize st3 W7 Z gs = W8 at *
      clear HA3 HB3 HC3
      refine wpAnyH_done (by kernel_rfl) ?_ _
      have HW8 := Lib.hid (HW4.out.trans (HT.out.mono HW4.out.size))
      have HA8 := Lib.hid (HA5.out.below HT.out)
      have hN8 := block_lat HT.out HX4.out.1
      have k0 := cell_of_block (o := 0) hN8
      have k1 := cell_of_block (o := 1) hN8
      simp only [List.getElem?_toArray, List.getElem?_cons_zero, List.getElem?_cons_succ] at k0 k1
      have HN8 := Lib.hid hN8
      clear hN8 HT HX4 HA5 HB5 HP4 HA4 HB4 HW4 hab hac hbc hNX hNY hNZ hNA
      have hlX := lt_of_block HXX.out
      have hlY := lt_of_block HYY.out
      have hlZ := lt_of_block HZZ.out
      have hlN := lt_of_block HN8.out
      have hAl : Below W8.heap.size W8 (W8.alloc (.cells #[.slice none 0 0, .string ya] 31)) := (Below.refl _ _).alloc (Nat.le_refl _) _
      have HB9 := Lib.hid hAl
      have HM9 := Lib.hid (heap_alloc_new W8 (.cells #[.slice none 0 0, .string ya] 31))
      have HO9 : Hid (ptK.Own (W8.heap.size + 1) (fun c => c ≠ W8.heap.size) (W8.alloc (.cells #[.slice none 0 0, .string ya] 31)) (.slice none 0 0) [] ((a.1.take 0).map Wn.notP)) := Lib.hid (RK.Own.start _ _ _ _)
      clear hAl
      go_wp2_with fail
      generalize W8.alloc (.cells #[.slice none 0 0, .string ya] 31) = W9 at *
      go_loopw [10] (fun v10 wr => ∃ (k : Nat) (v : Value) (es : List (List Value)), k ≤ a.1.length ∧ v10 = .int .i64 (k : Int) ∧ Hid (Below W8.heap.size W8 wr) ∧ Hid (wr.heap[W8.heap.size]? = some (.cells #[v, .string ya] 31)) ∧ Hid (ptK.Own (W8.heap.size + 1) (fun c => c ≠ W8.heap.size) wr v es ((a.1.take k).map Wn.notP))) (fun v10 _ => a.1.length - (intOf v10).toNat)
      case atStart => exact ⟨0, _, [], by omega, rfl, HB9, HM9, HO9⟩
      case round =>
        clear HB9 HM9 HO9 k0 k1
        obtain ⟨k, v, es, hk, rfl, HB, HM, HO⟩ := hrel
        have hN := (HB.out.block _ hlN).trans HN8.out
        have k0 := cell_of_block (o := 0) hN
        have k1 := cell_of_block (o := 1) hN
        simp only [List.getElem?_toArray, List.getElem?_cons_zero, List.getElem?_cons_succ] at k0 k1
        have m0 := cell_of_block (o := 0) HM.out
        have m1 := cell_of_block (o := 1) HM.out
        simp only [List.getElem?_toArray, List.getElem?_cons_zero, List.getElem?_cons_succ] at m0 m1
        have hlM := lt_of_block HM.out
        obtain ⟨vo, vc, rfl, hv1, hv2⟩ := own_shape HO.out.own
        have hel := HO.out.length
        simp only [List.length_map, List.length_take] at hel
        have hel2 : es.length ≤ 1000 := by omega
        clear hel
        by_cases hkl : k < a.1.length
        · have hki : (k : Int) < (a.1.length : Int) := by omega
          obtain ⟨x, hx⟩ : ∃ x, a.1[k]? = some x := ⟨a.1[k], List.getElem?_eq_getElem hkl⟩
          obtain ⟨g, o, so, sc, rfl, hgl, hsm, j1⟩ := pt_at' HA8.out.old hx
          have HSM := Lib.hid hsm
          have HTK : Hid ((a.1.take (k + 1)).map Wn.notP = (a.1.take k).map Wn.notP ++ [Wn.notP x]) := Lib.hid (by rw [List.take_add_one, hx]; simp)
          have j1' := (HB.out.cell (p := ⟨g, o + k * 2 + 1, none⟩) hgl).trans j1
          have HJ : Hid (∀ W, Below W8.heap.size W8 W → W.cell? ⟨w.heap.size, 0, none⟩ = some (.slice (some ⟨g, o, none⟩) a.1.length ac) ∧ W.cell? ⟨g, o + k * 2 + 1, none⟩ = some (.slice so x.2.length sc) ∧ True ∧ True) := Lib.hid (fun W h => ⟨by have := cell_of_block (o := 0) ((h.block _ hlN).trans HN8.out); simpa using this, (h.cell (p := ⟨g, o + k * 2 + 1, none⟩) hgl).trans j1, trivial, trivial⟩)
          clear hsm hx j1
          generalize hsl : x.2.length = sl at *
          have HSL := Lib.hid hsl
          clear hsl
          go_wp2_with fail
          refine wp_region_held_drew (S := fun W => Below W8.heap.size W8 W) (by kernel_rfl) HB.out.drew ?_
          intro hS
          (refine wpAnyH_take (i := 0) (v := ?_) rfl (by kernel_rfl) (by kernel_rfl) (by kernel_rfl) (fun _ _ _ h => h) (Or.inl ⟨by kernel_rfl, ?hy⟩) (by assumption) ?_; (case hy => (intro W hSw; obtain ⟨x0, x1, x2, x3⟩ := HJ.out W hSw; go_simp; (try with_reducible rfl))); simp only [Act.put])
          (refine wpAnyH_take (i := 2) (v := ?_) rfl (by kernel_rfl) (by kernel_rfl) (by kernel_rfl) (fun _ _ _ h => h) (Or.inl ⟨by kernel_rfl, ?hy⟩) (by assumption) ?_; (case hy => (intro W hSw; obtain ⟨x0, x1, x2, x3⟩ := HJ.out W hSw; go_simp; (try with_reducible rfl))); simp only [Act.put])
          (refine wpAnyH_take (i := 3) (v := ?_) rfl (by kernel_rfl) (by kernel_rfl) (by kernel_rfl) (fun _ _ _ h => h) (Or.inl ⟨by kernel_rfl, ?hy⟩) (by assumption) ?_; (case hy => (intro W hSw; obtain ⟨x0, x1, x2, x3⟩ := HJ.out W hSw; go_simp; (try with_reducible rfl))); simp only [Act.put])
          (refine wpAnyH_take (i := 4) (v := ?_) rfl (by kernel_rfl) (by kernel_rfl) (by kernel_rfl) (fun _ _ _ h => h) (Or.inl ⟨by kernel_rfl, ?hy⟩) (by assumption) ?_; (case hy => (intro W hSw; obtain ⟨x0, x1, x2, x3⟩ := HJ.out W hSw; go_simp; (try with_reducible rfl))); simp only [Act.put])
          (refine wpAnyH_take (i := 5) (v := ?_) rfl (by kernel_rfl) (by kernel_rfl) (by kernel_rfl) (fun _ _ _ h => h) (Or.inl ⟨by kernel_rfl, ?hy⟩) (by assumption) ?_; (case hy => (intro W hSw; obtain ⟨x0, x1, x2, x3⟩ := HJ.out W hSw; go_simp; (try with_reducible rfl))); simp only [Act.put])
          (refine wpAnyH_take (i := 6) (v := ?_) rfl (by kernel_rfl) (by kernel_rfl) (by kernel_rfl) (fun _ _ _ h => h) (Or.inl ⟨by kernel_rfl, ?hy⟩) (by assumption) ?_; (case hy => (intro W hSw; obtain ⟨x0, x1, x2, x3⟩ := HJ.out W hSw; go_simp; (try with_reducible rfl))); simp only [Act.put])
          (refine wpAnyH_take (i := 7) (v := ?_) rfl (by kernel_rfl) (by kernel_rfl) (by kernel_rfl) (fun _ _ _ h => h) (Or.inl ⟨by kernel_rfl, ?hy⟩) (by assumption) ?_; (case hy => (intro W hSw; obtain ⟨x0, x1, x2, x3⟩ := HJ.out W hSw; go_simp; (try with_reducible rfl))); simp only [Act.put])
          (refine wpAnyH_take (i := 8) (v := ?_) rfl (by kernel_rfl) (by kernel_rfl) (by kernel_rfl) (fun _ _ _ h => h) (Or.inl ⟨by kernel_rfl, ?hy⟩) (by assumption) ?_; (case hy => (intro W hSw; obtain ⟨x0, x1, x2, x3⟩ := HJ.out W hSw; go_simp; (try with_reducible rfl))); simp only [Act.put])
          have hNS : ∀ a0 p q f W, NotR wr (.slice so sl sc) (.slice vo es.length vc) a0 p q f W → Below W8.heap.size W8 W := fun a0 p q f W h => HB.out.trans (h.bel.mono HB.out.size)
          refine chains (M := 3) (N := 1) (n0 := 3) (NotR wr (.slice so sl sc) (.slice vo es.length vc) _) (fun p q => #[true, decide (0 < q), true, true, true, true, true, true, true, decide (0 < p), decide (1 < p), decide (2 < p), false, false, false]) (fun p => 9 + p) (fun _ => 1) ?hf ?hg ?hR ?hF ?hG (fun p q f W h => hNS _ _ _ _ _ h) ?hE 4 0 0 _ _ (by decide) (by decide) rfl (NotR.start wr _ _ _ (Below.refl _ _).drew)
          case hf =>
            intro p q hp hq
            have hp4 : p = 0 ∨ p = 1 ∨ p = 2 := by omega
            rcases hp4 with rfl | rfl | rfl <;> rfl
          case hg =>
            intro p q hp hq
            obtain rfl : q = 0 := by omega
            rfl
          case hR =>
            intro p q hp hq h
            have hp4 : p = 0 ∨ p = 1 ∨ p = 2 ∨ p = 3 := by omega
            have hq2 : q = 0 ∨ q = 1 := by omega
            rcases hp4 with rfl | rfl | rfl | rfl
            · rcases hq2 with rfl | rfl
              · exact rdy_of [1, 9] (by kernel_rfl) (by simp) (by simp)
              · exact rdy_of [9] (by kernel_rfl) (by simp) (by simp)
            · rcases hq2 with rfl | rfl
              · exact rdy_of [1, 10] (by kernel_rfl) (by simp) (by simp)
              · exact rdy_of [10] (by kernel_rfl) (by simp) (by simp)
            · rcases hq2 with rfl | rfl
              · exact rdy_of [1, 11] (by kernel_rfl) (by simp) (by simp)
              · exact rdy_of [11] (by kernel_rfl) (by simp) (by simp)
            · rcases hq2 with rfl | rfl
              · exact rdy_of [1] (by kernel_rfl) (by simp) (by simp)
              · omega
          case hF =>
            intro p q f w' hp hq h K' hK'
            have hp4 : p = 0 ∨ p = 1 ∨ p = 2 := by omega
            rcases hp4 with rfl | rfl | rfl
            · refine ⟨_, rfl, ?_⟩
              have hk := hK' _ _ h.s58
              have he := h.eval (t := 57) (by decide)
              have he' : f.tmps[57]?.getD undef = .agg #[.int .i64 11, .string ⟨#[]⟩, .string ⟨#[]⟩, .int .i64 0, .int .i64 0, .slice so sl sc] := by simpa [Act.eval] using he
              clear he h
              go_simp
              exact hk
            · obtain ⟨B, he, hn⟩ := h.s59 (by simp)
              refine ⟨_, rfl, ?_⟩
              have hk := hK' _ _ hn
              have he' : f.tmps[58]?.getD undef = .slice (some ⟨B, 0, none⟩) 1 1 := by simpa [Act.eval] using he
              clear he h hn
              go_simp
              exact hk
            · obtain ⟨B, he, hn⟩ := h.s60 (by simp)
              refine ⟨_, rfl, ?_⟩
              have hk := hK' _ _ hn
              have he' : f.tmps[59]?.getD undef = .agg #[Value.int .i64 0, Value.slice (some ⟨B, 0, none⟩) 1 1] := by simpa [Act.eval] using he
              clear he h hn
              go_simp
              exact hk
          case hG =>
            intro p q f w' hp hq h K' hK'
            obtain rfl : q = 0 := by omega
            have hk := hK' _ _ h.ld
            have hc := (h.bel.cell (p := ⟨W8.heap.size, 0, none⟩) hlM).trans m0
            have he := h.eval (t := 49) (by decide)
            have he' : f.tmps[49]?.getD undef = .pointer (some ⟨W8.heap.size, 0, none⟩) := by simpa [Act.eval] using he
            refine ⟨_, rfl, ?_⟩
            clear he h
            go_simp
            exact hk
          case hE =>
            intro f w' h
            have hB3 := h.bel
            have hBW := HB.out.trans (hB3.mono HB.out.size)
            have hOw := HO.out.below hB3
            have hMw := (hB3.block _ hlM).trans HM.out
            have hbase : W8.heap.size + 1 ≤ w'.heap.size := by have := hB3.size; omega
            clear hS
            refine wpAnyH_all (rs := [12]) (by kernel_rfl) (by simp) (fun i hi => ?_)
            obtain rfl : i = 12 := by simpa using hi
            refine StepW.op fun K hK => h.app hOw.own hel2 hbase rfl rfl rfl rfl (by simp) fun B v' w'' hBN hBc g1 g2 g3 => ?_
            have hcR : ptK.R w' (fun b => b ≠ W8.heap.size ∧ (Value.slice vo es.length vc).ownBlock ≠ some b) [Value.int .i64 0, Value.slice (some ⟨B, 0, none⟩) 1 1] (Wn.notP x) := not_R hBc ⟨by omega, fun e => by have := (HO.out.own.lt B e).2; omega⟩ (HSM.out.same (fun c hc _ => hBW.block c hc) (fun c hc _ => ⟨fun e => by omega, fun e => by have := (HO.out.own.lt c e).1; omega⟩))
            have n1 : ptK.Own (W8.heap.size + 1) (fun c => c ≠ W8.heap.size) w'' v' (es ++ [[Value.int .i64 0, Value.slice (some ⟨B, 0, none⟩) 1 1]]) ((a.1.take (k + 1)).map Wn.notP) := by rw [HTK.out]; exact hOw.next (Below.refl _ _) hcR g1 g2 g3
            have n2 : Below W8.heap.size W8 w'' := Below.grown hBW g2 hBW.size (fun c hc => by have := (hOw.own.lt c hc).1; omega)
            have n3 : w''.heap[W8.heap.size]? = some (.cells #[.slice vo es.length vc, .string ya] 31) := (g2.block _ (lt_of_block hMw) (fun e => by have := (hOw.own.lt _ e.symm).1; omega)).trans hMw
            refine hK _ _ ⟨n2, ?_⟩
            obtain ⟨B', C', rfl, _, _, _⟩ := h
            simp only [pIf, Nat.lt_add_one, Nat.zero_lt_succ, Nat.reduceLT, decide_true, if_true, Act.put]
            obtain ⟨no, nc, rfl, nv1, nv2⟩ := own_shape g1
            generalize hnl : (es ++ [[Value.int .i64 0, Value.slice (some ⟨B, 0, none⟩) 1 1]]).length = nl at *
            have HN2 := Lib.hid n1
            have HN3 := Lib.hid n2
            have HN4 := Lib.hid n3
            have hS := n2
            clear hK g1 g2 g3 n1 n2 n3 hcR hBc hMw hOw hB3 hBW hnl
            (refine wpAnyH_take (i := 13) (v := ?_) rfl (by kernel_rfl) (by kernel_rfl) (by kernel_rfl) (fun _ _ _ h => h) (Or.inl ⟨by kernel_rfl, ?hy⟩) (by assumption) ?_; (case hy => (intro W hSw; obtain ⟨x0, x1, x2, x3⟩ := HJ.out W hSw; go_simp; (try with_reducible rfl))); simp only [Act.put])
            have m0' := cell_of_block (o := 0) HN4.out
            have m1' := cell_of_block (o := 1) HN4.out
            have mf0 := frozen_blk HN4.out 0
            simp only [List.getElem?_toArray, List.getElem?_cons_zero, List.getElem?_cons_succ] at m0' m1'
            have hlM2 := lt_of_block HN4.out
            have HS1 : Hid (Below W8.heap.size W8 (w''.setCell ⟨W8.heap.size, 0, none⟩ (.slice no nl nc))) := Lib.hid (HN3.out.setCell (p := ⟨W8.heap.size, 0, none⟩) (Nat.le_refl _) _)
            have HS2 : Hid ((w''.setCell ⟨W8.heap.size, 0, none⟩ (.slice no nl nc)).heap[W8.heap.size]? = some (.cells #[.slice no nl nc, .string ya] 31)) := Lib.hid (by have hh := HN4.out; simp [World.setCell, Array.getElem?_modify, hh])
            have HS3 : Hid (ptK.Own (W8.heap.size + 1) (fun c => c ≠ W8.heap.size) (w''.setCell ⟨W8.heap.size, 0, none⟩ (.slice no nl nc)) (.slice no nl nc) (es ++ [[Value.int .i64 0, Value.slice (some ⟨B, 0, none⟩) 1 1]]) ((a.1.take (k + 1)).map Wn.notP)) := Lib.hid (HN2.out.kp (S := fun c => c = W8.heap.size) (Kp.setCell (p := ⟨W8.heap.size, 0, none⟩) (Kp.refl (fun c => c = W8.heap.size) w'') (.inl rfl) (.slice no nl nc)) (fun c hc e => by have := (HN2.out.own.lt c hc).1; omega) (fun c hc _ e => hc e))
            refine wpAnyH_ready (rs := [14]) (by kernel_rfl) (by simp) ?_
            refine AllReadyH.cons rfl (fun K hK => ?_) AllReadyH.nil
            go_simp
            refine hK.out _ _ HS1.out ?_
            intro hz
            clear hz hK K m0' m1' mf0 hlM2 HN2 HN3 HN4 hS
            change wpAnyH _ _ _ _ _ _ _ _ (w''.setCell ⟨W8.heap.size, 0, none⟩ (.slice no nl nc))
            generalize (w''.setCell ⟨W8.heap.size, 0, none⟩ (.slice no nl nc)) = W10 at *
            refine wpAnyH_done (by kernel_rfl) ?_ _
            go_wp2_with fail
            exact ⟨⟨k + 1, _, es ++ [[Value.int .i64 0, Value.slice (some ⟨B, 0, none⟩) 1 1]], by omega, by go_num, HS1, HS2, HS3⟩, by simp [intOf]; try omega⟩
        · have hkn : ¬ (k : Int) < (a.1.length : Int) := by omega
          have hke : a.1.take k = a.1 := List.take_of_length_le (by omega)
          rw [hke] at HO
          clear hke
          go_wp2_with fail
          go_goals
          obtain ⟨p0, p1, p2⟩ := ga
          obtain ⟨q0, q1, q2⟩ := gb
          obtain ⟨s0, s1, s2⟩ := gs
          have HXr := Lib.hid (block_lat HB.out HXX.out)
          have HYr := Lib.hid (block_lat HB.out HYY.out)
          have HZr := Lib.hid (block_lat HB.out HZZ.out)
          have x0 := cell_regrown (cell_of_block (o := 0) HXr.out : wr.cell? ⟨X, 0, Option.none⟩ = some (.int .i64 p0))
          have x1 := cell_regrown (cell_of_block (o := 1) HXr.out : wr.cell? ⟨X, 0 + 1, Option.none⟩ = some (.int .i64 p1))
          have x2 := cell_regrown (cell_of_block (o := 2) HXr.out : wr.cell? ⟨X, 0 + 2, Option.none⟩ = some (.int .i64 p2))
          have y0 := cell_regrown (cell_of_block (o := 0) HYr.out : wr.cell? ⟨Y, 0, Option.none⟩ = some (.int .i64 q0))
          have y1 := cell_regrown (cell_of_block (o := 1) HYr.out : wr.cell? ⟨Y, 0 + 1, Option.none⟩ = some (.int .i64 q1))
          have y2 := cell_regrown (cell_of_block (o := 2) HYr.out : wr.cell? ⟨Y, 0 + 2, Option.none⟩ = some (.int .i64 q2))
          have z0 := cell_regrown (cell_of_block (o := 0) HZr.out : wr.cell? ⟨Z, 0, Option.none⟩ = some (.int .i64 s0))
          have z1 := cell_regrown (cell_of_block (o := 1) HZr.out : wr.cell? ⟨Z, 0 + 1, Option.none⟩ = some (.int .i64 s1))
          have z2 := cell_regrown (cell_of_block (o := 2) HZr.out : wr.cell? ⟨Z, 0 + 2, Option.none⟩ = some (.int .i64 s2))
          have mr0 := cell_regrown m0
          have mr1 := cell_regrown m1
          have kr0 := cell_regrown k0
          have kr1 := cell_regrown k1
          have hs := HADD.out
          simp only [Prod.mk.injEq] at hs
          obtain ⟨hs0, hs1, hs2⟩ := hs
          have e0 : IntKind.i64.wrap (p0 + q0) = s0 := (wrap_w64 _).trans hs0.symm
          have e1 : IntKind.i64.wrap (p1 + q1) = s1 := (wrap_w64 _).trans hs1.symm
          have e2 : IntKind.i64.wrap (p2 + q2) = s2 := (wrap_w64 _).trans hs2.symm
          have hoc : Wn.ofC (a.1.map Wn.notP, a.2) = Wn.ofC a := by simp only [Wn.ofC, Wn.ofP_not]
          obtain ⟨⟨g0, g1, g2⟩, hg⟩ : ∃ g, Wn.ofC a = g := ⟨_, rfl⟩
          have hl := HO.out.length
          have C1 : Hid (∀ d os, Calls Try.prog 11 #[.agg #[.slice vo es.length vc, .string ya]] (grow (redrawn wr d) os) fun e w'' => e = .returned (wV (g0, g1, g2)) ∧ ∃ p : Regrown, w'' = grow (redrawn wr p.d) p.os) := Lib.hid (fun d os => by
            have h := ((HO.out.p (fun b hb => by omega)).below (below_regrown wr d os)).old
            rw [hl] at h ⊢
            have := wOf_v (a.1.map Wn.notP, a.2) vo vc _ h
            rw [hoc, hg] at this
            rw [← HYA.out]
            exact Calls.regrown_of this)
          have C2 : Hid (∀ d os, Calls Try.prog 11 #[.agg #[.slice ao a.1.length ac, .string ya]] (grow (redrawn wr d) os) fun e w'' => e = .returned (wV (g0, g1, g2)) ∧ ∃ p : Regrown, w'' = grow (redrawn wr p.d) p.os) := Lib.hid (fun d os => by
            have := wOf_v a ao ac _ ((HA8.out.below HB.out).below (below_regrown wr d os)).old
            rw [hg] at this
            rw [← HYA.out]
            exact Calls.regrown_of this)
          have E1 : ∀ W : World, (Op.equalIn 10000 27 (wV (s0, s1, s2)) (wV (s0, s1, s2))).run Try.prog W = .ok true W := fun W => by have := eq3_run s0 s1 s2 s0 s1 s2 W; simpa using this
          have E2 : ∀ W : World, (Op.equalIn 10000 27 (wV (g0, g1, g2)) (wV (g0, g1, g2))).run Try.prog W = .ok true W := fun W => by have := eq3_run g0 g1 g2 g0 g1 g2 W; simpa using this
          have HF := Lib.hid (HW8.out.trans (HB.out.mono HW8.out.size))
          clear HADD hs0 hs1 hs2 hoc hg hl HO HM HB HXX HYY HZZ HXr HYr HZr HA8 HN8 HW8 m0 m1 k0 k1 HAL HBL HYB hN HT HGA HCL hab hac hbc hkl hkn
          (refine wp_region_quiet_below (by kernel_rfl) (by kernel_rfl) ?_); (repeat (first | go_big_quiet_skip | quiet_step (first | with_reducible exact C1.out _ _ | with_reducible exact C2.out _ _))); (refine wpQuiet_nil ?_); intro _ hw'; obtain ⟨⟨dq, osq⟩, hw''⟩ := hw'; subst hw''
          go_wp2_with fail
          go_ret
          exact ⟨rfl, HF.out.trans ((below_regrown wr _ _).mono HF.out.size)⟩
end Go.Proofs.Ytbjhiimjillleaa
set_option maxRecDepth 20000
namespace Go.Proofs.Ytbjhiimjillleaa.WAdds
open Go.ChangeShapes Go.WideShapes Go.ChangeAt Go.RowKit
open Go.ChangeMaps (open_string shut_string)
noncomputable def laidWorld (os : Os) : World := World.holding Try.prog os ⟨#[], #[], []⟩
theorem contract (H : Type) (enc : TypeId × Value → H) (W : World) (base : Nat) (args : Array Value) (ds gs : List (DataW H)) (before : List MemPlace)
    (hval : ∀ (j : Nat) t v, Try.f5.params[j]? = some t → args[j]? = some v → Value.okWide Try.prog W .any base t v)
    (hW : DataW.Whole enc Try.prog Try.f5.params.toList Rows.weightAddsSpec.vars false W args.toList ds gs before) (_hL : laidMetH Try.prog Rows.weightAddsRow.laid W)
    (hz : (DataW.weightsEach Try.prog (Try.f5.params.toList ++ (OpenSpec.ofChange Rows.weightAddsSpec).bare.plain.varTypes Try.prog) (ds ++ gs)).all (fun x => decide (x ≤ reachBytes)) = true) :
    Calls Try.prog 5 args W fun e W' => ∃ v, e = .returned v ∧ Rows.weightAddsSpec.post enc Try.prog Try.f5 false true false false W args v W' := by
  have hW' := hW
  obtain ⟨p, q, hA0, hV, rfl, hfz, hnd⟩ := hW
  have hA : DataW.TrodAll enc Try.prog W 0 (fun _ => true) true Try.f5.params.toList args.toList ds p := hA0
  rw [Try.params5] at hA hval hz
  obtain ⟨v0, vs0, d0, ds0, p0, q0, hargs, rfl, rfl, h0, r0⟩ := trodAll_cons hA
  obtain ⟨v1, vs1, d1, ds1, p1, q1, rfl, rfl, rfl, h1, r1⟩ := trodAll_cons r0
  obtain ⟨rfl, rfl, rfl⟩ := trodAll_nil r1
  obtain rfl : args = #[v0, v1] := by cases args; simp_all
  obtain ⟨rfl, rfl⟩ := trodVars_none hV
  obtain ⟨c0, po0, pc0, hv0, hp0, hb0⟩ := open_cx (hval 0 31 v0 rfl rfl) h0
  have hb0 := hb0 fun m hm => of_decide_eq_true (List.all_eq_true.1 hz m (DataW.weights_mem_each (j := 0) rfl rfl m hm))
  subst hv0
  obtain ⟨c1, po1, pc1, hv1, hp1, hb1⟩ := open_cx (hval 1 31 v1 rfl rfl) h1
  have hb1 := hb1 fun m hm => of_decide_eq_true (List.all_eq_true.1 hz m (DataW.weights_mem_each (j := 1) rfl rfl m hm))
  subst hv1
  clear hA0 hz
  simp only [List.append_nil] at hW'
  have hlt : ∀ x ∈ (p0 ++ p1), x.block < W.heap.size := fun x hx => hW'.lt x hx
  refine (lwAdds_any c0 c1 po0 po1 pc0 pc1 W hp0 hp1 hb0 hb1).mono fun e W' ⟨he, hb⟩ => ?_
  subst he
  exact ⟨_, rfl, post_of_below (pa := (p0 ++ (p1 ++ []))) (pv := []) hW' (fun _ _ _ => trodAll_cons_mk (shut_bool Try.underlying4 _) trodAll_mk0)
    (fun sp hsp => (trodAll_cons_mk (again (t := 31) (by kernel_rfl) (by decide) h0 hb (fun x hx => hlt x (by simp [hx])) (fun x hx => hsp x (by simp [hx])))
      (trodAll_cons_mk (again (t := 31) (by kernel_rfl) (by decide) h1 hb (fun x hx => hlt x (by simp [hx])) (fun x hx => hsp x (by simp [hx])))
      trodAll_mk0))) (fun _ _ => rfl) (by simp) hb
    (ok_one (by kernel_rfl) rfl (okWide_bool_mk Try.underlying4 _))⟩
theorem laid_met (os : Os) : laidMet Try.prog Rows.weightAddsRow.laid ((laidWorld os).forCall (fun _ _ => 0) ⟨#[], #[.agg #[.slice none 0 0, .string ⟨#[]⟩], .agg #[.slice none 0 0, .string ⟨#[]⟩]], []⟩).memory :=
  laidMet_of_run' 8 (by kernel_rfl) (by kernel_rfl)
theorem reads (os : Os) {H : Type} (enc : TypeId × Value → H) : ∃ places, DataW.whole enc Try.prog ((laidWorld os).forCall (fun _ _ => 0) ⟨#[], #[.agg #[.slice none 0 0, .string ⟨#[]⟩], .agg #[.slice none 0 0, .string ⟨#[]⟩]], []⟩).memory Try.f5.params.toList Rows.weightAddsSpec.vars false #[Value.agg #[.slice none 0 0, .string ⟨#[]⟩], Value.agg #[.slice none 0 0, .string ⟨#[]⟩]].toList 8 = some ([.agg [.nil, .lit (.string [])], .agg [.nil, .lit (.string [])]], [], places) :=
  ⟨[], by kernel_rfl⟩
set_option maxRecDepth 100000 in
theorem lifted (os : Os) (started : os.Started) (H : Type) (enc : TypeId × Value → H) (F : Stop.Interp) :
    ReturnsInHanded {} Try.checked os 5 .any ((OpenSpec.ofChange Rows.weightAddsSpec).preRow enc Try.prog Try.f5 Rows.weightAddsRow.domain false Rows.weightAddsRow.laid) (((OpenSpec.ofChange Rows.weightAddsSpec).at F).post enc Try.prog Try.f5 false true false false) := by
  obtain ⟨places, hx⟩ := reads os enc
  refine returnsInHanded_of_row (C := Try.checked) (s := OpenSpec.ofChange Rows.weightAddsSpec) own started (by kernel_rfl) Try.func5
    (witness_row_at (enc := enc) (C := Try.checked) false (laidWorld os) #[.agg #[.slice none 0 0, .string ⟨#[]⟩], .agg #[.slice none 0 0, .string ⟨#[]⟩]] rfl (by kernel_rfl) (by kernel_rfl) (by kernel_rfl)
      (OpenSpec.preRow_of_cond 8 hx (by kernel_rfl) (fun k hk => by cases hk) (by kernel_rfl) (laid_met os))) ?_
  intro W base args ds gs before hval hW _ _ hz hL _ _
  exact contract H enc W base args ds gs before hval hW hL hz
theorem said : Rows.WeightAddsSaid :=
  OpenClaim.holds_of_cond 5 Try.f5 rfl rfl rfl rfl rfl rfl rfl ⟨rfl, rfl, rfl, rfl, rfl⟩ rfl rfl rfl rfl rfl (by kernel_rfl) Try.func5 (by kernel_rfl)
    (of_decide_eq_true (by kernel_rfl)) (by unfold Func.isWrapper; first | (rw [if_pos (by decide +kernel)]; kernel_rfl) | (rw [if_neg (by decide +kernel)]; exact ⟨rfl, rfl⟩))
    (fun os started H enc _ F => by rw [OpenClaim.pre_eq_preRow]; exact lifted os started H enc F)
end Go.Proofs.Ytbjhiimjillleaa.WAdds
namespace Go.Proofs.Ytbjhiimjillleaa
open Go
theorem weightAdds_holds : Rows.WeightAddsSaid := WAdds.said
end Go.Proofs.Ytbjhiimjillleaa
