/- DeclsStrong: whatever the declaration, the law answers true, and nothing that was there has turned. DeclsStrong holds for all declarations: the call returns true, and each argument reads afterwards as it read before. The three listed tables of the library are tied to the program's text. -/
import Derived.Test.YtjlejiphpbaonaaGreatDoorLK
import Derived.Test.YtjlejiphpbaonaaGreatDoorLB
import Derived.Test.YtjlejiphpbaonaaGreatDoorLO
import Derived.BigRegion
import Derived.Test.YtjlejiphpbaonaaGreatDoorGG
import Derived.Test.YtjlejiphpbaonaaGreatDoorGH
set_option linter.unusedVariables false
set_option linter.unusedSimpArgs false
set_option maxRecDepth 20000
namespace Wn
theorem vals_lone (d : Dl) : valsD [d] = valsOne d := rfl
theorem strong_two (n : List UInt8) (g : Fs) : valsOne (n, g, true) = (valsOne (n, g, false)).app (strongF true) := by
  unfold valsOne strongF nameV dlmV
  simp only [if_true, Fs.app, Fs.app_nil, Bool.false_eq_true, if_false]
theorem mayOne_any {n : List UInt8} {g : Fs} {b : Bool} (c : Bool) (h : mayOne (n, g, b) = true) : mayD [(n, g, c)] = true := by
  unfold mayD; simpa [mayOne] using h
theorem take_strong (n : List UInt8) (g : Fs) : (valsOne (n, g, true)).take (valsOne (n, g, false)).len = valsOne (n, g, false) := by
  rw [strong_two, take_front]
theorem len_app7 : ∀ f g : Fs, (f.app g).len = f.len + g.len
  | .nil, g => by simp [Fs.app, Fs.len]
  | .cons k t x r, g => by rw [Fs.app, Fs.len, Fs.len, len_app7 r g]; omega
theorem len_strong (n : List UInt8) (g : Fs) : (valsOne (n, g, true)).len = (valsOne (n, g, false)).len + 2 := by
  rw [strong_two, len_app7]; rfl
end Wn
namespace Go.Proofs.YtjlejiphpbaonaaGreatDoor
open Go.RowKit Go.Sort
theorem dl_lone {W : World} {b : Nat} {d : Wn.Dl} {u : Value} (h : W.heap[b]? = some (.cells #[.string (Wn.str d.1), u, .bool d.2.2] 44)) (hu : Vals W u d.2.1) : dlK.P W (fun _ => True) (.slice (some ⟨b, 0, none⟩) 1 1) [d] :=
  RK.P.mk (K := dlK) (es := [dlCells d u]) h ⟨⟨u, rfl, hu⟩, trivial⟩ rfl rfl (by simp) trivial
theorem two_made (w : World) (z : Obj) : Below w.heap.size w ((w.alloc z).alloc z).drew ∧ ((w.alloc z).alloc z).drew.heap[w.heap.size]? = some z ∧ ((w.alloc z).alloc z).drew.heap[w.heap.size + 1]? = some z := by
  have h1 : Below w.heap.size w (w.alloc z) := (Below.refl _ _).alloc (Nat.le_refl _) _
  have h2 : Below (w.alloc z).heap.size (w.alloc z) ((w.alloc z).alloc z) := (Below.refl _ _).alloc (Nat.le_refl _) _
  have hs : (w.alloc z).heap.size = w.heap.size + 1 := by simp
  have e1 := block_lat h2 (heap_alloc_new w z)
  have e2 := heap_alloc_new (w.alloc z) z
  rw [hs] at e2
  exact ⟨(h1.trans (h2.mono h1.size)).drew, e1, e2⟩
theorem st3_same {W : World} {A : Nat} {a b c v : Value} {t : TypeId} (h : W.heap[A]? = some (.cells #[a, b, c] t)) : (W.setCell ⟨A, 2, none⟩ v).heap[A]? = some (.cells #[a, b, v] t) := by simp [World.setCell, Array.getElem?_modify, h]
theorem st3_other {W : World} {A B : Nat} {v : Value} {o : Obj} (hne : A ≠ B) (h : W.heap[B]? = some o) : (W.setCell ⟨A, 2, none⟩ v).heap[B]? = some o := by
  rw [Below.heap_setCell _ _ _ _ (Ne.symm hne)]; exact h
theorem rdyS {ops : Array Oper} {li : Array Bool} (rs : List Nat) {R : Nat → Prop} (h : Region.ready .any ops li = rs) (h0 : rs ≠ []) (h1 : ∀ i ∈ rs, R i) : Region.ready .any ops li ≠ [] ∧ ∀ i ∈ Region.ready .any ops li, R i := by rw [h]; exact ⟨h0, h1⟩
/-- a slice of the one declaration -/
def LoneX (nm : List UInt8) (u : Value) (c : Bool) (v : Value) (W : World) : Prop := ∃ b : Nat, v = .slice (some ⟨b, 0, none⟩) 1 1 ∧ W.heap[b]? = some (.cells #[.string (Wn.str nm), u, .bool c] 44)
def ValsX (f : Wn.Fs) (v : Value) (W : World) : Prop := Vals W v f
theorem LoneX.mono {nm : List UInt8} {u : Value} {c : Bool} : Mono (LoneX nm u c) := fun _ _ _ ⟨b, e, h⟩ hb => ⟨b, e, block_lat hb h⟩
def DlsX (l : List Wn.Dl) (v : Value) (W : World) : Prop := dlK.P W (fun _ => True) v l
theorem DlsX.mono {l : List Wn.Dl} : Mono (DlsX l) := fun _ _ _ h hb => RK.P.below h hb
theorem ValsX.mono {f : Wn.Fs} : Mono (ValsX f) := fun _ _ _ h hb => ValsP.below h hb
set_option maxRecDepth 100000 in
set_option maxHeartbeats 8000000 in
theorem ldStrong_any (d : Wn.Dl) (u : Value) (w : World) (ht : Tab w) (hu : Vals w u d.2.1) (hn : DNums d) :
    Calls Tryz.prog 7 #[dlV d u] w fun e w' => e = .returned (.bool true) ∧ Below w.heap.size w w' := by
  obtain ⟨nm, g, bb⟩ := d
  have HT := Lib.hid ht
  have HU := Lib.hid hu
  have HN := Lib.hid hn
  obtain ⟨uo, uc, rfl, c1, c2⟩ := hu.form
  dsimp only at HU c1 c2 ⊢
  unfold maxLen at c2
  have hal : Below w.heap.size w (w.alloc (.cells #[.string (Wn.str nm), .slice uo g.len uc, .bool bb] 44)) := (Below.refl _ _).alloc (Nat.le_refl _) _
  have hN0 := heap_alloc_new w (.cells #[.string (Wn.str nm), .slice uo g.len uc, .bool bb] 44)
  have HB0 := Lib.hid hal
  clear ht hu hn
  go_enter Tryz.func7, Tryz.ntmps7
  go_wp2_with fail
  generalize (w.alloc (.cells #[.string (Wn.str nm), .slice uo g.len uc, .bool bb] 44)) = W0 at *
  refine (fixed07 _ (HT.out.below hal)).mono ?_
  rintro e w1 ⟨rfl, b1⟩
  have HW1 := Lib.hid (HB0.out.trans (b1.mono HB0.out.size))
  have hN1 := block_lat b1 hN0
  clear hal hN0 b1 HB0
  have z0 := cell_of_block (o := 0) hN1
  have z1 := cell_of_block (o := 1) hN1
  have z2 := cell_of_block (o := 2) hN1
  have hal1 : Below w1.heap.size w1 (w1.alloc (.cells #[.string (Wn.str nm), .slice uo g.len uc, .bool bb] 44)) := (Below.refl _ _).alloc (Nat.le_refl _) _
  have hP1 := dl_lone (d := (nm, g, bb)) (heap_alloc_new w1 (.cells #[.string (Wn.str nm), .slice uo g.len uc, .bool bb] 44)) (ValsP.below (ValsP.below HU.out HW1.out) hal1)
  have QA := Lib.hid (rSmall7_v _ _ 60 _ hP1 (by decide) (by decide))
  have hB2 := HW1.out.trans (hal1.mono HW1.out.size)
  have hN2 := block_lat hal1 hN1
  clear hal1 hP1 hN1
  go_wp2_with fail
  generalize (w1.alloc (.cells #[.string (Wn.str nm), .slice uo g.len uc, .bool bb] 44)) = W2 at *
  refine QA.out.mono ?_
  rintro e w3 ⟨c, rfl, hc, b3⟩
  have HW3 := Lib.hid (hB2.trans (b3.mono hB2.size))
  have hN3 := block_lat b3 hN2
  clear QA b3 z0 z1 z2 HW1 hB2 hN2
  have z0 := cell_of_block (o := 0) hN3
  have z1 := cell_of_block (o := 1) hN3
  have z2 := cell_of_block (o := 2) hN3
  cases c
  · go_wp2_with fail
    refine (fixed07 _ (HT.out.below HW3.out)).mono ?_
    rintro e w4 ⟨rfl, b4⟩
    go_wp2_with fail
    go_ret
    exact ⟨rfl, HW3.out.trans (b4.mono HW3.out.size)⟩
  have HS := Lib.hid (small_QD ((hc rfl).2 (nm, g, bb) (by simp)) HN.out)
  clear hc HN
  have hal1 : Below w3.heap.size w3 (w3.alloc (.cells #[.string (Wn.str nm), .slice uo g.len uc, .bool bb] 44)) := (Below.refl _ _).alloc (Nat.le_refl _) _
  have hP1 := dl_lone (d := (nm, g, bb)) (heap_alloc_new w3 (.cells #[.string (Wn.str nm), .slice uo g.len uc, .bool bb] 44)) (ValsP.below (ValsP.below HU.out HW3.out) hal1)
  have QM := Lib.hid (rMay7_v _ _ _ hP1 (fun d hd => by
    simp only [List.mem_singleton] at hd
    subst hd
    obtain ⟨a1, a2, a3⟩ := HS.out
    exact (fits_of (n := 100) (by omega) (by omega) a1 (by omega) a3).1))
  rw [show Wn.mayD [(nm, g, bb)] = Wn.mayOne (nm, g, bb) by simp [Wn.mayD]] at QM
  have hB2 := HW3.out.trans (hal1.mono HW3.out.size)
  have hN2 := block_lat hal1 hN3
  clear hal1 hP1 hN3
  go_wp2_with fail
  generalize (w3.alloc (.cells #[.string (Wn.str nm), .slice uo g.len uc, .bool bb] 44)) = W4 at *
  generalize hml : Wn.mayOne (nm, g, bb) = ml at *
  refine QM.out.mono ?_
  rintro e w5 ⟨rfl, b5⟩
  have HW5 := Lib.hid (hB2.trans (b5.mono hB2.size))
  have hN5 := block_lat b5 hN2
  clear QM b5 z0 z1 z2 HW3 hB2 hN2
  cases ml
  · go_wp2_with fail
    refine (fixed07 _ (HT.out.below HW5.out)).mono ?_
    rintro e w4 ⟨rfl, b4⟩
    go_wp2_with fail
    go_ret
    exact ⟨rfl, HW5.out.trans (b4.mono HW5.out.size)⟩
  have z0 := cell_of_block (o := 0) hN5
  have z1 := cell_of_block (o := 1) hN5
  have z2 := cell_of_block (o := 2) hN5
  have HN5 := Lib.hid hN5
  have HML := Lib.hid hml
  have hlt : w.heap.size < w5.heap.size := lt_of_block hN5
  have hne : ¬ w.heap.size = w5.heap.size := by omega
  have hne1 : ¬ w.heap.size = w5.heap.size + 1 := by omega
  have hlt1 : w.heap.size < w5.heap.size + 1 := by omega
  clear hN5 hml
  go_wp2_with fail
  go_region
  obtain ⟨hb6, hA6, hB6⟩ := two_made w5 (.cells #[.string (Wn.str nm), .slice uo g.len uc, .bool bb] 44)
  have HW6 := Lib.hid (HW5.out.trans (hb6.mono HW5.out.size))
  have hAge : w.heap.size ≤ w5.heap.size := by omega
  have hBge : w.heap.size ≤ w5.heap.size + 1 := by omega
  have hAB : w5.heap.size ≠ w5.heap.size + 1 := by omega
  generalize ((w5.alloc (.cells #[.string (Wn.str nm), .slice uo g.len uc, .bool bb] 44)).alloc (.cells #[.string (Wn.str nm), .slice uo g.len uc, .bool bb] 44)).drew = W6 at *
  clear hb6 HW5 HN5 z0 z1 z2 hlt hne hne1 hlt1
  generalize w5.heap.size + 1 = B at *
  generalize w5.heap.size = A at *
  rotate_left
  obtain ⟨hb6, hB6, hA6⟩ := two_made w5 (.cells #[.string (Wn.str nm), .slice uo g.len uc, .bool bb] 44)
  have HW6 := Lib.hid (HW5.out.trans (hb6.mono HW5.out.size))
  have hAge : w.heap.size ≤ w5.heap.size + 1 := by omega
  have hBge : w.heap.size ≤ w5.heap.size := by omega
  have hAB : w5.heap.size + 1 ≠ w5.heap.size := by omega
  generalize ((w5.alloc (.cells #[.string (Wn.str nm), .slice uo g.len uc, .bool bb] 44)).alloc (.cells #[.string (Wn.str nm), .slice uo g.len uc, .bool bb] 44)).drew = W6 at *
  clear hb6 HW5 HN5 z0 z1 z2 hlt hne hne1 hlt1
  generalize w5.heap.size + 1 = A at *
  generalize w5.heap.size = B at *
  rotate_left
  all_goals (
    have HU6 := Lib.hid (ValsP.below HU.out HW6.out)
    have hlA := lt_of_block hA6
    have hlB := lt_of_block hB6
    have a2 := cell_of_block (o := 2) hA6
    have b2 := cell_of_block (o := 2) hB6
    have fa := frozen_blk hA6 2
    have fb := frozen_blk hB6 2
    simp only [List.getElem?_toArray, List.getElem?_cons_zero, List.getElem?_cons_succ] at a2 b2
    have hA7 := st3_other (v := .bool false) (Ne.symm hAB) (st3_same (v := .bool true) hA6)
    have hB7 := st3_same (v := .bool false) (st3_other (v := .bool true) hAB hB6)
    have HW7 := Lib.hid ((HW6.out.setCell (p := ⟨A, 2, none⟩) hAge (.bool true)).setCell (p := ⟨B, 2, none⟩) hBge (.bool false))
    go_wp2_with fail
    generalize ((W6.setCell ⟨A, 2, none⟩ (.bool true)).setCell ⟨B, 2, none⟩ (.bool false)) = W7 at *
    clear hA6 hB6 hlA hlB a2 b2 fa fb HU6 HW6
    have k0 := cell_of_block (o := 0) hA7
    have k1 := cell_of_block (o := 1) hA7
    have k2 := cell_of_block (o := 2) hA7
    have k3 := cell_of_block (o := 0) hB7
    have k4 := cell_of_block (o := 1) hB7
    have k5 := cell_of_block (o := 2) hB7
    simp only [List.getElem?_toArray, List.getElem?_cons_zero, List.getElem?_cons_succ] at k0 k1 k2 k3 k4 k5
    have HJ : Hid (∀ W, Below W7.heap.size W7 W → W.cell? ⟨A, 0, none⟩ = some (.string (Wn.str nm)) ∧ W.cell? ⟨A, 1, none⟩ = some (.slice uo g.len uc) ∧ W.cell? ⟨A, 2, none⟩ = some (.bool true) ∧ W.cell? ⟨B, 0, none⟩ = some (.string (Wn.str nm)) ∧ W.cell? ⟨B, 1, none⟩ = some (.slice uo g.len uc) ∧ W.cell? ⟨B, 2, none⟩ = some (.bool false) ∧ True ∧ True) := Lib.hid (fun W h => ⟨cell_lat h k0, cell_lat h k1, cell_lat h k2, cell_lat h k3, cell_lat h k4, cell_lat h k5, trivial, trivial⟩)
    have HA7 := Lib.hid hA7
    have HB7 := Lib.hid hB7
    have HU7 := Lib.hid (ValsP.below HU.out HW7.out)
    clear k0 k1 k2 k3 k4 k5 hA7 hB7
    have QV : Hid (∀ (c : Bool) (v : Value) (W : World), Below W7.heap.size W7 W → LoneX nm (.slice uo g.len uc) c v W → Calls Tryz.prog 15 #[v] W fun e w' => ∃ r, e = .returned r ∧ ValsX (Wn.valsOne (nm, g, c)) r w' ∧ Below W.heap.size W w') := Lib.hid (fun c v W h hv => by
      obtain ⟨b, rfl, hb⟩ := hv
      have hs := Wn.valsOne_size7 (nm, g, c)
      dsimp only at hs
      have h2 := HS.out.2.1
      refine (DVals_v [(nm, g, c)] _ W (dl_lone (d := (nm, g, c)) hb (ValsP.below HU7.out h)) (by simp only [List.map_cons, List.map_nil, Wn.sizes]; omega)).mono ?_
      rintro e w' ⟨r, rfl, hr, hb'⟩
      exact ⟨r, rfl, hr.any, hb'⟩)
    refine wp_region_held_drew (S := fun W => Below W7.heap.size W7 W) (by kernel_rfl) (Below.refl _ _).drew ?_
    intro hSS
    (refine wpAnyH_take (i := 0) (v := ?_) rfl (by kernel_rfl) (by kernel_rfl) (by kernel_rfl) (fun _ _ _ h => h) (Or.inl ⟨by kernel_rfl, ?hy⟩) (by assumption) ?_; (case hy => (intro W hSw; obtain ⟨x0, x1, x2, x3, x4, x5, x6, x7⟩ := HJ.out W hSw; go_simp; (try with_reducible rfl))); simp only [Act.put])
    (refine wpAnyH_take (i := 3) (v := ?_) rfl (by kernel_rfl) (by kernel_rfl) (by kernel_rfl) (fun _ _ _ h => h) (Or.inl ⟨by kernel_rfl, ?hy⟩) (by assumption) ?_; (case hy => (intro W hSw; obtain ⟨x0, x1, x2, x3, x4, x5, x6, x7⟩ := HJ.out W hSw; go_simp; (try with_reducible rfl))); simp only [Act.put])
    refine pairs2 (n0 := 2) W7 1 2 4 5 27 28 30 31 (LoneX nm (.slice uo g.len uc) true) (ValsX (Wn.valsOne (nm, g, true))) (LoneX nm (.slice uo g.len uc) false) (ValsX (Wn.valsOne (nm, g, false))) _ (fun p q => #[true, decide (0 < p), decide (1 < p), true, decide (0 < q), decide (1 < q), false, false]) (by decide) ⟨by simp, by simp⟩ ⟨LoneX.mono, ValsX.mono, LoneX.mono, ValsX.mono⟩ ?_ ?_ ?_ ?_ ?_ ?_ ?_ ?_ _ hSS
    · intro p q hp hq
      have hp2 : p = 0 ∨ p = 1 := by omega
      rcases hp2 with rfl | rfl <;> rfl
    · intro p q hp hq
      have hp2 : q = 0 ∨ q = 1 := by omega
      rcases hp2 with rfl | rfl <;> rfl
    · intro p q hp hq h
      have hp2 : p = 0 ∨ p = 1 ∨ p = 2 := by omega
      have hq2 : q = 0 ∨ q = 1 ∨ q = 2 := by omega
      rcases hp2 with rfl | rfl | rfl
      · rcases hq2 with rfl | rfl | rfl
        · exact rdyS [1, 4] (by kernel_rfl) (by simp) (by simp)
        · exact rdyS [1] (by kernel_rfl) (by simp) (by simp)
        · exact rdyS [1] (by kernel_rfl) (by simp) (by simp)
      · rcases hq2 with rfl | rfl | rfl
        · exact rdyS [2, 4] (by kernel_rfl) (by simp) (by simp)
        · exact rdyS [2] (by kernel_rfl) (by simp) (by simp)
        · exact rdyS [2] (by kernel_rfl) (by simp) (by simp)
      · rcases hq2 with rfl | rfl | rfl
        · exact rdyS [4] (by kernel_rfl) (by simp) (by simp)
        · exact rdyS [5] (by kernel_rfl) (by simp) (by simp)
        · omega
    · intro f W K hev hb hk
      refine ⟨_, rfl, ?_⟩
      have e1 := hev 26 (by decide) (by decide) (by decide) (by decide)
      simp [Act.eval] at e1
      have hk' := hk _ _ ((Below.refl _ _).alloc (Nat.le_refl _) _) ⟨W.heap.size, rfl, heap_alloc_new W _⟩
      go_simp
      exact hk'
    · intro f W K v1 hev hX hb hk
      refine ⟨_, rfl, ?_⟩
      have Q := Lib.hid (QV.out true v1 W hb hX)
      obtain ⟨b', rfl, _⟩ := hX
      simp [Act.eval] at hev
      go_simp
      refine Q.out.mono ?_
      rintro e w' ⟨r, rfl, hr, hb'⟩
      exact hk _ _ hb' hr
    · intro f W K hev hb hk
      refine ⟨_, rfl, ?_⟩
      have e1 := hev 29 (by decide) (by decide) (by decide) (by decide)
      simp [Act.eval] at e1
      have hk' := hk _ _ ((Below.refl _ _).alloc (Nat.le_refl _) _) ⟨W.heap.size, rfl, heap_alloc_new W _⟩
      go_simp
      exact hk'
    · intro f W K v1 hev hX hb hk
      refine ⟨_, rfl, ?_⟩
      have Q := Lib.hid (QV.out false v1 W hb hX)
      obtain ⟨b', rfl, _⟩ := hX
      simp [Act.eval] at hev
      go_simp
      refine Q.out.mono ?_
      rintro e w' ⟨r, rfl, hr, hb'⟩
      exact hk _ _ hb' hr
    intro v1 x v2 y W8 hS8 _ hx _ hy
    clear QV hSS
    (refine wpAnyH_take (i := 6) (v := ?_) rfl (by kernel_rfl) (by kernel_rfl) (by kernel_rfl) (fun _ _ _ h => h) (Or.inl ⟨by kernel_rfl, ?hy⟩) (by assumption) ?_; (case hy => (intro W hSw; obtain ⟨x0, x1, x2, x3, x4, x5, x6, x7⟩ := HJ.out W hSw; go_simp; (try with_reducible rfl))); simp only [Act.put])
    (refine wpAnyH_take (i := 7) (v := ?_) rfl (by kernel_rfl) (by kernel_rfl) (by kernel_rfl) (fun _ _ _ h => h) (Or.inl ⟨by kernel_rfl, ?hy⟩) (by assumption) ?_; (case hy => (intro W hSw; obtain ⟨x0, x1, x2, x3, x4, x5, x6, x7⟩ := HJ.out W hSw; go_simp; (try with_reducible rfl))); simp only [Act.put])
    refine wpAnyH_done (by kernel_rfl) ?_ _
    have HX := Lib.hid hx
    have HY := Lib.hid hy
    have HW8 := Lib.hid (HW7.out.trans (hS8.mono HW7.out.size))
    have HA8 := Lib.hid (block_lat hS8 HA7.out)
    have HB8 := Lib.hid (block_lat hS8 HB7.out)
    have HU8 := Lib.hid (ValsP.below HU7.out hS8)
    obtain ⟨xo, xc, rfl, xl1, xl2⟩ := (show Vals W8 x (Wn.valsOne (nm, g, true)) from hx).form
    obtain ⟨yo, yc, rfl, yl1, yl2⟩ := (show Vals W8 y (Wn.valsOne (nm, g, false)) from hy).form
    unfold maxLen at xl2 yl2
    have HSQ := HS.out
    have hq1 := (vals_QD (l := [(nm, g, true)]) (by simp) (fun d hd => by simp only [List.mem_singleton] at hd; subst hd; exact HSQ)).2
    have hq0 := (vals_QD (l := [(nm, g, false)]) (by simp) (fun d hd => by simp only [List.mem_singleton] at hd; subst hd; exact HSQ)).2
    have hz1 := Wn.valsOne_size7 (nm, g, true)
    have hz0 := Wn.valsOne_size7 (nm, g, false)
    have HPX : Hid (Wn.parseD (Wn.valsOne (nm, g, true)) = [(nm, g, true)]) := Lib.hid (Wn.back (Wn.mayOne_any true HML.out))
    have HPY : Hid (Wn.parseD (Wn.valsOne (nm, g, false)) = [(nm, g, false)]) := Lib.hid (Wn.back (Wn.mayOne_any false HML.out))
    have HTK := Lib.hid (Wn.take_strong nm g)
    have hln := Wn.len_strong nm g
    rw [Wn.vals_lone] at hq1 hq0
    have hsz := HSQ.2.1
    dsimp only at hz1 hz0
    have HQ1 := Lib.hid (Wn.all_imp (q := fun t => t.2.1.length ≤ 1048576) (fun t ht => by have := ht.1; omega) hq1)
    have HQ0 := Lib.hid (Wn.all_imp (q := fun t => t.2.1.length ≤ 1048576) (fun t ht => by have := ht.1; omega) hq0)
    have HZ1 : Hid ((Wn.valsOne (nm, g, true)).size ≤ 100000) := Lib.hid (by omega)
    have HZ0 : Hid ((Wn.valsOne (nm, g, false)).size ≤ 100000) := Lib.hid (by omega)
    clear hx hy hS8 HJ HA7 HB7 HU7 HW7 HML HS HSQ hq1 hq0 hz1 hz0 hsz
    generalize Wn.valsOne (nm, g, true) = F1 at *
    generalize Wn.valsOne (nm, g, false) = F0 at *
    have hl0 : F0.len ≤ 100000 := by have := Wn.Fs.len_le_size F0; have := HZ0.out; omega
    have HXT : Hid (Vals W8 (.slice xo F0.len xc) F0) := Lib.hid (by
      obtain ⟨ao', cap', he, _, _, _, h4⟩ := (show Vals W8 (.slice xo F1.len xc) F1 from HX.out)
      have hne : F1 ≠ .nil := by rintro rfl; simp [Wn.Fs.len] at hln
      obtain ⟨b', o', ha, _⟩ := h4 hne
      simp only [Value.slice.injEq] at he
      obtain ⟨rfl, _, rfl⟩ := he
      subst ha
      have := ValsP.sub (show Vals W8 (.slice (some ⟨b', o', none⟩) F1.len xc) F1 from HX.out) 0 F0.len (Nat.zero_le _) (by omega)
      rw [Nat.sub_zero, Wn.Fs.drop_zero, HTK.out] at this
      have h2 : ValsP W8 (fun _ => True) (.slice (some ⟨b', o', none⟩) F0.len xc) F0 := by simpa using this
      exact h2)
    have QS := Lib.hid (rSameFD _ _ F0 F0 W8 HXT.out HY.out)
    rw [decide_eq_true rfl] at QS
    rw [hln] at HX xl1 ⊢
    have hw1 : IntKind.i64.wrap ((F0.len : Int) + 2) = (F0.len : Int) + 2 := by rw [IntKind.wrap_i64]; omega
    generalize F0.len = n at *
    go_wp2_with fail
    refine QS.out.mono ?_
    rintro e w9 ⟨rfl, b9⟩
    have HW9 := Lib.hid (HW8.out.trans (b9.mono HW8.out.size))
    have HA9 := Lib.hid (block_lat b9 HA8.out)
    have HB9 := Lib.hid (block_lat b9 HB8.out)
    have HU9 := Lib.hid (ValsP.below HU8.out b9)
    have HX9 := Lib.hid (ValsP.below (show Vals W8 _ F1 from HX.out) b9)
    have HY9 := Lib.hid (ValsP.below (show Vals W8 _ F0 from HY.out) b9)
    clear b9 QS HXT HX HY HA8 HB8 HU8 HW8
    go_wp2_with fail
    have k0 := cell_of_block (o := 0) HA9.out
    have k1 := cell_of_block (o := 1) HA9.out
    have k2 := cell_of_block (o := 2) HA9.out
    have k3 := cell_of_block (o := 0) HB9.out
    have k4 := cell_of_block (o := 1) HB9.out
    have k5 := cell_of_block (o := 2) HB9.out
    simp only [List.getElem?_toArray, List.getElem?_cons_zero, List.getElem?_cons_succ] at k0 k1 k2 k3 k4 k5
    have HJ : Hid (∀ W, Below w9.heap.size w9 W → W.cell? ⟨A, 0, none⟩ = some (.string (Wn.str nm)) ∧ W.cell? ⟨A, 1, none⟩ = some (.slice uo g.len uc) ∧ W.cell? ⟨A, 2, none⟩ = some (.bool true) ∧ W.cell? ⟨B, 0, none⟩ = some (.string (Wn.str nm)) ∧ W.cell? ⟨B, 1, none⟩ = some (.slice uo g.len uc) ∧ W.cell? ⟨B, 2, none⟩ = some (.bool false) ∧ True ∧ True) := Lib.hid (fun W h => ⟨cell_lat h k0, cell_lat h k1, cell_lat h k2, cell_lat h k3, cell_lat h k4, cell_lat h k5, trivial, trivial⟩)
    clear k0 k1 k2 k3 k4 k5 HA9 HB9
    have QP1 : Hid (∀ (W : World), Below w9.heap.size w9 W → Calls Tryz.prog 12 #[.slice xo (n + 2) xc] W fun e w' => ∃ r, e = .returned r ∧ DlsX [(nm, g, true)] r w' ∧ Below W.heap.size W w') := Lib.hid (fun W h => by
      refine (DParse_v _ F1 W (ValsP.below HX9.out h) HZ1.out HQ1.out).mono ?_
      rintro e w' ⟨r, rfl, hr, hb'⟩
      rw [HPX.out] at hr
      exact ⟨r, rfl, RK.P.mono hr (fun _ _ _ => trivial) (ok' := fun _ => True), hb'⟩)
    have QP0 : Hid (∀ (W : World), Below w9.heap.size w9 W → Calls Tryz.prog 12 #[.slice yo n yc] W fun e w' => ∃ r, e = .returned r ∧ DlsX [(nm, g, false)] r w' ∧ Below W.heap.size W w') := Lib.hid (fun W h => by
      refine (DParse_v _ F0 W (ValsP.below HY9.out h) HZ0.out HQ0.out).mono ?_
      rintro e w' ⟨r, rfl, hr, hb'⟩
      rw [HPY.out] at hr
      exact ⟨r, rfl, RK.P.mono hr (fun _ _ _ => trivial) (ok' := fun _ => True), hb'⟩)
    have QL : Hid (∀ (c : Bool) (v : Value) (W : World), Below w9.heap.size w9 W → LoneX nm (.slice uo g.len uc) c v W → DlsX [(nm, g, c)] v W) := Lib.hid (fun c v W h hv => by
      obtain ⟨b, rfl, hb⟩ := hv
      exact dl_lone (d := (nm, g, c)) hb (ValsP.below HU9.out h))
    have QS : Hid (∀ (c : Bool) (v u : Value) (W : World), Below w9.heap.size w9 W → DlsX [(nm, g, c)] v W → LoneX nm (.slice uo g.len uc) c u W → Calls Tryz.prog 11 #[v, u] W fun e w' => e = .returned (.bool true) ∧ Below W.heap.size W w') := Lib.hid (fun c v u W h hv hu => by
      have := rSame7_v [(nm, g, c)] [(nm, g, c)] v u W hv (QL.out c u W h hu)
      rwa [decide_eq_true rfl] at this)
    have QD : Hid (∀ (v u : Value) (W : World), Below w9.heap.size w9 W → LoneX nm (.slice uo g.len uc) true v W → LoneX nm (.slice uo g.len uc) false u W → Calls Tryz.prog 21 #[v, u] W fun e w' => e = .returned (.bool false) ∧ Below W.heap.size W w') := Lib.hid (fun v u W h hv hu => by
      have := DSame_v [(nm, g, true)] [(nm, g, false)] v u W (QL.out true v W h hv) (QL.out false u W h hu)
      rwa [decide_eq_false (by simp)] at this)
    clear QL HU9 HX9 HY9 HPX HPY HQ1 HQ0 HZ1 HZ0 HTK
    refine wp_region_held_drew (S := fun W => Below w9.heap.size w9 W) (by kernel_rfl) (Below.refl _ _).drew ?_
    intro hSS
    (refine wpAnyH_take (i := 0) (v := ?_) rfl (by kernel_rfl) (by kernel_rfl) (by kernel_rfl) (fun _ _ _ h => h) (Or.inl ⟨by kernel_rfl, ?hy⟩) (by assumption) ?_; (case hy => (intro W hSw; obtain ⟨x0, x1, x2, x3, x4, x5, x6, x7⟩ := HJ.out W hSw; go_simp; (try with_reducible rfl))); simp only [Act.put])
    (refine wpAnyH_take (i := 2) (v := ?_) rfl (by kernel_rfl) (by kernel_rfl) (by kernel_rfl) (fun _ _ _ h => h) (Or.inl ⟨by kernel_rfl, ?hy⟩) (by assumption) ?_; (case hy => (intro W hSw; obtain ⟨x0, x1, x2, x3, x4, x5, x6, x7⟩ := HJ.out W hSw; go_simp; (try with_reducible rfl))); simp only [Act.put])
    refine pairs1 (n0 := 17) w9 1 3 48 50 (DlsX [(nm, g, true)]) (LoneX nm (.slice uo g.len uc) true) _ (fun p q => #[true, decide (0 < p), true, decide (0 < q), false, false, false, false, false, false, false, false, false, false, false, false, false, false, false, false, false]) (by decide) ⟨DlsX.mono, LoneX.mono⟩ ?_ ?_ ?_ ?_ ?_ ?_ _ hSS
    · intro p q hp hq
      obtain rfl : p = 0 := by omega
      rfl
    · intro p q hp hq
      obtain rfl : q = 0 := by omega
      rfl
    · intro p q hp hq h
      have hp2 : p = 0 ∨ p = 1 := by omega
      have hq2 : q = 0 ∨ q = 1 := by omega
      rcases hp2 with rfl | rfl
      · rcases hq2 with rfl | rfl
        · exact rdyS [1, 3] (by kernel_rfl) (by simp) (by simp)
        · exact rdyS [1] (by kernel_rfl) (by simp) (by simp)
      · rcases hq2 with rfl | rfl
        · exact rdyS [3] (by kernel_rfl) (by simp) (by simp)
        · omega
    · intro f W K hev hb hk
      refine ⟨_, rfl, ?_⟩
      have e1 := hev 47 (by decide) (by decide)
      simp [Act.eval] at e1
      have Q := Lib.hid (QP1.out W hb)
      go_simp
      refine Q.out.mono ?_
      rintro e w' ⟨r, rfl, hr, hb'⟩
      exact hk _ _ hb' hr
    · intro f W K hev hb hk
      refine ⟨_, rfl, ?_⟩
      have e1 := hev 49 (by decide) (by decide)
      simp [Act.eval] at e1
      have hk' := hk _ _ ((Below.refl _ _).alloc (Nat.le_refl _) _) ⟨W.heap.size, rfl, heap_alloc_new W _⟩
      go_simp
      exact hk'
    intro v1 u1 Wa hb1 hx1 hy1
    have QK := Lib.hid (QS.out true v1 u1 Wa hb1 hx1 hy1)
    refine wpAnyH_ready (rs := [4]) (by kernel_rfl) (by simp) ?_
    refine AllReadyH.cons rfl (fun K hK => ?_) AllReadyH.nil
    go_simp
    refine QK.out.mono ?_
    rintro e Wa' ⟨rfl, hc1⟩
    have hs1 : Below w9.heap.size w9 Wa' := hb1.trans (hc1.mono hb1.size)
    refine hK.out _ _ hs1 ?_
    intro hz1
    clear hz1 hK QK hb1 hx1 hy1 hc1
    (refine wpAnyH_take (i := 5) (v := ?_) rfl (by kernel_rfl) (by kernel_rfl) (by kernel_rfl) (fun _ _ _ h => h) (Or.inl ⟨by kernel_rfl, ?hy⟩) (by assumption) ?_; (case hy => (intro W hSw; obtain ⟨x0, x1, x2, x3, x4, x5, x6, x7⟩ := HJ.out W hSw; go_simp; (try with_reducible rfl))); simp only [Act.put])
    (refine wpAnyH_take (i := 6) (v := ?_) rfl (by kernel_rfl) (by kernel_rfl) (by kernel_rfl) (fun _ _ _ h => h) (Or.inl ⟨by kernel_rfl, ?hy⟩) (by assumption) ?_; (case hy => (intro W hSw; obtain ⟨x0, x1, x2, x3, x4, x5, x6, x7⟩ := HJ.out W hSw; go_simp; (try with_reducible rfl))); simp only [Act.put])
    (refine wpAnyH_take (i := 8) (v := ?_) rfl (by kernel_rfl) (by kernel_rfl) (by kernel_rfl) (fun _ _ _ h => h) (Or.inl ⟨by kernel_rfl, ?hy⟩) (by assumption) ?_; (case hy => (intro W hSw; obtain ⟨x0, x1, x2, x3, x4, x5, x6, x7⟩ := HJ.out W hSw; go_simp; (try with_reducible rfl))); simp only [Act.put])
    refine pairs1 (n0 := 11) w9 7 9 54 56 (DlsX [(nm, g, false)]) (LoneX nm (.slice uo g.len uc) false) _ (fun p q => #[true, true, true, true, true, true, true, decide (0 < p), true, decide (0 < q), false, false, false, false, false, false, false, false, false, false, false]) (by decide) ⟨DlsX.mono, LoneX.mono⟩ ?_ ?_ ?_ ?_ ?_ ?_ _ hs1
    · intro p q hp hq
      obtain rfl : p = 0 := by omega
      rfl
    · intro p q hp hq
      obtain rfl : q = 0 := by omega
      rfl
    · intro p q hp hq h
      have hp2 : p = 0 ∨ p = 1 := by omega
      have hq2 : q = 0 ∨ q = 1 := by omega
      rcases hp2 with rfl | rfl
      · rcases hq2 with rfl | rfl
        · exact rdyS [7, 9] (by kernel_rfl) (by simp) (by simp)
        · exact rdyS [7] (by kernel_rfl) (by simp) (by simp)
      · rcases hq2 with rfl | rfl
        · exact rdyS [9] (by kernel_rfl) (by simp) (by simp)
        · omega
    · intro f W K hev hb hk
      refine ⟨_, rfl, ?_⟩
      have e1 := hev 53 (by decide) (by decide)
      simp [Act.eval] at e1
      have g1 : f.tmps[52]? = some (.bool true) := by
        have e := hev 52 (by decide) (by decide)
        simp [Act.eval] at e
        revert e
        cases f.tmps[52]? with
        | none => intro e; first | cases e | simp at e | (unfold undef at e; cases e)
        | some x => intro e; simpa using e
      have Q := Lib.hid (QP0.out W hb)
      go_simp
      refine Q.out.mono ?_
      rintro e w' ⟨r, rfl, hr, hb'⟩
      exact hk _ _ hb' hr
    · intro f W K hev hb hk
      refine ⟨_, rfl, ?_⟩
      have e1 := hev 55 (by decide) (by decide)
      simp [Act.eval] at e1
      have g1 : f.tmps[52]? = some (.bool true) := by
        have e := hev 52 (by decide) (by decide)
        simp [Act.eval] at e
        revert e
        cases f.tmps[52]? with
        | none => intro e; first | cases e | simp at e | (unfold undef at e; cases e)
        | some x => intro e; simpa using e
      have hk' := hk _ _ ((Below.refl _ _).alloc (Nat.le_refl _) _) ⟨W.heap.size, rfl, heap_alloc_new W _⟩
      go_simp
      exact hk'
    intro v2 u2 Wb hb2 hx2 hy2
    have QK := Lib.hid (QS.out false v2 u2 Wb hb2 hx2 hy2)
    refine wpAnyH_ready (rs := [10]) (by kernel_rfl) (by simp) ?_
    refine AllReadyH.cons rfl (fun K hK => ?_) AllReadyH.nil
    go_simp
    refine QK.out.mono ?_
    rintro e Wb' ⟨rfl, hc2⟩
    have hs2 : Below w9.heap.size w9 Wb' := hb2.trans (hc2.mono hb2.size)
    refine hK.out _ _ hs2 ?_
    intro hz2
    clear hz2 hK QK hb2 hx2 hy2 hc2
    (refine wpAnyH_take (i := 11) (v := ?_) rfl (by kernel_rfl) (by kernel_rfl) (by kernel_rfl) (fun _ _ _ h => h) (Or.inl ⟨by kernel_rfl, ?hy⟩) (by assumption) ?_; (case hy => (intro W hSw; obtain ⟨x0, x1, x2, x3, x4, x5, x6, x7⟩ := HJ.out W hSw; go_simp; (try with_reducible rfl))); simp only [Act.put])
    (refine wpAnyH_take (i := 12) (v := ?_) rfl (by kernel_rfl) (by kernel_rfl) (by kernel_rfl) (fun _ _ _ h => h) (Or.inl ⟨by kernel_rfl, ?hy⟩) (by assumption) ?_; (case hy => (intro W hSw; obtain ⟨x0, x1, x2, x3, x4, x5, x6, x7⟩ := HJ.out W hSw; go_simp; (try with_reducible rfl))); simp only [Act.put])
    (refine wpAnyH_take (i := 13) (v := ?_) rfl (by kernel_rfl) (by kernel_rfl) (by kernel_rfl) (fun _ _ _ h => h) (Or.inl ⟨by kernel_rfl, ?hy⟩) (by assumption) ?_; (case hy => (intro W hSw; obtain ⟨x0, x1, x2, x3, x4, x5, x6, x7⟩ := HJ.out W hSw; go_simp; (try with_reducible rfl))); simp only [Act.put])
    (refine wpAnyH_take (i := 15) (v := ?_) rfl (by kernel_rfl) (by kernel_rfl) (by kernel_rfl) (fun _ _ _ h => h) (Or.inl ⟨by kernel_rfl, ?hy⟩) (by assumption) ?_; (case hy => (intro W hSw; obtain ⟨x0, x1, x2, x3, x4, x5, x6, x7⟩ := HJ.out W hSw; go_simp; (try with_reducible rfl))); simp only [Act.put])
    refine pairs1 (n0 := 4) w9 14 16 61 63 (LoneX nm (.slice uo g.len uc) true) (LoneX nm (.slice uo g.len uc) false) _ (fun p q => #[true, true, true, true, true, true, true, true, true, true, true, true, true, true, decide (0 < p), true, decide (0 < q), false, false, false, false]) (by decide) ⟨LoneX.mono, LoneX.mono⟩ ?_ ?_ ?_ ?_ ?_ ?_ _ hs2
    · intro p q hp hq
      obtain rfl : p = 0 := by omega
      rfl
    · intro p q hp hq
      obtain rfl : q = 0 := by omega
      rfl
    · intro p q hp hq h
      have hp2 : p = 0 ∨ p = 1 := by omega
      have hq2 : q = 0 ∨ q = 1 := by omega
      rcases hp2 with rfl | rfl
      · rcases hq2 with rfl | rfl
        · exact rdyS [14, 16] (by kernel_rfl) (by simp) (by simp)
        · exact rdyS [14] (by kernel_rfl) (by simp) (by simp)
      · rcases hq2 with rfl | rfl
        · exact rdyS [16] (by kernel_rfl) (by simp) (by simp)
        · omega
    · intro f W K hev hb hk
      refine ⟨_, rfl, ?_⟩
      have e1 := hev 60 (by decide) (by decide)
      simp [Act.eval] at e1
      have g1 : f.tmps[59]? = some (.bool true) := by
        have e := hev 59 (by decide) (by decide)
        simp [Act.eval] at e
        revert e
        cases f.tmps[59]? with
        | none => intro e; first | cases e | simp at e | (unfold undef at e; cases e)
        | some x => intro e; simpa using e
      have hk' := hk _ _ ((Below.refl _ _).alloc (Nat.le_refl _) _) ⟨W.heap.size, rfl, heap_alloc_new W _⟩
      go_simp
      exact hk'
    · intro f W K hev hb hk
      refine ⟨_, rfl, ?_⟩
      have e1 := hev 62 (by decide) (by decide)
      simp [Act.eval] at e1
      have g1 : f.tmps[59]? = some (.bool true) := by
        have e := hev 59 (by decide) (by decide)
        simp [Act.eval] at e
        revert e
        cases f.tmps[59]? with
        | none => intro e; first | cases e | simp at e | (unfold undef at e; cases e)
        | some x => intro e; simpa using e
      have hk' := hk _ _ ((Below.refl _ _).alloc (Nat.le_refl _) _) ⟨W.heap.size, rfl, heap_alloc_new W _⟩
      go_simp
      exact hk'
    intro v3 u3 Wc hb3 hx3 hy3
    have QK := Lib.hid (QD.out v3 u3 Wc hb3 hx3 hy3)
    refine wpAnyH_ready (rs := [17]) (by kernel_rfl) (by simp) ?_
    refine AllReadyH.cons rfl (fun K hK => ?_) AllReadyH.nil
    go_simp
    refine QK.out.mono ?_
    rintro e Wc' ⟨rfl, hc3⟩
    have hs3 : Below w9.heap.size w9 Wc' := hb3.trans (hc3.mono hb3.size)
    refine hK.out _ _ hs3 ?_
    intro hz3
    clear hz3 hK QK hb3 hx3 hy3 hc3
    refine wpAnyH_ready (rs := [18]) (by kernel_rfl) (by simp) ?_
    refine AllReadyH.cons rfl (fun K hK => ?_) AllReadyH.nil
    go_simp
    refine hK.out _ _ hs3 ?_
    intro hz
    clear hz hK K
    refine wpAnyH_ready (rs := [19]) (by kernel_rfl) (by simp) ?_
    refine AllReadyH.cons rfl (fun K hK => ?_) AllReadyH.nil
    go_simp
    refine hK.out _ _ hs3 ?_
    intro hz
    clear hz hK K
    refine wpAnyH_ready (rs := [20]) (by kernel_rfl) (by simp) ?_
    refine AllReadyH.cons rfl (fun K hK => ?_) AllReadyH.nil
    go_simp
    refine hK.out _ _ hs3 ?_
    intro hz
    clear hz hK K
    refine wpAnyH_done (by kernel_rfl) ?_ _
    go_wp2_with fail
    go_ret
    refine ⟨?_, HW9.out.trans (hs3.mono HW9.out.size)⟩
    first | (with_reducible rfl) | kernel_rfl | (simp [Act.eval, Act.put]; done))
end Go.Proofs.YtjlejiphpbaonaaGreatDoor
set_option maxRecDepth 20000
namespace Go.Proofs.YtjlejiphpbaonaaGreatDoor.DStrong
open Go.ChangeShapes Go.WideShapes Go.ChangeAt Go.RowKit
open Go.ChangeMaps (open_string shut_string)
theorem contract (H : Type) (enc : TypeId × Value → H) (W : World) (base : Nat) (args : Array Value) (ds gs : List (DataW H)) (before : List MemPlace)
    (hval : ∀ (j : Nat) t v, Tryz.f7.params[j]? = some t → args[j]? = some v → Value.okWide Tryz.prog W .any base t v)
    (hW : DataW.Whole enc Tryz.prog Tryz.f7.params.toList Rows.declsStrongSpec.vars false W args.toList ds gs before) (hL : laidMetH Tryz.prog Rows.declsStrongRow.laid W) :
    Calls Tryz.prog 7 args W fun e W' => ∃ v, e = .returned v ∧ Rows.declsStrongSpec.post enc Tryz.prog Tryz.f7 false true false false W args v W' := by
  have hW' := hW
  obtain ⟨p, q, hA0, hV, rfl, hfz, hnd⟩ := hW
  have hA : DataW.TrodAll enc Tryz.prog W 0 (fun _ => true) true Tryz.f7.params.toList args.toList ds p := hA0
  rw [Tryz.params7] at hA hval
  obtain ⟨v0, vs0, d0, ds0, p0, q0, hargs, rfl, rfl, h0, r0⟩ := trodAll_cons hA
  obtain ⟨rfl, rfl, rfl⟩ := trodAll_nil r0
  obtain rfl : args = #[v0] := by cases args; simp_all
  obtain ⟨rfl, rfl⟩ := trodVars_none hV
  obtain ⟨x0, u0, hv0, hl0, hn0⟩ := open_dl (hval 0 44 v0 rfl rfl) h0
  subst hv0
  clear hA0
  simp only [List.append_nil] at hW'
  have hlt : ∀ x ∈ p0, x.block < W.heap.size := fun x hx => hW'.lt x hx
  refine (ldStrong_any x0 u0 W (table hL) hl0 hn0).mono fun e W' ⟨he, hb⟩ => ?_
  subst he
  exact ⟨_, rfl, post_of_below (pa := (p0 ++ [])) (pv := []) hW' (fun _ _ _ => trodAll_cons_mk (shut_bool Tryz.underlying4 _) trodAll_mk0)
    (fun sp hsp => (trodAll_cons_mk (again (t := 44) (by kernel_rfl) (by decide) h0 hb (fun x hx => hlt x (by simp [hx])) (fun x hx => hsp x (by simp [hx])))
      trodAll_mk0)) (fun _ _ => rfl) (by simp) hb
    (ok_one (by kernel_rfl) rfl (okWide_bool_mk Tryz.underlying4 _))⟩
theorem laid_met (os : Os) : laidMet Tryz.prog Rows.declsStrongRow.laid ((laidWorld os).forCall (fun _ _ => 0) ⟨#[], #[.agg #[.string ⟨#[]⟩, .slice none 0 0, .bool false]], []⟩).memory :=
  laidMet_of_run' 8 (by kernel_rfl) (by kernel_rfl)
theorem reads (os : Os) {H : Type} (enc : TypeId × Value → H) : ∃ places, DataW.whole enc Tryz.prog ((laidWorld os).forCall (fun _ _ => 0) ⟨#[], #[.agg #[.string ⟨#[]⟩, .slice none 0 0, .bool false]], []⟩).memory Tryz.f7.params.toList Rows.declsStrongSpec.vars false #[Value.agg #[.string ⟨#[]⟩, .slice none 0 0, .bool false]].toList 8 = some ([.agg [.lit (.string []), .nil, .lit (.bool false)]], [], places) :=
  ⟨[], by kernel_rfl⟩
set_option maxRecDepth 100000 in
theorem lifted (os : Os) (started : os.Started) (H : Type) (enc : TypeId × Value → H) (F : Stop.Interp) :
    ReturnsInHanded {} Tryz.checked os 7 .any ((OpenSpec.ofChange Rows.declsStrongSpec).preRow enc Tryz.prog Tryz.f7 Rows.declsStrongRow.domain false Rows.declsStrongRow.laid) (((OpenSpec.ofChange Rows.declsStrongSpec).at F).post enc Tryz.prog Tryz.f7 false true false false) := by
  obtain ⟨places, hx⟩ := reads os enc
  refine returnsInHanded_of_row (C := Tryz.checked) (s := OpenSpec.ofChange Rows.declsStrongSpec) own started (by kernel_rfl) Tryz.func7
    (witness_row_at (enc := enc) (C := Tryz.checked) false (laidWorld os) #[.agg #[.string ⟨#[]⟩, .slice none 0 0, .bool false]] rfl (by kernel_rfl) (by kernel_rfl) (by kernel_rfl)
      (OpenSpec.preRow_of_cond 8 hx (by kernel_rfl) (fun k hk => by cases hk) (by kernel_rfl) (laid_met os))) ?_
  intro W base args ds gs before hval hW _ _ _ hL _ _
  exact contract H enc W base args ds gs before hval hW hL
theorem said : Rows.DeclsStrongSaid :=
  OpenClaim.holds_of_cond 7 Tryz.f7 rfl rfl rfl rfl rfl rfl rfl ⟨rfl, rfl, rfl, rfl, rfl⟩ rfl rfl rfl rfl rfl (by kernel_rfl) Tryz.func7 (by kernel_rfl)
    (of_decide_eq_true (by kernel_rfl)) (by unfold Func.isWrapper; first | (rw [if_pos (by decide +kernel)]; kernel_rfl) | (rw [if_neg (by decide +kernel)]; exact ⟨rfl, rfl⟩))
    (fun os started H enc _ F => by rw [OpenClaim.pre_eq_preRow]; exact lifted os started H enc F)
theorem plain (f : FuncId) (fn : Func) (hf : Tryz.pinned.checked.prog.funcNamed "winnowing/winnowinglaw07.DeclsStrong" = some f) (hfn : Tryz.pinned.checked.prog.funcs[f]? = some fn) :
    true = Tryz.pinned.checked.prog.looks [] ∧ ∀ (j : Nat) t, fn.params[j]? = some t → Tryz.pinned.checked.prog.wantsStandIn t = false := by
  obtain rfl : f = 7 := Option.some.inj ((show Tryz.prog.funcNamed "winnowing/winnowinglaw07.DeclsStrong" = some 7 by kernel_rfl).symm.trans hf) |>.symm
  obtain rfl : fn = Tryz.f7 := (Option.some.inj (Tryz.func7.symm.trans hfn)).symm
  refine ⟨by kernel_rfl, fun j t ht => ?_⟩
  rw [Tryz.params7] at ht
  have hm : t ∈ [44] := by simpa using Array.mem_of_getElem? ht
  have hall : ([44].all fun u => !Tryz.prog.wantsStandIn u) = true := by kernel_rfl
  exact (show Tryz.prog.wantsStandIn t = false by simpa using List.all_eq_true.1 hall t hm)
end Go.Proofs.YtjlejiphpbaonaaGreatDoor.DStrong
namespace Go.Proofs.YtjlejiphpbaonaaGreatDoor
open Go
theorem declsStrong_card : Rows.DeclsStrongCardSaid :=
  Claim7.holds_tied_plain_at .later [] _ _ _ _ DStrong.said (fun _ h => by cases h) (by kernel_rfl) (fun _ h => by cases h) declsStrong_row_tie rfl ⟨rfl, rfl⟩ (by kernel_rfl) rfl DStrong.plain (by kernel_rfl)
end Go.Proofs.YtjlejiphpbaonaaGreatDoor
