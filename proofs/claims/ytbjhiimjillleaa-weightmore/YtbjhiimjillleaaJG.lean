/- The verifier's colon: the walk. -/
import Derived.Test.YtbjhiimjillleaaJD
import Derived.Test.YtbjhiimjillleaaJE

set_option linter.unusedVariables false
set_option linter.unusedSimpArgs false
set_option maxRecDepth 20000
namespace Go.Proofs.Ytbjhiimjillleaa
open Go.RowKit Go.Sort
variable {rv : Value}
set_option maxRecDepth 100000 in
set_option maxHeartbeats 2000000 in
theorem r4colon (N : Nat) (g i : Nat) (f : Wn.Fs) (w : World) (hN : f.size ≤ N) (hI : Not4Said N) (ht : Tl f) (h : R4 w g rv f i false) :
    Calls Try.prog 54 #[.pointer (some ⟨g, 0, none⟩)] w (Sim4 rv (Wn.colonG Wn.inNot (f.drop i)) g i f w) := by
  have hgl := h.lt
  have hsz := h.sz
  have HC0 := Lib.hid ((CS.start h).alloc (.cells #[.int .i64 0, .string ⟨#[]⟩, .string ⟨#[]⟩, .int .i64 0, .int .i64 0, .slice none 0 0] 45))
  have hbx := heap_alloc_new w (.cells #[.int .i64 0, .string ⟨#[]⟩, .string ⟨#[]⟩, .int .i64 0, .int .i64 0, .slice none 0 0] 45)
  have hz1 : (w.alloc (.cells #[.int .i64 0, .string ⟨#[]⟩, .string ⟨#[]⟩, .int .i64 0, .int .i64 0, .slice none 0 0] 45)).heap.size = w.heap.size + 1 := by simp
  have HBX := Lib.hid hbx
  clear h hbx
  go_enter Try.func54, Try.ntmps54
  go_wp2_with fail
  generalize w.alloc (.cells #[.int .i64 0, .string ⟨#[]⟩, .string ⟨#[]⟩, .int .i64 0, .int .i64 0, .slice none 0 0] 45) = W at *
  refine (r4value 5 g i f false W HC0.out.r).mono ?_
  rintro e w1 (⟨t, x, uo, uc, hvf, hil, rfl, hvx, hr1, ho1⟩ | ⟨hvf, rfl, hr1, ho1⟩)
  · have hs1 := ho1.size
    have HC := Lib.hid (HC0.out.go hr1 ho1)
    have hb0 := (ho1.block w.heap.size (by omega) (by omega)).trans HBX.out
    have a0 := cell_of_block (o := 0) hb0
    have a1 := cell_of_block (o := 1) hb0
    have a2 := cell_of_block (o := 2) hb0
    have a3 := cell_of_block (o := 3) hb0
    have a4 := cell_of_block (o := 4) hb0
    have a5 := cell_of_block (o := 5) hb0
    have af0 := frozen_blk hb0 0
    have af1 := frozen_blk hb0 1
    have af2 := frozen_blk hb0 2
    have af3 := frozen_blk hb0 3
    have af4 := frozen_blk hb0 4
    have af5 := frozen_blk hb0 5
    simp only [List.getElem?_toArray, List.getElem?_cons_zero, List.getElem?_cons_succ] at a0 a1 a2 a3 a4 a5
    have HB0 := Lib.hid hb0
    obtain ⟨_, _, hue, _, _⟩ := hvx.form
    have HVX := Lib.hid hvx
    have HVF := Lib.hid hvf
    have hxs := Wn.valF_size hvf
    have hcl := Wn.cl_func (nt := Wn.inNot) hvf
    have HCL := Lib.hid hcl
    have HTX := Lib.hid (valF_tl hvf (ht.drop i)).1
    have hxl := str_list t.2.1
    generalize hsx : Wn.str t.2.1 = sx at *
    generalize htk : t.1 = tk at *
    generalize htn : t.2.2 = tn at *
    have HXL := Lib.hid hxl
    have m1 : w.heap.size < w1.heap.size := by omega
    have m2 : g < w1.heap.size := by omega
    have n1 : ¬ w.heap.size = w1.heap.size := by omega
    have n2 : ¬ w.heap.size = w1.heap.size + 1 := by omega
    have n3 : ¬ g = w1.heap.size := by omega
    have n4 : ¬ g = w1.heap.size + 1 := by omega
    have n5 : ¬ g = w.heap.size := by omega
    have n6 : ¬ w.heap.size = g := by omega
    clear hb0 hvx hvf hcl hxl hsx htk htn hue hr1 ho1 HBX HC0
    have hblk := HC.out.r.blk
    have q2 := cell_of_block (o := 2) hblk
    have qf2 := frozen_blk hblk 2
    simp only [List.getElem?_toArray, List.getElem?_cons_zero, List.getElem?_cons_succ] at q2
    clear hblk
    cases c1 : (sx.toList == [110, 116, 104, 45, 99, 104, 105, 108, 100])
    · cases c2 : (sx.toList == [110, 111, 116])
      · have HN : Hid (Wn.colonG Wn.inNot (f.drop i) = none) := Lib.hid (by
          rw [HCL.out, Wn.funcG, ← HXL.out, if_neg (by simpa using c1), if_neg (by simpa using c2)]; rfl)
        go_wp2_with fail
        refine bodyPost_ret (v := .agg #[.int .i64 0, .string ⟨#[]⟩, .string ⟨#[]⟩, .int .i64 0, .int .i64 0, .slice none 0 0]) (by simp [results, Try.results54, go_sem, a0, a1, a2, a3, a4, a5, m1, m2, n1, n2, n3, n4, n5, n6]) rfl ?_
        exact Sim4.bad (x := ⟨0, [], [], 0, 0, .nil⟩) (u := .slice none 0 0) (j := i + 1) (by (repeat (first | with_reducible exact HC.out | (with_reducible refine CS.drew ?_) | (with_reducible refine CS.alloc ?_ _) | (with_reducible refine CS.spoilF ?_ _) | (with_reducible refine CS.spoilT ?_ _) | ((with_reducible refine CS.new ?_ ?_ _); rotate_left; (focus omega))))) rfl SsP.nil' HN.out
      · have hn2 : sx.toList = [110, 111, 116] := by simpa using c2
        have HN : Hid (Wn.colonG Wn.inNot (f.drop i) = ((Wn.inNot x).map fun y => (⟨11, [], [], 0, 0, y.on .nil⟩ : Wn.Sm)).map fun x => (x, f.drop (i + 1))) := Lib.hid (by rw [HCL.out, Wn.funcG, ← HXL.out, if_neg (by simpa using c1), if_pos hn2])
        clear hn2
        have HQ := Lib.hid (fun (V : World) (hV : ValsP V (fun b => b ≠ g) (.slice uo x.len uc) x) => hI (.slice uo x.len uc) x V (by omega) (by omega) hV.any HTX.out)
        have hb2 : Below w1.heap.size w1 ((w1.alloc (.cells #[.int .i64 5, .int .i64 tk, .string sx, .int .i64 tn, .slice uo x.len uc] 80)).alloc (.cells #[.int .i64 0, .string ⟨#[]⟩, .string ⟨#[]⟩, .int .i64 0, .int .i64 0, .slice none 0 0] 45)) := ((Below.refl _ _).alloc (Nat.le_refl _) _).alloc (by simp) _
        have HV2 := Lib.hid (HVX.out.below hb2)
        have HC2 := Lib.hid (HC.out.below hb2)
        have HB2 := Lib.hid (block_lat hb2 HB0.out)
        have hF := block_alloc (heap_alloc_new w1 (.cells #[.int .i64 5, .int .i64 tk, .string sx, .int .i64 tn, .slice uo x.len uc] 80)) (.cells #[.int .i64 0, .string ⟨#[]⟩, .string ⟨#[]⟩, .int .i64 0, .int .i64 0, .slice none 0 0] 45)
        have hX := heap_alloc_new (w1.alloc (.cells #[.int .i64 5, .int .i64 tk, .string sx, .int .i64 tn, .slice uo x.len uc] 80)) (.cells #[.int .i64 0, .string ⟨#[]⟩, .string ⟨#[]⟩, .int .i64 0, .int .i64 0, .slice none 0 0] 45)
        rw [show (w1.alloc (.cells #[.int .i64 5, .int .i64 tk, .string sx, .int .i64 tn, .slice uo x.len uc] 80)).heap.size = w1.heap.size + 1 by simp] at hX
        have HF2 := Lib.hid hF
        have HX2 := Lib.hid hX
        clear hb2 hF hX HVX HC HB0
        go_wp2_with fail
        generalize (w1.alloc (.cells #[.int .i64 5, .int .i64 tk, .string sx, .int .i64 tn, .slice uo x.len uc] 80)).alloc (.cells #[.int .i64 0, .string ⟨#[]⟩, .string ⟨#[]⟩, .int .i64 0, .int .i64 0, .slice none 0 0] 45) = W2 at *
        refine (HQ.out W2 HV2.out).mono ?_
        rintro e w3 ⟨y, u, ok, rfl, hu, hc, b3⟩
        have hz2 : w1.heap.size + 1 < W2.heap.size := lt_of_block HX2.out
        have HU := Lib.hid hu
        obtain ⟨nuo, nuc, rfl, hu1, hu2⟩ := hu.form
        rw [show (y.on .nil).len = 1 from rfl] at HU hu1 ⊢
        unfold maxLen at hu2
        clear hu
        have HC := Lib.hid (HC2.out.below b3)
        have hs3 := b3.size
        have hb3 := block_lat b3 HB2.out
        have hF3 := block_lat b3 HF2.out
        have hX3 := block_lat b3 HX2.out
        have l1 : w1.heap.size + 1 < w3.heap.size := lt_of_block hX3
        have l2 : w.heap.size < w3.heap.size := lt_of_block hb3
        have l3 : ¬ w1.heap.size + 1 = w.heap.size := by omega
        have l4 : ¬ w1.heap.size + 1 = g := by omega
        clear a0 a1 a2 a3 a4 a5 af0 af1 af2 af3 af4 af5 q2 qf2
        have a0 := cell_of_block (o := 0) hb3
        have a1 := cell_of_block (o := 1) hb3
        have a2 := cell_of_block (o := 2) hb3
        have a3 := cell_of_block (o := 3) hb3
        have a4 := cell_of_block (o := 4) hb3
        have a5 := cell_of_block (o := 5) hb3
        have af0 := frozen_blk hb3 0
        have af1 := frozen_blk hb3 1
        have af2 := frozen_blk hb3 2
        have af3 := frozen_blk hb3 3
        have af4 := frozen_blk hb3 4
        have af5 := frozen_blk hb3 5
        simp only [List.getElem?_toArray, List.getElem?_cons_zero, List.getElem?_cons_succ] at a0 a1 a2 a3 a4 a5
        have x0 := cell_of_block (o := 0) hX3
        have x1 := cell_of_block (o := 1) hX3
        have x2 := cell_of_block (o := 2) hX3
        have x3 := cell_of_block (o := 3) hX3
        have x4 := cell_of_block (o := 4) hX3
        have x5 := cell_of_block (o := 5) hX3
        have xf0 := frozen_blk hX3 0
        have xf1 := frozen_blk hX3 1
        have xf2 := frozen_blk hX3 2
        have xf3 := frozen_blk hX3 3
        have xf4 := frozen_blk hX3 4
        have xf5 := frozen_blk hX3 5
        simp only [List.getElem?_toArray, List.getElem?_cons_zero, List.getElem?_cons_succ] at x0 x1 x2 x3 x4 x5
        have v0 := cell_of_block (o := 0) hF3
        have v1 := cell_of_block (o := 1) hF3
        have v2 := cell_of_block (o := 2) hF3
        have v3 := cell_of_block (o := 3) hF3
        have v4 := cell_of_block (o := 4) hF3
        simp only [List.getElem?_toArray, List.getElem?_cons_zero, List.getElem?_cons_succ] at v0 v1 v2 v3 v4
        have l5 : ¬ w1.heap.size = w1.heap.size + 1 := by omega
        have l6 : ¬ w1.heap.size + 1 = w1.heap.size := by omega
        have hblk := HC.out.r.blk
        have q2 := cell_of_block (o := 2) hblk
        have qf2 := frozen_blk hblk 2
        simp only [List.getElem?_toArray, List.getElem?_cons_zero, List.getElem?_cons_succ] at q2
        clear hblk hb3 hF3 hX3 HB2 HF2 HX2 HC2 b3 HV2
        cases ok
        · have HR : Hid (Wn.colonG Wn.inNot (f.drop i) = none) := Lib.hid (by rw [if_neg (by decide)] at hc; rw [HN.out, hc]; rfl)
          clear HN hc
          go_wp2_with fail
          refine bodyPost_ret (v := .agg #[.int .i64 11, .string ⟨#[]⟩, .string ⟨#[]⟩, .int .i64 0, .int .i64 0, .slice nuo 1 nuc]) (by simp [results, Try.results54, go_sem, a0, a1, a2, a3, a4, a5, m1, m2, n1, n2, n3, n4, n5, n6, x0, x1, x2, x3, x4, x5, l1, l2, l3, l4]) rfl ?_
          exact Sim4.bad (x := ⟨11, [], [], 0, 0, y.on .nil⟩) (u := .slice nuo 1 nuc) (j := i + 1) (by (repeat (first | with_reducible exact HC.out | (with_reducible refine CS.drew ?_) | (with_reducible refine CS.alloc ?_ _) | (with_reducible refine CS.spoilF ?_ _) | (with_reducible refine CS.spoilT ?_ _) | ((with_reducible refine CS.new ?_ ?_ _); rotate_left; (focus omega))))) rfl (by (refine SsP.same (fun _ _ _ => rfl) (fun b (hb : W2.heap.size ≤ b) _ => by omega) ?_; (repeat (first | with_reducible exact HU.out | ((with_reducible refine SsP.set ?_ ?_ _); rotate_left; (focus omega)))))) HR.out
        · have HR : Hid (Wn.colonG Wn.inNot (f.drop i) = some (⟨11, [], [], 0, 0, y.on .nil⟩, f.drop (i + 1))) := Lib.hid (by rw [if_pos rfl] at hc; rw [HN.out, hc]; rfl)
          clear HN hc
          go_wp2_with fail
          refine bodyPost_ret (v := .agg #[.int .i64 11, .string ⟨#[]⟩, .string ⟨#[]⟩, .int .i64 0, .int .i64 0, .slice nuo 1 nuc]) (by simp [results, Try.results54, go_sem, a0, a1, a2, a3, a4, a5, m1, m2, n1, n2, n3, n4, n5, n6, x0, x1, x2, x3, x4, x5, l1, l2, l3, l4]) rfl ?_
          exact Sim4.good (x := ⟨11, [], [], 0, 0, y.on .nil⟩) (u := .slice nuo 1 nuc) (j := i + 1) (by (repeat (first | with_reducible exact HC.out | (with_reducible refine CS.drew ?_) | (with_reducible refine CS.alloc ?_ _) | (with_reducible refine CS.spoilF ?_ _) | (with_reducible refine CS.spoilT ?_ _) | ((with_reducible refine CS.new ?_ ?_ _); rotate_left; (focus omega))))) (by omega) rfl (by (refine SsP.same (fun _ _ _ => rfl) (fun b (hb : W2.heap.size ≤ b) _ => by omega) ?_; (repeat (first | with_reducible exact HU.out | ((with_reducible refine SsP.set ?_ ?_ _); rotate_left; (focus omega)))))) HR.out
    · have hn1 : sx.toList = [110, 116, 104, 45, 99, 104, 105, 108, 100] := by simpa using c1
      have c2 : (sx.toList == [110, 111, 116]) = false := by rw [hn1]; rfl
      have HN : Hid (Wn.colonG Wn.inNot (f.drop i) = ((Wn.nthF x).map fun p => (⟨8, [], [], p.1, p.2, .nil⟩ : Wn.Sm)).map fun x => (x, f.drop (i + 1))) := Lib.hid (by rw [HCL.out, Wn.funcG, ← HXL.out, if_pos hn1])
      clear hn1
      have HQ := Lib.hid (fun (V : World) (hV : ValsP V (fun b => b ≠ g) (.slice uo x.len uc) x) => rNth_v (.slice uo x.len uc) x V hV.any (by omega) (Nat.le_trans (Wn.trim_size x) (by omega)))
      have hb2 : Below w1.heap.size w1 ((w1.alloc (.cells #[.int .i64 5, .int .i64 tk, .string sx, .int .i64 tn, .slice uo x.len uc] 80)).alloc (.cells #[.int .i64 0, .string ⟨#[]⟩, .string ⟨#[]⟩, .int .i64 0, .int .i64 0, .slice none 0 0] 45)) := ((Below.refl _ _).alloc (Nat.le_refl _) _).alloc (by simp) _
      have HV2 := Lib.hid (HVX.out.below hb2)
      have HC2 := Lib.hid (HC.out.below hb2)
      have HB2 := Lib.hid (block_lat hb2 HB0.out)
      have hF := block_alloc (heap_alloc_new w1 (.cells #[.int .i64 5, .int .i64 tk, .string sx, .int .i64 tn, .slice uo x.len uc] 80)) (.cells #[.int .i64 0, .string ⟨#[]⟩, .string ⟨#[]⟩, .int .i64 0, .int .i64 0, .slice none 0 0] 45)
      have hX := heap_alloc_new (w1.alloc (.cells #[.int .i64 5, .int .i64 tk, .string sx, .int .i64 tn, .slice uo x.len uc] 80)) (.cells #[.int .i64 0, .string ⟨#[]⟩, .string ⟨#[]⟩, .int .i64 0, .int .i64 0, .slice none 0 0] 45)
      rw [show (w1.alloc (.cells #[.int .i64 5, .int .i64 tk, .string sx, .int .i64 tn, .slice uo x.len uc] 80)).heap.size = w1.heap.size + 1 by simp] at hX
      have HF2 := Lib.hid hF
      have HX2 := Lib.hid hX
      clear hb2 hF hX HVX HC HB0
      go_wp2_with fail
      generalize (w1.alloc (.cells #[.int .i64 5, .int .i64 tk, .string sx, .int .i64 tn, .slice uo x.len uc] 80)).alloc (.cells #[.int .i64 0, .string ⟨#[]⟩, .string ⟨#[]⟩, .int .i64 0, .int .i64 0, .slice none 0 0] 45) = W2 at *
      refine (HQ.out W2 HV2.out).mono ?_
      rintro e w3 ⟨a, b, c, rfl, hc, b3⟩
      have HC := Lib.hid (HC2.out.below b3)
      have hs3 := b3.size
      have hb3 := block_lat b3 HB2.out
      have hF3 := block_lat b3 HF2.out
      have hX3 := block_lat b3 HX2.out
      have l1 : w1.heap.size + 1 < w3.heap.size := lt_of_block hX3
      have l2 : w.heap.size < w3.heap.size := lt_of_block hb3
      have l3 : ¬ w1.heap.size + 1 = w.heap.size := by omega
      have l4 : ¬ w1.heap.size + 1 = g := by omega
      clear a0 a1 a2 a3 a4 a5 af0 af1 af2 af3 af4 af5 q2 qf2
      have a0 := cell_of_block (o := 0) hb3
      have a1 := cell_of_block (o := 1) hb3
      have a2 := cell_of_block (o := 2) hb3
      have a3 := cell_of_block (o := 3) hb3
      have a4 := cell_of_block (o := 4) hb3
      have a5 := cell_of_block (o := 5) hb3
      have af0 := frozen_blk hb3 0
      have af1 := frozen_blk hb3 1
      have af2 := frozen_blk hb3 2
      have af3 := frozen_blk hb3 3
      have af4 := frozen_blk hb3 4
      have af5 := frozen_blk hb3 5
      simp only [List.getElem?_toArray, List.getElem?_cons_zero, List.getElem?_cons_succ] at a0 a1 a2 a3 a4 a5
      have x0 := cell_of_block (o := 0) hX3
      have x1 := cell_of_block (o := 1) hX3
      have x2 := cell_of_block (o := 2) hX3
      have x3 := cell_of_block (o := 3) hX3
      have x4 := cell_of_block (o := 4) hX3
      have x5 := cell_of_block (o := 5) hX3
      have xf0 := frozen_blk hX3 0
      have xf1 := frozen_blk hX3 1
      have xf2 := frozen_blk hX3 2
      have xf3 := frozen_blk hX3 3
      have xf4 := frozen_blk hX3 4
      have xf5 := frozen_blk hX3 5
      simp only [List.getElem?_toArray, List.getElem?_cons_zero, List.getElem?_cons_succ] at x0 x1 x2 x3 x4 x5
      have v0 := cell_of_block (o := 0) hF3
      have v1 := cell_of_block (o := 1) hF3
      have v2 := cell_of_block (o := 2) hF3
      have v3 := cell_of_block (o := 3) hF3
      have v4 := cell_of_block (o := 4) hF3
      simp only [List.getElem?_toArray, List.getElem?_cons_zero, List.getElem?_cons_succ] at v0 v1 v2 v3 v4
      have l5 : ¬ w1.heap.size = w1.heap.size + 1 := by omega
      have l6 : ¬ w1.heap.size + 1 = w1.heap.size := by omega
      have hblk := HC.out.r.blk
      have q2 := cell_of_block (o := 2) hblk
      have qf2 := frozen_blk hblk 2
      simp only [List.getElem?_toArray, List.getElem?_cons_zero, List.getElem?_cons_succ] at q2
      clear hblk hb3 hF3 hX3 HB2 HF2 HX2 HC2 b3 HV2
      rcases hc with ⟨rfl, hc⟩ | ⟨rfl, hc⟩
      · have HR : Hid (Wn.colonG Wn.inNot (f.drop i) = some (⟨8, [], [], a, b, .nil⟩, f.drop (i + 1))) := Lib.hid (by rw [HN.out, hc]; rfl)
        clear HN hc
        go_wp2_with fail
        refine bodyPost_ret (v := .agg #[.int .i64 8, .string ⟨#[]⟩, .string ⟨#[]⟩, .int .i64 a, .int .i64 b, .slice none 0 0]) (by simp [results, Try.results54, go_sem, a0, a1, a2, a3, a4, a5, m1, m2, n1, n2, n3, n4, n5, n6, x0, x1, x2, x3, x4, x5, l1, l2, l3, l4]) rfl ?_
        exact Sim4.good (x := ⟨8, [], [], a, b, .nil⟩) (u := .slice none 0 0) (j := i + 1) (by (repeat (first | with_reducible exact HC.out | (with_reducible refine CS.drew ?_) | (with_reducible refine CS.alloc ?_ _) | (with_reducible refine CS.spoilF ?_ _) | (with_reducible refine CS.spoilT ?_ _) | ((with_reducible refine CS.new ?_ ?_ _); rotate_left; (focus omega))))) (by omega) rfl SsP.nil' HR.out
      · have HR : Hid (Wn.colonG Wn.inNot (f.drop i) = none) := Lib.hid (by rw [HN.out, hc]; rfl)
        clear HN hc
        go_wp2_with fail
        refine bodyPost_ret (v := .agg #[.int .i64 8, .string ⟨#[]⟩, .string ⟨#[]⟩, .int .i64 a, .int .i64 b, .slice none 0 0]) (by simp [results, Try.results54, go_sem, a0, a1, a2, a3, a4, a5, m1, m2, n1, n2, n3, n4, n5, n6, x0, x1, x2, x3, x4, x5, l1, l2, l3, l4]) rfl ?_
        exact Sim4.bad (x := ⟨8, [], [], a, b, .nil⟩) (u := .slice none 0 0) (j := i + 1) (by (repeat (first | with_reducible exact HC.out | (with_reducible refine CS.drew ?_) | (with_reducible refine CS.alloc ?_ _) | (with_reducible refine CS.spoilF ?_ _) | (with_reducible refine CS.spoilT ?_ _) | ((with_reducible refine CS.new ?_ ?_ _); rotate_left; (focus omega))))) rfl SsP.nil' HR.out
  · have hs1 := ho1.size
    have HC := Lib.hid (HC0.out.go hr1 ho1)
    have hb0 := (ho1.block w.heap.size (by omega) (by omega)).trans HBX.out
    have a0 := cell_of_block (o := 0) hb0
    have a1 := cell_of_block (o := 1) hb0
    have a2 := cell_of_block (o := 2) hb0
    have a3 := cell_of_block (o := 3) hb0
    have a4 := cell_of_block (o := 4) hb0
    have a5 := cell_of_block (o := 5) hb0
    have af0 := frozen_blk hb0 0
    have af1 := frozen_blk hb0 1
    have af2 := frozen_blk hb0 2
    have af3 := frozen_blk hb0 3
    have af4 := frozen_blk hb0 4
    have af5 := frozen_blk hb0 5
    simp only [List.getElem?_toArray, List.getElem?_cons_zero, List.getElem?_cons_succ] at a0 a1 a2 a3 a4 a5
    have HB0 := Lib.hid hb0
    have HVF := Lib.hid hvf
    have m1 : w.heap.size < w1.heap.size := by omega
    have m2 : g < w1.heap.size := by omega
    have n1 : ¬ w.heap.size = w1.heap.size := by omega
    have n2 : ¬ w.heap.size = w1.heap.size + 1 := by omega
    have n3 : ¬ g = w1.heap.size := by omega
    have n4 : ¬ g = w1.heap.size + 1 := by omega
    have n5 : ¬ g = w.heap.size := by omega
    have n6 : ¬ w.heap.size = g := by omega
    have hblk := HC.out.r.blk
    have q2 := cell_of_block (o := 2) hblk
    have qf2 := frozen_blk hblk 2
    simp only [List.getElem?_toArray, List.getElem?_cons_zero, List.getElem?_cons_succ] at q2
    clear hb0 hvf hr1 ho1 HBX HC0 hblk
    have hb2 : Below w1.heap.size w1 ((w1.alloc (.cells #[.int .i64 0, .int .i64 0, .string ⟨#[]⟩, .int .i64 0, .slice none 0 0] 80)).alloc (.cells #[.int .i64 0, .string ⟨#[]⟩, .string ⟨#[]⟩, .int .i64 0, .int .i64 0, .slice none 0 0] 45)) := ((Below.refl _ _).alloc (Nat.le_refl _) _).alloc (by simp) _
    have HC2 := Lib.hid (HC.out.below hb2)
    have HB2 := Lib.hid (block_lat hb2 HB0.out)
    have hF := block_alloc (heap_alloc_new w1 (.cells #[.int .i64 0, .int .i64 0, .string ⟨#[]⟩, .int .i64 0, .slice none 0 0] 80)) (.cells #[.int .i64 0, .string ⟨#[]⟩, .string ⟨#[]⟩, .int .i64 0, .int .i64 0, .slice none 0 0] 45)
    have hX := heap_alloc_new (w1.alloc (.cells #[.int .i64 0, .int .i64 0, .string ⟨#[]⟩, .int .i64 0, .slice none 0 0] 80)) (.cells #[.int .i64 0, .string ⟨#[]⟩, .string ⟨#[]⟩, .int .i64 0, .int .i64 0, .slice none 0 0] 45)
    rw [show (w1.alloc (.cells #[.int .i64 0, .int .i64 0, .string ⟨#[]⟩, .int .i64 0, .slice none 0 0] 80)).heap.size = w1.heap.size + 1 by simp] at hX
    have HF2 := Lib.hid hF
    have HX2 := Lib.hid hX
    clear hb2 hF hX HC HB0
    go_wp2_with fail
    generalize (w1.alloc (.cells #[.int .i64 0, .int .i64 0, .string ⟨#[]⟩, .int .i64 0, .slice none 0 0] 80)).alloc (.cells #[.int .i64 0, .string ⟨#[]⟩, .string ⟨#[]⟩, .int .i64 0, .int .i64 0, .slice none 0 0] 45) = W2 at *
    refine (r4name g i f false W2 HC2.out.r).mono ?_
    rintro e w3 (⟨n, hn, hil, rfl, hr3, ho3⟩ | ⟨hn, rfl, hr3, ho3⟩)
    · have HCL := Lib.hid (Wn.cl_name (nt := Wn.inNot) HVF.out hn)
      have hz2 : w1.heap.size + 1 < W2.heap.size := lt_of_block HX2.out
      have HC := Lib.hid (HC2.out.go hr3 ho3)
      have hs3 := ho3.size
      have hb3 := (ho3.block w.heap.size (by omega) (by omega)).trans HB2.out
      have hF3 := (ho3.block w1.heap.size (by omega) (by omega)).trans HF2.out
      have hX3 := (ho3.block (w1.heap.size + 1) (by omega) (by omega)).trans HX2.out
      have l1 : w1.heap.size + 1 < w3.heap.size := lt_of_block hX3
      have l2 : w.heap.size < w3.heap.size := lt_of_block hb3
      have l3 : ¬ w1.heap.size + 1 = w.heap.size := by omega
      have l4 : ¬ w1.heap.size + 1 = g := by omega
      clear a0 a1 a2 a3 a4 a5 af0 af1 af2 af3 af4 af5 q2 qf2
      have a0 := cell_of_block (o := 0) hb3
      have a1 := cell_of_block (o := 1) hb3
      have a2 := cell_of_block (o := 2) hb3
      have a3 := cell_of_block (o := 3) hb3
      have a4 := cell_of_block (o := 4) hb3
      have a5 := cell_of_block (o := 5) hb3
      have af0 := frozen_blk hb3 0
      have af1 := frozen_blk hb3 1
      have af2 := frozen_blk hb3 2
      have af3 := frozen_blk hb3 3
      have af4 := frozen_blk hb3 4
      have af5 := frozen_blk hb3 5
      simp only [List.getElem?_toArray, List.getElem?_cons_zero, List.getElem?_cons_succ] at a0 a1 a2 a3 a4 a5
      have x0 := cell_of_block (o := 0) hX3
      have x1 := cell_of_block (o := 1) hX3
      have x2 := cell_of_block (o := 2) hX3
      have x3 := cell_of_block (o := 3) hX3
      have x4 := cell_of_block (o := 4) hX3
      have x5 := cell_of_block (o := 5) hX3
      have xf0 := frozen_blk hX3 0
      have xf1 := frozen_blk hX3 1
      have xf2 := frozen_blk hX3 2
      have xf3 := frozen_blk hX3 3
      have xf4 := frozen_blk hX3 4
      have xf5 := frozen_blk hX3 5
      simp only [List.getElem?_toArray, List.getElem?_cons_zero, List.getElem?_cons_succ] at x0 x1 x2 x3 x4 x5
      have v0 := cell_of_block (o := 0) hF3
      have v1 := cell_of_block (o := 1) hF3
      have v2 := cell_of_block (o := 2) hF3
      have v3 := cell_of_block (o := 3) hF3
      have v4 := cell_of_block (o := 4) hF3
      simp only [List.getElem?_toArray, List.getElem?_cons_zero, List.getElem?_cons_succ] at v0 v1 v2 v3 v4
      have l5 : ¬ w1.heap.size = w1.heap.size + 1 := by omega
      have l6 : ¬ w1.heap.size + 1 = w1.heap.size := by omega
      have hblk := HC.out.r.blk
      have q2 := cell_of_block (o := 2) hblk
      have qf2 := frozen_blk hblk 2
      simp only [List.getElem?_toArray, List.getElem?_cons_zero, List.getElem?_cons_succ] at q2
      clear hblk hb3 hF3 hX3 HB2 HF2 HX2 HC2 hr3 ho3
      have hxl := str_list n.2.1
      generalize hsx : Wn.str n.2.1 = sx at *
      have HXL := Lib.hid hxl
      have HSX := Lib.hid hsx
      clear hxl hsx hn HVF
      cases c1 : (sx.toList == [104, 111, 118, 101, 114])
      · skip
        cases c2 : (sx.toList == [102, 111, 99, 117, 115])
        · skip
          cases c3 : (sx.toList == [97, 99, 116, 105, 118, 101])
          · skip
            cases c4 : (sx.toList == [99, 104, 101, 99, 107, 101, 100])
            · skip
              cases c5 : (sx.toList == [114, 111, 111, 116])
              · skip
                cases c6 : (sx.toList == [101, 109, 112, 116, 121])
                · skip
                  cases c7 : (sx.toList == [102, 105, 114, 115, 116, 45, 99, 104, 105, 108, 100])
                  · skip
                    have HST : Hid (Wn.stateW n.2.1 = none) := Lib.hid (by unfold Wn.stateW Wn.isState; rw [← HXL.out]; simp only [beq_eq_false_iff_ne, ne_eq] at c1 c2 c3 c4 c5 c6 c7; simp [c1, c2, c3, c4, c5, c6, c7])
                    go_wp2_with fail
                    refine bodyPost_ret (v := .agg #[.int .i64 0, .string ⟨#[]⟩, .string ⟨#[]⟩, .int .i64 0, .int .i64 0, .slice none 0 0]) (by simp [results, Try.results54, go_sem, a0, a1, a2, a3, a4, a5, m1, m2, n1, n2, n3, n4, n5, n6, x0, x1, x2, x3, x4, x5, l1, l2, l3, l4]) rfl ?_
                    exact Sim4.bad (x := ⟨0, [], [], 0, 0, .nil⟩) (u := .slice none 0 0) (j := i + 1) (by (repeat (first | with_reducible exact HC.out | (with_reducible refine CS.drew ?_) | (with_reducible refine CS.alloc ?_ _) | (with_reducible refine CS.spoilF ?_ _) | (with_reducible refine CS.spoilT ?_ _) | ((with_reducible refine CS.new ?_ ?_ _); rotate_left; (focus omega))))) rfl SsP.nil' (by rw [HCL.out, HST.out]; rfl)
                  · skip
                    have hn0 : n.2.1 = [102, 105, 114, 115, 116, 45, 99, 104, 105, 108, 100] := by rw [← HXL.out]; simpa using c7
                    have hst := congrArg Wn.stateW hn0
                    have HST : Hid (Wn.stateW n.2.1 = some (⟨8, [], [], 0, 1, .nil⟩ : Wn.Sm)) := Lib.hid (by rw [hn0]; decide)
                    clear hn0 hst
                    go_wp2_with fail
                    refine bodyPost_ret (v := .agg #[.int .i64 8, .string ⟨#[]⟩, .string ⟨#[]⟩, .int .i64 0, .int .i64 1, .slice none 0 0]) (by simp [results, Try.results54, go_sem, a0, a1, a2, a3, a4, a5, m1, m2, n1, n2, n3, n4, n5, n6, x0, x1, x2, x3, x4, x5, l1, l2, l3, l4]) rfl ?_
                    exact Sim4.good (x := ⟨8, [], [], 0, 1, .nil⟩) (u := .slice none 0 0) (j := i + 1) (by (repeat (first | with_reducible exact HC.out | (with_reducible refine CS.drew ?_) | (with_reducible refine CS.alloc ?_ _) | (with_reducible refine CS.spoilF ?_ _) | (with_reducible refine CS.spoilT ?_ _) | ((with_reducible refine CS.new ?_ ?_ _); rotate_left; (focus omega))))) (by omega) rfl SsP.nil' (by rw [HCL.out, HST.out]; rfl)
                · skip
                  have hn0 : n.2.1 = [101, 109, 112, 116, 121] := by rw [← HXL.out]; simpa using c6
                  have hst := congrArg Wn.stateW hn0
                  have HST : Hid (Wn.stateW n.2.1 = some (⟨10, [], [], 0, 0, .nil⟩ : Wn.Sm)) := Lib.hid (by rw [hn0]; decide)
                  clear hn0 hst
                  go_wp2_with fail
                  refine bodyPost_ret (v := .agg #[.int .i64 10, .string ⟨#[]⟩, .string ⟨#[]⟩, .int .i64 0, .int .i64 0, .slice none 0 0]) (by simp [results, Try.results54, go_sem, a0, a1, a2, a3, a4, a5, m1, m2, n1, n2, n3, n4, n5, n6, x0, x1, x2, x3, x4, x5, l1, l2, l3, l4]) rfl ?_
                  exact Sim4.good (x := ⟨10, [], [], 0, 0, .nil⟩) (u := .slice none 0 0) (j := i + 1) (by (repeat (first | with_reducible exact HC.out | (with_reducible refine CS.drew ?_) | (with_reducible refine CS.alloc ?_ _) | (with_reducible refine CS.spoilF ?_ _) | (with_reducible refine CS.spoilT ?_ _) | ((with_reducible refine CS.new ?_ ?_ _); rotate_left; (focus omega))))) (by omega) rfl SsP.nil' (by rw [HCL.out, HST.out]; rfl)
              · skip
                have hn0 : n.2.1 = [114, 111, 111, 116] := by rw [← HXL.out]; simpa using c5
                have hst := congrArg Wn.stateW hn0
                have HST : Hid (Wn.stateW n.2.1 = some (⟨9, [], [], 0, 0, .nil⟩ : Wn.Sm)) := Lib.hid (by rw [hn0]; decide)
                clear hn0 hst
                go_wp2_with fail
                refine bodyPost_ret (v := .agg #[.int .i64 9, .string ⟨#[]⟩, .string ⟨#[]⟩, .int .i64 0, .int .i64 0, .slice none 0 0]) (by simp [results, Try.results54, go_sem, a0, a1, a2, a3, a4, a5, m1, m2, n1, n2, n3, n4, n5, n6, x0, x1, x2, x3, x4, x5, l1, l2, l3, l4]) rfl ?_
                exact Sim4.good (x := ⟨9, [], [], 0, 0, .nil⟩) (u := .slice none 0 0) (j := i + 1) (by (repeat (first | with_reducible exact HC.out | (with_reducible refine CS.drew ?_) | (with_reducible refine CS.alloc ?_ _) | (with_reducible refine CS.spoilF ?_ _) | (with_reducible refine CS.spoilT ?_ _) | ((with_reducible refine CS.new ?_ ?_ _); rotate_left; (focus omega))))) (by omega) rfl SsP.nil' (by rw [HCL.out, HST.out]; rfl)
            · skip
              have hn0 : n.2.1 = [99, 104, 101, 99, 107, 101, 100] := by rw [← HXL.out]; simpa using c4
              have hst := congrArg Wn.stateW hn0
              have HST : Hid (Wn.stateW n.2.1 = some (⟨7, n.2.1, [], 0, 0, .nil⟩ : Wn.Sm)) := Lib.hid (by rw [hn0]; decide)
              clear hn0 hst
              go_wp2_with fail
              refine bodyPost_ret (v := .agg #[.int .i64 7, .string sx, .string ⟨#[]⟩, .int .i64 0, .int .i64 0, .slice none 0 0]) (by simp [results, Try.results54, go_sem, a0, a1, a2, a3, a4, a5, m1, m2, n1, n2, n3, n4, n5, n6, x0, x1, x2, x3, x4, x5, l1, l2, l3, l4]) rfl ?_
              exact Sim4.good (x := ⟨7, n.2.1, [], 0, 0, .nil⟩) (u := .slice none 0 0) (j := i + 1) (by (repeat (first | with_reducible exact HC.out | (with_reducible refine CS.drew ?_) | (with_reducible refine CS.alloc ?_ _) | (with_reducible refine CS.spoilF ?_ _) | (with_reducible refine CS.spoilT ?_ _) | ((with_reducible refine CS.new ?_ ?_ _); rotate_left; (focus omega))))) (by omega) (by rw [← HSX.out]; rfl) SsP.nil' (by rw [HCL.out, HST.out]; rfl)
          · skip
            have hn0 : n.2.1 = [97, 99, 116, 105, 118, 101] := by rw [← HXL.out]; simpa using c3
            have hst := congrArg Wn.stateW hn0
            have HST : Hid (Wn.stateW n.2.1 = some (⟨7, n.2.1, [], 0, 0, .nil⟩ : Wn.Sm)) := Lib.hid (by rw [hn0]; decide)
            clear hn0 hst
            go_wp2_with fail
            refine bodyPost_ret (v := .agg #[.int .i64 7, .string sx, .string ⟨#[]⟩, .int .i64 0, .int .i64 0, .slice none 0 0]) (by simp [results, Try.results54, go_sem, a0, a1, a2, a3, a4, a5, m1, m2, n1, n2, n3, n4, n5, n6, x0, x1, x2, x3, x4, x5, l1, l2, l3, l4]) rfl ?_
            exact Sim4.good (x := ⟨7, n.2.1, [], 0, 0, .nil⟩) (u := .slice none 0 0) (j := i + 1) (by (repeat (first | with_reducible exact HC.out | (with_reducible refine CS.drew ?_) | (with_reducible refine CS.alloc ?_ _) | (with_reducible refine CS.spoilF ?_ _) | (with_reducible refine CS.spoilT ?_ _) | ((with_reducible refine CS.new ?_ ?_ _); rotate_left; (focus omega))))) (by omega) (by rw [← HSX.out]; rfl) SsP.nil' (by rw [HCL.out, HST.out]; rfl)
        · skip
          have hn0 : n.2.1 = [102, 111, 99, 117, 115] := by rw [← HXL.out]; simpa using c2
          have hst := congrArg Wn.stateW hn0
          have HST : Hid (Wn.stateW n.2.1 = some (⟨7, n.2.1, [], 0, 0, .nil⟩ : Wn.Sm)) := Lib.hid (by rw [hn0]; decide)
          clear hn0 hst
          go_wp2_with fail
          refine bodyPost_ret (v := .agg #[.int .i64 7, .string sx, .string ⟨#[]⟩, .int .i64 0, .int .i64 0, .slice none 0 0]) (by simp [results, Try.results54, go_sem, a0, a1, a2, a3, a4, a5, m1, m2, n1, n2, n3, n4, n5, n6, x0, x1, x2, x3, x4, x5, l1, l2, l3, l4]) rfl ?_
          exact Sim4.good (x := ⟨7, n.2.1, [], 0, 0, .nil⟩) (u := .slice none 0 0) (j := i + 1) (by (repeat (first | with_reducible exact HC.out | (with_reducible refine CS.drew ?_) | (with_reducible refine CS.alloc ?_ _) | (with_reducible refine CS.spoilF ?_ _) | (with_reducible refine CS.spoilT ?_ _) | ((with_reducible refine CS.new ?_ ?_ _); rotate_left; (focus omega))))) (by omega) (by rw [← HSX.out]; rfl) SsP.nil' (by rw [HCL.out, HST.out]; rfl)
      · skip
        have hn0 : n.2.1 = [104, 111, 118, 101, 114] := by rw [← HXL.out]; simpa using c1
        have hst := congrArg Wn.stateW hn0
        have HST : Hid (Wn.stateW n.2.1 = some (⟨7, n.2.1, [], 0, 0, .nil⟩ : Wn.Sm)) := Lib.hid (by rw [hn0]; decide)
        clear hn0 hst
        go_wp2_with fail
        refine bodyPost_ret (v := .agg #[.int .i64 7, .string sx, .string ⟨#[]⟩, .int .i64 0, .int .i64 0, .slice none 0 0]) (by simp [results, Try.results54, go_sem, a0, a1, a2, a3, a4, a5, m1, m2, n1, n2, n3, n4, n5, n6, x0, x1, x2, x3, x4, x5, l1, l2, l3, l4]) rfl ?_
        exact Sim4.good (x := ⟨7, n.2.1, [], 0, 0, .nil⟩) (u := .slice none 0 0) (j := i + 1) (by (repeat (first | with_reducible exact HC.out | (with_reducible refine CS.drew ?_) | (with_reducible refine CS.alloc ?_ _) | (with_reducible refine CS.spoilF ?_ _) | (with_reducible refine CS.spoilT ?_ _) | ((with_reducible refine CS.new ?_ ?_ _); rotate_left; (focus omega))))) (by omega) (by rw [← HSX.out]; rfl) SsP.nil' (by rw [HCL.out, HST.out]; rfl)
    · have HCN := Lib.hid (Wn.cl_none (nt := Wn.inNot) HVF.out hn)
      have hz2 : w1.heap.size + 1 < W2.heap.size := lt_of_block HX2.out
      have HC := Lib.hid (HC2.out.go hr3 ho3)
      have hs3 := ho3.size
      have hb3 := (ho3.block w.heap.size (by omega) (by omega)).trans HB2.out
      have hF3 := (ho3.block w1.heap.size (by omega) (by omega)).trans HF2.out
      have hX3 := (ho3.block (w1.heap.size + 1) (by omega) (by omega)).trans HX2.out
      have l1 : w1.heap.size + 1 < w3.heap.size := lt_of_block hX3
      have l2 : w.heap.size < w3.heap.size := lt_of_block hb3
      have l3 : ¬ w1.heap.size + 1 = w.heap.size := by omega
      have l4 : ¬ w1.heap.size + 1 = g := by omega
      clear a0 a1 a2 a3 a4 a5 af0 af1 af2 af3 af4 af5 q2 qf2
      have a0 := cell_of_block (o := 0) hb3
      have a1 := cell_of_block (o := 1) hb3
      have a2 := cell_of_block (o := 2) hb3
      have a3 := cell_of_block (o := 3) hb3
      have a4 := cell_of_block (o := 4) hb3
      have a5 := cell_of_block (o := 5) hb3
      have af0 := frozen_blk hb3 0
      have af1 := frozen_blk hb3 1
      have af2 := frozen_blk hb3 2
      have af3 := frozen_blk hb3 3
      have af4 := frozen_blk hb3 4
      have af5 := frozen_blk hb3 5
      simp only [List.getElem?_toArray, List.getElem?_cons_zero, List.getElem?_cons_succ] at a0 a1 a2 a3 a4 a5
      have x0 := cell_of_block (o := 0) hX3
      have x1 := cell_of_block (o := 1) hX3
      have x2 := cell_of_block (o := 2) hX3
      have x3 := cell_of_block (o := 3) hX3
      have x4 := cell_of_block (o := 4) hX3
      have x5 := cell_of_block (o := 5) hX3
      have xf0 := frozen_blk hX3 0
      have xf1 := frozen_blk hX3 1
      have xf2 := frozen_blk hX3 2
      have xf3 := frozen_blk hX3 3
      have xf4 := frozen_blk hX3 4
      have xf5 := frozen_blk hX3 5
      simp only [List.getElem?_toArray, List.getElem?_cons_zero, List.getElem?_cons_succ] at x0 x1 x2 x3 x4 x5
      have v0 := cell_of_block (o := 0) hF3
      have v1 := cell_of_block (o := 1) hF3
      have v2 := cell_of_block (o := 2) hF3
      have v3 := cell_of_block (o := 3) hF3
      have v4 := cell_of_block (o := 4) hF3
      simp only [List.getElem?_toArray, List.getElem?_cons_zero, List.getElem?_cons_succ] at v0 v1 v2 v3 v4
      have l5 : ¬ w1.heap.size = w1.heap.size + 1 := by omega
      have l6 : ¬ w1.heap.size + 1 = w1.heap.size := by omega
      have hblk := HC.out.r.blk
      have q2 := cell_of_block (o := 2) hblk
      have qf2 := frozen_blk hblk 2
      simp only [List.getElem?_toArray, List.getElem?_cons_zero, List.getElem?_cons_succ] at q2
      clear hblk hb3 hF3 hX3 HB2 HF2 HX2 HC2 hr3 ho3
      clear hn HVF
      go_wp2_with fail
      refine bodyPost_ret (v := .agg #[.int .i64 0, .string ⟨#[]⟩, .string ⟨#[]⟩, .int .i64 0, .int .i64 0, .slice none 0 0]) (by simp [results, Try.results54, go_sem, a0, a1, a2, a3, a4, a5, m1, m2, n1, n2, n3, n4, n5, n6, x0, x1, x2, x3, x4, x5, l1, l2, l3, l4]) rfl ?_
      exact Sim4.bad (x := ⟨0, [], [], 0, 0, .nil⟩) (u := .slice none 0 0) (j := i) (by (repeat (first | with_reducible exact HC.out | (with_reducible refine CS.drew ?_) | (with_reducible refine CS.alloc ?_ _) | (with_reducible refine CS.spoilT ?_ _) | ((with_reducible refine CS.new ?_ ?_ _); rotate_left; (focus omega))))) rfl SsP.nil' HCN.out
end Go.Proofs.Ytbjhiimjillleaa
