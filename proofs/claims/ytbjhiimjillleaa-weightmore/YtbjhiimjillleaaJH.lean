/- The verifier's simple: the walk. The verifier's simple at the front: the walk. -/
import Derived.Test.YtbjhiimjillleaaJG
import Derived.Test.YtbjhiimjillleaaJF
set_option linter.unusedVariables false
set_option linter.unusedSimpArgs false
set_option maxRecDepth 20000
namespace Go.Proofs.Ytbjhiimjillleaa
open Go.RowKit Go.Sort
variable {rv : Value}
set_option maxRecDepth 100000 in
set_option maxHeartbeats 2000000 in
theorem r4simple0 (N : Nat) (g i : Nat) (f : Wn.Fs) (w : World) (hN : f.size ≤ N) (hI : Not4Said N) (ht : Tl f) (h : R4 w g rv f i false) :
    Calls Try.prog 40 #[.pointer (some ⟨g, 0, none⟩), .bool false] w (Sim4 rv (Wn.simpS false (f.drop i)) g i f w) := by
  have hgl := h.lt
  have hsz := h.sz
  have hil := h.hi
  have hll := h.len
  have HC0 := Lib.hid ((CS.start h).alloc (.cells #[.int .i64 0, .string ⟨#[]⟩, .string ⟨#[]⟩, .int .i64 0, .int .i64 0, .slice none 0 0] 45))
  have hbx := heap_alloc_new w (.cells #[.int .i64 0, .string ⟨#[]⟩, .string ⟨#[]⟩, .int .i64 0, .int .i64 0, .slice none 0 0] 45)
  have hz1 : (w.alloc (.cells #[.int .i64 0, .string ⟨#[]⟩, .string ⟨#[]⟩, .int .i64 0, .int .i64 0, .slice none 0 0] 45)).heap.size = w.heap.size + 1 := by simp
  have HB0 := Lib.hid hbx
  have HQC := Lib.hid (fun (V : World) (j : Nat) (hV : R4 V g rv f j false) => r4colon N g j f V hN hI ht hV)
  clear h hbx
  go_enter Try.func40, Try.ntmps40
  go_wp2_with fail
  generalize w.alloc (.cells #[.int .i64 0, .string ⟨#[]⟩, .string ⟨#[]⟩, .int .i64 0, .int .i64 0, .slice none 0 0] 45) = W at *
  have HC := HC0
  clear HC0
  have Q4 := Lib.hid (r4tok 4 g i f false W HC.out.r)
  go_wp2_with fail
  cases ht4 : Wn.tokF 4 (f.drop i) with
  | some p =>
    obtain ⟨t, r⟩ := p
    obtain ⟨hr, hlt2⟩ := Wn.tokF_next ht4
    obtain ⟨e1, e2⟩ := Wn.tokZ_some ht4
    subst hr
    rw [e1, tokV_str, e2] at Q4
    have HR : Hid (Wn.simpS false (f.drop i) = some (Wn.sNam 3 t.2.1, f.drop (i + 1))) := Lib.hid (Wn.rs_id ht4)
    refine Q4.out.mono ?_
    rintro e w2 ⟨rfl, b2⟩
    have HC2 := Lib.hid (HC.out.below b2)
    have HB2 := Lib.hid (block_lat b2 HB0.out)
    clear HC HB0 b2 Q4 ht4 e1 e2
    have HC := HC2
    have HB0 := HB2
    clear HC2 HB2
    generalize hnm : Wn.str t.2.1 = nm at *
    have HNM := Lib.hid hnm
    clear hnm
    generalize t.2.2 = tn at *
    have hb0 := HB0.out
    have a0 := cell_of_block (o := 0) hb0
    have a1 := cell_of_block (o := 1) hb0
    have a2 := cell_of_block (o := 2) hb0
    have a3 := cell_of_block (o := 3) hb0
    have a4 := cell_of_block (o := 4) hb0
    have a5 := cell_of_block (o := 5) hb0
    have af0 := frozen_blk hb0 0
    have af1 := frozen_blk hb0 1
    have af2 := frozen_blk hb0 2
    have af3 := frozen_blk hb0 3
    have af4 := frozen_blk hb0 4
    have af5 := frozen_blk hb0 5
    simp only [List.getElem?_toArray, List.getElem?_cons_zero, List.getElem?_cons_succ] at a0 a1 a2 a3 a4 a5
    have m1 : w.heap.size < w2.heap.size := lt_of_block hb0
    have m2 : g < w2.heap.size := by omega
    have n1 : ¬ w.heap.size = w2.heap.size := by omega
    have n2 : ¬ w.heap.size = g := by omega
    have n3 : ¬ g = w.heap.size := by omega
    clear hb0
    have hblk := HC.out.r.blk
    have q1 := cell_of_block (o := 1) hblk
    have qf1 := frozen_blk hblk 1
    simp only [List.getElem?_toArray, List.getElem?_cons_zero, List.getElem?_cons_succ] at q1
    have n4 : ¬ g = w2.heap.size := by omega
    clear hblk
    go_wp2_with fail
    refine bodyPost_ret (v := .agg #[.int .i64 3, .string nm, .string ⟨#[]⟩, .int .i64 0, .int .i64 0, .slice none 0 0]) (by simp [results, Try.results40, go_sem, a0, a1, a2, a3, a4, a5, m1, m2, n1, n2, n3, n4]) rfl ?_
    exact Sim4.good (x := Wn.sNam 3 t.2.1) (u := .slice none 0 0) (j := i + 1) (by (repeat (first | with_reducible exact HC.out | (with_reducible refine CS.drew ?_) | (with_reducible refine CS.alloc ?_ _) | (with_reducible refine CS.move (j := i) (j' := i + 1) ?_ (by omega) (by go_num)) | (with_reducible refine CS.spoilF ?_ _) | ((with_reducible refine CS.new ?_ ?_ _); rotate_left; (focus omega))))) (by omega) (by rw [← HNM.out]; rfl) SsP.nil' (id HR.out)
  | none =>
    have Q4 : Hid (Calls Try.prog 51 #[.pointer (some ⟨g, 0, none⟩), .int .i64 4] W fun e w' => e = .returned (.agg #[.int .i64 0, .string ⟨#[]⟩, .int .i64 0]) ∧ Below W.heap.size W w') := Lib.hid (by have := Q4.out; rw [Wn.tokZ_none ht4] at this; exact this)
    refine Q4.out.mono ?_
    rintro e w2 ⟨rfl, b2⟩
    have hT : Below w2.heap.size w2 (w2.alloc (.cells #[.int .i64 0, .string ⟨#[]⟩, .int .i64 0] 75)) := (Below.refl _ _).alloc (Nat.le_refl _) _
    have HCP := Lib.hid ((HC.out.below b2).below hT)
    have HBP := Lib.hid (block_lat hT (block_lat b2 HB0.out))
    have H4 := Lib.hid ht4
    clear HC HB0 b2 Q4 ht4 hT
    go_wp2_with fail
    generalize w2.alloc (.cells #[.int .i64 0, .string ⟨#[]⟩, .int .i64 0] 75) = W2 at *
    refine (r4sign [46] g i f false W2 HCP.out.r).mono ?_
    rintro e w3 (⟨hs, hil, rfl, hr3, ho3⟩ | ⟨hs, rfl, hr3, ho3⟩)
    · have HR := Lib.hid (Wn.rs_class H4.out hs)
      have HC := Lib.hid (HCP.out.go hr3 ho3)
      have HB0 := Lib.hid ((ho3.block w.heap.size (lt_of_block HBP.out) (by omega)).trans HBP.out)
      clear HCP HBP hr3 ho3
      clear hs H4
      have HCP := HC
      have HBP := HB0
      clear HC HB0
      go_wp2_with fail
      refine (r4name g (i + 1) f false w3 HCP.out.r).mono ?_
      rintro e w4 (⟨n, hn, hn0, rfl, hr4, ho4⟩ | ⟨hn, rfl, hr4, ho4⟩)
      · have HR2 : Hid (Wn.simpS false (f.drop i) = some (Wn.sNam 4 n.2.1, f.drop (i + 1 + 1))) := Lib.hid (by rw [HR.out, hn]; rfl)
        have HC := Lib.hid (HCP.out.go hr4 ho4)
        have HB0 := Lib.hid ((ho4.block w.heap.size (lt_of_block HBP.out) (by omega)).trans HBP.out)
        clear HCP HBP hr4 ho4
        generalize hnm : Wn.str n.2.1 = nm at *
        have HNM := Lib.hid hnm
        clear hnm hn
        have hb0 := HB0.out
        have a0 := cell_of_block (o := 0) hb0
        have a1 := cell_of_block (o := 1) hb0
        have a2 := cell_of_block (o := 2) hb0
        have a3 := cell_of_block (o := 3) hb0
        have a4 := cell_of_block (o := 4) hb0
        have a5 := cell_of_block (o := 5) hb0
        have af0 := frozen_blk hb0 0
        have af1 := frozen_blk hb0 1
        have af2 := frozen_blk hb0 2
        have af3 := frozen_blk hb0 3
        have af4 := frozen_blk hb0 4
        have af5 := frozen_blk hb0 5
        simp only [List.getElem?_toArray, List.getElem?_cons_zero, List.getElem?_cons_succ] at a0 a1 a2 a3 a4 a5
        have m1 : w.heap.size < w4.heap.size := lt_of_block hb0
        have m2 : g < w4.heap.size := by omega
        have n1 : ¬ w.heap.size = w4.heap.size := by omega
        have n2 : ¬ w.heap.size = g := by omega
        have n3 : ¬ g = w.heap.size := by omega
        clear hb0
        go_wp2_with fail
        refine bodyPost_ret (v := .agg #[.int .i64 4, .string nm, .string ⟨#[]⟩, .int .i64 0, .int .i64 0, .slice none 0 0]) (by simp [results, Try.results40, go_sem, a0, a1, a2, a3, a4, a5, m1, m2, n1, n2, n3]) rfl ?_
        exact Sim4.good (x := Wn.sNam 4 n.2.1) (u := .slice none 0 0) (j := i + 1 + 1) (by (repeat (first | with_reducible exact HC.out | (with_reducible refine CS.drew ?_) | (with_reducible refine CS.alloc ?_ _) | (with_reducible refine CS.move (j := i) (j' := i + 1) ?_ (by omega) (by go_num)) | (with_reducible refine CS.spoilF ?_ _) | ((with_reducible refine CS.new ?_ ?_ _); rotate_left; (focus omega))))) (by omega) (by rw [← HNM.out]; rfl) SsP.nil' (id HR2.out)
      · have HR2 : Hid (Wn.simpS false (f.drop i) = none) := Lib.hid (by rw [HR.out, hn]; rfl)
        have HC := Lib.hid (HCP.out.go hr4 ho4)
        have HB0 := Lib.hid ((ho4.block w.heap.size (lt_of_block HBP.out) (by omega)).trans HBP.out)
        clear HCP HBP hr4 ho4
        clear hn
        have hb0 := HB0.out
        have a0 := cell_of_block (o := 0) hb0
        have a1 := cell_of_block (o := 1) hb0
        have a2 := cell_of_block (o := 2) hb0
        have a3 := cell_of_block (o := 3) hb0
        have a4 := cell_of_block (o := 4) hb0
        have a5 := cell_of_block (o := 5) hb0
        have af0 := frozen_blk hb0 0
        have af1 := frozen_blk hb0 1
        have af2 := frozen_blk hb0 2
        have af3 := frozen_blk hb0 3
        have af4 := frozen_blk hb0 4
        have af5 := frozen_blk hb0 5
        simp only [List.getElem?_toArray, List.getElem?_cons_zero, List.getElem?_cons_succ] at a0 a1 a2 a3 a4 a5
        have m1 : w.heap.size < w4.heap.size := lt_of_block hb0
        have m2 : g < w4.heap.size := by omega
        have n1 : ¬ w.heap.size = w4.heap.size := by omega
        have n2 : ¬ w.heap.size = g := by omega
        have n3 : ¬ g = w.heap.size := by omega
        clear hb0
        go_wp2_with fail
        refine bodyPost_ret (v := .agg #[.int .i64 4, .string ⟨#[]⟩, .string ⟨#[]⟩, .int .i64 0, .int .i64 0, .slice none 0 0]) (by simp [results, Try.results40, go_sem, a0, a1, a2, a3, a4, a5, m1, m2, n1, n2, n3]) rfl ?_
        exact Sim4.bad (x := Wn.sNam 4 []) (u := .slice none 0 0) (j := i + 1) (by (repeat (first | with_reducible exact HC.out | (with_reducible refine CS.drew ?_) | (with_reducible refine CS.alloc ?_ _) | (with_reducible refine CS.move (j := i) (j' := i + 1) ?_ (by omega) (by go_num)) | (with_reducible refine CS.spoilF ?_ _) | ((with_reducible refine CS.new ?_ ?_ _); rotate_left; (focus omega))))) rfl SsP.nil' (id HR2.out)
    · have H46 := Lib.hid hs
      have HC := Lib.hid (HCP.out.go hr3 ho3)
      have HB0 := Lib.hid ((ho3.block w.heap.size (lt_of_block HBP.out) (by omega)).trans HBP.out)
      clear HCP HBP hr3 ho3
      clear hs
      have HCP := HC
      have HBP := HB0
      clear HC HB0
      go_wp2_with fail
      refine (r4sign [58] g i f false w3 HCP.out.r).mono ?_
      rintro e w4 (⟨hs, hil, rfl, hr4, ho4⟩ | ⟨hs, rfl, hr4, ho4⟩)
      · have HR := Lib.hid (Wn.rs_colon H4.out H46.out hs)
        have HC := Lib.hid (HCP.out.go hr4 ho4)
        have HB0 := Lib.hid ((ho4.block w.heap.size (lt_of_block HBP.out) (by omega)).trans HBP.out)
        clear HCP HBP hr4 ho4
        clear hs
        go_wp2_with fail
        refine (HQC.out w4 (i + 1) HC.out.r).mono ?_
        rintro e w5 ⟨x, u, rfl, hu, ho5, hx⟩
        have hz4 := lt_of_block HB0.out
        have HCO := HC
        have HB5 := Lib.hid ((ho5.block w.heap.size (lt_of_block HB0.out) (by omega)).trans HB0.out)
        have HU := Lib.hid hu
        obtain ⟨nuo, nuc, rfl, _, _⟩ := hu.form
        have HO5 := Lib.hid ho5
        have HX := Lib.hid hx
        clear hu ho5 hx HC HB0
        have HB0 := HB5
        clear HB5
        have hb0 := HB0.out
        have a0 := cell_of_block (o := 0) hb0
        have a1 := cell_of_block (o := 1) hb0
        have a2 := cell_of_block (o := 2) hb0
        have a3 := cell_of_block (o := 3) hb0
        have a4 := cell_of_block (o := 4) hb0
        have a5 := cell_of_block (o := 5) hb0
        have af0 := frozen_blk hb0 0
        have af1 := frozen_blk hb0 1
        have af2 := frozen_blk hb0 2
        have af3 := frozen_blk hb0 3
        have af4 := frozen_blk hb0 4
        have af5 := frozen_blk hb0 5
        simp only [List.getElem?_toArray, List.getElem?_cons_zero, List.getElem?_cons_succ] at a0 a1 a2 a3 a4 a5
        have m1 : w.heap.size < w5.heap.size := lt_of_block hb0
        have m2 : g < w5.heap.size := by omega
        have n1 : ¬ w.heap.size = w5.heap.size := by omega
        have n2 : ¬ w.heap.size = g := by omega
        have n3 : ¬ g = w.heap.size := by omega
        clear hb0
        have HEX : Hid (∀ W, W = smV x (.slice nuo x.l.len nuc) → W = smV x (.slice nuo x.l.len nuc)) := Lib.hid (fun _ h => h)
        generalize x.l.len = xl at *
        generalize hx1 : Wn.str x.n = xn at *
        generalize hx2 : Wn.str x.v = xv at *
        generalize hx3 : x.k = xk at *
        generalize hx4 : x.a = xa at *
        generalize hx5 : x.b = xb at *
        go_wp2_with fail
        refine bodyPost_ret (v := .agg #[.int .i64 xk, .string xn, .string xv, .int .i64 xa, .int .i64 xb, .slice nuo xl nuc]) (by simp [results, Try.results40, go_sem, a0, a1, a2, a3, a4, a5, m1, m2, n1, n2, n3]) rfl ?_
        subst hx1 hx2 hx3 hx4 hx5
        rcases HX.out with ⟨j, hj, hr, hr5⟩ | ⟨hr, j, hr5⟩
        · have HC := Lib.hid (HCO.out.go hr5 HO5.out)
          exact Sim4.good (x := x) (u := .slice nuo xl nuc) (j := j) (by (repeat (first | with_reducible exact HC.out | (with_reducible refine CS.drew ?_) | (with_reducible refine CS.alloc ?_ _) | (with_reducible refine CS.move (j := i) (j' := i + 1) ?_ (by omega) (by go_num)) | (with_reducible refine CS.spoilF ?_ _) | ((with_reducible refine CS.new ?_ ?_ _); rotate_left; (focus omega))))) (by omega) rfl (by (refine SsP.same (fun _ _ _ => rfl) (fun b (hb : w4.heap.size ≤ b) _ => by omega) ?_; (repeat (first | with_reducible exact HU.out | ((with_reducible refine SsP.set ?_ ?_ _); rotate_left; (focus omega)))))) (id (HR.out.trans hr))
        · have HC := Lib.hid (HCO.out.go hr5 HO5.out)
          exact Sim4.bad (x := x) (u := .slice nuo xl nuc) (j := j) (by (repeat (first | with_reducible exact HC.out | (with_reducible refine CS.drew ?_) | (with_reducible refine CS.alloc ?_ _) | (with_reducible refine CS.move (j := i) (j' := i + 1) ?_ (by omega) (by go_num)) | (with_reducible refine CS.spoilF ?_ _) | ((with_reducible refine CS.new ?_ ?_ _); rotate_left; (focus omega))))) rfl (by (refine SsP.same (fun _ _ _ => rfl) (fun b (hb : w4.heap.size ≤ b) _ => by omega) ?_; (repeat (first | with_reducible exact HU.out | ((with_reducible refine SsP.set ?_ ?_ _); rotate_left; (focus omega)))))) (id (HR.out.trans hr))
      · have HRA := Lib.hid (Wn.rs_attr H4.out H46.out hs)
        have HC := Lib.hid (HCP.out.go hr4 ho4)
        have HB0 := Lib.hid ((ho4.block w.heap.size (lt_of_block HBP.out) (by omega)).trans HBP.out)
        clear HCP HBP hr4 ho4
        clear hs H4 H46
        have HCP := HC
        have HBP := HB0
        clear HC HB0
        go_wp2_with fail
        refine (r4value 3 g i f false w4 HCP.out.r).mono ?_
        rintro e w5 (⟨t, x, uo, uc, hvf, hil, rfl, hvx, hr5, ho5⟩ | ⟨hvf, rfl, hr5, ho5⟩)
        · have HR : Hid (Wn.simpS false (f.drop i) = (Wn.rattr (Wn.nbF x)).map fun y => (y, f.drop (i + 1))) := Lib.hid (by rw [HRA.out, hvf, ← Wn.attr_nb])
          have HC := Lib.hid (HCP.out.go hr5 ho5)
          have HB0 := Lib.hid ((ho5.block w.heap.size (lt_of_block HBP.out) (by omega)).trans HBP.out)
          clear HCP HBP hr5 ho5
          have hxs := Wn.valF_size hvf
          obtain ⟨_, _, hue, _, _⟩ := hvx.form
          generalize hsx : Wn.str t.2.1 = sx at *
          generalize htk : t.1 = tk at *
          generalize htn : t.2.2 = tn at *
          have HVX := Lib.hid hvx.any
          have HQ := Lib.hid (fun (V : World) (hV : Vals V (.slice uo x.len uc) x) => r4attr (.slice uo x.len uc) x V hV (by omega))
          clear hvf hsx htk htn hvx HRA
          have hV : Below w5.heap.size w5 (w5.alloc (.cells #[.int .i64 3, .int .i64 tk, .string sx, .int .i64 tn, .slice uo x.len uc] 80)) := (Below.refl _ _).alloc (Nat.le_refl _) _
          have HV5 := Lib.hid (HVX.out.below hV)
          have hvb := heap_alloc_new w5 (.cells #[.int .i64 3, .int .i64 tk, .string sx, .int .i64 tn, .slice uo x.len uc] 80)
          have HCP := Lib.hid (HC.out.below hV)
          have HBP := Lib.hid (block_lat hV HB0.out)
          have HVB := Lib.hid hvb
          clear HC HB0 HVX hvb hV
          go_wp2_with fail
          generalize w5.alloc (.cells #[.int .i64 3, .int .i64 tk, .string sx, .int .i64 tn, .slice uo x.len uc] 80) = W5 at *
          refine (HQ.out W5 HV5.out).mono ?_
          rintro e w6 ⟨y, ok, rfl, hyl, hres, b6⟩
          have HC := Lib.hid (HCP.out.below b6)
          have HB0 := Lib.hid (block_lat b6 HBP.out)
          have hvb6 := block_lat b6 HVB.out
          have p0 := cell_of_block (o := 0) hvb6
          have p1 : w5.heap.size < w6.heap.size := lt_of_block hvb6
          simp only [List.getElem?_toArray, List.getElem?_cons_zero] at p0
          clear HCP HBP HVB b6 HV5 HQ
          have hblk := HC.out.r.blk
          have q2 := cell_of_block (o := 2) hblk
          have qf2 := frozen_blk hblk 2
          simp only [List.getElem?_toArray, List.getElem?_cons_zero, List.getElem?_cons_succ] at q2
          have hb0 := HB0.out
          have a0 := cell_of_block (o := 0) hb0
          have a1 := cell_of_block (o := 1) hb0
          have a2 := cell_of_block (o := 2) hb0
          have a3 := cell_of_block (o := 3) hb0
          have a4 := cell_of_block (o := 4) hb0
          have a5 := cell_of_block (o := 5) hb0
          have af0 := frozen_blk hb0 0
          have af1 := frozen_blk hb0 1
          have af2 := frozen_blk hb0 2
          have af3 := frozen_blk hb0 3
          have af4 := frozen_blk hb0 4
          have af5 := frozen_blk hb0 5
          simp only [List.getElem?_toArray, List.getElem?_cons_zero, List.getElem?_cons_succ] at a0 a1 a2 a3 a4 a5
          have m1 : w.heap.size < w6.heap.size := lt_of_block hb0
          have m2 : g < w6.heap.size := by omega
          have n1 : ¬ w.heap.size = w6.heap.size := by omega
          have n2 : ¬ w.heap.size = g := by omega
          have n3 : ¬ g = w.heap.size := by omega
          clear hb0
          have p2 : ¬ w5.heap.size = w6.heap.size := by omega
          have p3 : ¬ g = w6.heap.size := by omega
          have p4 : ¬ w6.heap.size = g := by omega
          have p5 : ¬ w6.heap.size = w.heap.size := by omega
          have p6 : ¬ w5.heap.size = g := fun e => by rw [e] at hvb6; rw [hvb6] at hblk; simp at hblk
          clear hvb6 hblk
          generalize hy1 : Wn.str y.n = yn at *
          generalize hy2 : Wn.str y.v = yv at *
          generalize hy3 : y.k = yk at *
          generalize hy4 : y.a = ya at *
          generalize hy5 : y.b = yb at *
          cases ok
          · rw [if_neg (by decide)] at hres
            have HR2 : Hid (Wn.simpS false (f.drop i) = none) := Lib.hid (by rw [HR.out, hres]; rfl)
            clear hres HR
            go_wp2_with fail
            refine bodyPost_ret (v := .agg #[.int .i64 yk, .string yn, .string yv, .int .i64 ya, .int .i64 yb, .slice none 0 0]) (by simp [results, Try.results40, go_sem, a0, a1, a2, a3, a4, a5, m1, m2, n1, n2, n3, p1, p2, p3, p4, p5, p6]) rfl ?_
            subst hy1 hy2 hy3 hy4 hy5
            exact Sim4.bad (x := y) (u := .slice none 0 0) (j := i + 1) (by (repeat (first | with_reducible exact HC.out | (with_reducible refine CS.drew ?_) | (with_reducible refine CS.alloc ?_ _) | (with_reducible refine CS.move (j := i) (j' := i + 1) ?_ (by omega) (by go_num)) | (with_reducible refine CS.spoilF ?_ _) | ((with_reducible refine CS.new ?_ ?_ _); rotate_left; (focus omega))))) rfl (by rw [hyl]; exact SsP.nil _ _) (id HR2.out)
          · rw [if_pos rfl] at hres
            have HR2 : Hid (Wn.simpS false (f.drop i) = some (y, f.drop (i + 1))) := Lib.hid (by rw [HR.out, hres]; rfl)
            clear hres HR
            go_wp2_with fail
            refine bodyPost_ret (v := .agg #[.int .i64 yk, .string yn, .string yv, .int .i64 ya, .int .i64 yb, .slice none 0 0]) (by simp [results, Try.results40, go_sem, a0, a1, a2, a3, a4, a5, m1, m2, n1, n2, n3, p1, p2, p3, p4, p5, p6]) rfl ?_
            subst hy1 hy2 hy3 hy4 hy5
            exact Sim4.good (x := y) (u := .slice none 0 0) (j := i + 1) (by (repeat (first | with_reducible exact HC.out | (with_reducible refine CS.drew ?_) | (with_reducible refine CS.alloc ?_ _) | (with_reducible refine CS.move (j := i) (j' := i + 1) ?_ (by omega) (by go_num)) | (with_reducible refine CS.spoilF ?_ _) | ((with_reducible refine CS.new ?_ ?_ _); rotate_left; (focus omega))))) (by omega) rfl (by rw [hyl]; exact SsP.nil _ _) (id HR2.out)
        · have HR2 : Hid (Wn.simpS false (f.drop i) = none) := Lib.hid (by rw [HRA.out, hvf])
          have HC := Lib.hid (HCP.out.go hr5 ho5)
          have HB0 := Lib.hid ((ho5.block w.heap.size (lt_of_block HBP.out) (by omega)).trans HBP.out)
          clear HCP HBP hr5 ho5
          have HVX : Hid (Vals w5 (.slice none 0 (0 : Nat)) .nil) := Lib.hid (Vals.nil w5)
          have HQ := Lib.hid (fun (V : World) (hV : Vals V (.slice none 0 0) .nil) => r4attr (.slice none 0 0) .nil V hV (by simp [Wn.Fs.size]))
          clear hvf HRA
          have hV : Below w5.heap.size w5 (w5.alloc (.cells #[.int .i64 0, .int .i64 0, .string ⟨#[]⟩, .int .i64 0, .slice none 0 0] 80)) := (Below.refl _ _).alloc (Nat.le_refl _) _
          have HV5 := Lib.hid (HVX.out.below hV)
          have hvb := heap_alloc_new w5 (.cells #[.int .i64 0, .int .i64 0, .string ⟨#[]⟩, .int .i64 0, .slice none 0 0] 80)
          have HCP := Lib.hid (HC.out.below hV)
          have HBP := Lib.hid (block_lat hV HB0.out)
          have HVB := Lib.hid hvb
          clear HC HB0 HVX hvb hV
          go_wp2_with fail
          generalize w5.alloc (.cells #[.int .i64 0, .int .i64 0, .string ⟨#[]⟩, .int .i64 0, .slice none 0 0] 80) = W5 at *
          refine (HQ.out W5 HV5.out).mono ?_
          rintro e w6 ⟨y, ok, rfl, hyl, hres, b6⟩
          have HC := Lib.hid (HCP.out.below b6)
          have HB0 := Lib.hid (block_lat b6 HBP.out)
          have hvb6 := block_lat b6 HVB.out
          have p0 := cell_of_block (o := 0) hvb6
          have p1 : w5.heap.size < w6.heap.size := lt_of_block hvb6
          simp only [List.getElem?_toArray, List.getElem?_cons_zero] at p0
          clear HCP HBP HVB b6 HV5 HQ
          have hblk := HC.out.r.blk
          have q2 := cell_of_block (o := 2) hblk
          have qf2 := frozen_blk hblk 2
          simp only [List.getElem?_toArray, List.getElem?_cons_zero, List.getElem?_cons_succ] at q2
          have hb0 := HB0.out
          have a0 := cell_of_block (o := 0) hb0
          have a1 := cell_of_block (o := 1) hb0
          have a2 := cell_of_block (o := 2) hb0
          have a3 := cell_of_block (o := 3) hb0
          have a4 := cell_of_block (o := 4) hb0
          have a5 := cell_of_block (o := 5) hb0
          have af0 := frozen_blk hb0 0
          have af1 := frozen_blk hb0 1
          have af2 := frozen_blk hb0 2
          have af3 := frozen_blk hb0 3
          have af4 := frozen_blk hb0 4
          have af5 := frozen_blk hb0 5
          simp only [List.getElem?_toArray, List.getElem?_cons_zero, List.getElem?_cons_succ] at a0 a1 a2 a3 a4 a5
          have m1 : w.heap.size < w6.heap.size := lt_of_block hb0
          have m2 : g < w6.heap.size := by omega
          have n1 : ¬ w.heap.size = w6.heap.size := by omega
          have n2 : ¬ w.heap.size = g := by omega
          have n3 : ¬ g = w.heap.size := by omega
          clear hb0
          have p2 : ¬ w5.heap.size = w6.heap.size := by omega
          have p3 : ¬ g = w6.heap.size := by omega
          have p4 : ¬ w6.heap.size = g := by omega
          have p5 : ¬ w6.heap.size = w.heap.size := by omega
          have p6 : ¬ w5.heap.size = g := fun e => by rw [e] at hvb6; rw [hvb6] at hblk; simp at hblk
          clear hvb6 hblk
          generalize hy1 : Wn.str y.n = yn at *
          generalize hy2 : Wn.str y.v = yv at *
          generalize hy3 : y.k = yk at *
          generalize hy4 : y.a = ya at *
          generalize hy5 : y.b = yb at *
          cases ok
          · clear hres
            go_wp2_with fail
            refine bodyPost_ret (v := .agg #[.int .i64 yk, .string yn, .string yv, .int .i64 ya, .int .i64 yb, .slice none 0 0]) (by simp [results, Try.results40, go_sem, a0, a1, a2, a3, a4, a5, m1, m2, n1, n2, n3, p1, p2, p3, p4, p5, p6]) rfl ?_
            subst hy1 hy2 hy3 hy4 hy5
            exact Sim4.bad (x := y) (u := .slice none 0 0) (j := i) (by (repeat (first | with_reducible exact HC.out | (with_reducible refine CS.drew ?_) | (with_reducible refine CS.alloc ?_ _) | (with_reducible refine CS.move (j := i) (j' := i + 1) ?_ (by omega) (by go_num)) | (with_reducible refine CS.spoilF ?_ _) | ((with_reducible refine CS.new ?_ ?_ _); rotate_left; (focus omega))))) rfl (by rw [hyl]; exact SsP.nil _ _) (id HR2.out)
          · rw [if_pos rfl] at hres
            cases hres
end Go.Proofs.Ytbjhiimjillleaa
set_option linter.unusedVariables false
set_option linter.unusedSimpArgs false
set_option maxRecDepth 20000
namespace Go.Proofs.Ytbjhiimjillleaa
open Go.RowKit Go.Sort
variable {rv : Value}
set_option maxRecDepth 100000 in
set_option maxHeartbeats 2000000 in
theorem r4simple1 (N : Nat) (g i : Nat) (f : Wn.Fs) (w : World) (hN : f.size ≤ N) (hI : Not4Said N) (ht : Tl f) (h : R4 w g rv f i false) :
    Calls Try.prog 40 #[.pointer (some ⟨g, 0, none⟩), .bool true] w (Sim4 rv (Wn.simpS true (f.drop i)) g i f w) := by
  have hgl := h.lt
  have hsz := h.sz
  have hil := h.hi
  have hll := h.len
  have HC0 := Lib.hid ((CS.start h).alloc (.cells #[.int .i64 0, .string ⟨#[]⟩, .string ⟨#[]⟩, .int .i64 0, .int .i64 0, .slice none 0 0] 45))
  have hbx := heap_alloc_new w (.cells #[.int .i64 0, .string ⟨#[]⟩, .string ⟨#[]⟩, .int .i64 0, .int .i64 0, .slice none 0 0] 45)
  have hz1 : (w.alloc (.cells #[.int .i64 0, .string ⟨#[]⟩, .string ⟨#[]⟩, .int .i64 0, .int .i64 0, .slice none 0 0] 45)).heap.size = w.heap.size + 1 := by simp
  have HB0 := Lib.hid hbx
  have HQC := Lib.hid (fun (V : World) (j : Nat) (hV : R4 V g rv f j false) => r4colon N g j f V hN hI ht hV)
  clear h hbx
  go_enter Try.func40, Try.ntmps40
  go_wp2_with fail
  generalize w.alloc (.cells #[.int .i64 0, .string ⟨#[]⟩, .string ⟨#[]⟩, .int .i64 0, .int .i64 0, .slice none 0 0] 45) = W at *
  have HC := HC0
  clear HC0
  have Q1 := Lib.hid (r4tok 1 g i f false W HC.out.r)
  cases ht1 : Wn.tokF 1 (f.drop i) with
  | some p =>
    obtain ⟨t, r⟩ := p
    obtain ⟨hr, hlt2⟩ := Wn.tokF_next ht1
    obtain ⟨e1, e2⟩ := Wn.tokZ_some ht1
    subst hr
    rw [e1, tokV_str, e2] at Q1
    have htl := (tokF_tl ht1 (ht.drop i)).1
    have HT1 := Lib.hid ht1
    clear e1 e2 ht1
    generalize Wn.str t.2.1 = nm at *
    generalize t.2.2 = tn at *
    have F0 := tfield0 1 tn nm
    go_wp2_with fail
    refine Q1.out.mono ?_
    rintro e w2 ⟨rfl, b2⟩
    have HCP := Lib.hid (HC.out.below b2)
    have HBP := Lib.hid (block_lat b2 HB0.out)
    clear HC HB0 b2 Q1
    go_wp2_with fail
    refine (r4name g i f false w2 HCP.out.r).mono ?_
    rintro e w3 (⟨n, hn, hn0, rfl, hr3, ho3⟩ | ⟨hn, rfl, hr3, ho3⟩)
    · have hnt : n = t := by
        have hn' := hn
        rw [HT1.out] at hn'
        simp only [Option.some.injEq, Prod.mk.injEq, and_true] at hn'
        exact hn'.symm
      subst hnt
      have HR := Lib.hid (Wn.rs_tag hn)
      have HC := Lib.hid (HCP.out.go hr3 ho3)
      have HB0 := Lib.hid ((ho3.block w.heap.size (lt_of_block HBP.out) (by omega)).trans HBP.out)
      clear HCP HBP hr3 ho3
      have HLOW := Lib.hid (fun (V : World) => rLow_v n.2.1 V htl)
      generalize Wn.str n.2.1 = nx at *
      clear hn HT1
      go_wp2_with fail
      refine (HLOW.out w3).mono ?_
      rintro e w4 ⟨rfl, b4⟩
      have HC4 := Lib.hid (HC.out.below b4)
      have HB4 := Lib.hid (block_lat b4 HB0.out)
      clear HC HB0 b4 HLOW
      have HC := HC4
      have HB0 := HB4
      clear HC4 HB4
      generalize hlw : Wn.str (Wn.low n.2.1) = lw at *
      have HLW := Lib.hid hlw
      clear hlw
      have hb0 := HB0.out
      have a0 := cell_of_block (o := 0) hb0
      have a1 := cell_of_block (o := 1) hb0
      have a2 := cell_of_block (o := 2) hb0
      have a3 := cell_of_block (o := 3) hb0
      have a4 := cell_of_block (o := 4) hb0
      have a5 := cell_of_block (o := 5) hb0
      have af0 := frozen_blk hb0 0
      have af1 := frozen_blk hb0 1
      have af2 := frozen_blk hb0 2
      have af3 := frozen_blk hb0 3
      have af4 := frozen_blk hb0 4
      have af5 := frozen_blk hb0 5
      simp only [List.getElem?_toArray, List.getElem?_cons_zero, List.getElem?_cons_succ] at a0 a1 a2 a3 a4 a5
      have m1 : w.heap.size < w4.heap.size := lt_of_block hb0
      have m2 : g < w4.heap.size := by omega
      have n1 : ¬ w.heap.size = w4.heap.size := by omega
      have n2 : ¬ w.heap.size = g := by omega
      have n3 : ¬ g = w.heap.size := by omega
      clear hb0
      go_wp2_with fail
      refine bodyPost_ret (v := .agg #[.int .i64 2, .string lw, .string ⟨#[]⟩, .int .i64 0, .int .i64 0, .slice none 0 0]) (by simp [results, Try.results40, go_sem, a0, a1, a2, a3, a4, a5, m1, m2, n1, n2, n3]) rfl ?_
      exact Sim4.good (x := Wn.sNam 2 (Wn.low n.2.1)) (u := .slice none 0 0) (j := i + 1) (by (repeat (first | with_reducible exact HC.out | (with_reducible refine CS.drew ?_) | (with_reducible refine CS.alloc ?_ _) | (with_reducible refine CS.move (j := i) (j' := i + 1) ?_ (by omega) (by go_num)) | (with_reducible refine CS.spoilF ?_ _) | ((with_reducible refine CS.new ?_ ?_ _); rotate_left; (focus omega))))) (by omega) (by rw [← HLW.out]; rfl) SsP.nil' HR.out
    · rw [HT1.out] at hn; cases hn
  | none =>
    have Q1 : Hid (Calls Try.prog 51 #[.pointer (some ⟨g, 0, none⟩), .int .i64 1] W fun e w' => e = .returned (.agg #[.int .i64 0, .string ⟨#[]⟩, .int .i64 0]) ∧ Below W.heap.size W w') := Lib.hid (by have := Q1.out; rw [Wn.tokZ_none ht1] at this; exact this)
    have HT1 := Lib.hid ht1
    clear ht1
    have F0 := tfield0 0 0 ⟨#[]⟩
    go_wp2_with fail
    refine Q1.out.mono ?_
    rintro e w2 ⟨rfl, b2⟩
    have HCP := Lib.hid (HC.out.below b2)
    have HBP := Lib.hid (block_lat b2 HB0.out)
    clear HC HB0 b2 Q1
    go_wp2_with fail
    refine (r4sign [42] g i f false w2 HCP.out.r).mono ?_
    rintro e w3 (⟨hs, hil2, rfl, hr3, ho3⟩ | ⟨hs, rfl, hr3, ho3⟩)
    · have HR := Lib.hid (Wn.rs_any hs)
      have HC := Lib.hid (HCP.out.go hr3 ho3)
      have HB0 := Lib.hid ((ho3.block w.heap.size (lt_of_block HBP.out) (by omega)).trans HBP.out)
      clear HCP HBP hr3 ho3
      clear hs HT1
      have hb0 := HB0.out
      have a0 := cell_of_block (o := 0) hb0
      have a1 := cell_of_block (o := 1) hb0
      have a2 := cell_of_block (o := 2) hb0
      have a3 := cell_of_block (o := 3) hb0
      have a4 := cell_of_block (o := 4) hb0
      have a5 := cell_of_block (o := 5) hb0
      have af0 := frozen_blk hb0 0
      have af1 := frozen_blk hb0 1
      have af2 := frozen_blk hb0 2
      have af3 := frozen_blk hb0 3
      have af4 := frozen_blk hb0 4
      have af5 := frozen_blk hb0 5
      simp only [List.getElem?_toArray, List.getElem?_cons_zero, List.getElem?_cons_succ] at a0 a1 a2 a3 a4 a5
      have m1 : w.heap.size < w3.heap.size := lt_of_block hb0
      have m2 : g < w3.heap.size := by omega
      have n1 : ¬ w.heap.size = w3.heap.size := by omega
      have n2 : ¬ w.heap.size = g := by omega
      have n3 : ¬ g = w.heap.size := by omega
      clear hb0
      go_wp2_with fail
      refine bodyPost_ret (v := .agg #[.int .i64 1, .string ⟨#[]⟩, .string ⟨#[]⟩, .int .i64 0, .int .i64 0, .slice none 0 0]) (by simp [results, Try.results40, go_sem, a0, a1, a2, a3, a4, a5, m1, m2, n1, n2, n3]) rfl ?_
      exact Sim4.good (x := Wn.sBare 1) (u := .slice none 0 0) (j := i + 1) (by (repeat (first | with_reducible exact HC.out | (with_reducible refine CS.drew ?_) | (with_reducible refine CS.alloc ?_ _) | (with_reducible refine CS.move (j := i) (j' := i + 1) ?_ (by omega) (by go_num)) | (with_reducible refine CS.spoilF ?_ _) | ((with_reducible refine CS.new ?_ ?_ _); rotate_left; (focus omega))))) (by omega) rfl SsP.nil' HR.out
    · have HRES := Lib.hid (Wn.rs_first HT1.out hs)
      have HC := Lib.hid (HCP.out.go hr3 ho3)
      have HB0 := Lib.hid ((ho3.block w.heap.size (lt_of_block HBP.out) (by omega)).trans HBP.out)
      clear HCP HBP hr3 ho3
      clear hs HT1 F0
      have Q4 := Lib.hid (r4tok 4 g i f false w3 HC.out.r)
      go_wp2_with fail
      cases ht4 : Wn.tokF 4 (f.drop i) with
      | some p =>
        obtain ⟨t, r⟩ := p
        obtain ⟨hr, hlt2⟩ := Wn.tokF_next ht4
        obtain ⟨e1, e2⟩ := Wn.tokZ_some ht4
        subst hr
        rw [e1, tokV_str, e2] at Q4
        have HR : Hid (Wn.simpS false (f.drop i) = some (Wn.sNam 3 t.2.1, f.drop (i + 1))) := Lib.hid (Wn.rs_id ht4)
        refine Q4.out.mono ?_
        rintro e w2 ⟨rfl, b2⟩
        have HC2 := Lib.hid (HC.out.below b2)
        have HB2 := Lib.hid (block_lat b2 HB0.out)
        clear HC HB0 b2 Q4 ht4 e1 e2
        have HC := HC2
        have HB0 := HB2
        clear HC2 HB2
        generalize hnm : Wn.str t.2.1 = nm at *
        have HNM := Lib.hid hnm
        clear hnm
        generalize t.2.2 = tn at *
        have hb0 := HB0.out
        have a0 := cell_of_block (o := 0) hb0
        have a1 := cell_of_block (o := 1) hb0
        have a2 := cell_of_block (o := 2) hb0
        have a3 := cell_of_block (o := 3) hb0
        have a4 := cell_of_block (o := 4) hb0
        have a5 := cell_of_block (o := 5) hb0
        have af0 := frozen_blk hb0 0
        have af1 := frozen_blk hb0 1
        have af2 := frozen_blk hb0 2
        have af3 := frozen_blk hb0 3
        have af4 := frozen_blk hb0 4
        have af5 := frozen_blk hb0 5
        simp only [List.getElem?_toArray, List.getElem?_cons_zero, List.getElem?_cons_succ] at a0 a1 a2 a3 a4 a5
        have m1 : w.heap.size < w2.heap.size := lt_of_block hb0
        have m2 : g < w2.heap.size := by omega
        have n1 : ¬ w.heap.size = w2.heap.size := by omega
        have n2 : ¬ w.heap.size = g := by omega
        have n3 : ¬ g = w.heap.size := by omega
        clear hb0
        have hblk := HC.out.r.blk
        have q1 := cell_of_block (o := 1) hblk
        have qf1 := frozen_blk hblk 1
        simp only [List.getElem?_toArray, List.getElem?_cons_zero, List.getElem?_cons_succ] at q1
        have n4 : ¬ g = w2.heap.size := by omega
        clear hblk
        go_wp2_with fail
        refine bodyPost_ret (v := .agg #[.int .i64 3, .string nm, .string ⟨#[]⟩, .int .i64 0, .int .i64 0, .slice none 0 0]) (by simp [results, Try.results40, go_sem, a0, a1, a2, a3, a4, a5, m1, m2, n1, n2, n3, n4]) rfl ?_
        exact Sim4.good (x := Wn.sNam 3 t.2.1) (u := .slice none 0 0) (j := i + 1) (by (repeat (first | with_reducible exact HC.out | (with_reducible refine CS.drew ?_) | (with_reducible refine CS.alloc ?_ _) | (with_reducible refine CS.move (j := i) (j' := i + 1) ?_ (by omega) (by go_num)) | (with_reducible refine CS.spoilF ?_ _) | ((with_reducible refine CS.new ?_ ?_ _); rotate_left; (focus omega))))) (by omega) (by rw [← HNM.out]; rfl) SsP.nil' (HRES.out.trans HR.out)
      | none =>
        have Q4 : Hid (Calls Try.prog 51 #[.pointer (some ⟨g, 0, none⟩), .int .i64 4] w3 fun e w' => e = .returned (.agg #[.int .i64 0, .string ⟨#[]⟩, .int .i64 0]) ∧ Below w3.heap.size w3 w') := Lib.hid (by have := Q4.out; rw [Wn.tokZ_none ht4] at this; exact this)
        refine Q4.out.mono ?_
        rintro e w2 ⟨rfl, b2⟩
        have hT : Below w2.heap.size w2 (w2.alloc (.cells #[.int .i64 0, .string ⟨#[]⟩, .int .i64 0] 75)) := (Below.refl _ _).alloc (Nat.le_refl _) _
        have HCP := Lib.hid ((HC.out.below b2).below hT)
        have HBP := Lib.hid (block_lat hT (block_lat b2 HB0.out))
        have H4 := Lib.hid ht4
        clear HC HB0 b2 Q4 ht4 hT
        go_wp2_with fail
        generalize w2.alloc (.cells #[.int .i64 0, .string ⟨#[]⟩, .int .i64 0] 75) = W2 at *
        refine (r4sign [46] g i f false W2 HCP.out.r).mono ?_
        rintro e w3 (⟨hs, hil, rfl, hr3, ho3⟩ | ⟨hs, rfl, hr3, ho3⟩)
        · have HR := Lib.hid (Wn.rs_class H4.out hs)
          have HC := Lib.hid (HCP.out.go hr3 ho3)
          have HB0 := Lib.hid ((ho3.block w.heap.size (lt_of_block HBP.out) (by omega)).trans HBP.out)
          clear HCP HBP hr3 ho3
          clear hs H4
          have HCP := HC
          have HBP := HB0
          clear HC HB0
          go_wp2_with fail
          refine (r4name g (i + 1) f false w3 HCP.out.r).mono ?_
          rintro e w4 (⟨n, hn, hn0, rfl, hr4, ho4⟩ | ⟨hn, rfl, hr4, ho4⟩)
          · have HR2 : Hid (Wn.simpS false (f.drop i) = some (Wn.sNam 4 n.2.1, f.drop (i + 1 + 1))) := Lib.hid (by rw [HR.out, hn]; rfl)
            have HC := Lib.hid (HCP.out.go hr4 ho4)
            have HB0 := Lib.hid ((ho4.block w.heap.size (lt_of_block HBP.out) (by omega)).trans HBP.out)
            clear HCP HBP hr4 ho4
            generalize hnm : Wn.str n.2.1 = nm at *
            have HNM := Lib.hid hnm
            clear hnm hn
            have hb0 := HB0.out
            have a0 := cell_of_block (o := 0) hb0
            have a1 := cell_of_block (o := 1) hb0
            have a2 := cell_of_block (o := 2) hb0
            have a3 := cell_of_block (o := 3) hb0
            have a4 := cell_of_block (o := 4) hb0
            have a5 := cell_of_block (o := 5) hb0
            have af0 := frozen_blk hb0 0
            have af1 := frozen_blk hb0 1
            have af2 := frozen_blk hb0 2
            have af3 := frozen_blk hb0 3
            have af4 := frozen_blk hb0 4
            have af5 := frozen_blk hb0 5
            simp only [List.getElem?_toArray, List.getElem?_cons_zero, List.getElem?_cons_succ] at a0 a1 a2 a3 a4 a5
            have m1 : w.heap.size < w4.heap.size := lt_of_block hb0
            have m2 : g < w4.heap.size := by omega
            have n1 : ¬ w.heap.size = w4.heap.size := by omega
            have n2 : ¬ w.heap.size = g := by omega
            have n3 : ¬ g = w.heap.size := by omega
            clear hb0
            go_wp2_with fail
            refine bodyPost_ret (v := .agg #[.int .i64 4, .string nm, .string ⟨#[]⟩, .int .i64 0, .int .i64 0, .slice none 0 0]) (by simp [results, Try.results40, go_sem, a0, a1, a2, a3, a4, a5, m1, m2, n1, n2, n3]) rfl ?_
            exact Sim4.good (x := Wn.sNam 4 n.2.1) (u := .slice none 0 0) (j := i + 1 + 1) (by (repeat (first | with_reducible exact HC.out | (with_reducible refine CS.drew ?_) | (with_reducible refine CS.alloc ?_ _) | (with_reducible refine CS.move (j := i) (j' := i + 1) ?_ (by omega) (by go_num)) | (with_reducible refine CS.spoilF ?_ _) | ((with_reducible refine CS.new ?_ ?_ _); rotate_left; (focus omega))))) (by omega) (by rw [← HNM.out]; rfl) SsP.nil' (HRES.out.trans HR2.out)
          · have HR2 : Hid (Wn.simpS false (f.drop i) = none) := Lib.hid (by rw [HR.out, hn]; rfl)
            have HC := Lib.hid (HCP.out.go hr4 ho4)
            have HB0 := Lib.hid ((ho4.block w.heap.size (lt_of_block HBP.out) (by omega)).trans HBP.out)
            clear HCP HBP hr4 ho4
            clear hn
            have hb0 := HB0.out
            have a0 := cell_of_block (o := 0) hb0
            have a1 := cell_of_block (o := 1) hb0
            have a2 := cell_of_block (o := 2) hb0
            have a3 := cell_of_block (o := 3) hb0
            have a4 := cell_of_block (o := 4) hb0
            have a5 := cell_of_block (o := 5) hb0
            have af0 := frozen_blk hb0 0
            have af1 := frozen_blk hb0 1
            have af2 := frozen_blk hb0 2
            have af3 := frozen_blk hb0 3
            have af4 := frozen_blk hb0 4
            have af5 := frozen_blk hb0 5
            simp only [List.getElem?_toArray, List.getElem?_cons_zero, List.getElem?_cons_succ] at a0 a1 a2 a3 a4 a5
            have m1 : w.heap.size < w4.heap.size := lt_of_block hb0
            have m2 : g < w4.heap.size := by omega
            have n1 : ¬ w.heap.size = w4.heap.size := by omega
            have n2 : ¬ w.heap.size = g := by omega
            have n3 : ¬ g = w.heap.size := by omega
            clear hb0
            go_wp2_with fail
            refine bodyPost_ret (v := .agg #[.int .i64 4, .string ⟨#[]⟩, .string ⟨#[]⟩, .int .i64 0, .int .i64 0, .slice none 0 0]) (by simp [results, Try.results40, go_sem, a0, a1, a2, a3, a4, a5, m1, m2, n1, n2, n3]) rfl ?_
            exact Sim4.bad (x := Wn.sNam 4 []) (u := .slice none 0 0) (j := i + 1) (by (repeat (first | with_reducible exact HC.out | (with_reducible refine CS.drew ?_) | (with_reducible refine CS.alloc ?_ _) | (with_reducible refine CS.move (j := i) (j' := i + 1) ?_ (by omega) (by go_num)) | (with_reducible refine CS.spoilF ?_ _) | ((with_reducible refine CS.new ?_ ?_ _); rotate_left; (focus omega))))) rfl SsP.nil' (HRES.out.trans HR2.out)
        · have H46 := Lib.hid hs
          have HC := Lib.hid (HCP.out.go hr3 ho3)
          have HB0 := Lib.hid ((ho3.block w.heap.size (lt_of_block HBP.out) (by omega)).trans HBP.out)
          clear HCP HBP hr3 ho3
          clear hs
          have HCP := HC
          have HBP := HB0
          clear HC HB0
          go_wp2_with fail
          refine (r4sign [58] g i f false w3 HCP.out.r).mono ?_
          rintro e w4 (⟨hs, hil, rfl, hr4, ho4⟩ | ⟨hs, rfl, hr4, ho4⟩)
          · have HR := Lib.hid (Wn.rs_colon H4.out H46.out hs)
            have HC := Lib.hid (HCP.out.go hr4 ho4)
            have HB0 := Lib.hid ((ho4.block w.heap.size (lt_of_block HBP.out) (by omega)).trans HBP.out)
            clear HCP HBP hr4 ho4
            clear hs
            go_wp2_with fail
            refine (HQC.out w4 (i + 1) HC.out.r).mono ?_
            rintro e w5 ⟨x, u, rfl, hu, ho5, hx⟩
            have hz4 := lt_of_block HB0.out
            have HCO := HC
            have HB5 := Lib.hid ((ho5.block w.heap.size (lt_of_block HB0.out) (by omega)).trans HB0.out)
            have HU := Lib.hid hu
            obtain ⟨nuo, nuc, rfl, _, _⟩ := hu.form
            have HO5 := Lib.hid ho5
            have HX := Lib.hid hx
            clear hu ho5 hx HC HB0
            have HB0 := HB5
            clear HB5
            have hb0 := HB0.out
            have a0 := cell_of_block (o := 0) hb0
            have a1 := cell_of_block (o := 1) hb0
            have a2 := cell_of_block (o := 2) hb0
            have a3 := cell_of_block (o := 3) hb0
            have a4 := cell_of_block (o := 4) hb0
            have a5 := cell_of_block (o := 5) hb0
            have af0 := frozen_blk hb0 0
            have af1 := frozen_blk hb0 1
            have af2 := frozen_blk hb0 2
            have af3 := frozen_blk hb0 3
            have af4 := frozen_blk hb0 4
            have af5 := frozen_blk hb0 5
            simp only [List.getElem?_toArray, List.getElem?_cons_zero, List.getElem?_cons_succ] at a0 a1 a2 a3 a4 a5
            have m1 : w.heap.size < w5.heap.size := lt_of_block hb0
            have m2 : g < w5.heap.size := by omega
            have n1 : ¬ w.heap.size = w5.heap.size := by omega
            have n2 : ¬ w.heap.size = g := by omega
            have n3 : ¬ g = w.heap.size := by omega
            clear hb0
            have HEX : Hid (∀ W, W = smV x (.slice nuo x.l.len nuc) → W = smV x (.slice nuo x.l.len nuc)) := Lib.hid (fun _ h => h)
            generalize x.l.len = xl at *
            generalize hx1 : Wn.str x.n = xn at *
            generalize hx2 : Wn.str x.v = xv at *
            generalize hx3 : x.k = xk at *
            generalize hx4 : x.a = xa at *
            generalize hx5 : x.b = xb at *
            go_wp2_with fail
            refine bodyPost_ret (v := .agg #[.int .i64 xk, .string xn, .string xv, .int .i64 xa, .int .i64 xb, .slice nuo xl nuc]) (by simp [results, Try.results40, go_sem, a0, a1, a2, a3, a4, a5, m1, m2, n1, n2, n3]) rfl ?_
            subst hx1 hx2 hx3 hx4 hx5
            rcases HX.out with ⟨j, hj, hr, hr5⟩ | ⟨hr, j, hr5⟩
            · have HC := Lib.hid (HCO.out.go hr5 HO5.out)
              exact Sim4.good (x := x) (u := .slice nuo xl nuc) (j := j) (by (repeat (first | with_reducible exact HC.out | (with_reducible refine CS.drew ?_) | (with_reducible refine CS.alloc ?_ _) | (with_reducible refine CS.move (j := i) (j' := i + 1) ?_ (by omega) (by go_num)) | (with_reducible refine CS.spoilF ?_ _) | ((with_reducible refine CS.new ?_ ?_ _); rotate_left; (focus omega))))) (by omega) rfl (by (refine SsP.same (fun _ _ _ => rfl) (fun b (hb : w4.heap.size ≤ b) _ => by omega) ?_; (repeat (first | with_reducible exact HU.out | ((with_reducible refine SsP.set ?_ ?_ _); rotate_left; (focus omega)))))) (HRES.out.trans (HR.out.trans hr))
            · have HC := Lib.hid (HCO.out.go hr5 HO5.out)
              exact Sim4.bad (x := x) (u := .slice nuo xl nuc) (j := j) (by (repeat (first | with_reducible exact HC.out | (with_reducible refine CS.drew ?_) | (with_reducible refine CS.alloc ?_ _) | (with_reducible refine CS.move (j := i) (j' := i + 1) ?_ (by omega) (by go_num)) | (with_reducible refine CS.spoilF ?_ _) | ((with_reducible refine CS.new ?_ ?_ _); rotate_left; (focus omega))))) rfl (by (refine SsP.same (fun _ _ _ => rfl) (fun b (hb : w4.heap.size ≤ b) _ => by omega) ?_; (repeat (first | with_reducible exact HU.out | ((with_reducible refine SsP.set ?_ ?_ _); rotate_left; (focus omega)))))) (HRES.out.trans (HR.out.trans hr))
          · have HRA := Lib.hid (Wn.rs_attr H4.out H46.out hs)
            have HC := Lib.hid (HCP.out.go hr4 ho4)
            have HB0 := Lib.hid ((ho4.block w.heap.size (lt_of_block HBP.out) (by omega)).trans HBP.out)
            clear HCP HBP hr4 ho4
            clear hs H4 H46
            have HCP := HC
            have HBP := HB0
            clear HC HB0
            go_wp2_with fail
            refine (r4value 3 g i f false w4 HCP.out.r).mono ?_
            rintro e w5 (⟨t, x, uo, uc, hvf, hil, rfl, hvx, hr5, ho5⟩ | ⟨hvf, rfl, hr5, ho5⟩)
            · have HR : Hid (Wn.simpS false (f.drop i) = (Wn.rattr (Wn.nbF x)).map fun y => (y, f.drop (i + 1))) := Lib.hid (by rw [HRA.out, hvf, ← Wn.attr_nb])
              have HC := Lib.hid (HCP.out.go hr5 ho5)
              have HB0 := Lib.hid ((ho5.block w.heap.size (lt_of_block HBP.out) (by omega)).trans HBP.out)
              clear HCP HBP hr5 ho5
              have hxs := Wn.valF_size hvf
              obtain ⟨_, _, hue, _, _⟩ := hvx.form
              generalize hsx : Wn.str t.2.1 = sx at *
              generalize htk : t.1 = tk at *
              generalize htn : t.2.2 = tn at *
              have HVX := Lib.hid hvx.any
              have HQ := Lib.hid (fun (V : World) (hV : Vals V (.slice uo x.len uc) x) => r4attr (.slice uo x.len uc) x V hV (by omega))
              clear hvf hsx htk htn hvx HRA
              have hV : Below w5.heap.size w5 (w5.alloc (.cells #[.int .i64 3, .int .i64 tk, .string sx, .int .i64 tn, .slice uo x.len uc] 80)) := (Below.refl _ _).alloc (Nat.le_refl _) _
              have HV5 := Lib.hid (HVX.out.below hV)
              have hvb := heap_alloc_new w5 (.cells #[.int .i64 3, .int .i64 tk, .string sx, .int .i64 tn, .slice uo x.len uc] 80)
              have HCP := Lib.hid (HC.out.below hV)
              have HBP := Lib.hid (block_lat hV HB0.out)
              have HVB := Lib.hid hvb
              clear HC HB0 HVX hvb hV
              go_wp2_with fail
              generalize w5.alloc (.cells #[.int .i64 3, .int .i64 tk, .string sx, .int .i64 tn, .slice uo x.len uc] 80) = W5 at *
              refine (HQ.out W5 HV5.out).mono ?_
              rintro e w6 ⟨y, ok, rfl, hyl, hres, b6⟩
              have HC := Lib.hid (HCP.out.below b6)
              have HB0 := Lib.hid (block_lat b6 HBP.out)
              have hvb6 := block_lat b6 HVB.out
              have p0 := cell_of_block (o := 0) hvb6
              have p1 : w5.heap.size < w6.heap.size := lt_of_block hvb6
              simp only [List.getElem?_toArray, List.getElem?_cons_zero] at p0
              clear HCP HBP HVB b6 HV5 HQ
              have hblk := HC.out.r.blk
              have q2 := cell_of_block (o := 2) hblk
              have qf2 := frozen_blk hblk 2
              simp only [List.getElem?_toArray, List.getElem?_cons_zero, List.getElem?_cons_succ] at q2
              have hb0 := HB0.out
              have a0 := cell_of_block (o := 0) hb0
              have a1 := cell_of_block (o := 1) hb0
              have a2 := cell_of_block (o := 2) hb0
              have a3 := cell_of_block (o := 3) hb0
              have a4 := cell_of_block (o := 4) hb0
              have a5 := cell_of_block (o := 5) hb0
              have af0 := frozen_blk hb0 0
              have af1 := frozen_blk hb0 1
              have af2 := frozen_blk hb0 2
              have af3 := frozen_blk hb0 3
              have af4 := frozen_blk hb0 4
              have af5 := frozen_blk hb0 5
              simp only [List.getElem?_toArray, List.getElem?_cons_zero, List.getElem?_cons_succ] at a0 a1 a2 a3 a4 a5
              have m1 : w.heap.size < w6.heap.size := lt_of_block hb0
              have m2 : g < w6.heap.size := by omega
              have n1 : ¬ w.heap.size = w6.heap.size := by omega
              have n2 : ¬ w.heap.size = g := by omega
              have n3 : ¬ g = w.heap.size := by omega
              clear hb0
              have p2 : ¬ w5.heap.size = w6.heap.size := by omega
              have p3 : ¬ g = w6.heap.size := by omega
              have p4 : ¬ w6.heap.size = g := by omega
              have p5 : ¬ w6.heap.size = w.heap.size := by omega
              have p6 : ¬ w5.heap.size = g := fun e => by rw [e] at hvb6; rw [hvb6] at hblk; simp at hblk
              clear hvb6 hblk
              generalize hy1 : Wn.str y.n = yn at *
              generalize hy2 : Wn.str y.v = yv at *
              generalize hy3 : y.k = yk at *
              generalize hy4 : y.a = ya at *
              generalize hy5 : y.b = yb at *
              cases ok
              · rw [if_neg (by decide)] at hres
                have HR2 : Hid (Wn.simpS false (f.drop i) = none) := Lib.hid (by rw [HR.out, hres]; rfl)
                clear hres HR
                go_wp2_with fail
                refine bodyPost_ret (v := .agg #[.int .i64 yk, .string yn, .string yv, .int .i64 ya, .int .i64 yb, .slice none 0 0]) (by simp [results, Try.results40, go_sem, a0, a1, a2, a3, a4, a5, m1, m2, n1, n2, n3, p1, p2, p3, p4, p5, p6]) rfl ?_
                subst hy1 hy2 hy3 hy4 hy5
                exact Sim4.bad (x := y) (u := .slice none 0 0) (j := i + 1) (by (repeat (first | with_reducible exact HC.out | (with_reducible refine CS.drew ?_) | (with_reducible refine CS.alloc ?_ _) | (with_reducible refine CS.move (j := i) (j' := i + 1) ?_ (by omega) (by go_num)) | (with_reducible refine CS.spoilF ?_ _) | ((with_reducible refine CS.new ?_ ?_ _); rotate_left; (focus omega))))) rfl (by rw [hyl]; exact SsP.nil _ _) (HRES.out.trans HR2.out)
              · rw [if_pos rfl] at hres
                have HR2 : Hid (Wn.simpS false (f.drop i) = some (y, f.drop (i + 1))) := Lib.hid (by rw [HR.out, hres]; rfl)
                clear hres HR
                go_wp2_with fail
                refine bodyPost_ret (v := .agg #[.int .i64 yk, .string yn, .string yv, .int .i64 ya, .int .i64 yb, .slice none 0 0]) (by simp [results, Try.results40, go_sem, a0, a1, a2, a3, a4, a5, m1, m2, n1, n2, n3, p1, p2, p3, p4, p5, p6]) rfl ?_
                subst hy1 hy2 hy3 hy4 hy5
                exact Sim4.good (x := y) (u := .slice none 0 0) (j := i + 1) (by (repeat (first | with_reducible exact HC.out | (with_reducible refine CS.drew ?_) | (with_reducible refine CS.alloc ?_ _) | (with_reducible refine CS.move (j := i) (j' := i + 1) ?_ (by omega) (by go_num)) | (with_reducible refine CS.spoilF ?_ _) | ((with_reducible refine CS.new ?_ ?_ _); rotate_left; (focus omega))))) (by omega) rfl (by rw [hyl]; exact SsP.nil _ _) (HRES.out.trans HR2.out)
            · have HR2 : Hid (Wn.simpS false (f.drop i) = none) := Lib.hid (by rw [HRA.out, hvf])
              have HC := Lib.hid (HCP.out.go hr5 ho5)
              have HB0 := Lib.hid ((ho5.block w.heap.size (lt_of_block HBP.out) (by omega)).trans HBP.out)
              clear HCP HBP hr5 ho5
              have HVX : Hid (Vals w5 (.slice none 0 (0 : Nat)) .nil) := Lib.hid (Vals.nil w5)
              have HQ := Lib.hid (fun (V : World) (hV : Vals V (.slice none 0 0) .nil) => r4attr (.slice none 0 0) .nil V hV (by simp [Wn.Fs.size]))
              clear hvf HRA
              have hV : Below w5.heap.size w5 (w5.alloc (.cells #[.int .i64 0, .int .i64 0, .string ⟨#[]⟩, .int .i64 0, .slice none 0 0] 80)) := (Below.refl _ _).alloc (Nat.le_refl _) _
              have HV5 := Lib.hid (HVX.out.below hV)
              have hvb := heap_alloc_new w5 (.cells #[.int .i64 0, .int .i64 0, .string ⟨#[]⟩, .int .i64 0, .slice none 0 0] 80)
              have HCP := Lib.hid (HC.out.below hV)
              have HBP := Lib.hid (block_lat hV HB0.out)
              have HVB := Lib.hid hvb
              clear HC HB0 HVX hvb hV
              go_wp2_with fail
              generalize w5.alloc (.cells #[.int .i64 0, .int .i64 0, .string ⟨#[]⟩, .int .i64 0, .slice none 0 0] 80) = W5 at *
              refine (HQ.out W5 HV5.out).mono ?_
              rintro e w6 ⟨y, ok, rfl, hyl, hres, b6⟩
              have HC := Lib.hid (HCP.out.below b6)
              have HB0 := Lib.hid (block_lat b6 HBP.out)
              have hvb6 := block_lat b6 HVB.out
              have p0 := cell_of_block (o := 0) hvb6
              have p1 : w5.heap.size < w6.heap.size := lt_of_block hvb6
              simp only [List.getElem?_toArray, List.getElem?_cons_zero] at p0
              clear HCP HBP HVB b6 HV5 HQ
              have hblk := HC.out.r.blk
              have q2 := cell_of_block (o := 2) hblk
              have qf2 := frozen_blk hblk 2
              simp only [List.getElem?_toArray, List.getElem?_cons_zero, List.getElem?_cons_succ] at q2
              have hb0 := HB0.out
              have a0 := cell_of_block (o := 0) hb0
              have a1 := cell_of_block (o := 1) hb0
              have a2 := cell_of_block (o := 2) hb0
              have a3 := cell_of_block (o := 3) hb0
              have a4 := cell_of_block (o := 4) hb0
              have a5 := cell_of_block (o := 5) hb0
              have af0 := frozen_blk hb0 0
              have af1 := frozen_blk hb0 1
              have af2 := frozen_blk hb0 2
              have af3 := frozen_blk hb0 3
              have af4 := frozen_blk hb0 4
              have af5 := frozen_blk hb0 5
              simp only [List.getElem?_toArray, List.getElem?_cons_zero, List.getElem?_cons_succ] at a0 a1 a2 a3 a4 a5
              have m1 : w.heap.size < w6.heap.size := lt_of_block hb0
              have m2 : g < w6.heap.size := by omega
              have n1 : ¬ w.heap.size = w6.heap.size := by omega
              have n2 : ¬ w.heap.size = g := by omega
              have n3 : ¬ g = w.heap.size := by omega
              clear hb0
              have p2 : ¬ w5.heap.size = w6.heap.size := by omega
              have p3 : ¬ g = w6.heap.size := by omega
              have p4 : ¬ w6.heap.size = g := by omega
              have p5 : ¬ w6.heap.size = w.heap.size := by omega
              have p6 : ¬ w5.heap.size = g := fun e => by rw [e] at hvb6; rw [hvb6] at hblk; simp at hblk
              clear hvb6 hblk
              generalize hy1 : Wn.str y.n = yn at *
              generalize hy2 : Wn.str y.v = yv at *
              generalize hy3 : y.k = yk at *
              generalize hy4 : y.a = ya at *
              generalize hy5 : y.b = yb at *
              cases ok
              · clear hres
                go_wp2_with fail
                refine bodyPost_ret (v := .agg #[.int .i64 yk, .string yn, .string yv, .int .i64 ya, .int .i64 yb, .slice none 0 0]) (by simp [results, Try.results40, go_sem, a0, a1, a2, a3, a4, a5, m1, m2, n1, n2, n3, p1, p2, p3, p4, p5, p6]) rfl ?_
                subst hy1 hy2 hy3 hy4 hy5
                exact Sim4.bad (x := y) (u := .slice none 0 0) (j := i) (by (repeat (first | with_reducible exact HC.out | (with_reducible refine CS.drew ?_) | (with_reducible refine CS.alloc ?_ _) | (with_reducible refine CS.move (j := i) (j' := i + 1) ?_ (by omega) (by go_num)) | (with_reducible refine CS.spoilF ?_ _) | ((with_reducible refine CS.new ?_ ?_ _); rotate_left; (focus omega))))) rfl (by rw [hyl]; exact SsP.nil _ _) (HRES.out.trans HR2.out)
              · rw [if_pos rfl] at hres
                cases hres
end Go.Proofs.Ytbjhiimjillleaa
