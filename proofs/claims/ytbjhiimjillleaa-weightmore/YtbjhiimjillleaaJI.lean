/- The verifier's not. The verifier's complex selectors: what its steps mean. Plain mathematics. The verifier's complex selectors in memory: what is known while parts are gathered. -/
import Derived.Test.YtbjhiimjillleaaJH
import Derived.Test.YtbjhiimjillleaaHA
import Derived.Deep.RegionLaw
set_option linter.unusedVariables false
set_option linter.unusedSimpArgs false
set_option maxRecDepth 20000
namespace Wn
theorem in_bad {f : Fs} (h : simpS true (trimF f) = none) : inNot f = none := by rw [inNot_simpS, h]
theorem in_far {f : Fs} {x : Sm} {j : Nat} (h : simpS true (trimF f) = some (x, (trimF f).drop j)) (hj : j ≤ (trimF f).len) (hn : ¬ j = (trimF f).len) : inNot f = none := by
  rw [inNot_simpS, h]
  obtain ⟨k, t, y, e⟩ := Fs.drop_cons (show j < (trimF f).len by omega)
  rw [e]
theorem in_end {f : Fs} {x : Sm} {j : Nat} (h : simpS true (trimF f) = some (x, (trimF f).drop j)) (hn : j = (trimF f).len) : inNot f = if x.k = 11 then none else some x := by
  rw [inNot_simpS, h, hn, Fs.drop_len (Nat.le_refl _)]
end Wn
namespace Go.Proofs.Ytbjhiimjillleaa
open Go.RowKit Go.Sort
theorem SsP.one {W : World} {ok : Nat → Prop} {b : Nat} {x : Wn.Sm} {u : Value} (h : W.heap[b]? = some (.cells #[.int .i64 x.k, .string (Wn.str x.n), .string (Wn.str x.v), .int .i64 x.a, .int .i64 x.b, u] 45)) (hu : SsP W ok u x.l) (hb : ok b) : SsP W ok (.slice (some ⟨b, 0, none⟩) 1 1) (x.on .nil) := by
  rw [SsP.k]
  exact RK.P.mk (K := smK) (es := [smCells x u]) (l := [x]) h ⟨⟨u, rfl, hu⟩, trivial⟩ rfl rfl (by simp) hb
theorem not_arr (V : World) (X A : Obj) (n : Nat) (hn : V.heap.size = n) : ((V.alloc X).alloc A).drew.heap[n + 1]? = some A := by
  have := heap_alloc_new (V.alloc X) A
  rw [show (V.alloc X).heap.size = n + 1 by simp [hn]] at this
  exact this
theorem SsP.late {W W' : World} {ok : Nat → Prop} {u : Value} {f : Wn.Ss} (h : SsP W ok u f) (hb : Below W.heap.size W W') : SsP W' ok u f := h.same (fun b _ hl => hb.block b hl) (fun _ h _ => h)
set_option maxRecDepth 100000 in
set_option maxHeartbeats 2000000 in
theorem r4not_step (N : Nat) (hI : Not4Said N) : Not4Said (N + 1) := by
  intro v f w hN hs hv ht
  have hzT := Wn.trim_size f
  have hTT : Tl (Wn.trimF f) := Wn.trim_all ht
  have hB0 : Below w.heap.size w (w.alloc (.cells #[.int .i64 0, .string ⟨#[]⟩, .string ⟨#[]⟩, .int .i64 0, .int .i64 0, .slice none 0 0] 45)) := (Below.refl _ _).alloc (Nat.le_refl _) _
  have QT := Lib.hid (rTrim_any v f _ (hv.below hB0) hs)
  have hbx := heap_alloc_new w (.cells #[.int .i64 0, .string ⟨#[]⟩, .string ⟨#[]⟩, .int .i64 0, .int .i64 0, .slice none 0 0] 45)
  have hz1 : (w.alloc (.cells #[.int .i64 0, .string ⟨#[]⟩, .string ⟨#[]⟩, .int .i64 0, .int .i64 0, .slice none 0 0] 45)).heap.size = w.heap.size + 1 := by simp
  have HB0 := Lib.hid hB0
  have HBX := Lib.hid hbx
  have HE1 := Lib.hid (fun h => Wn.in_bad (f := f) h)
  have HE2 := Lib.hid (fun x j h hj hn => Wn.in_far (f := f) (x := x) (j := j) h hj hn)
  have HE3 := Lib.hid (fun x j h hn => Wn.in_end (f := f) (x := x) (j := j) h hn)
  obtain ⟨vo, vc, rfl, _, _⟩ := hv.form
  generalize hg : Wn.trimF f = G at *
  clear hg hv hB0 hbx ht
  go_enter Try.func60, Try.ntmps60
  go_wp2_with fail
  generalize w.alloc (.cells #[.int .i64 0, .string ⟨#[]⟩, .string ⟨#[]⟩, .int .i64 0, .int .i64 0, .slice none 0 0] 45) = W at *
  refine QT.out.mono ?_
  rintro e w1 ⟨r, rfl, hr, b1⟩
  have hA := R4.made hr (by omega)
  obtain ⟨ao, cap, rfl, hc1, hc2⟩ := hr.form
  have hb2 : Below w1.heap.size w1 (w1.alloc (.cells #[.slice ao G.len cap, .int .i64 0, .bool false] 84)) := (Below.refl _ _).alloc (Nat.le_refl _) _
  have hs1 := b1.size
  have HB2 := Lib.hid (HB0.out.trans ((b1.mono HB0.out.size).trans (hb2.mono (by omega))))
  have HBX2 := Lib.hid (block_lat hb2 (block_lat b1 HBX.out))
  have HR2 := Lib.hid hA
  have hz2 : (w1.alloc (.cells #[.slice ao G.len cap, .int .i64 0, .bool false] 84)).heap.size = w1.heap.size + 1 := by simp
  clear QT hr b1 HB0 HBX hA hb2
  go_wp2_with fail
  generalize w1.alloc (.cells #[.slice ao G.len cap, .int .i64 0, .bool false] 84) = W2 at *
  refine (r4simple1 N w1.heap.size 0 G W2 (by omega) hI hTT HR2.out).mono ?_
  rintro e w3 ⟨x, u, rfl, hu, ho3, hx⟩
  rw [Wn.Fs.drop_zero] at hx
  obtain ⟨nuo, nuc, rfl, _, _⟩ := hu.form
  have hs3 := ho3.size
  have HB3 := Lib.hid (HB2.out.trans ((Only.kp ho3).below HB2.out.size (by rintro b rfl; omega)))
  have hbx3 := (ho3.block w.heap.size (by omega) (by omega)).trans HBX2.out
  have a0 := cell_of_block (o := 0) hbx3
  have a1 := cell_of_block (o := 1) hbx3
  have a2 := cell_of_block (o := 2) hbx3
  have a3 := cell_of_block (o := 3) hbx3
  have a4 := cell_of_block (o := 4) hbx3
  have a5 := cell_of_block (o := 5) hbx3
  have af0 := frozen_blk hbx3 0
  have af1 := frozen_blk hbx3 1
  have af2 := frozen_blk hbx3 2
  have af3 := frozen_blk hbx3 3
  have af4 := frozen_blk hbx3 4
  have af5 := frozen_blk hbx3 5
  simp only [List.getElem?_toArray, List.getElem?_cons_zero, List.getElem?_cons_succ] at a0 a1 a2 a3 a4 a5
  clear hbx3 HBX2 HB2 ho3 HR2
  have hbX : Below w3.heap.size w3 (w3.alloc (.cells #[.int .i64 x.k, .string (Wn.str x.n), .string (Wn.str x.v), .int .i64 x.a, .int .i64 x.b, .slice nuo x.l.len nuc] 45)) := (Below.refl _ _).alloc (Nat.le_refl _) _
  have HU := Lib.hid (hu.same (w' := w3) (ok' := fun b => w.heap.size + 1 ≤ b) (fun _ _ _ => rfl) (fun b (hb : W2.heap.size ≤ b) _ => by omega))
  have m1 : w.heap.size < w3.heap.size := by omega
  have m2 : w1.heap.size < w3.heap.size := by omega
  have n1 : ¬ w.heap.size = w3.heap.size := by omega
  have n2 : ¬ w1.heap.size = w3.heap.size := by omega
  have n3 : ¬ w.heap.size = w1.heap.size := by omega
  have n4 : ¬ w1.heap.size = w.heap.size := by omega
  have n5 : ¬ w3.heap.size = w.heap.size := by omega
  have n6 : ¬ w3.heap.size + 1 = w.heap.size := by omega
  have n7 : ¬ w.heap.size = w3.heap.size + 1 := by omega
  have n8 : ¬ w3.heap.size = w3.heap.size + 1 := by omega
  have n9 : ¬ w1.heap.size = w3.heap.size + 1 := by omega
  clear hu hbX
  rcases hx with ⟨j, hj, hr, hr3⟩ | ⟨hr, j, hr3⟩
  · have hjl := hr3.hi
    have hll := hr3.len
    obtain ⟨ao3, cap3, hb3, hcc31, hcc32⟩ := hr3.cells
    unfold maxLen at hcc32
    have q0 := cell_of_block (o := 0) hb3
    have q1 := cell_of_block (o := 1) hb3
    have q2 := cell_of_block (o := 2) hb3
    simp only [List.getElem?_toArray, List.getElem?_cons_zero, List.getElem?_cons_succ] at q0 q1 q2
    have HRR := Lib.hid hr
    clear hb3 hr3 hr
    by_cases hje : j = G.len
    · have e1 : (j : Int) = (G.len : Int) := by omega
      by_cases hk : x.k = 11
      · have hkb : (x.k == 11) = true := by simpa using hk
        have HE : Hid (Wn.inNot f = none) := Lib.hid (by rw [HE3.out x j HRR.out hje, if_pos hk])
        have HK := Lib.hid hk
        clear hk
        have HB2 := HB3
        clear HB3
        simp only [smV]
        generalize hx6 : x.l.len = xl at *
        generalize hx1 : Wn.str x.n = xn at *
        generalize hx2 : Wn.str x.v = xv at *
        generalize hx3 : x.k = xk at *
        generalize hx4 : x.a = xa at *
        generalize hx5 : x.b = xb at *
        have HX1 := Lib.hid hx1
        have HX2 := Lib.hid hx2
        have HX3 := Lib.hid hx3
        have HX4 := Lib.hid hx4
        have HX5 := Lib.hid hx5
        have HX6 := Lib.hid hx6
        clear hx1 hx2 hx3 hx4 hx5 hx6
        go_wp2_with fail
        go_region
        all_goals go_wp2_with fail
        all_goals refine bodyPost_ret (v := .tuple #[.agg #[.int .i64 11, .string ⟨#[]⟩, .string ⟨#[]⟩, .int .i64 0, .int .i64 0, .slice (some ⟨w3.heap.size + 1, 0, none⟩) 1 1], .bool false]) (by simp [results, Try.results60, go_sem, a0, a1, a2, a3, a4, a5, m1, m2, n1, n2, n3, n4, n5, n6, n7, n8, n9, HK.out]) rfl ?_
        all_goals refine ⟨x, .slice (some ⟨w3.heap.size + 1, 0, none⟩) 1 1, false, rfl, ?_, by rw [if_neg (by decide)]; exact HE.out, (by (repeat (first | with_reducible exact HB2.out | (with_reducible refine Below.drew ?_) | (with_reducible refine below_drewN' ?_ _) | ((with_reducible refine Below.setCell ?_ ?_ _); rotate_left; (focus (first | omega | (simp; done) | (simp; omega)))) | ((with_reducible refine Below.alloc ?_ ?_ _); rotate_left; (focus (first | omega | (simp; omega)))))))⟩
        all_goals
          have hx1 := HX1.out
          have hx2 := HX2.out
          have hx3 := HX3.out
          have hx4 := HX4.out
          have hx5 := HX5.out
          have hx6 := HX6.out
          clear HX1 HX2 HX3 HX4 HX5 HX6 HE
          subst hx1 hx2 hx3 hx4 hx5 hx6
          refine SsP.same (fun _ _ _ => rfl) (fun b (hb : w.heap.size + 1 ≤ b) _ => by omega) (SsP.one (x := x) (not_arr _ _ _ _ (by simp [World.setCell])) ?_ (by show w.heap.size + 1 ≤ w3.heap.size + 1; omega))
          refine SsP.late ?_ (((Below.refl _ _).alloc (Nat.le_refl _) _).alloc (by simp) _).drew
          repeat (first | with_reducible exact HU.out | ((with_reducible refine SsP.set ?_ ?_ _); rotate_left; (focus omega)))
      · have hkb : (x.k == 11) = false := by simpa using hk
        have HE : Hid (Wn.inNot f = some x) := Lib.hid (by rw [HE3.out x j HRR.out hje, if_neg hk])
        have HK := Lib.hid hk
        clear hk
        have HB2 := HB3
        clear HB3
        simp only [smV]
        generalize hx6 : x.l.len = xl at *
        generalize hx1 : Wn.str x.n = xn at *
        generalize hx2 : Wn.str x.v = xv at *
        generalize hx3 : x.k = xk at *
        generalize hx4 : x.a = xa at *
        generalize hx5 : x.b = xb at *
        have HX1 := Lib.hid hx1
        have HX2 := Lib.hid hx2
        have HX3 := Lib.hid hx3
        have HX4 := Lib.hid hx4
        have HX5 := Lib.hid hx5
        have HX6 := Lib.hid hx6
        clear hx1 hx2 hx3 hx4 hx5 hx6
        go_wp2_with fail
        go_region
        all_goals go_wp2_with fail
        all_goals refine bodyPost_ret (v := .tuple #[.agg #[.int .i64 11, .string ⟨#[]⟩, .string ⟨#[]⟩, .int .i64 0, .int .i64 0, .slice (some ⟨w3.heap.size + 1, 0, none⟩) 1 1], .bool true]) (by simp [results, Try.results60, go_sem, a0, a1, a2, a3, a4, a5, m1, m2, n1, n2, n3, n4, n5, n6, n7, n8, n9, HK.out]) rfl ?_
        all_goals refine ⟨x, .slice (some ⟨w3.heap.size + 1, 0, none⟩) 1 1, true, rfl, ?_, by rw [if_pos rfl]; exact HE.out, (by (repeat (first | with_reducible exact HB2.out | (with_reducible refine Below.drew ?_) | (with_reducible refine below_drewN' ?_ _) | ((with_reducible refine Below.setCell ?_ ?_ _); rotate_left; (focus (first | omega | (simp; done) | (simp; omega)))) | ((with_reducible refine Below.alloc ?_ ?_ _); rotate_left; (focus (first | omega | (simp; omega)))))))⟩
        all_goals
          have hx1 := HX1.out
          have hx2 := HX2.out
          have hx3 := HX3.out
          have hx4 := HX4.out
          have hx5 := HX5.out
          have hx6 := HX6.out
          clear HX1 HX2 HX3 HX4 HX5 HX6 HE
          subst hx1 hx2 hx3 hx4 hx5 hx6
          refine SsP.same (fun _ _ _ => rfl) (fun b (hb : w.heap.size + 1 ≤ b) _ => by omega) (SsP.one (x := x) (not_arr _ _ _ _ (by simp [World.setCell])) ?_ (by show w.heap.size + 1 ≤ w3.heap.size + 1; omega))
          refine SsP.late ?_ (((Below.refl _ _).alloc (Nat.le_refl _) _).alloc (by simp) _).drew
          repeat (first | with_reducible exact HU.out | ((with_reducible refine SsP.set ?_ ?_ _); rotate_left; (focus omega)))
    · have e1 : ((j : Int) == (G.len : Int)) = false := by simp; omega
      have HE : Hid (Wn.inNot f = none) := Lib.hid (HE2.out x j HRR.out hjl hje)
      have HB2 := HB3
      clear HB3
      simp only [smV]
      generalize hx6 : x.l.len = xl at *
      generalize hx1 : Wn.str x.n = xn at *
      generalize hx2 : Wn.str x.v = xv at *
      generalize hx3 : x.k = xk at *
      generalize hx4 : x.a = xa at *
      generalize hx5 : x.b = xb at *
      have HX1 := Lib.hid hx1
      have HX2 := Lib.hid hx2
      have HX3 := Lib.hid hx3
      have HX4 := Lib.hid hx4
      have HX5 := Lib.hid hx5
      have HX6 := Lib.hid hx6
      clear hx1 hx2 hx3 hx4 hx5 hx6
      go_wp2_with fail
      go_region
      all_goals go_wp2_with fail
      all_goals refine bodyPost_ret (v := .tuple #[.agg #[.int .i64 11, .string ⟨#[]⟩, .string ⟨#[]⟩, .int .i64 0, .int .i64 0, .slice (some ⟨w3.heap.size + 1, 0, none⟩) 1 1], .bool false]) (by simp [results, Try.results60, go_sem, a0, a1, a2, a3, a4, a5, m1, m2, n1, n2, n3, n4, n5, n6, n7, n8, n9]) rfl ?_
      all_goals refine ⟨x, .slice (some ⟨w3.heap.size + 1, 0, none⟩) 1 1, false, rfl, ?_, by rw [if_neg (by decide)]; exact HE.out, (by (repeat (first | with_reducible exact HB2.out | (with_reducible refine Below.drew ?_) | (with_reducible refine below_drewN' ?_ _) | ((with_reducible refine Below.setCell ?_ ?_ _); rotate_left; (focus (first | omega | (simp; done) | (simp; omega)))) | ((with_reducible refine Below.alloc ?_ ?_ _); rotate_left; (focus (first | omega | (simp; omega)))))))⟩
      all_goals
        have hx1 := HX1.out
        have hx2 := HX2.out
        have hx3 := HX3.out
        have hx4 := HX4.out
        have hx5 := HX5.out
        have hx6 := HX6.out
        clear HX1 HX2 HX3 HX4 HX5 HX6 HE
        subst hx1 hx2 hx3 hx4 hx5 hx6
        refine SsP.same (fun _ _ _ => rfl) (fun b (hb : w.heap.size + 1 ≤ b) _ => by omega) (SsP.one (x := x) (not_arr _ _ _ _ (by simp [World.setCell])) ?_ (by show w.heap.size + 1 ≤ w3.heap.size + 1; omega))
        refine SsP.late ?_ (((Below.refl _ _).alloc (Nat.le_refl _) _).alloc (by simp) _).drew
        repeat (first | with_reducible exact HU.out | ((with_reducible refine SsP.set ?_ ?_ _); rotate_left; (focus omega)))
  · have hjl := hr3.hi
    have hll := hr3.len
    obtain ⟨ao3, cap3, hb3, hcc31, hcc32⟩ := hr3.cells
    unfold maxLen at hcc32
    have q0 := cell_of_block (o := 0) hb3
    have q1 := cell_of_block (o := 1) hb3
    have q2 := cell_of_block (o := 2) hb3
    simp only [List.getElem?_toArray, List.getElem?_cons_zero, List.getElem?_cons_succ] at q0 q1 q2
    have HE : Hid (Wn.inNot f = none) := Lib.hid (HE1.out hr)
    clear hb3 hr3 hr
    have HB2 := HB3
    clear HB3
    simp only [smV]
    generalize hx6 : x.l.len = xl at *
    generalize hx1 : Wn.str x.n = xn at *
    generalize hx2 : Wn.str x.v = xv at *
    generalize hx3 : x.k = xk at *
    generalize hx4 : x.a = xa at *
    generalize hx5 : x.b = xb at *
    have HX1 := Lib.hid hx1
    have HX2 := Lib.hid hx2
    have HX3 := Lib.hid hx3
    have HX4 := Lib.hid hx4
    have HX5 := Lib.hid hx5
    have HX6 := Lib.hid hx6
    clear hx1 hx2 hx3 hx4 hx5 hx6
    go_wp2_with fail
    go_region
    all_goals go_wp2_with fail
    all_goals refine bodyPost_ret (v := .tuple #[.agg #[.int .i64 11, .string ⟨#[]⟩, .string ⟨#[]⟩, .int .i64 0, .int .i64 0, .slice (some ⟨w3.heap.size + 1, 0, none⟩) 1 1], .bool false]) (by simp [results, Try.results60, go_sem, a0, a1, a2, a3, a4, a5, m1, m2, n1, n2, n3, n4, n5, n6, n7, n8, n9]) rfl ?_
    all_goals refine ⟨x, .slice (some ⟨w3.heap.size + 1, 0, none⟩) 1 1, false, rfl, ?_, by rw [if_neg (by decide)]; exact HE.out, (by (repeat (first | with_reducible exact HB2.out | (with_reducible refine Below.drew ?_) | (with_reducible refine below_drewN' ?_ _) | ((with_reducible refine Below.setCell ?_ ?_ _); rotate_left; (focus (first | omega | (simp; done) | (simp; omega)))) | ((with_reducible refine Below.alloc ?_ ?_ _); rotate_left; (focus (first | omega | (simp; omega)))))))⟩
    all_goals
      have hx1 := HX1.out
      have hx2 := HX2.out
      have hx3 := HX3.out
      have hx4 := HX4.out
      have hx5 := HX5.out
      have hx6 := HX6.out
      clear HX1 HX2 HX3 HX4 HX5 HX6 HE
      subst hx1 hx2 hx3 hx4 hx5 hx6
      refine SsP.same (fun _ _ _ => rfl) (fun b (hb : w.heap.size + 1 ≤ b) _ => by omega) (SsP.one (x := x) (not_arr _ _ _ _ (by simp [World.setCell])) ?_ (by show w.heap.size + 1 ≤ w3.heap.size + 1; omega))
      refine SsP.late ?_ (((Below.refl _ _).alloc (Nat.le_refl _) _).alloc (by simp) _).drew
      repeat (first | with_reducible exact HU.out | ((with_reducible refine SsP.set ?_ ?_ _); rotate_left; (focus omega)))
theorem r4not_all : ∀ N, Not4Said N
  | 0 => fun _ _ _ h => absurd h (Nat.not_lt_zero _)
  | N + 1 => r4not_step N (r4not_all N)
end Go.Proofs.Ytbjhiimjillleaa
set_option linter.unusedVariables false
set_option linter.unusedSimpArgs false
set_option maxRecDepth 20000
namespace Wn
theorem tok_len {k : Int} {g : Fs} {p : Tok × Fs} (h : tokF k g = some p) : p.2.len < g.len := by
  cases g with
  | nil => cases h
  | cons k' t x r =>
    rw [tokF] at h
    split at h
    · cases h; simp only [Fs.len]; omega
    · cases h
theorem sign_len {s : List UInt8} {g r : Fs} (h : signF s g = some r) : r.len < g.len := by
  cases g with
  | nil => cases h
  | cons k' t x r' =>
    rw [signF] at h
    split at h
    · cases h; simp only [Fs.len]; omega
    · cases h
theorem val_len {k : Int} {g r : Fs} {p : Tok × Fs} (h : valF k g = some (p, r)) : r.len < g.len := by
  cases g with
  | nil => cases h
  | cons k' t x r' =>
    rw [valF] at h
    split at h
    · cases h; simp only [Fs.len]; omega
    · cases h
theorem colon_len {g r : Fs} {x : Sm} (h : colonG inNot g = some (x, r)) : r.len < g.len := by
  unfold colonG at h
  cases hv : valF 5 g with
  | some p =>
    rw [hv] at h
    dsimp only at h
    cases hf : funcG inNot p.1.1.2.1 p.1.2 with
    | none => rw [hf] at h; cases h
    | some y => rw [hf] at h; cases h; exact val_len (p := p.1) hv
  | none =>
    rw [hv] at h
    dsimp only at h
    cases ht : tokF 1 g with
    | none => rw [ht] at h; cases h
    | some p =>
      rw [ht] at h
      dsimp only at h
      cases hs : stateW p.1.2.1 with
      | none => rw [hs] at h; cases h
      | some y => rw [hs] at h; cases h; exact tok_len ht
theorem simp_len0 {g r : Fs} {x : Sm} (h : simpS false g = some (x, r)) : r.len < g.len := by
  cases h4 : tokF 4 g with
  | some p => rw [rs_id h4] at h; cases h; exact tok_len h4
  | none =>
    cases h46 : signF [46] g with
    | some r' =>
      rw [rs_class h4 h46] at h
      cases ht : tokF 1 r' with
      | none => rw [ht] at h; cases h
      | some p => rw [ht] at h; cases h; exact Nat.lt_trans (tok_len ht) (sign_len h46)
    | none =>
      cases h58 : signF [58] g with
      | some r' => rw [rs_colon h4 h46 h58] at h; exact Nat.lt_trans (colon_len h) (sign_len h58)
      | none =>
        rw [rs_attr h4 h46 h58] at h
        cases hv : valF 3 g with
        | none => rw [hv] at h; cases h
        | some p =>
          rw [hv] at h
          dsimp only at h
          cases ha : attrF p.1.2 with
          | none => rw [ha] at h; cases h
          | some y => rw [ha] at h; cases h; exact val_len (p := p.1) hv
theorem simp_len {b : Bool} {g r : Fs} {x : Sm} (h : simpS b g = some (x, r)) : r.len < g.len := by
  cases b with
  | false => exact simp_len0 h
  | true =>
    cases h1 : tokF 1 g with
    | some p => rw [rs_tag h1] at h; cases h; exact tok_len h1
    | none =>
      cases h2 : signF [42] g with
      | some r' => rw [rs_any h2] at h; cases h; exact sign_len h2
      | none => rw [rs_first h1 h2] at h; exact simp_len0 h
theorem simp_next {b : Bool} {f : Fs} {i j : Nat} {x : Sm} (h : simpS b (f.drop i) = some (x, f.drop j)) (hj : j ≤ f.len) : i < j := by
  have := simp_len h
  rw [Fs.len_drop, Fs.len_drop] at this
  omega
/-- a part that ends where no two signs : come -/
theorem part_over {g0 g : Fs} {acc : List Sm} (h : CJ g0 acc g) (ho : overF g = true) (hd : dblF g = false) : partR g0 = if acc.length ≤ 8 ∧ acc ≠ [] then some ((acc, []), g) else none := by
  unfold partR
  rw [h.done (over_simp ho)]
  by_cases h8 : acc.length ≤ 8
  · rw [if_pos h8]
    dsimp only
    rw [dbl_no hd]
    dsimp only
    by_cases ha : acc = []
    · rw [if_pos ⟨ha, rfl⟩, if_neg (fun h => h.2 ha)]
    · rw [if_neg (fun h => ha h.1), if_pos ⟨h8, ha⟩]
  · rw [if_neg h8, if_neg (fun h => h8 h.1)]
theorem dbl_two' {f : Fs} {i : Nat} (h : dblF (f.drop i) = true) : i + 2 ≤ f.len ∧ ∃ r, signF [58] (f.drop i) = some r ∧ signF [58] r = some (f.drop (i + 2)) := by
  unfold dblF at h
  cases h1 : signF [58] (f.drop i) with
  | none => rw [h1] at h; cases h
  | some r =>
    rw [h1] at h
    dsimp only at h
    obtain ⟨r', h2⟩ := Option.isSome_iff_exists.1 h
    obtain ⟨x, e⟩ := sign_some h1
    obtain ⟨hr, hi⟩ := drop_next e
    have h2' := h2
    rw [hr] at h2'
    obtain ⟨y, e2⟩ := sign_some h2'
    obtain ⟨hr2, hi2⟩ := drop_next e2
    exact ⟨by omega, r, rfl, by rw [h2, hr2]⟩
/-- a part that ends with two signs : -/
theorem part_dbl {f g0 : Fs} {i : Nat} {acc : List Sm} (h : CJ g0 acc (f.drop i)) (hd : dblF (f.drop i) = true) : partR g0 = match tokF 1 (f.drop (i + 2)) with
    | none => none
    | some p => if acc.length ≤ 8 ∧ isPseudo p.1.2.1 = true then some ((acc, p.1.2.1), p.2) else none := by
  obtain ⟨_, r, h1, h2⟩ := dbl_two' hd
  unfold partR
  rw [h.done (dbl_simp hd)]
  by_cases h8 : acc.length ≤ 8
  · rw [if_pos h8]
    dsimp only
    unfold pseudoR
    rw [h1]
    dsimp only
    rw [h2]
    dsimp only
    cases ht : tokF 1 (f.drop (i + 2)) with
    | none => rfl
    | some p =>
      dsimp only
      by_cases hp : isPseudo p.1.2.1 = true
      · rw [if_pos hp, if_pos ⟨h8, hp⟩]
        dsimp only
        rw [if_neg]
        rintro ⟨_, e⟩
        rw [e] at hp; revert hp; decide
      · rw [if_neg hp, if_neg (fun h => hp h.2)]
  · rw [if_neg h8]
    dsimp only
    cases tokF 1 (f.drop (i + 2)) with
    | none => rfl
    | some p => dsimp only; rw [if_neg (fun h => h8 h.1)]
theorem pseudo_ne {n : List UInt8} (h : isPseudo n = true) : n ≠ [] := by rintro rfl; revert h; decide
theorem drop_nil_iff {f : Fs} {i : Nat} (hi : i ≤ f.len) : f.drop i = .nil ↔ i = f.len := by
  constructor
  · exact fun h => drop_end h hi
  · rintro rfl; exact Fs.drop_len (Nat.le_refl _)
/-- what comes of complex selectors, all values taken -/
def cxF (f : Fs) : Option Cx := fin (cplxR 16 0 f)
theorem cx_none {f : Fs} (h : cplxR 16 0 f = none) : cxF f = none := by unfold cxF; rw [h]; rfl
theorem cx_end {f : Fs} {c : Cx} (h : cplxR 16 0 f = some (c, .nil)) : cxF f = some c := by unfold cxF; rw [h]; rfl
theorem cx_far {f r : Fs} {c : Cx} (h : cplxR 16 0 f = some (c, r)) (hr : r ≠ .nil) : cxF f = none := by
  unfold cxF; rw [h]
  cases r with
  | nil => exact absurd rfl hr
  | cons => rfl
end Wn
set_option linter.unusedVariables false
set_option linter.unusedSimpArgs false
set_option maxRecDepth 20000
namespace Go.Proofs.Ytbjhiimjillleaa
open Go.RowKit Go.Sort
/-- append to a row of one's own, at a step of a region that draws -/
theorem RK.step_append {α : Type} {K : RK α} {w : World} {ops : Array Oper} {o : Oper} {a : Act} {K' : Act → World → Prop} {Q : Exit → Act → World → Prop} {E : Prop} (hgd : o.guard = none) (s x : Operand)
    (ho : o.op = .call { callee := .builtin .append, args := #[s, x], argTypes := #[K.t, K.t] })
    (base : Nat) (v u : Value) (es fs : List (List Value)) (hs : a.eval s = v) (hx : a.eval x = u) (hown : w.ownsRow base K.e K.sz v es.length es.flatten) (hU : K.Src w u fs)
    (hlen : es.length + fs.length ≤ 1048576) (hbase : base ≤ w.heap.size)
    (h : ∀ v' w', w'.ownsRow base K.e K.sz v' (es ++ fs).length (es ++ fs).flatten → w.grownBy w' v.ownBlock → (v'.ownBlock = v.ownBlock ∨ v'.ownBlock = some w.heap.size) → K' (a.put o.dst v') w') : if Region.wanted o (yielded ops a.tmps) = true then Oper.wp Try.prog o a w K' Q else E := by
  have hw : Region.wanted o (yielded ops a.tmps) = true := by simp [Region.wanted, hgd]
  rw [if_pos hw]
  obtain ⟨i0, hi, hz0, hz1, hz2⟩ := info_parts K.info
  obtain ⟨hl, h1c, hU⟩ := hU
  rcases hU with ⟨rfl, rfl⟩ | ⟨ad, cap, rfl, h3⟩
  · have hrun := run_append_owned_none (P := Try.prog) (w := w) base K.t o.type K.e i0 K.sz K.under hi v _ _ hown
    have hk := h v w (by rw [List.append_nil]; exact hown) ⟨rfl, rfl, rfl, Nat.le_refl _, fun _ _ _ => rfl⟩ (.inl rfl)
    unfold Oper.wp
    simp [execOp, ho, resolve, invoke, builtin, hs, hx, hrun, Result.andThen]
    exact hk
  · have hb : (es.length + fs.length) * K.bytes ≤ 140737488355328 := Nat.le_trans (Nat.mul_le_mul hlen K.few) (by decide)
    obtain ⟨v', w', hr, h2, h3', h4, h5⟩ := run_append_own_at (P := Try.prog) w base K.t o.type K.e i0 K.z K.sz K.bytes K.under hi hz0 hz1 hz2 K.zsz K.pos v _ _ hown ad fs.length cap fs.flatten hl h3 h1c (by unfold maxLen; omega) hb hbase
    have hk := h v' w' (by rw [List.length_append, List.flatten_append]; exact h2) h3' h5
    unfold Oper.wp
    simp [execOp, ho, resolve, invoke, builtin, hs, hx, hr, Result.andThen]
    exact hk
theorem CS.grown {w W W' : World} {g : Nat} {rv : Value} {f : Wn.Fs} {j : Nat} {b : Bool} {row : Option Nat} (h : CS w W g rv f j b) (hg : W.grownBy W' row) (hr : ∀ r, row = some r → w.heap.size ≤ r) : CS w W' g rv f j b := by
  obtain ⟨i0, b0, h0⟩ := h.old
  have hlt := h0.lt
  have hk : Kp (fun b => b = g) w W' := ⟨hg.os.trans h.k.os, hg.tape.trans h.k.tape, hg.output.trans h.k.output, Nat.le_trans h.k.size hg.size, fun k hk hn => (hg.block k (Nat.lt_of_lt_of_le hk h.k.size) (fun e => by have := hr k e.symm; omega)).trans (h.k.block k hk hn)⟩
  exact ⟨h.old, R4.only h0 h.r (Kp.only hk) (hg.block g h.r.lt (fun e => by have := hr g e.symm; omega)), hk⟩
/-- the part that is gathered: its block is P, all that was changed since the world Wp is the reader, and what is new -/
structure YI (W1 Wp W : World) (n P : Nat) (rv : Value) (f : Wn.Fs) (j : Nat) (b : Bool) (comb : Int) (q : Value) (es : List (List Value)) (acc : List Wn.Sm) : Prop where
  kp : Kp (fun b => b = n + 1 ∨ P ≤ b) Wp W
  cs : CS W1 W (n + 1) rv f j b
  pb : W.heap[P]? = some (.cells #[.int .i64 comb, q] 43)
  own : smK.Own (P + 1) (fun b => P + 1 ≤ b) W q es acc
section
variable {W1 Wp W W' : World} {n P : Nat} {rv : Value} {f : Wn.Fs} {j : Nat} {b : Bool} {comb : Int} {q : Value} {es : List (List Value)} {acc : List Wn.Sm}
theorem YI.below (h : YI W1 Wp W n P rv f j b comb q es acc) (hb : Below W.heap.size W W') : YI W1 Wp W' n P rv f j b comb q es acc :=
  ⟨h.kp.trans (Below.kp hb), h.cs.below hb, block_lat hb h.pb, h.own.below hb⟩
/-- the reader went on -/
theorem YI.go (h : YI W1 Wp W n P rv f j b comb q es acc) (hP : n + 2 ≤ P) {j' : Nat} {b' : Bool} (hr : R4 W' (n + 1) rv f j' b') (ho : Only (n + 1) W W') : YI W1 Wp W' n P rv f j' b' comb q es acc :=
  ⟨h.kp.trans ((Only.kp ho).mono fun b hb => .inl hb), h.cs.go hr ho, (ho.block P (lt_of_block h.pb) (by omega)).trans h.pb,
    h.own.kp (Only.kp ho) (fun b hb e => by have := (h.own.own.lt b hb).1; omega) (fun b hb _ e => by omega)⟩
theorem YI.move (h : YI W1 Wp W n P rv f j b comb q es acc) (hP : n + 2 ≤ P) {j' : Nat} (hj : j' ≤ f.len) {z : Int} (hz : z = (j' : Int)) : YI W1 Wp (W.setCell ⟨n + 1, 1, none⟩ (.int .i64 z)) n P rv f j' b comb q es acc :=
  h.go hP (h.cs.r.move hj hz) ((Only.refl (n + 1) W).setCell (p := ⟨n + 1, 1, none⟩) rfl _)
theorem YI.spoil (h : YI W1 Wp W n P rv f j b comb q es acc) (hP : n + 2 ≤ P) (z : Bool) : YI W1 Wp (W.setCell ⟨n + 1, 2, none⟩ (.bool z)) n P rv f j z comb q es acc :=
  h.go hP (h.cs.r.spoil z) ((Only.refl (n + 1) W).setCell (p := ⟨n + 1, 2, none⟩) rfl _)
/-- one simple selector more -/
theorem YI.next (h : YI W1 Wp W n P rv f j b comb q es acc) (hP : n + 3 ≤ P) (h1 : W1.heap.size = n + 2) {w1 Z w8 : World} {j' : Nat} {b' : Bool} {x : Wn.Sm} {u q8 : Value} (hr : R4 w1 (n + 1) rv f j' b') (ho : Only (n + 1) W w1) (hu : SsP w1 (fun b => W.heap.size ≤ b) u x.l) (hZ : Below w1.heap.size w1 Z)
    (hown : w8.ownsRow (P + 1) smK.e smK.sz q8 (es ++ [smCells x u]).length (es ++ [smCells x u]).flatten) (hg : Z.grownBy w8 q.ownBlock) (hat : q8.ownBlock = q.ownBlock ∨ q8.ownBlock = some Z.heap.size) :
    YI W1 Wp (w8.setCell ⟨P, 1, none⟩ q8) n P rv f j' b' comb q8 (es ++ [smCells x u]) (acc ++ [x]) := by
  have hy := h.go (by omega) hr ho
  have hPl := lt_of_block h.pb
  have hlt : ∀ r, q.ownBlock = some r → P + 1 ≤ r ∧ r < W.heap.size := fun r e => h.own.own.lt r e
  have hc : smK.R w1 (fun b => P + 1 ≤ b ∧ q.ownBlock ≠ some b) (smCells x u) x := ⟨u, rfl, hu.same (fun _ _ _ => rfl) (fun b (hb : W.heap.size ≤ b) _ => ⟨by omega, fun e => by have := (hlt b e).2; omega⟩)⟩
  have ho8 := hy.own.next hZ hc hown hg hat
  have hpb8 : w8.heap[P]? = some (.cells #[.int .i64 comb, q] 43) := (hg.block P (by have := ho.size; have := hZ.size; omega) (fun e => by have := (hlt P e.symm).1; omega)).trans (block_lat hZ hy.pb)
  refine ⟨?_, ?_, ?_, ?_⟩
  · exact ((hy.kp.trans (Below.kp hZ)).trans ⟨hg.os, hg.tape, hg.output, hg.size, fun k hk hn => hg.block k hk (fun e => hn (.inr (by have := (hlt k e.symm).1; omega)))⟩).setCell (p := ⟨P, 1, none⟩) (.inl (.inr (Nat.le_refl _))) _
  · exact (CS.grown (hy.cs.below hZ) hg (fun r e => by have := (hlt r e).1; omega)).new (by omega) _
  · simp [World.setCell, Array.getElem?_modify, hpb8]
  · exact ho8.kp (S := fun b => b = P) ((Kp.refl (fun b => b = P) w8).setCell (p := ⟨P, 1, none⟩) (.inl rfl) _) (fun b hb e => by have := (ho8.own.lt b hb).1; omega) (fun b hb _ e => by omega)
end
/-- the parts so far -/
structure XI (w W1 W : World) (n : Nat) (rv : Value) (f : Wn.Fs) (j : Nat) (b : Bool) (v : Value) (s : ByteArray) (es : List (List Value)) (ps : List (Int × List Wn.Sm)) : Prop where
  hn : n = w.heap.size
  lo : W1.heap.size = n + 2
  bw : Below n w W1
  cs : CS W1 W (n + 1) rv f j b
  res : W.heap[n]? = some (.cells #[.slice none 0 0, .string ⟨#[]⟩] 31)
  cx : W.heap[n + 2]? = some (.cells #[v, .string s] 31)
  own : ptK.Own (n + 3) (fun b => n + 3 ≤ b) W v es ps
section
variable {w W1 W W' : World} {n P : Nat} {rv v : Value} {f : Wn.Fs} {j : Nat} {b : Bool} {s : ByteArray} {es : List (List Value)} {ps : List (Int × List Wn.Sm)}
theorem XI.all (h : XI w W1 W n rv f j b v s es ps) : Below n w W := h.bw.trans (h.cs.k.below (by rw [h.lo]; omega) (fun b (e : b = n + 1) => by omega))
/-- behind the part -/
theorem XI.to {Wp : World} {comb : Int} {q : Value} {es2 : List (List Value)} {acc : List Wn.Sm} {j0 : Nat} {b0 : Bool} (h : XI w W1 Wp n rv f j0 b0 v s es ps) (hP : P = Wp.heap.size) (hy : YI W1 Wp W n P rv f j b comb q es2 acc) : XI w W1 W n rv f j b v s es ps := by
  have hl2 := lt_of_block h.cx
  refine ⟨h.hn, h.lo, h.bw, hy.cs, ?_, ?_, ?_⟩
  · exact (hy.kp.block n (by omega) (by omega)).trans h.res
  · exact (hy.kp.block (n + 2) hl2 (by omega)).trans h.cx
  · have ho := h.own.own.lt
    exact ⟨ownsRow_kept h.own.own (fun b hb hl => hy.kp.block b hl (by have := (ho b hb).1; omega)), h.own.row.same (fun b hb hl => hy.kp.block b hl (by have := hb.1; omega)) (fun _ h _ => h)⟩
theorem XI.go (h : XI w W1 W n rv f j b v s es ps) {j' : Nat} {b' : Bool} (hr : R4 W' (n + 1) rv f j' b') (ho : Only (n + 1) W W') : XI w W1 W' n rv f j' b' v s es ps := by
  have hl2 := lt_of_block h.cx
  exact ⟨h.hn, h.lo, h.bw, h.cs.go hr ho, (ho.block n (by omega) (by omega)).trans h.res, (ho.block (n + 2) hl2 (by omega)).trans h.cx,
    h.own.kp (Only.kp ho) (fun b hb e => by have := (h.own.own.lt b hb).1; omega) (fun b hb _ e => by omega)⟩
theorem XI.below (h : XI w W1 W n rv f j b v s es ps) (hb : Below W.heap.size W W') : XI w W1 W' n rv f j b v s es ps :=
  ⟨h.hn, h.lo, h.bw, h.cs.below hb, block_lat hb h.res, block_lat hb h.cx, h.own.below hb⟩
theorem XI.pseudo (h : XI w W1 W n rv f j b v s es ps) (s' : ByteArray) : XI w W1 (W.setCell ⟨n + 2, 1, none⟩ (.string s')) n rv f j b v s' es ps := by
  have hl := h.lo
  have hne : ∀ k, k ≠ n + 2 → (W.setCell ⟨n + 2, 1, none⟩ (.string s')).heap[k]? = W.heap[k]? := fun k hk => Below.heap_setCell _ _ _ _ hk
  have hcx := h.cx
  exact ⟨h.hn, h.lo, h.bw, h.cs.new (by omega) _, (hne n (by omega)).trans h.res, by simp [World.setCell, Array.getElem?_modify, hcx],
    h.own.kp (S := fun b => b = n + 2) ((Kp.refl (fun b => b = n + 2) W).setCell (p := ⟨n + 2, 1, none⟩) (.inl rfl) _) (fun b hb e => by have := (h.own.own.lt b hb).1; omega) (fun b hb _ e => by omega)⟩
/-- one part more -/
theorem XI.next (h : XI w W1 W n rv f j b v s es ps) {Z w8 : World} {comb : Int} {q v8 : Value} {acc : List Wn.Sm} {P : Nat} (hPv : ∀ r, v.ownBlock = some r → r < P) (hP : n + 3 ≤ P) (hq : smK.P W (fun b => P + 1 ≤ b) q acc) (hZ : Below W.heap.size W Z)
    (hown : w8.ownsRow (n + 3) ptK.e ptK.sz v8 (es ++ [[.int .i64 comb, q]]).length (es ++ [[.int .i64 comb, q]]).flatten) (hg : Z.grownBy w8 v.ownBlock) (hat : v8.ownBlock = v.ownBlock ∨ v8.ownBlock = some Z.heap.size) :
    XI w W1 (w8.setCell ⟨n + 2, 0, none⟩ v8) n rv f j b v8 s (es ++ [[.int .i64 comb, q]]) (ps ++ [(comb, acc)]) := by
  have hlt : ∀ r, v.ownBlock = some r → n + 3 ≤ r ∧ r < W.heap.size := fun r e => h.own.own.lt r e
  have hl2 := lt_of_block h.cx
  have hc : ptK.R W (fun b => n + 3 ≤ b ∧ v.ownBlock ≠ some b) [.int .i64 comb, q] (comb, acc) := ⟨q, rfl, hq.mono (fun b hb _ => ⟨by omega, fun e => by have := hPv b e; omega⟩)⟩
  have ho8 := h.own.next hZ hc hown hg hat
  have hk8 : ∀ k, k < n + 3 → w8.heap[k]? = W.heap[k]? := fun k hk => (hg.block k (by have := hZ.size; omega) (fun e => by have := (hlt k e.symm).1; omega)).trans (hZ.block k (by omega))
  have hlo := h.lo
  have hcx8 := (hk8 (n + 2) (by omega)).trans h.cx
  have hne : ∀ k, k ≠ n + 2 → (w8.setCell ⟨n + 2, 0, none⟩ v8).heap[k]? = w8.heap[k]? := fun k hk => Below.heap_setCell _ _ _ _ hk
  refine ⟨h.hn, h.lo, h.bw, (CS.grown (h.cs.below hZ) hg (fun r e => by have := (hlt r e).1; omega)).new (by omega) _, ?_, ?_, ?_⟩
  · rw [hne n (by omega), hk8 n (by omega)]; exact h.res
  · simp [World.setCell, Array.getElem?_modify, hcx8]
  · exact ho8.kp (S := fun b => b = n + 2) ((Kp.refl (fun b => b = n + 2) w8).setCell (p := ⟨n + 2, 0, none⟩) (.inl rfl) _) (fun b hb e => by have := (ho8.own.lt b hb).1; omega) (fun b hb _ e => by omega)
end
end Go.Proofs.Ytbjhiimjillleaa
