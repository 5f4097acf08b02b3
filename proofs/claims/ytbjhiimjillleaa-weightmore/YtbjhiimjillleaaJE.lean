/- The verifier's nth. The verifier's Nth. -/
import Derived.Test.YtbjhiimjillleaaJC
import Derived.BigRegion
import Derived.Test.YtbjhiimjillleaaHN
set_option linter.unusedVariables false
set_option linter.unusedSimpArgs false
set_option maxRecDepth 20000
namespace Wn
theorem tokZ_cons (kind k : Int) (t : Tok) (x r : Fs) : tokZ kind (.cons k t x r) = if k = 1 ∧ t.1 = kind then t else (0, [], 0) := by
  unfold tokZ; rw [tokF]
  by_cases hc : k = 1 ∧ t.1 = kind
  · rw [if_pos hc, if_pos hc]
  · rw [if_neg hc, if_neg hc]
theorem len_one {G : Fs} (h : G.len = 1) : ∃ k t x, G = .cons k t x .nil := by
  cases G with
  | nil => simp [Fs.len] at h
  | cons k t x r => cases r with
    | nil => exact ⟨k, t, x, rfl⟩
    | cons => simp [Fs.len] at h
theorem rnth_word {G : Fs} (h1 : G.len = 1) (hz : (tokZ 1 G).1 = 1) : rnth G = nthW (tokZ 1 G).2.1 := by
  obtain ⟨k, t, x, rfl⟩ := len_one h1
  rw [tokZ_cons] at hz ⊢
  split at hz
  · rename_i hc; rw [if_pos hc, rnth, if_pos hc]
  · cases hz
theorem rnth_none5 {G : Fs} (hw : ¬ (G.len = 1 ∧ (tokZ 1 G).1 = 1)) (h5 : (tokZ 5 G).1 = 0) : rnth G = none := by
  cases G with
  | nil => rfl
  | cons k t x r =>
    rw [tokZ_cons] at h5
    have hc : ¬ (k = 1 ∧ t.1 = 5) := by
      intro hc; rw [if_pos hc] at h5; omega
    cases r with
    | nil =>
      rw [rnth, if_neg, if_neg hc]
      intro h1; apply hw; refine ⟨rfl, ?_⟩; rw [tokZ_cons, if_pos h1]; exact h1.2
    | cons k2 t2 x2 r2 => cases r2 with
      | nil => rfl
      | cons k3 t3 x3 r3 => cases r3 with
        | nil => rw [rnth, if_neg]; rintro ⟨⟨a, b, _⟩, _⟩; exact hc ⟨a, b⟩
        | cons => rfl
theorem rnth_one5 {G : Fs} (h1 : G.len = 1) (h5 : (tokZ 5 G).1 = 5) : rnth G = nthOne (tokZ 5 G) := by
  obtain ⟨k, t, x, rfl⟩ := len_one h1
  rw [tokZ_cons] at h5 ⊢
  split at h5
  · rename_i hc; rw [if_pos hc, rnth, if_neg (by omega), if_pos hc]
  · cases h5
theorem rnth_far {G : Fs} (h1 : ¬ G.len = 1) (h3 : ¬ G.len = 3) : rnth G = none := by
  cases G with
  | nil => rfl
  | cons k t x r => cases r with
    | nil => exact absurd rfl h1
    | cons k2 t2 x2 r2 => cases r2 with
      | nil => rfl
      | cons k3 t3 x3 r3 => cases r3 with
        | nil => exact absurd rfl h3
        | cons => rfl
theorem len_three {G : Fs} (h : G.len = 3) : ∃ k t x k2 t2 x2 k3 t3 x3, G = .cons k t x (.cons k2 t2 x2 (.cons k3 t3 x3 .nil)) := by
  cases G with
  | nil => simp [Fs.len] at h
  | cons k t x r => cases r with
    | nil => simp [Fs.len] at h
    | cons k2 t2 x2 r2 => cases r2 with
      | nil => simp [Fs.len] at h
      | cons k3 t3 x3 r3 => cases r3 with
        | nil => exact ⟨_, _, _, _, _, _, _, _, _, rfl⟩
        | cons => simp [Fs.len] at h
theorem rnth_noN {G : Fs} (h3 : G.len = 3) (hn : ¬ (tokZ 5 G).2.1 = [110]) : rnth G = none := by
  obtain ⟨k, t, x, k2, t2, x2, k3, t3, x3, rfl⟩ := len_three h3
  rw [rnth, if_neg]
  rintro ⟨⟨a, b, c⟩, _⟩
  rw [tokZ_cons, if_pos ⟨a, b⟩] at hn
  exact hn c
theorem rnth_noS {G : Fs} (h3 : G.len = 3) (hs : signF [43] (G.drop 1) = none) : rnth G = none := by
  obtain ⟨k, t, x, k2, t2, x2, k3, t3, x3, rfl⟩ := len_three h3
  rw [rnth, if_neg]
  rintro ⟨_, h, _⟩
  rw [show (Fs.cons k t x (.cons k2 t2 x2 (.cons k3 t3 x3 .nil))).drop 1 = .cons k2 t2 x2 (.cons k3 t3 x3 .nil) from rfl, signF, if_pos h] at hs
  cases hs
theorem rnth_yes {G r : Fs} (h3 : G.len = 3) (h5 : (tokZ 5 G).1 = 5) (hn : (tokZ 5 G).2.1 = [110]) (hs : signF [43] (G.drop 1) = some r) : rnth G = if (tokZ 5 (G.drop 2)).1 = 5 ∧ (tokZ 5 (G.drop 2)).2.1 = [] ∧ 0 ≤ (tokZ 5 (G.drop 2)).2.2 then some ((tokZ 5 G).2.2, (tokZ 5 (G.drop 2)).2.2) else none := by
  obtain ⟨k, t, x, k2, t2, x2, k3, t3, x3, rfl⟩ := len_three h3
  rw [show (Fs.cons k t x (.cons k2 t2 x2 (.cons k3 t3 x3 .nil))).drop 1 = .cons k2 t2 x2 (.cons k3 t3 x3 .nil) from rfl, signF] at hs
  have hs' : signV [43] k2 t2 = true := by
    by_cases h : signV [43] k2 t2 = true
    · exact h
    · rw [if_neg h] at hs; cases hs
  rw [show (Fs.cons k t x (.cons k2 t2 x2 (.cons k3 t3 x3 .nil))).drop 2 = .cons k3 t3 x3 .nil from rfl]
  rw [tokZ_cons] at h5 hn
  by_cases hc : k = 1 ∧ t.1 = 5
  · rw [if_pos hc] at h5 hn
    rw [rnth, tokZ_cons 5 k t, if_pos hc, tokZ_cons 5 k3 t3]
    by_cases h3' : k3 = 1 ∧ t3.1 = 5
    · rw [if_pos h3']
      by_cases h0 : t3.2.1 = [] ∧ 0 ≤ t3.2.2
      · rw [if_pos ⟨⟨hc.1, hc.2, hn⟩, hs', h3', h0⟩, if_pos ⟨h3'.2, h0⟩]
      · rw [if_neg (fun h => h0 h.2.2.2), if_neg (fun h => h0 h.2)]
    · rw [if_neg (fun h => h3' h.2.2.1), if_neg h3', if_neg (by rintro ⟨h, _⟩; cases h)]
  · rw [if_neg hc] at h5; cases h5
theorem tokZ_kind (kind : Int) (G : Fs) : (tokZ kind G).1 = kind ∨ tokZ kind G = (0, [], 0) := by
  cases G with
  | nil => right; rfl
  | cons k t x r =>
    rw [tokZ_cons]
    split
    · rename_i h; left; exact h.2
    · right; rfl
theorem nthC_short {x : ByteArray} (h : ¬ 2 < x.size) : nthC x.toList = none := by
  rw [Go.Lib.toList_data]
  have hl : ¬ 2 < x.data.toList.length := by simpa using h
  generalize x.data.toList = y at *
  rcases y with _ | ⟨a, _ | ⟨b, _ | ⟨c, l⟩⟩⟩
  · rfl
  · unfold nthC cutN; (repeat' split) <;> simp_all
  · unfold nthC cutN; (repeat' split) <;> simp_all [num4]
  · simp at hl
theorem ext_list (x : ByteArray) (i j : Nat) : (x.extract i j).data.toList = (x.data.toList.take j).drop i := by
  rw [ByteArray.data_extract, Array.toList_extract, List.extract_eq_take_drop, List.drop_take]
theorem nthC_other {x : ByteArray} (h : ¬ (x.extract 0 2).toList = [110, 45]) : nthC x.toList = none := by
  rw [Go.Lib.toList_data, ext_list] at h
  rw [Go.Lib.toList_data]
  generalize x.data.toList = y at *
  rcases y with _ | ⟨a, _ | ⟨b, l⟩⟩
  · rfl
  · rfl
  · unfold nthC cutN; (repeat' split) <;> simp_all
theorem nthC_cut {x : ByteArray} (h : (x.extract 0 2).toList = [110, 45]) : nthC x.toList = num4 (x.extract 2 x.size).data.toList := by
  rw [Go.Lib.toList_data, ext_list] at h
  rw [Go.Lib.toList_data, ext_list]
  have hs : x.size = x.data.toList.length := rfl
  rw [hs, List.take_length]
  generalize x.data.toList = y at *
  rcases y with _ | ⟨a, _ | ⟨b, l⟩⟩
  · simp at h
  · simp at h
  · have h' : [a, b] = [110, 45] := h
    simp only [List.cons.injEq, and_true] at h'
    unfold nthC cutN
    simp only [h'.1, h'.2, and_self, if_true]
    rfl
end Wn
namespace Go.Proofs.Ytbjhiimjillleaa
open Go.RowKit Go.Sort
theorem R4.made {w : World} {r : Value} {f : Wn.Fs} (h : Vals w r f) (hs : f.size ≤ 100000) : R4 (w.alloc (.cells #[r, .int .i64 0, .bool false] 84)) w.heap.size r f 0 false := by
  have hb : Below w.heap.size w (w.alloc (.cells #[r, .int .i64 0, .bool false] 84)) := (Below.refl _ _).alloc (Nat.le_refl _) _
  refine ⟨by rw [heap_alloc_new]; rfl, ?_, Nat.zero_le _, hs⟩
  exact h.same (fun b _ hl => hb.block b hl) (fun b _ hl => by omega)
def N4Post (g : Wn.Fs) (w : World) (e : Ending) (w' : World) : Prop :=
  ∃ (a b : Int) (ok : Bool), e = .returned (.tuple #[.agg #[.int .i64 a, .int .i64 b], .bool ok]) ∧ (if ok = true then Wn.rnth g = some (a, b) else Wn.rnth g = none) ∧ Below w.heap.size w w'
set_option maxRecDepth 100000 in
set_option maxHeartbeats 2000000 in
theorem r4nth (v : Value) (f : Wn.Fs) (w : World) (hv : Vals w v f) (hs : f.size ≤ 100000) (hs2 : (Wn.trimF f).size ≤ 100000) :
    Calls Try.prog 61 #[v] w (N4Post (Wn.trimF f) w) := by
  have hB0 : Below w.heap.size w (w.alloc (.cells #[.int .i64 0, .int .i64 0] 103)) := (Below.refl _ _).alloc (Nat.le_refl _) _
  have QT := Lib.hid (rTrim_any v f _ (hv.below hB0) hs)
  have hn0 := heap_alloc_new w (.cells #[.int .i64 0, .int .i64 0] 103)
  have HB0 := Lib.hid hB0
  have HN0 := Lib.hid hn0
  have hz0 : (w.alloc (.cells #[.int .i64 0, .int .i64 0] 103)).heap.size = w.heap.size + 1 := by simp
  generalize hg : Wn.trimF f = G at *
  clear hg hv hB0 hn0
  go_enter Try.func61, Try.ntmps61
  go_wp2_with fail
  generalize w.alloc (.cells #[.int .i64 0, .int .i64 0] 103) = W at *
  refine QT.out.mono ?_
  rintro e w1 ⟨r, rfl, hr, b1⟩
  obtain ⟨ao, cap, rfl, hc1, hc2⟩ := hr.form
  have hA := R4.made hr hs2
  have HB1 := Lib.hid (HB0.out.trans (b1.mono HB0.out.size))
  have HN1 := Lib.hid (block_lat b1 HN0.out)
  have hs1 := b1.size
  clear QT hr b1 HB0 HN0
  go_wp2_with fail
  have hnA := heap_alloc_new (w1.alloc (.cells #[.slice ao G.len cap, .int .i64 0, .bool false] 84)) (.cells #[.int .i64 0, .int .i64 0] 103)
  have hbA : Below w1.heap.size w1 ((w1.alloc (.cells #[.slice ao G.len cap, .int .i64 0, .bool false] 84)).alloc (.cells #[.int .i64 0, .int .i64 0] 103)) := ((Below.refl _ _).alloc (Nat.le_refl _) _).alloc (by simp) _
  have hRA := hA.below ((Below.refl _ _).alloc (Nat.le_refl _) (.cells #[.int .i64 0, .int .i64 0] 103))
  have hzA : ((w1.alloc (.cells #[.slice ao G.len cap, .int .i64 0, .bool false] 84)).alloc (.cells #[.int .i64 0, .int .i64 0] 103)).heap.size = w1.heap.size + 2 := by simp
  have hz1 : (w1.alloc (.cells #[.slice ao G.len cap, .int .i64 0, .bool false] 84)).heap.size = w1.heap.size + 1 := by simp
  rw [hz1] at hnA
  clear hA hz1
  generalize (w1.alloc (.cells #[.slice ao G.len cap, .int .i64 0, .bool false] 84)).alloc (.cells #[.int .i64 0, .int .i64 0] 103) = A at *
  have HRA := Lib.hid hRA
  have HBA := Lib.hid (HB1.out.trans (hbA.mono HB1.out.size))
  have HNA := Lib.hid hnA
  have HN2 := Lib.hid (block_lat hbA HN1.out)
  have QK := Lib.hid (r4tok 1 w1.heap.size 0 G false A hRA)
  rw [Wn.Fs.drop_zero, tokV_str] at QK
  clear hRA hbA hnA HB1 HN1
  generalize hZ : Wn.tokZ 1 G = Z at *
  have HZ := Lib.hid hZ
  clear hZ
  refine QK.out.mono ?_
  rintro e w2 ⟨rfl, b2⟩
  have HR2 := Lib.hid (HRA.out.below b2)
  have HB2 := Lib.hid (HBA.out.trans (b2.mono HBA.out.size))
  have HN0 := Lib.hid (block_lat b2 HN2.out)
  have HN5 := Lib.hid (block_lat b2 HNA.out)
  have hs2' := b2.size
  clear QK b2 HRA HBA HNA HN2
  generalize hg : w1.heap.size = g at *
  generalize hx : Wn.str Z.2.1 = zx at *
  generalize hk : Z.1 = zk at *
  generalize hm : Z.2.2 = zn at *
  have HX := Lib.hid hx
  have HK := Lib.hid hk
  clear hx hk hm
  obtain ⟨ao', cap', hb, hcc1, hcc2⟩ := HR2.out.cells
  unfold maxLen at hcc2
  have q0 := cell_of_block (o := 0) hb
  have q1 := cell_of_block (o := 1) hb
  have f1 := frozen_blk hb 1
  have hb0 := HN0.out
  have a0 := cell_of_block (o := 0) hb0
  have a1 := cell_of_block (o := 1) hb0
  have e0 := frozen_blk hb0 0
  have e1 := frozen_blk hb0 1
  have hb5 := HN5.out
  have n0 := cell_of_block (o := 0) hb5
  have n1 := cell_of_block (o := 1) hb5
  simp only [List.getElem?_toArray, List.getElem?_cons_zero, List.getElem?_cons_succ] at q0 q1 a0 a1 n0 n1
  clear hb hb0 hb5 hcc1
  have d1 : g < w2.heap.size := by omega
  have d2 : ¬ g = w2.heap.size := by omega
  have d3 : w.heap.size < w2.heap.size := by omega
  have d4 : ¬ w.heap.size = w2.heap.size := by omega
  have d5 : g + 1 < w2.heap.size := by omega
  have d6 : ¬ g + 1 = w2.heap.size := by omega
  have d7 : ¬ w.heap.size = g := by omega
  have d8 : ¬ w.heap.size = g + 1 := by omega
  have d0 : w.heap.size ≤ g := by omega
  clear hz0 hzA hs1 hs2' hg hc1 hc2
  by_cases hboth : G.len = 1 ∧ zk = 1
  · obtain ⟨hL1, hk1⟩ := hboth
    · have hw := Wn.rnth_word hL1 (by rw [HZ.out, HK.out]; exact hk1)
      rw [HZ.out] at hw
      have hxl := str_list Z.2.1
      rw [HX.out] at hxl
      rw [← hxl, Wn.nthW] at hw
      have HW := Lib.hid hw
      have hLi : (G.len : Int) = 1 := by omega
      subst hk1
      clear hw hxl
      cases c1 : (zx.toList == [111, 100, 100])
      · cases c2 : (zx.toList == [101, 118, 101, 110])
        · cases c3 : (zx.toList == [110])
          · go_wp2_with fail
            refine bodyPost_ret (v := .tuple #[.agg #[.int .i64 0, .int .i64 0], .bool false]) (by simp [results, Try.results61, go_sem, a0, a1, n0, n1, d1, d2, d3, d4, d5, d6, d7, d8]) rfl ⟨0, 0, false, rfl, ?_, (by (repeat (first | with_reducible exact HB2.out | (with_reducible refine Below.drew ?_) | (refine Below.setCell ?_ (by first | (simp; done) | (simp; omega)) _) | (refine Below.alloc ?_ (by first | omega | (simp; omega)) _))))⟩
            rw [if_neg (by decide), HW.out, if_neg (by simpa using c1), if_neg (by simpa using c2), if_neg (by simpa using c3)]
          · go_wp2_with fail
            refine bodyPost_ret (v := .tuple #[.agg #[.int .i64 1, .int .i64 0], .bool true]) (by simp [results, Try.results61, go_sem, a0, a1, n0, n1, d1, d2, d3, d4, d5, d6, d7, d8]) rfl ⟨1, 0, true, rfl, ?_, (by (repeat (first | with_reducible exact HB2.out | (with_reducible refine Below.drew ?_) | (refine Below.setCell ?_ (by first | (simp; done) | (simp; omega)) _) | (refine Below.alloc ?_ (by first | omega | (simp; omega)) _))))⟩
            rw [if_pos rfl, HW.out, if_neg (by simpa using c1), if_neg (by simpa using c2), if_pos (by simpa using c3)]
        · go_wp2_with fail
          refine bodyPost_ret (v := .tuple #[.agg #[.int .i64 2, .int .i64 0], .bool true]) (by simp [results, Try.results61, go_sem, a0, a1, n0, n1, d1, d2, d3, d4, d5, d6, d7, d8]) rfl ⟨2, 0, true, rfl, ?_, (by (repeat (first | with_reducible exact HB2.out | (with_reducible refine Below.drew ?_) | (refine Below.setCell ?_ (by first | (simp; done) | (simp; omega)) _) | (refine Below.alloc ?_ (by first | omega | (simp; omega)) _))))⟩
          rw [if_pos rfl, HW.out, if_neg (by simpa using c1), if_pos (by simpa using c2)]
      · go_wp2_with fail
        refine bodyPost_ret (v := .tuple #[.agg #[.int .i64 2, .int .i64 1], .bool true]) (by simp [results, Try.results61, go_sem, a0, a1, n0, n1, d1, d2, d3, d4, d5, d6, d7, d8]) rfl ⟨2, 1, true, rfl, ?_, (by (repeat (first | with_reducible exact HB2.out | (with_reducible refine Below.drew ?_) | (refine Below.setCell ?_ (by first | (simp; done) | (simp; omega)) _) | (refine Below.alloc ?_ (by first | omega | (simp; omega)) _))))⟩
        rw [if_pos rfl, HW.out, if_pos (by simpa using c1)]
  · have HNO : Hid ((Wn.tokZ 5 G).1 = 0 → Wn.rnth G = none) := Lib.hid (fun h => Wn.rnth_none5 (by rw [HZ.out, HK.out]; exact hboth) h)
    have hcase : ¬ G.len = 1 ∨ (G.len = 1 ∧ ¬ zk = 1) := by omega
    clear hboth
    rcases hcase with hL1 | ⟨hL1, hk1⟩
    all_goals
      (first | (have hLi : (G.len : Int) = 1 := by omega) | (have hLi : ¬ (G.len : Int) = 1 := by omega))
      go_wp2_with fail
      have bB : Below w2.heap.size w2 (w2.alloc (.cells #[.int .i64 zk, .string zx, .int .i64 zn] 75)) := (Below.refl _ _).alloc (Nat.le_refl _) _
      generalize w2.alloc (.cells #[.int .i64 zk, .string zx, .int .i64 zn] 75) = B at *
      have Q5 := Lib.hid (r4tok 5 g 0 G false B (HR2.out.below bB))
      rw [Wn.Fs.drop_zero, tokV_str] at Q5
      have HRB := Lib.hid (HR2.out.below bB)
      have HBB := Lib.hid (HB2.out.trans (bB.mono HB2.out.size))
      have HM0 := Lib.hid (block_lat bB HN0.out)
      have HM5 := Lib.hid (block_lat bB HN5.out)
      have hsB := bB.size
      clear bB HR2 HB2 HN0 HN5 q0 q1 f1 a0 a1 e0 e1 n0 n1 HZ HX HK
      generalize hY : Wn.tokZ 5 G = Y at *
      have HY := Lib.hid hY
      refine Q5.out.mono ?_
      rintro e w3 ⟨rfl, b3⟩
      have HR3 := Lib.hid (HRB.out.below b3)
      have HB2 := Lib.hid (HBB.out.trans (b3.mono HBB.out.size))
      have HN0 := Lib.hid (block_lat b3 HM0.out)
      have HN5 := Lib.hid (block_lat b3 HM5.out)
      have hs3 := b3.size
      clear Q5 b3 HRB HBB HM0 HM5
      obtain ⟨ao3, cap3, hb, hcc1, hcc3⟩ := HR3.out.cells
      unfold maxLen at hcc3
      have q0 := cell_of_block (o := 0) hb
      have q1 := cell_of_block (o := 1) hb
      have f1 := frozen_blk hb 1
      have hb0 := HN0.out
      have a0 := cell_of_block (o := 0) hb0
      have a1 := cell_of_block (o := 1) hb0
      have e0 := frozen_blk hb0 0
      have e1 := frozen_blk hb0 1
      have hb5 := HN5.out
      have n0 := cell_of_block (o := 0) hb5
      have n1 := cell_of_block (o := 1) hb5
      simp only [List.getElem?_toArray, List.getElem?_cons_zero, List.getElem?_cons_succ] at q0 q1 a0 a1 n0 n1
      clear hb hb0 hb5 hcc1
      have d1' : g < w3.heap.size := by omega
      have d2' : ¬ g = w3.heap.size := by omega
      have d3' : w.heap.size < w3.heap.size := by omega
      have d4' : ¬ w.heap.size = w3.heap.size := by omega
      have d5' : g + 1 < w3.heap.size := by omega
      have d6' : ¬ g + 1 = w3.heap.size := by omega
      have d9' : ¬ g = w.heap.size := by omega
      have d10' : ¬ g + 1 = g := by omega
      have d11' : ¬ g + 1 = w.heap.size := by omega
      clear d1 d2 d3 d4 d5 d6 hsB hs3
    · rcases Wn.tokZ_kind 5 G with h5 | h5
      · rw [hY] at h5
        have HY1 : Hid (Y.1 = 5) := Lib.hid h5
        generalize hx : Wn.str Y.2.1 = yx at *
        generalize hm : Y.2.2 = yn at *
        have hxl := str_list Y.2.1
        rw [hx] at hxl
        have HXL := Lib.hid hxl
        have HM := Lib.hid hm
        rw [h5]
        clear hY hx hm hxl h5 HNO
        by_cases h3 : G.len = 3
        · have hLk : (G.len : Int) = 3 := by omega
          cases c2 : (yx.toList == [110])
          · have HNN := Lib.hid (Wn.rnth_noN h3 (by rw [HY.out, ← HXL.out]; simpa using c2))
            go_wp2_with fail
            refine bodyPost_ret (v := .tuple #[.agg #[.int .i64 0, .int .i64 0], .bool false]) (by simp [results, Try.results61, go_sem, a0, a1, n0, n1, d1', d2', d3', d4', d5', d6', d7, d8, d9', d10', d11']) rfl ⟨0, 0, false, rfl, ?_, (by (repeat (first | with_reducible exact HB2.out | (with_reducible refine Below.drew ?_) | (refine Below.setCell ?_ (by first | (simp; done) | (simp; omega)) _) | (refine Below.alloc ?_ (by first | omega | (simp; omega)) _))))⟩
            rw [if_neg (by decide), HNN.out]
          · have HN110 : Hid ((Wn.tokZ 5 G).2.1 = [110]) := Lib.hid (by rw [HY.out, ← HXL.out]; simpa using c2)
            have HL3 := Lib.hid h3
            go_wp2_with fail
            have hbt : Below w3.heap.size w3 (w3.alloc (.cells #[.int .i64 5, .string yx, .int .i64 yn] 75)) := (Below.refl _ _).alloc (Nat.le_refl _) _
            have hbx : ((w3.setCell ⟨g, 1, none⟩ (.int .i64 1)).alloc (.cells #[.int .i64 5, .string yx, .int .i64 yn] 75)).heap[w3.heap.size]? = some (.cells #[.int .i64 5, .string yx, .int .i64 yn] 75) := by
              have := heap_alloc_new (w3.setCell ⟨g, 1, none⟩ (.int .i64 1)) (.cells #[.int .i64 5, .string yx, .int .i64 yn] 75)
              rw [show (w3.setCell ⟨g, 1, none⟩ (.int .i64 1)).heap.size = w3.heap.size by simp [World.setCell]] at this
              exact this
            have hsz : ((w3.setCell ⟨g, 1, none⟩ (.int .i64 1)).alloc (.cells #[.int .i64 5, .string yx, .int .i64 yn] 75)).heap.size = w3.heap.size + 1 := by simp [World.setCell]
            have hr4 : R4 ((w3.setCell ⟨g, 1, none⟩ (.int .i64 1)).alloc (.cells #[.int .i64 5, .string yx, .int .i64 yn] 75)) g (.slice ao G.len cap) G 1 false := (HR3.out.move (j := 1) (by omega) rfl).below ((Below.refl _ _).alloc (Nat.le_refl _) _)
            have ho : Only g w3 ((w3.setCell ⟨g, 1, none⟩ (.int .i64 1)).alloc (.cells #[.int .i64 5, .string yx, .int .i64 yn] 75)) := ((Only.refl g w3).setCell rfl _).alloc _
            have HB3 : Hid (Below w.heap.size w ((w3.setCell ⟨g, 1, none⟩ (.int .i64 1)).alloc (.cells #[.int .i64 5, .string yx, .int .i64 yn] 75))) := Lib.hid ((HB2.out.setCell (p := ⟨g, 1, none⟩) d0 _).alloc (by simp [World.setCell]; omega) _)
            have HN3 := Lib.hid ((ho.block _ (lt_of_block HN0.out) (by omega)).trans HN0.out)
            have HX3 := Lib.hid hbx
            have HN53 := Lib.hid ((ho.block _ (lt_of_block HN5.out) (by omega)).trans HN5.out)
            clear hbt hbx ho q0 q1 f1 a0 a1 e0 e1 n0 n1 HB2 HN0 HN5
            generalize ((w3.setCell ⟨g, 1, none⟩ (.int .i64 1)).alloc (.cells #[.int .i64 5, .string yx, .int .i64 yn] 75)) = C at *
            refine (r4sign [43] g 1 G false C hr4).mono ?_
            rintro e w4 (⟨hs4, hlt4, rfl, hr5, ho4⟩ | ⟨hs4, rfl, hr5, ho4⟩)
            · have HNY := Lib.hid (by have := Wn.rnth_yes HL3.out (by rw [HY.out]; exact HY1.out) HN110.out hs4; rw [HY.out, HM.out] at this; exact this)
              have HB2 := Lib.hid (HB3.out.trans ((Only.kp ho4).below HB3.out.size (by rintro b rfl; exact d0)))
              have hn0 := (ho4.block _ (lt_of_block HN3.out) (by omega)).trans HN3.out
              have hx0 := (ho4.block _ (lt_of_block HX3.out) (by omega)).trans HX3.out
              have hs4' := ho4.size
              have Q5 := Lib.hid (r4tok 5 g 2 G false w4 hr5)
              rw [tokV_str] at Q5
              have HN4 := Lib.hid hn0
              have HX4 := Lib.hid hx0
              clear hn0 hx0 hr5 ho4 hs4 hr4 HB3 HN3 HX3
              generalize hY2 : Wn.tokZ 5 (G.drop 2) = Y2 at *
              go_wp2_with fail
              refine Q5.out.mono ?_
              rintro e w5 ⟨rfl, b5⟩
              have HB5 := Lib.hid (HB2.out.trans (b5.mono HB2.out.size))
              have hn0 := block_lat b5 HN4.out
              have hx0 := block_lat b5 HX4.out
              have hs5 := b5.size
              have hs6 := HB2.out.size
              clear b5 HB2 HN4 HX4 Q5 HXL
              have a0 := cell_of_block (o := 0) hn0
              have a1 := cell_of_block (o := 1) hn0
              have e0 := frozen_blk hn0 0
              have e1 := frozen_blk hn0 1
              have t0 := cell_of_block (o := 0) hx0
              have t1 := cell_of_block (o := 1) hx0
              have t2 := cell_of_block (o := 2) hx0
              simp only [List.getElem?_toArray, List.getElem?_cons_zero, List.getElem?_cons_succ] at a0 a1 t0 t1 t2
              clear hn0 hx0
              generalize hz2 : Wn.str Y2.2.1 = z2 at *
              generalize hk2 : Y2.1 = k2 at *
              generalize hm2 : Y2.2.2 = m2 at *
              have HZ2 := Lib.hid (by have := str_list Y2.2.1; rw [hz2] at this; exact this)
              clear hz2 hk2 hm2 hY2
              have u1 : Below w5.heap.size w5 (w5.alloc (.cells #[.int .i64 k2, .string z2, .int .i64 m2] 75)) := (Below.refl _ _).alloc (Nat.le_refl _) _
              replace a0 := cell_lat u1 a0
              replace a1 := cell_lat u1 a1
              replace t0 := cell_lat u1 t0
              replace t1 := cell_lat u1 t1
              replace t2 := cell_lat u1 t2
              have hn2 := heap_alloc_new w5 (.cells #[.int .i64 k2, .string z2, .int .i64 m2] 75)
              have x0 := cell_of_block (o := 0) hn2
              have x1 := cell_of_block (o := 1) hn2
              have x2 := cell_of_block (o := 2) hn2
              simp only [List.getElem?_toArray, List.getElem?_cons_zero, List.getElem?_cons_succ] at x0 x1 x2
              have hz5 : (w5.alloc (.cells #[.int .i64 k2, .string z2, .int .i64 m2] 75)).heap.size = w5.heap.size + 1 := by simp
              have HB2 := Lib.hid (HB5.out.trans (u1.mono HB5.out.size))
              have E0 : (w5.alloc (.cells #[.int .i64 k2, .string z2, .int .i64 m2] 75)).frozen? ⟨w.heap.size, 0, none⟩ = false := by rw [World.frozen?_of_block (u1.block _ (by show w.heap.size < _; omega))]; exact e0
              have E1 : (w5.alloc (.cells #[.int .i64 k2, .string z2, .int .i64 m2] 75)).frozen? ⟨w.heap.size, 1, none⟩ = false := by rw [World.frozen?_of_block (u1.block _ (by show w.heap.size < _; omega))]; exact e1
              clear hn2 e0 e1 u1 HB5
              have hx1 : w.heap.size < w5.heap.size := by omega
              have hx2 : ¬ w.heap.size = w5.heap.size := by omega
              have hx3 : ¬ w.heap.size = w3.heap.size := by omega
              go_wp2_with fail
              generalize w5.alloc (.cells #[.int .i64 k2, .string z2, .int .i64 m2] 75) = D at *
              by_cases g5 : k2 = 5
              · cases g6 : (z2.toList == [])
                · have HNE : Hid (Wn.rnth G = none) := Lib.hid (by rw [HNY.out, if_neg]; rintro ⟨_, h, _⟩; rw [← HZ2.out] at h; simp [h] at g6)
                  clear HNY HZ2
                  subst g5
                  go_region
                  all_goals go_wp2_with fail
                  all_goals refine bodyPost_ret (v := .tuple #[.agg #[.int .i64 yn, .int .i64 m2], .bool false]) (by simp [results, Try.results61, go_sem, a0, a1, hz5, hx1, hx2, hx3, d9']) rfl ⟨yn, m2, false, rfl, ?_, (by (repeat (first | with_reducible exact HB2.out | (with_reducible refine Below.drew ?_) | (refine Below.setCell ?_ (by first | (simp; done) | (simp; omega)) _) | (refine Below.alloc ?_ (by first | omega | (simp; omega)) _))))⟩
                  all_goals (rw [if_neg (by decide), HNE.out])
                · by_cases g7 : 0 ≤ m2
                  · have HNE : Hid (Wn.rnth G = some (yn, m2)) := Lib.hid (by rw [HNY.out, if_pos]; exact ⟨g5, by rw [← HZ2.out]; simpa using g6, g7⟩)
                    clear HNY HZ2
                    subst g5
                    go_region
                    all_goals go_wp2_with fail
                    all_goals refine bodyPost_ret (v := .tuple #[.agg #[.int .i64 yn, .int .i64 m2], .bool true]) (by simp [results, Try.results61, go_sem, a0, a1, hz5, hx1, hx2, hx3, d9']) rfl ⟨yn, m2, true, rfl, ?_, (by (repeat (first | with_reducible exact HB2.out | (with_reducible refine Below.drew ?_) | (refine Below.setCell ?_ (by first | (simp; done) | (simp; omega)) _) | (refine Below.alloc ?_ (by first | omega | (simp; omega)) _))))⟩
                    all_goals (rw [if_pos rfl, HNE.out])
                  · have HNE : Hid (Wn.rnth G = none) := Lib.hid (by rw [HNY.out, if_neg]; rintro ⟨_, _, h⟩; exact g7 h)
                    have g8 : m2 < 0 := by omega
                    clear HNY HZ2
                    subst g5
                    go_region
                    all_goals go_wp2_with fail
                    all_goals refine bodyPost_ret (v := .tuple #[.agg #[.int .i64 yn, .int .i64 m2], .bool false]) (by simp [results, Try.results61, go_sem, a0, a1, hz5, hx1, hx2, hx3, d9']) rfl ⟨yn, m2, false, rfl, ?_, (by (repeat (first | with_reducible exact HB2.out | (with_reducible refine Below.drew ?_) | (refine Below.setCell ?_ (by first | (simp; done) | (simp; omega)) _) | (refine Below.alloc ?_ (by first | omega | (simp; omega)) _))))⟩
                    all_goals (rw [if_neg (by decide), HNE.out])
              · have HNE : Hid (Wn.rnth G = none) := Lib.hid (by rw [HNY.out, if_neg]; rintro ⟨h, _⟩; exact g5 h)
                have g6 : (k2 == 5) = false := by simpa using g5
                clear HNY HZ2
                go_region
                all_goals go_wp2_with fail
                all_goals refine bodyPost_ret (v := .tuple #[.agg #[.int .i64 yn, .int .i64 m2], .bool false]) (by simp [results, Try.results61, go_sem, a0, a1, hz5, hx1, hx2, hx3, d9']) rfl ⟨yn, m2, false, rfl, ?_, (by (repeat (first | with_reducible exact HB2.out | (with_reducible refine Below.drew ?_) | (refine Below.setCell ?_ (by first | (simp; done) | (simp; omega)) _) | (refine Below.alloc ?_ (by first | omega | (simp; omega)) _))))⟩
                all_goals (rw [if_neg (by decide), HNE.out])
            · have HNE := Lib.hid (Wn.rnth_noS HL3.out hs4)
              have HB2 := Lib.hid (HB3.out.trans ((Only.kp ho4).below HB3.out.size (by rintro b rfl; exact d0)))
              have hn0 := (ho4.block _ (lt_of_block HN3.out) (by omega)).trans HN3.out
              have a0 := cell_of_block (o := 0) hn0
              have a1 := cell_of_block (o := 1) hn0
              have e0 := frozen_blk hn0 0
              have e1 := frozen_blk hn0 1
              simp only [List.getElem?_toArray, List.getElem?_cons_zero, List.getElem?_cons_succ] at a0 a1
              have n5b : w4.heap[g + 1]? = some (.cells #[.int .i64 0, .int .i64 0] 103) := (ho4.block _ (lt_of_block HN53.out) (by omega)).trans HN53.out
              have n0 := cell_of_block (o := 0) n5b
              have n1 := cell_of_block (o := 1) n5b
              simp only [List.getElem?_toArray, List.getElem?_cons_zero, List.getElem?_cons_succ] at n0 n1
              have hs4' := ho4.size
              have p1 : w.heap.size < w4.heap.size := lt_of_block hn0
              clear hn0 n5b hr5 ho4 hs4 hr4 HB3 HN3 HX3
              go_wp2_with fail
              refine bodyPost_ret (v := .tuple #[.agg #[.int .i64 0, .int .i64 0], .bool false]) (by simp [results, Try.results61, go_sem, a0, a1, n0, n1, p1]) rfl ⟨0, 0, false, rfl, ?_, (by (repeat (first | with_reducible exact HB2.out | (with_reducible refine Below.drew ?_) | (refine Below.setCell ?_ (by first | (simp; done) | (simp; omega)) _) | (refine Below.alloc ?_ (by first | omega | (simp; omega)) _))))⟩
              rw [if_neg (by decide), HNE.out]
        · have HNN := Lib.hid (Wn.rnth_far hL1 h3)
          have hLk : ¬ (G.len : Int) = 3 := by omega
          go_wp2_with fail
          refine bodyPost_ret (v := .tuple #[.agg #[.int .i64 0, .int .i64 0], .bool false]) (by simp [results, Try.results61, go_sem, a0, a1, n0, n1, d1', d2', d3', d4', d5', d6', d7, d8, d9', d10', d11']) rfl ⟨0, 0, false, rfl, ?_, (by (repeat (first | with_reducible exact HB2.out | (with_reducible refine Below.drew ?_) | (refine Below.setCell ?_ (by first | (simp; done) | (simp; omega)) _) | (refine Below.alloc ?_ (by first | omega | (simp; omega)) _))))⟩
          rw [if_neg (by decide), HNN.out]
      · have HNN := Lib.hid (HNO.out (by rw [← hY, h5]))
        rw [hY] at h5
        subst h5
        clear hY
        go_wp2_with fail
        refine bodyPost_ret (v := .tuple #[.agg #[.int .i64 0, .int .i64 0], .bool false]) (by simp [results, Try.results61, go_sem, a0, a1, n0, n1, d1', d2', d3', d4', d5', d6', d7, d8, d9', d10', d11']) rfl ⟨0, 0, false, rfl, ?_, (by (repeat (first | with_reducible exact HB2.out | (with_reducible refine Below.drew ?_) | (refine Below.setCell ?_ (by first | (simp; done) | (simp; omega)) _) | (refine Below.alloc ?_ (by first | omega | (simp; omega)) _))))⟩
        rw [if_neg (by decide), HNN.out]
    · rcases Wn.tokZ_kind 5 G with h5 | h5
      · rw [hY] at h5
        have HY1 : Hid (Y.1 = 5) := Lib.hid h5
        generalize hx : Wn.str Y.2.1 = yx at *
        generalize hm : Y.2.2 = yn at *
        have hxl := str_list Y.2.1
        rw [hx] at hxl
        have HXL := Lib.hid hxl
        have HM := Lib.hid hm
        rw [h5]
        clear hY hx hm hxl h5 HNO
        have hw := Wn.rnth_one5 hL1 (by rw [HY.out]; exact HY1.out)
        rw [HY.out, Wn.nthOne, ← HXL.out, HM.out] at hw
        have HW := Lib.hid hw
        have hLj : (G.len : Int) = 1 := by omega
        clear hw
        cases c1 : (yx.toList == [])
        · cases c2 : (yx.toList == [110])
          · have hLz : ¬ (G.len : Int) = 3 := by omega
            by_cases hl3 : 2 < yx.size
            · have hl3' : (2 : Int) < (yx.size : Int) := by omega
              cases c4 : ((yx.extract 0 2).toList == [110, 45])
              · have HNC := Lib.hid (Wn.nthC_other (x := yx) (by simpa using c4))
                go_wp2_with fail
                refine bodyPost_ret (v := .tuple #[.agg #[.int .i64 0, .int .i64 0], .bool false]) (by simp [results, Try.results61, go_sem, a0, a1, n0, n1, d1', d2', d3', d4', d5', d6', d7, d8, d9', d10', d11']) rfl ⟨0, 0, false, rfl, ?_, (by (repeat (first | with_reducible exact HB2.out | (with_reducible refine Below.drew ?_) | (refine Below.setCell ?_ (by first | (simp; done) | (simp; omega)) _) | (refine Below.alloc ?_ (by first | omega | (simp; omega)) _))))⟩
                rw [if_neg (by decide), HW.out, if_neg (by simpa using c1), if_neg (by simpa using c2), HNC.out]; rfl
              · have HNC := Lib.hid (Wn.nthC_cut (x := yx) (by simpa using c4))
                have QD := Lib.hid (fun (v : World) => rdigits_x (yx.extract 2 yx.size) v)
                go_wp2_with fail
                refine (QD.out _).mono ?_
                rintro e w4 ⟨rfl, rfl, hn4⟩
                generalize hdz : (yx.extract 2 yx.size).data.toList = D at *
                clear hdz
                rcases hn4 with ⟨n, hn, hn0, hn9⟩ | hn
                · have HE := Lib.hid hn
                  have QE : Hid (∀ v : World, Calls Try.prog 63 #[.string (yx.extract 2 yx.size)] v fun e w' => e = .returned (.int .i64 n) ∧ w' = v) := Lib.hid (fun v => (QD.out v).mono (by rintro e w' ⟨rfl, rfl, _⟩; exact ⟨by rw [Wn.num4Z_some HE.out], rfl⟩))
                  rw [Wn.num4Z_some hn]
                  clear QD hn
                  have hng : IntKind.i64.wrap (-n) = -n := IntWalk.i64_in _ (by omega)
                  go_wp2_with fail
                  go_region_with (first | (go_at_call 63; (refine (QE.out _).mono ?_); rintro e w4 ⟨rfl, rfl⟩))
                  all_goals go_wp2_with fail
                  all_goals refine bodyPost_ret (v := .tuple #[.agg #[.int .i64 yn, .int .i64 (-n)], .bool true]) (by simp [results, Try.results61, go_sem, a0, a1, n0, n1, d1', d2', d3', d4', d5', d6', d7, d8, d9', d10', d11']) rfl ⟨yn, -n, true, rfl, ?_, (by (repeat (first | with_reducible exact HB2.out | (with_reducible refine Below.drew ?_) | (refine Below.setCell ?_ (by first | (simp; done) | (simp; omega)) _) | (refine Below.alloc ?_ (by first | omega | (simp; omega)) _))))⟩
                  all_goals (rw [if_pos rfl, HW.out, if_neg (by simpa using c1), if_neg (by simpa using c2), HNC.out, HE.out]; rfl)
                · have HE := Lib.hid hn
                  rw [Wn.num4Z_none hn]
                  clear QD hn
                  go_wp2_with fail
                  refine bodyPost_ret (v := .tuple #[.agg #[.int .i64 0, .int .i64 0], .bool false]) (by simp [results, Try.results61, go_sem, a0, a1, n0, n1, d1', d2', d3', d4', d5', d6', d7, d8, d9', d10', d11']) rfl ⟨0, 0, false, rfl, ?_, (by (repeat (first | with_reducible exact HB2.out | (with_reducible refine Below.drew ?_) | (refine Below.setCell ?_ (by first | (simp; done) | (simp; omega)) _) | (refine Below.alloc ?_ (by first | omega | (simp; omega)) _))))⟩
                  rw [if_neg (by decide), HW.out, if_neg (by simpa using c1), if_neg (by simpa using c2), HNC.out, HE.out]; rfl
            · have hl3' : ¬ (2 : Int) < (yx.size : Int) := by omega
              have HNC := Lib.hid (Wn.nthC_short hl3)
              go_wp2_with fail
              refine bodyPost_ret (v := .tuple #[.agg #[.int .i64 0, .int .i64 0], .bool false]) (by simp [results, Try.results61, go_sem, a0, a1, n0, n1, d1', d2', d3', d4', d5', d6', d7, d8, d9', d10', d11']) rfl ⟨0, 0, false, rfl, ?_, (by (repeat (first | with_reducible exact HB2.out | (with_reducible refine Below.drew ?_) | (refine Below.setCell ?_ (by first | (simp; done) | (simp; omega)) _) | (refine Below.alloc ?_ (by first | omega | (simp; omega)) _))))⟩
              rw [if_neg (by decide), HW.out, if_neg (by simpa using c1), if_neg (by simpa using c2), HNC.out]; rfl
          · go_wp2_with fail
            refine bodyPost_ret (v := .tuple #[.agg #[.int .i64 yn, .int .i64 0], .bool true]) (by simp [results, Try.results61, go_sem, a0, a1, n0, n1, d1', d2', d3', d4', d5', d6', d7, d8, d9', d10', d11']) rfl ⟨yn, 0, true, rfl, ?_, (by (repeat (first | with_reducible exact HB2.out | (with_reducible refine Below.drew ?_) | (refine Below.setCell ?_ (by first | (simp; done) | (simp; omega)) _) | (refine Below.alloc ?_ (by first | omega | (simp; omega)) _))))⟩
            rw [if_pos rfl, HW.out, if_neg (by simpa using c1), if_pos (by simpa using c2)]
        · go_wp2_with fail
          refine bodyPost_ret (v := .tuple #[.agg #[.int .i64 0, .int .i64 yn], .bool true]) (by simp [results, Try.results61, go_sem, a0, a1, n0, n1, d1', d2', d3', d4', d5', d6', d7, d8, d9', d10', d11']) rfl ⟨0, yn, true, rfl, ?_, (by (repeat (first | with_reducible exact HB2.out | (with_reducible refine Below.drew ?_) | (refine Below.setCell ?_ (by first | (simp; done) | (simp; omega)) _) | (refine Below.alloc ?_ (by first | omega | (simp; omega)) _))))⟩
          rw [if_pos rfl, HW.out, if_pos (by simpa using c1)]
      · have HNN := Lib.hid (HNO.out (by rw [← hY, h5]))
        rw [hY] at h5
        subst h5
        clear hY
        go_wp2_with fail
        refine bodyPost_ret (v := .tuple #[.agg #[.int .i64 0, .int .i64 0], .bool false]) (by simp [results, Try.results61, go_sem, a0, a1, n0, n1, d1', d2', d3', d4', d5', d6', d7, d8, d9', d10', d11']) rfl ⟨0, 0, false, rfl, ?_, (by (repeat (first | with_reducible exact HB2.out | (with_reducible refine Below.drew ?_) | (refine Below.setCell ?_ (by first | (simp; done) | (simp; omega)) _) | (refine Below.alloc ?_ (by first | omega | (simp; omega)) _))))⟩
        rw [if_neg (by decide), HNN.out]
end Go.Proofs.Ytbjhiimjillleaa
set_option linter.unusedVariables false
set_option linter.unusedSimpArgs false
set_option maxRecDepth 20000
namespace Go.Proofs.Ytbjhiimjillleaa
open Go.RowKit Go.Sort
/-- what Nth answers -/
def N4P (f : Wn.Fs) (w : World) (e : Ending) (w' : World) : Prop :=
  ∃ a b c : Int, e = .returned (.tuple #[.int .i64 a, .int .i64 b, .int .i64 c]) ∧ (c = 0 ∧ Wn.nthF f = some (a, b) ∨ c = 40 ∧ Wn.nthF f = none) ∧ Below w.heap.size w w'
set_option maxRecDepth 100000 in
set_option maxHeartbeats 1000000 in
theorem rNth_v (v : Value) (f : Wn.Fs) (w : World) (hv : Vals w v f) (hs : f.size ≤ 100000) (hs2 : (Wn.trimF f).size ≤ 100000) :
    Calls Try.prog 59 #[v] w (N4P f w) := by
  have QN := Lib.hid (r4nth v f w hv hs hs2)
  have HE := Lib.hid (Wn.nthF_rnth f)
  obtain ⟨vo, vc, rfl, _, _⟩ := hv.form
  clear hv
  go_enter Try.func59, Try.ntmps59
  go_wp2_with fail
  refine QN.out.mono ?_
  rintro e w1 ⟨a, b, ok, rfl, hr, b1⟩
  have QA := Lib.hid (fun V => rFew_v a V)
  have QB := Lib.hid (fun V => rFew_v b V)
  have HB1 := Lib.hid b1
  clear QN b1
  cases ok
  · rw [if_neg (by decide)] at hr
    have HN : Hid (Wn.nthF f = none) := Lib.hid (by rw [HE.out, hr])
    clear HE hr
    go_wp2_with fail
    go_ret3
    exact ⟨0, 0, 40, rfl, .inr ⟨rfl, HN.out⟩, HB1.out.alloc (by have := HB1.out.size; omega) _⟩
  · rw [if_pos rfl] at hr
    have HN : Hid (Wn.nthF f = if Wn.few a && Wn.few b then some (a, b) else none) := Lib.hid (by rw [HE.out, hr])
    clear HE hr
    have HB2 : Hid (Below w.heap.size w (w1.alloc (.cells #[.int .i64 a, .int .i64 b] 103))) := Lib.hid (HB1.out.alloc (by have := HB1.out.size; omega) _)
    generalize Wn.few a = fa at *
    generalize Wn.few b = fb at *
    go_wp2_with fail
    refine (QA.out _).mono ?_
    rintro e w2 ⟨rfl, rfl⟩
    cases fa
    · go_wp2_with fail
      go_ret3
      exact ⟨0, 0, 40, rfl, .inr ⟨rfl, HN.out⟩, HB2.out⟩
    · go_wp2_with fail
      refine (QB.out _).mono ?_
      rintro e w2 ⟨rfl, rfl⟩
      cases fb
      · go_wp2_with fail
        go_ret3
        exact ⟨0, 0, 40, rfl, .inr ⟨rfl, HN.out⟩, HB2.out⟩
      · go_wp2_with fail
        go_region
        all_goals go_wp2_with fail
        all_goals go_ret3
        all_goals exact ⟨a, b, 0, rfl, .inl ⟨rfl, HN.out⟩, HB2.out.drew⟩
end Go.Proofs.Ytbjhiimjillleaa
