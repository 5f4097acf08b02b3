/- SplitTrims: whatever the values, the law answers true, and nothing that was there has turned. -/
import Derived.Test.YtjmocdoimiomdaaDoorGZ
import Derived.Test.YtjmocdoimiomdaaDoorGY
import Derived.Test.YtjmocdoimiomdaaDoorGS
import Derived.Test.YtjmocdoimiomdaaDoorSplQM
import Derived.Deep.RegionHeld3
set_option linter.unusedVariables false
set_option linter.unusedSimpArgs false
set_option maxRecDepth 20000
namespace Go.Proofs.YtjmocdoimiomdaaDoor
open Go.RowKit Go.Sort
theorem nilV (W : World) (ok : Nat → Prop) : ValsP W ok (.slice Option.none 0 0) .nil := ⟨Option.none, 0, rfl, Nat.zero_le _, by unfold maxLen; omega, fun _ => rfl, fun h => absurd rfl h⟩
set_option maxRecDepth 100000 in
set_option maxHeartbeats 2000000 in
theorem strims_any (v : Value) (f : Wn.Fs) (w : World) (ht : Tab w) (hv : Vals w v f) :
    Calls Tryd.prog 7 #[v] w fun e w' => e = .returned (.bool true) ∧ Below w.heap.size w w' := by
  have HT := Lib.hid ht; clear ht
  have HV := Lib.hid hv
  obtain ⟨vo, vc, rfl, hvc1, hvc2⟩ := hv.form
  clear hv
  unfold maxLen at hvc2
  go_enter Tryd.func7, Tryd.ntmps7
  go_wp2_with fail
  refine (sfixed_any _ HT.out).mono ?_
  rintro e w1 ⟨rfl, b1⟩
  have HB1 := Lib.hid b1; clear b1
  go_wp2_with fail
  refine (rSmall_any _ f 200 _ (HV.out.below HB1.out) (by omega) (by omega)).mono ?_
  rintro e w' ⟨c1, rfl, hc1, rfl⟩
  have HC1 := Lib.hid hc1; clear hc1
  cases c1
  · skip
    go_wp2_with fail
    refine (sfixed_any _ (HT.out.below HB1.out)).mono ?_
    rintro e w9 ⟨rfl, b9⟩
    have HB9 := Lib.hid (HB1.out.trans (b9.mono HB1.out.size)); clear b9
    go_wp2_with fail
    go_ret
    exact ⟨rfl, HB9.out⟩
  · obtain ⟨hsa, _⟩ := HC1.out (by simp)
    have QT := Lib.hid (fun w hv => Trim_any (.slice vo f.len vc) f w hv (by omega))
    have hts := Wn.trim_size f
    have htl := Wn.trim_len f
    have hms : (Wn.moreF f).size ≤ 1000 := by simp only [Wn.moreF, Wn.blankVal, Wn.Fs.size, Wn.Fs.size_app]; omega
    have QTT : Hid (∀ {v : Value} w, Vals w v (Wn.trimF f) → Calls Tryd.prog 27 #[v] w fun e w' => ∃ r, e = .returned r ∧ ValsP w' (fun b => w.heap.size ≤ b) r (Wn.trimF f) ∧ Below w.heap.size w w') := Lib.hid (fun w hv => by have := Trim_any _ (Wn.trimF f) w hv (by omega); rw [Wn.trim_idem] at this; exact this)
    have QTM : Hid (∀ (v : Value) w, Vals w v (Wn.moreF f) → Calls Tryd.prog 27 #[v] w fun e w' => ∃ r, e = .returned r ∧ ValsP w' (fun b => w.heap.size ≤ b) r (Wn.trimF f) ∧ Below w.heap.size w w') := Lib.hid (fun v w hv => by have := Trim_any v (Wn.moreF f) w hv (by omega); rw [Wn.trim_more] at this; exact this)
    have QW1 : Hid (∀ (v : Value) w, Vals w v (Wn.moreF f) → Calls Tryd.prog 24 #[v] w fun e w' => ∃ r, e = .returned r ∧ ListP w' (fun b => w.heap.size ≤ b) r (words f) ∧ Below w.heap.size w w') := Lib.hid (fun v w hv => by have := Words_list v (Wn.moreF f) w hv (by omega); rw [words_more] at this; exact this)
    have QW2 := Lib.hid (fun w hv => Words_list (.slice vo f.len vc) f w hv (by omega))
    clear HC1
    go_wp2_with fail
    have hb2 : Below w1.heap.size w1 (w1.alloc (.cells #[.int .i64 1, .int .i64 8, .string ⟨#[10]⟩, .int .i64 0, .slice none 0 0] 39)) := (Below.refl _ _).alloc (Nat.le_refl _) _
    have blk := heap_alloc_new w1 (.cells #[.int .i64 1, .int .i64 8, .string ⟨#[10]⟩, .int .i64 0, .slice none 0 0] 39)
    have HB2 := Lib.hid (HB1.out.trans (hb2.mono HB1.out.size))
    clear hb2
    generalize w1.alloc (.cells #[.int .i64 1, .int .i64 8, .string ⟨#[10]⟩, .int .i64 0, .slice none 0 0] 39) = W1 at *
    generalize w1.heap.size = n1 at *
    clear HB1
    refine (QT.out _ (HV.out.below HB2.out)).mono ?_
    rintro e w2 ⟨r2, rfl, hv2, b2⟩
    have HB3 := Lib.hid (HB2.out.trans (b2.mono HB2.out.size))
    have HT2 := Lib.hid hv2.any
    have blk2 := block_lat b2 blk
    have hn1 : n1 < w2.heap.size := (Array.getElem?_eq_some_iff.1 blk2).1
    obtain ⟨to, tc, rfl, _, _⟩ := hv2.form
    clear b2 hv2 HB2 QT blk
    go_wp2_with fail
    have k0 := cell_of_block (o := 0) blk2
    have k1 := cell_of_block (o := 1) blk2
    have k2 := cell_of_block (o := 2) blk2
    have k3 := cell_of_block (o := 3) blk2
    have k4 := cell_of_block (o := 4) blk2
    simp only [List.getElem?_toArray, List.getElem?_cons_zero, List.getElem?_cons_succ] at k0 k1 k2 k3 k4
    obtain ⟨es, hs1, hs2⟩ := (HV.out.below HB3.out).old.vsrc
    have hel := hs2.len
    have hfl := Wn.Fs.len_le_size f
    have HVS := Lib.hid (And.intro hs1 hs2)
    have hlen1 : [bE].length + es.length ≤ 1048576 := by simp; omega
    have hlen2 : ([bE] ++ es).length + [bE, bE].length ≤ 1048576 := by simp; omega
    clear hs1 hs2
    go_region_held3 (fun w' => w'.cell? ⟨n1, 0, none⟩ = some (.int .i64 1) ∧ w'.cell? ⟨n1, 0 + 1, none⟩ = some (.int .i64 8) ∧ w'.cell? ⟨n1, 0 + 2, none⟩ = some (.string ⟨#[10]⟩) ∧ w'.cell? ⟨n1, 0 + 3, none⟩ = some (.int .i64 0) ∧ w'.cell? ⟨n1, 0 + 4, none⟩ = some (.slice none 0 0)) (first | go_keep | exact ⟨by assumption, by assumption, by assumption, by assumption, by assumption⟩)
      (first
        | (refine step_append_v (by rfl) _ _ (by rfl) w2.heap.size (.slice (some ⟨w2.heap.size, 0, none⟩) 1 1) (.slice vo f.len vc) [bE] es (by rfl) (by rfl) (by (repeat' (first | with_reducible exact made1 _ _ _ (by first | rfl | simp) (by first | with_reducible exact Nat.le_refl _ | simp) | (with_reducible refine World.ownsRow.drew ?_) | (with_reducible refine World.ownsRow.alloc ?_ _))); (first | done | fail)) (HVS.out.1.later (Nat.le_refl _) (by (repeat' (first | with_reducible exact Below.refl _ _ | (with_reducible refine Below.drew ?_) | (with_reducible refine Below.alloc ?_ ?_ _) | (simp; done) | (simp; omega))); (first | done | fail))) hlen1 ((by (repeat' (first | with_reducible exact Below.refl _ _ | (with_reducible refine Below.drew ?_) | (with_reducible refine Below.alloc ?_ ?_ _) | (simp; done) | (simp; omega))); (first | done | fail)) : Below w2.heap.size w2 _).size ?_; intro v5 w5 hown5 hgr5; (have HB5 : Hid (Below w2.heap.size w2 w5) := Lib.hid (Below.grown ((by (repeat' (first | with_reducible exact Below.refl _ _ | (with_reducible refine Below.drew ?_) | (with_reducible refine Below.alloc ?_ ?_ _) | (simp; done) | (simp; omega))); (first | done | fail)) : Below w2.heap.size w2 _) hgr5 ((by (repeat' (first | with_reducible exact Below.refl _ _ | (with_reducible refine Below.drew ?_) | (with_reducible refine Below.alloc ?_ ?_ _) | (simp; done) | (simp; omega))); (first | done | fail)) : Below w2.heap.size w2 _).size (fun k hk => by simp [Value.ownBlock] at hk; omega))); (have HO5 := Lib.hid hown5); have c0_5 := cell_late HB5.out k0; have c1_5 := cell_late HB5.out k1; have c2_5 := cell_late HB5.out k2; have c3_5 := cell_late HB5.out k3; have c4_5 := cell_late HB5.out k4; (have HP5 := Lib.hid (VSrc.far (w' := w5) (g := w2.heap.size + 1) (o := 0) (n := 2) (cap := 2) (es := [bE, bE]) (by (repeat' (first | with_reducible exact made2 _ _ (by first | rfl | simp) | (with_reducible refine VSrc.drew ?_) | (with_reducible refine VSrc.alloc ?_ _))); (first | done | fail)) hgr5 (by simp [Value.ownBlock]))); clear hown5 hgr5)
        | (refine step_append_v (by rfl) _ _ (by rfl) w2.heap.size (.slice (some ⟨w2.heap.size + 1, 0, none⟩) 1 1) (.slice vo f.len vc) [bE] es (by rfl) (by rfl) (by (repeat' (first | with_reducible exact made1 _ _ _ (by first | rfl | simp) (by first | with_reducible exact Nat.le_refl _ | simp) | (with_reducible refine World.ownsRow.drew ?_) | (with_reducible refine World.ownsRow.alloc ?_ _))); (first | done | fail)) (HVS.out.1.later (Nat.le_refl _) (by (repeat' (first | with_reducible exact Below.refl _ _ | (with_reducible refine Below.drew ?_) | (with_reducible refine Below.alloc ?_ ?_ _) | (simp; done) | (simp; omega))); (first | done | fail))) hlen1 ((by (repeat' (first | with_reducible exact Below.refl _ _ | (with_reducible refine Below.drew ?_) | (with_reducible refine Below.alloc ?_ ?_ _) | (simp; done) | (simp; omega))); (first | done | fail)) : Below w2.heap.size w2 _).size ?_; intro v5 w5 hown5 hgr5; (have HB5 : Hid (Below w2.heap.size w2 w5) := Lib.hid (Below.grown ((by (repeat' (first | with_reducible exact Below.refl _ _ | (with_reducible refine Below.drew ?_) | (with_reducible refine Below.alloc ?_ ?_ _) | (simp; done) | (simp; omega))); (first | done | fail)) : Below w2.heap.size w2 _) hgr5 ((by (repeat' (first | with_reducible exact Below.refl _ _ | (with_reducible refine Below.drew ?_) | (with_reducible refine Below.alloc ?_ ?_ _) | (simp; done) | (simp; omega))); (first | done | fail)) : Below w2.heap.size w2 _).size (fun k hk => by simp [Value.ownBlock] at hk; omega))); (have HO5 := Lib.hid hown5); have c0_5 := cell_late HB5.out k0; have c1_5 := cell_late HB5.out k1; have c2_5 := cell_late HB5.out k2; have c3_5 := cell_late HB5.out k3; have c4_5 := cell_late HB5.out k4; (have HP5 := Lib.hid (VSrc.far (w' := w5) (g := w2.heap.size) (o := 0) (n := 2) (cap := 2) (es := [bE, bE]) (by (repeat' (first | with_reducible exact made2 _ _ (by first | rfl | simp) | (with_reducible refine VSrc.drew ?_) | (with_reducible refine VSrc.alloc ?_ _))); (first | done | fail)) hgr5 (by simp [Value.ownBlock]))); clear hown5 hgr5)
        | (refine step_append_v (by rfl) _ _ (by rfl) w2.heap.size (.slice (some ⟨w2.heap.size, 0, none⟩) 1 1) (.slice vo f.len vc) [bE] es (by rfl) (by rfl) (by (repeat' (first | with_reducible exact made1 _ _ _ (by first | rfl | simp) (by first | with_reducible exact Nat.le_refl _ | simp) | (with_reducible refine World.ownsRow.drew ?_) | (with_reducible refine World.ownsRow.alloc ?_ _))); (first | done | fail)) (HVS.out.1.later (Nat.le_refl _) (by (repeat' (first | with_reducible exact Below.refl _ _ | (with_reducible refine Below.drew ?_) | (with_reducible refine Below.alloc ?_ ?_ _) | (simp; done) | (simp; omega))); (first | done | fail))) hlen1 ((by (repeat' (first | with_reducible exact Below.refl _ _ | (with_reducible refine Below.drew ?_) | (with_reducible refine Below.alloc ?_ ?_ _) | (simp; done) | (simp; omega))); (first | done | fail)) : Below w2.heap.size w2 _).size ?_; intro v5 w5 hown5 hgr5; (have HB5 : Hid (Below w2.heap.size w2 w5) := Lib.hid (Below.grown ((by (repeat' (first | with_reducible exact Below.refl _ _ | (with_reducible refine Below.drew ?_) | (with_reducible refine Below.alloc ?_ ?_ _) | (simp; done) | (simp; omega))); (first | done | fail)) : Below w2.heap.size w2 _) hgr5 ((by (repeat' (first | with_reducible exact Below.refl _ _ | (with_reducible refine Below.drew ?_) | (with_reducible refine Below.alloc ?_ ?_ _) | (simp; done) | (simp; omega))); (first | done | fail)) : Below w2.heap.size w2 _).size (fun k hk => by simp [Value.ownBlock] at hk; omega))); (have HO5 := Lib.hid hown5); have c0_5 := cell_late HB5.out k0; have c1_5 := cell_late HB5.out k1; have c2_5 := cell_late HB5.out k2; have c3_5 := cell_late HB5.out k3; have c4_5 := cell_late HB5.out k4;  clear hown5 hgr5)
        | (refine step_append_v (by rfl) _ _ (by rfl) w2.heap.size v5 (.slice (some ⟨w2.heap.size + 1, 0, none⟩) 2 2) ([bE] ++ es) [bE, bE] (by rfl) (by rfl) (by (repeat' (first | with_reducible exact HO5.out | (with_reducible refine World.ownsRow.drew ?_) | (with_reducible refine World.ownsRow.alloc ?_ _))); (first | done | fail)) (by (repeat' (first | with_reducible exact HP5.out | (with_reducible refine VSrc.drew ?_) | (with_reducible refine VSrc.alloc ?_ _))); (first | done | fail)) hlen2 (by have := HB5.out.size; first | exact this | (simp; omega)) ?_; intro v7 w7 hown7 hgr7; (have HB7 : Hid (Below w2.heap.size w2 w7) := Lib.hid (Below.grown (by (repeat' (first | with_reducible exact HB5.out | (with_reducible refine Below.drew ?_) | (with_reducible refine Below.alloc ?_ ?_ _) | (have := HB5.out.size; simp; omega))); (first | done | fail)) hgr7 (by have := HB5.out.size; first | exact this | (simp; omega)) (fun k hk => (HO5.out.lt k hk).1))); (have HO7 := Lib.hid hown7); have c0_7 := cell_late HB7.out k0; have c1_7 := cell_late HB7.out k1; have c2_7 := cell_late HB7.out k2; have c3_7 := cell_late HB7.out k3; have c4_7 := cell_late HB7.out k4; clear hown7 hgr7)
        | (refine step_append_v (by rfl) _ _ (by rfl) w2.heap.size v5 (.slice (some ⟨w2.heap.size, 0, none⟩) 2 2) ([bE] ++ es) [bE, bE] (by rfl) (by rfl) (by (repeat' (first | with_reducible exact HO5.out | (with_reducible refine World.ownsRow.drew ?_) | (with_reducible refine World.ownsRow.alloc ?_ _))); (first | done | fail)) (by (repeat' (first | with_reducible exact HP5.out | (with_reducible refine VSrc.drew ?_) | (with_reducible refine VSrc.alloc ?_ _))); (first | done | fail)) hlen2 (by have := HB5.out.size; first | exact this | (simp; omega)) ?_; intro v7 w7 hown7 hgr7; (have HB7 : Hid (Below w2.heap.size w2 w7) := Lib.hid (Below.grown (by (repeat' (first | with_reducible exact HB5.out | (with_reducible refine Below.drew ?_) | (with_reducible refine Below.alloc ?_ ?_ _) | (have := HB5.out.size; simp; omega))); (first | done | fail)) hgr7 (by have := HB5.out.size; first | exact this | (simp; omega)) (fun k hk => (HO5.out.lt k hk).1))); (have HO7 := Lib.hid hown7); have c0_7 := cell_late HB7.out k0; have c1_7 := cell_late HB7.out k1; have c2_7 := cell_late HB7.out k2; have c3_7 := cell_late HB7.out k3; have c4_7 := cell_late HB7.out k4; clear hown7 hgr7)
        | (refine step_append_v (by rfl) _ _ (by rfl) w2.heap.size v5 (.slice (some ⟨w5.heap.size, 0, none⟩) 2 2) ([bE] ++ es) [bE, bE] (by rfl) (by rfl) (by (repeat' (first | with_reducible exact HO5.out | (with_reducible refine World.ownsRow.drew ?_) | (with_reducible refine World.ownsRow.alloc ?_ _))); (first | done | fail)) (by (repeat' (first | with_reducible exact made2 _ _ (by first | rfl | simp) | (with_reducible refine VSrc.drew ?_) | (with_reducible refine VSrc.alloc ?_ _))); (first | done | fail)) hlen2 (by have := HB5.out.size; first | exact this | (simp; omega)) ?_; intro v7 w7 hown7 hgr7; (have HB7 : Hid (Below w2.heap.size w2 w7) := Lib.hid (Below.grown (by (repeat' (first | with_reducible exact HB5.out | (with_reducible refine Below.drew ?_) | (with_reducible refine Below.alloc ?_ ?_ _) | (have := HB5.out.size; simp; omega))); (first | done | fail)) hgr7 (by have := HB5.out.size; first | exact this | (simp; omega)) (fun k hk => (HO5.out.lt k hk).1))); (have HO7 := Lib.hid hown7); have c0_7 := cell_late HB7.out k0; have c1_7 := cell_late HB7.out k1; have c2_7 := cell_late HB7.out k2; have c3_7 := cell_late HB7.out k3; have c4_7 := cell_late HB7.out k4; clear hown7 hgr7))
    · skip
      have hm : Vals w7 v7 (Wn.moreF f) := ValsP.ofRow HO7.out (show Row w7 _ (([bE] ++ es) ++ [bE, bE]) ((((Wn.Fs.cons 1 (8, [10], 0) .nil .nil).app f)).app (.cons 1 (8, [10], 0) .nil (.cons 1 (8, [10], 0) .nil .nil))) from Row.app (Row.app ⟨rfl, rfl, nilV _ _, trivial⟩ (HVS.out.2.same (fun b hb _ => HB7.out.block b hb) (fun _ _ _ => trivial))) ⟨rfl, rfl, nilV _ _, rfl, rfl, nilV _ _, trivial⟩) (fun _ _ => trivial)
      have HM7 := Lib.hid hm
      have HC7 := Lib.hid (HB3.out.trans (HB7.out.mono HB3.out.size))
      have HT7 := Lib.hid (HT2.out.below HB7.out)
      clear hm HO7 HB7 HVS HB3 HT2 c0_7 c1_7 c2_7 c3_7 c4_7
      try clear HP5
      clear HO5 HB5 c0_5 c1_5 c2_5 c3_5 c4_5 k0 k1 k2 k3 k4
      go_wp2_with fail
      refine (QTT.out _ HT7.out).mono ?_
      rintro e w8 ⟨r8, rfl, hv8, b8⟩
      have HC8 := Lib.hid (HC7.out.trans (b8.mono HC7.out.size))
      have HT8 := Lib.hid (HT7.out.below b8)
      have HM8 := Lib.hid (HM7.out.below b8)
      have HR8 := Lib.hid hv8.any
      clear b8 hv8 HC7 HT7 HM7 QTT
      go_wp2_with fail
      refine (rSameF _ _ (Wn.trimF f) (Wn.trimF f) _ HR8.out HT8.out).mono ?_
      rintro e w9 ⟨rfl, b9⟩
      rw [show decide (Wn.trimF f = Wn.trimF f) = true by simp]
      have HC9 := Lib.hid (HC8.out.trans (b9.mono HC8.out.size))
      have HT9 := Lib.hid (HT8.out.below b9)
      have HM9 := Lib.hid (HM8.out.below b9)
      clear b9 HC8 HT8 HM8 HR8
      go_wp2_with fail
      refine (QTM.out _ _ HM9.out).mono ?_
      rintro e w10 ⟨r10, rfl, hv10, b10⟩
      have HC10 := Lib.hid (HC9.out.trans (b10.mono HC9.out.size))
      have HT10 := Lib.hid (HT9.out.below b10)
      have HM10 := Lib.hid (HM9.out.below b10)
      have HR10 := Lib.hid hv10.any
      clear b10 hv10 HC9 HT9 HM9 QTM
      go_wp2_with fail
      refine (rSameF _ _ (Wn.trimF f) (Wn.trimF f) _ HR10.out HT10.out).mono ?_
      rintro e w11 ⟨rfl, b11⟩
      rw [show decide (Wn.trimF f = Wn.trimF f) = true by simp]
      have HC11 := Lib.hid (HC10.out.trans (b11.mono HC10.out.size))
      have HT11 := Lib.hid (HT10.out.below b11)
      have HM11 := Lib.hid (HM10.out.below b11)
      clear b11 HC10 HT10 HM10 HR10
      go_wp2_with fail
      refine (QW1.out _ _ HM11.out).mono ?_
      rintro e w12 ⟨r12, rfl, hv12, b12⟩
      have HC12 := Lib.hid (HC11.out.trans (b12.mono HC11.out.size))
      have HT12 := Lib.hid (HT11.out.below b12)
      have HL12 := Lib.hid hv12.any
      clear b12 hv12 HC11 HT11 HM11 QW1
      go_wp2_with fail
      refine (QW2.out _ (HV.out.below HC12.out)).mono ?_
      rintro e w13 ⟨r13, rfl, hv13, b13⟩
      have HC13 := Lib.hid (HC12.out.trans (b13.mono HC12.out.size))
      have HT13 := Lib.hid (HT12.out.below b13)
      have HL13 := Lib.hid (HL12.out.below b13)
      have HX13 := Lib.hid hv13.any
      clear b13 hv13 HC12 HT12 HL12 QW2
      go_wp2_with fail
      refine (rLists_any _ _ (words f) (words f) _ HL13.out HX13.out).mono ?_
      rintro e w14 ⟨rfl, b14⟩
      rw [show decide (words f = words f) = true by simp]
      have HC14 := Lib.hid (HC13.out.trans (b14.mono HC13.out.size))
      have HT14 := Lib.hid (HT13.out.below b14)
      clear b14 HC13 HT13 HL13 HX13
      rcases Nat.eq_zero_or_pos (Wn.trimF f).len with hz | hpos
      · rw [hz]
        have hi0 : (0 : Int) ≤ (f.len : Int) := by omega
        clear HT14 hz
        go_wp2_with fail
        go_ret
        exact ⟨ret_bool (by simp), HC14.out⟩
      · obtain ⟨m, hm⟩ : ∃ m, (Wn.trimF f).len = m + 1 := ⟨(Wn.trimF f).len - 1, by omega⟩
        obtain ⟨k, t, x, hd⟩ := Wn.Fs.drop_cons (f := Wn.trimF f) (i := 0) (by omega)
        obtain ⟨k', t', x', hd'⟩ := Wn.Fs.drop_cons (f := Wn.trimF f) (i := m) (by omega)
        rw [Wn.Fs.drop_len (i := m + 1) (by omega)] at hd'
        have hb1 := Wn.trim_head (by rw [← Wn.Fs.drop_zero (Wn.trimF f)]; exact hd)
        have hb2 := Wn.trim_last hd'
        obtain ⟨b, o, rfl, j0, ⟨j1, j2, j3⟩, u, j4, hu⟩ := HT14.out.at hd
        obtain ⟨b', o', he, l0, ⟨l1, l2, l3⟩, u', l4, hu'⟩ := HT14.out.at hd'
        simp only [Option.some.injEq, Addr.mk.injEq, and_true] at he
        obtain ⟨rfl, rfl⟩ := he
        have hform : ∃ ao n c, u = .slice ao n c := by obtain ⟨ao, cap, hv, _⟩ := hu.form; exact ⟨_, _, _, hv⟩
        obtain ⟨uo, un, uc, rfl⟩ := hform
        have hform' : ∃ ao n c, u' = .slice ao n c := by obtain ⟨ao, cap, hv, _⟩ := hu'.form; exact ⟨_, _, _, hv⟩
        obtain ⟨uo', un', uc', rfl⟩ := hform'
        simp only [Nat.zero_mul, Nat.add_zero] at j0 j1 j2 j3 j4
        rw [show o + 1 + 1 = o + 2 by omega] at j2
        rw [show o + 1 + 2 = o + 3 by omega] at j3
        rw [show o + m * 5 + 1 + 1 = o + m * 5 + 2 by omega] at l2
        rw [show o + m * 5 + 1 + 2 = o + m * 5 + 3 by omega] at l3
        have QB1 := Lib.hid (fun w => rBlank_v k t (.slice uo un uc) w ⟨_, _, _, rfl⟩)
        have QB2 := Lib.hid (fun w => rBlank_v k' t' (.slice uo' un' uc') w ⟨_, _, _, rfl⟩)
        rw [hb1] at QB1
        rw [hb2] at QB2
        have hml : m + 1 ≤ f.len := by omega
        rw [hm]
        clear hd hd' hu hu' hb1 hb2 HT14 hpos hm
        generalize Wn.str t.2.1 = y at *
        generalize t.1 = tk at *
        generalize t.2.2 = tn at *
        generalize Wn.str t'.2.1 = y' at *
        generalize t'.1 = tk' at *
        generalize t'.2.2 = tn' at *
        go_wp2_with fail
        refine (QB1.out _).mono ?_
        rintro e w15 ⟨rfl, b15⟩
        have HC15 := Lib.hid (HC14.out.trans (b15.mono HC14.out.size))
        have m0 := cell_late b15 l0
        have m1 := cell_late b15 l1
        have m2 := cell_late b15 l2
        have m3 := cell_late b15 l3
        have m4 := cell_late b15 l4
        clear b15 HC14 QB1 j0 j1 j2 j3 j4 l0 l1 l2 l3 l4
        go_wp2_with fail
        refine (QB2.out _).mono ?_
        rintro e w16 ⟨rfl, b16⟩
        have HC16 := Lib.hid (HC15.out.trans (b16.mono HC15.out.size))
        have hle9 : ((m : Int) + 1) ≤ (f.len : Int) := by omega
        clear b16 HC15 QB2 m0 m1 m2 m3 m4
        go_wp2_with fail
        go_ret
        exact ⟨ret_bool (by simp; try omega), HC16.out⟩
    · skip
      have hm : Vals w7 v7 (Wn.moreF f) := ValsP.ofRow HO7.out (show Row w7 _ (([bE] ++ es) ++ [bE, bE]) ((((Wn.Fs.cons 1 (8, [10], 0) .nil .nil).app f)).app (.cons 1 (8, [10], 0) .nil (.cons 1 (8, [10], 0) .nil .nil))) from Row.app (Row.app ⟨rfl, rfl, nilV _ _, trivial⟩ (HVS.out.2.same (fun b hb _ => HB7.out.block b hb) (fun _ _ _ => trivial))) ⟨rfl, rfl, nilV _ _, rfl, rfl, nilV _ _, trivial⟩) (fun _ _ => trivial)
      have HM7 := Lib.hid hm
      have HC7 := Lib.hid (HB3.out.trans (HB7.out.mono HB3.out.size))
      have HT7 := Lib.hid (HT2.out.below HB7.out)
      clear hm HO7 HB7 HVS HB3 HT2 c0_7 c1_7 c2_7 c3_7 c4_7
      try clear HP5
      clear HO5 HB5 c0_5 c1_5 c2_5 c3_5 c4_5 k0 k1 k2 k3 k4
      go_wp2_with fail
      refine (QTT.out _ HT7.out).mono ?_
      rintro e w8 ⟨r8, rfl, hv8, b8⟩
      have HC8 := Lib.hid (HC7.out.trans (b8.mono HC7.out.size))
      have HT8 := Lib.hid (HT7.out.below b8)
      have HM8 := Lib.hid (HM7.out.below b8)
      have HR8 := Lib.hid hv8.any
      clear b8 hv8 HC7 HT7 HM7 QTT
      go_wp2_with fail
      refine (rSameF _ _ (Wn.trimF f) (Wn.trimF f) _ HR8.out HT8.out).mono ?_
      rintro e w9 ⟨rfl, b9⟩
      rw [show decide (Wn.trimF f = Wn.trimF f) = true by simp]
      have HC9 := Lib.hid (HC8.out.trans (b9.mono HC8.out.size))
      have HT9 := Lib.hid (HT8.out.below b9)
      have HM9 := Lib.hid (HM8.out.below b9)
      clear b9 HC8 HT8 HM8 HR8
      go_wp2_with fail
      refine (QTM.out _ _ HM9.out).mono ?_
      rintro e w10 ⟨r10, rfl, hv10, b10⟩
      have HC10 := Lib.hid (HC9.out.trans (b10.mono HC9.out.size))
      have HT10 := Lib.hid (HT9.out.below b10)
      have HM10 := Lib.hid (HM9.out.below b10)
      have HR10 := Lib.hid hv10.any
      clear b10 hv10 HC9 HT9 HM9 QTM
      go_wp2_with fail
      refine (rSameF _ _ (Wn.trimF f) (Wn.trimF f) _ HR10.out HT10.out).mono ?_
      rintro e w11 ⟨rfl, b11⟩
      rw [show decide (Wn.trimF f = Wn.trimF f) = true by simp]
      have HC11 := Lib.hid (HC10.out.trans (b11.mono HC10.out.size))
      have HT11 := Lib.hid (HT10.out.below b11)
      have HM11 := Lib.hid (HM10.out.below b11)
      clear b11 HC10 HT10 HM10 HR10
      go_wp2_with fail
      refine (QW1.out _ _ HM11.out).mono ?_
      rintro e w12 ⟨r12, rfl, hv12, b12⟩
      have HC12 := Lib.hid (HC11.out.trans (b12.mono HC11.out.size))
      have HT12 := Lib.hid (HT11.out.below b12)
      have HL12 := Lib.hid hv12.any
      clear b12 hv12 HC11 HT11 HM11 QW1
      go_wp2_with fail
      refine (QW2.out _ (HV.out.below HC12.out)).mono ?_
      rintro e w13 ⟨r13, rfl, hv13, b13⟩
      have HC13 := Lib.hid (HC12.out.trans (b13.mono HC12.out.size))
      have HT13 := Lib.hid (HT12.out.below b13)
      have HL13 := Lib.hid (HL12.out.below b13)
      have HX13 := Lib.hid hv13.any
      clear b13 hv13 HC12 HT12 HL12 QW2
      go_wp2_with fail
      refine (rLists_any _ _ (words f) (words f) _ HL13.out HX13.out).mono ?_
      rintro e w14 ⟨rfl, b14⟩
      rw [show decide (words f = words f) = true by simp]
      have HC14 := Lib.hid (HC13.out.trans (b14.mono HC13.out.size))
      have HT14 := Lib.hid (HT13.out.below b14)
      clear b14 HC13 HT13 HL13 HX13
      rcases Nat.eq_zero_or_pos (Wn.trimF f).len with hz | hpos
      · rw [hz]
        have hi0 : (0 : Int) ≤ (f.len : Int) := by omega
        clear HT14 hz
        go_wp2_with fail
        go_ret
        exact ⟨ret_bool (by simp), HC14.out⟩
      · obtain ⟨m, hm⟩ : ∃ m, (Wn.trimF f).len = m + 1 := ⟨(Wn.trimF f).len - 1, by omega⟩
        obtain ⟨k, t, x, hd⟩ := Wn.Fs.drop_cons (f := Wn.trimF f) (i := 0) (by omega)
        obtain ⟨k', t', x', hd'⟩ := Wn.Fs.drop_cons (f := Wn.trimF f) (i := m) (by omega)
        rw [Wn.Fs.drop_len (i := m + 1) (by omega)] at hd'
        have hb1 := Wn.trim_head (by rw [← Wn.Fs.drop_zero (Wn.trimF f)]; exact hd)
        have hb2 := Wn.trim_last hd'
        obtain ⟨b, o, rfl, j0, ⟨j1, j2, j3⟩, u, j4, hu⟩ := HT14.out.at hd
        obtain ⟨b', o', he, l0, ⟨l1, l2, l3⟩, u', l4, hu'⟩ := HT14.out.at hd'
        simp only [Option.some.injEq, Addr.mk.injEq, and_true] at he
        obtain ⟨rfl, rfl⟩ := he
        have hform : ∃ ao n c, u = .slice ao n c := by obtain ⟨ao, cap, hv, _⟩ := hu.form; exact ⟨_, _, _, hv⟩
        obtain ⟨uo, un, uc, rfl⟩ := hform
        have hform' : ∃ ao n c, u' = .slice ao n c := by obtain ⟨ao, cap, hv, _⟩ := hu'.form; exact ⟨_, _, _, hv⟩
        obtain ⟨uo', un', uc', rfl⟩ := hform'
        simp only [Nat.zero_mul, Nat.add_zero] at j0 j1 j2 j3 j4
        rw [show o + 1 + 1 = o + 2 by omega] at j2
        rw [show o + 1 + 2 = o + 3 by omega] at j3
        rw [show o + m * 5 + 1 + 1 = o + m * 5 + 2 by omega] at l2
        rw [show o + m * 5 + 1 + 2 = o + m * 5 + 3 by omega] at l3
        have QB1 := Lib.hid (fun w => rBlank_v k t (.slice uo un uc) w ⟨_, _, _, rfl⟩)
        have QB2 := Lib.hid (fun w => rBlank_v k' t' (.slice uo' un' uc') w ⟨_, _, _, rfl⟩)
        rw [hb1] at QB1
        rw [hb2] at QB2
        have hml : m + 1 ≤ f.len := by omega
        rw [hm]
        clear hd hd' hu hu' hb1 hb2 HT14 hpos hm
        generalize Wn.str t.2.1 = y at *
        generalize t.1 = tk at *
        generalize t.2.2 = tn at *
        generalize Wn.str t'.2.1 = y' at *
        generalize t'.1 = tk' at *
        generalize t'.2.2 = tn' at *
        go_wp2_with fail
        refine (QB1.out _).mono ?_
        rintro e w15 ⟨rfl, b15⟩
        have HC15 := Lib.hid (HC14.out.trans (b15.mono HC14.out.size))
        have m0 := cell_late b15 l0
        have m1 := cell_late b15 l1
        have m2 := cell_late b15 l2
        have m3 := cell_late b15 l3
        have m4 := cell_late b15 l4
        clear b15 HC14 QB1 j0 j1 j2 j3 j4 l0 l1 l2 l3 l4
        go_wp2_with fail
        refine (QB2.out _).mono ?_
        rintro e w16 ⟨rfl, b16⟩
        have HC16 := Lib.hid (HC15.out.trans (b16.mono HC15.out.size))
        have hle9 : ((m : Int) + 1) ≤ (f.len : Int) := by omega
        clear b16 HC15 QB2 m0 m1 m2 m3 m4
        go_wp2_with fail
        go_ret
        exact ⟨ret_bool (by simp; try omega), HC16.out⟩
    · skip
      have hm : Vals w7 v7 (Wn.moreF f) := ValsP.ofRow HO7.out (show Row w7 _ (([bE] ++ es) ++ [bE, bE]) ((((Wn.Fs.cons 1 (8, [10], 0) .nil .nil).app f)).app (.cons 1 (8, [10], 0) .nil (.cons 1 (8, [10], 0) .nil .nil))) from Row.app (Row.app ⟨rfl, rfl, nilV _ _, trivial⟩ (HVS.out.2.same (fun b hb _ => HB7.out.block b hb) (fun _ _ _ => trivial))) ⟨rfl, rfl, nilV _ _, rfl, rfl, nilV _ _, trivial⟩) (fun _ _ => trivial)
      have HM7 := Lib.hid hm
      have HC7 := Lib.hid (HB3.out.trans (HB7.out.mono HB3.out.size))
      have HT7 := Lib.hid (HT2.out.below HB7.out)
      clear hm HO7 HB7 HVS HB3 HT2 c0_7 c1_7 c2_7 c3_7 c4_7
      try clear HP5
      clear HO5 HB5 c0_5 c1_5 c2_5 c3_5 c4_5 k0 k1 k2 k3 k4
      go_wp2_with fail
      refine (QTT.out _ HT7.out).mono ?_
      rintro e w8 ⟨r8, rfl, hv8, b8⟩
      have HC8 := Lib.hid (HC7.out.trans (b8.mono HC7.out.size))
      have HT8 := Lib.hid (HT7.out.below b8)
      have HM8 := Lib.hid (HM7.out.below b8)
      have HR8 := Lib.hid hv8.any
      clear b8 hv8 HC7 HT7 HM7 QTT
      go_wp2_with fail
      refine (rSameF _ _ (Wn.trimF f) (Wn.trimF f) _ HR8.out HT8.out).mono ?_
      rintro e w9 ⟨rfl, b9⟩
      rw [show decide (Wn.trimF f = Wn.trimF f) = true by simp]
      have HC9 := Lib.hid (HC8.out.trans (b9.mono HC8.out.size))
      have HT9 := Lib.hid (HT8.out.below b9)
      have HM9 := Lib.hid (HM8.out.below b9)
      clear b9 HC8 HT8 HM8 HR8
      go_wp2_with fail
      refine (QTM.out _ _ HM9.out).mono ?_
      rintro e w10 ⟨r10, rfl, hv10, b10⟩
      have HC10 := Lib.hid (HC9.out.trans (b10.mono HC9.out.size))
      have HT10 := Lib.hid (HT9.out.below b10)
      have HM10 := Lib.hid (HM9.out.below b10)
      have HR10 := Lib.hid hv10.any
      clear b10 hv10 HC9 HT9 HM9 QTM
      go_wp2_with fail
      refine (rSameF _ _ (Wn.trimF f) (Wn.trimF f) _ HR10.out HT10.out).mono ?_
      rintro e w11 ⟨rfl, b11⟩
      rw [show decide (Wn.trimF f = Wn.trimF f) = true by simp]
      have HC11 := Lib.hid (HC10.out.trans (b11.mono HC10.out.size))
      have HT11 := Lib.hid (HT10.out.below b11)
      have HM11 := Lib.hid (HM10.out.below b11)
      clear b11 HC10 HT10 HM10 HR10
      go_wp2_with fail
      refine (QW1.out _ _ HM11.out).mono ?_
      rintro e w12 ⟨r12, rfl, hv12, b12⟩
      have HC12 := Lib.hid (HC11.out.trans (b12.mono HC11.out.size))
      have HT12 := Lib.hid (HT11.out.below b12)
      have HL12 := Lib.hid hv12.any
      clear b12 hv12 HC11 HT11 HM11 QW1
      go_wp2_with fail
      refine (QW2.out _ (HV.out.below HC12.out)).mono ?_
      rintro e w13 ⟨r13, rfl, hv13, b13⟩
      have HC13 := Lib.hid (HC12.out.trans (b13.mono HC12.out.size))
      have HT13 := Lib.hid (HT12.out.below b13)
      have HL13 := Lib.hid (HL12.out.below b13)
      have HX13 := Lib.hid hv13.any
      clear b13 hv13 HC12 HT12 HL12 QW2
      go_wp2_with fail
      refine (rLists_any _ _ (words f) (words f) _ HL13.out HX13.out).mono ?_
      rintro e w14 ⟨rfl, b14⟩
      rw [show decide (words f = words f) = true by simp]
      have HC14 := Lib.hid (HC13.out.trans (b14.mono HC13.out.size))
      have HT14 := Lib.hid (HT13.out.below b14)
      clear b14 HC13 HT13 HL13 HX13
      rcases Nat.eq_zero_or_pos (Wn.trimF f).len with hz | hpos
      · rw [hz]
        have hi0 : (0 : Int) ≤ (f.len : Int) := by omega
        clear HT14 hz
        go_wp2_with fail
        go_ret
        exact ⟨ret_bool (by simp), HC14.out⟩
      · obtain ⟨m, hm⟩ : ∃ m, (Wn.trimF f).len = m + 1 := ⟨(Wn.trimF f).len - 1, by omega⟩
        obtain ⟨k, t, x, hd⟩ := Wn.Fs.drop_cons (f := Wn.trimF f) (i := 0) (by omega)
        obtain ⟨k', t', x', hd'⟩ := Wn.Fs.drop_cons (f := Wn.trimF f) (i := m) (by omega)
        rw [Wn.Fs.drop_len (i := m + 1) (by omega)] at hd'
        have hb1 := Wn.trim_head (by rw [← Wn.Fs.drop_zero (Wn.trimF f)]; exact hd)
        have hb2 := Wn.trim_last hd'
        obtain ⟨b, o, rfl, j0, ⟨j1, j2, j3⟩, u, j4, hu⟩ := HT14.out.at hd
        obtain ⟨b', o', he, l0, ⟨l1, l2, l3⟩, u', l4, hu'⟩ := HT14.out.at hd'
        simp only [Option.some.injEq, Addr.mk.injEq, and_true] at he
        obtain ⟨rfl, rfl⟩ := he
        have hform : ∃ ao n c, u = .slice ao n c := by obtain ⟨ao, cap, hv, _⟩ := hu.form; exact ⟨_, _, _, hv⟩
        obtain ⟨uo, un, uc, rfl⟩ := hform
        have hform' : ∃ ao n c, u' = .slice ao n c := by obtain ⟨ao, cap, hv, _⟩ := hu'.form; exact ⟨_, _, _, hv⟩
        obtain ⟨uo', un', uc', rfl⟩ := hform'
        simp only [Nat.zero_mul, Nat.add_zero] at j0 j1 j2 j3 j4
        rw [show o + 1 + 1 = o + 2 by omega] at j2
        rw [show o + 1 + 2 = o + 3 by omega] at j3
        rw [show o + m * 5 + 1 + 1 = o + m * 5 + 2 by omega] at l2
        rw [show o + m * 5 + 1 + 2 = o + m * 5 + 3 by omega] at l3
        have QB1 := Lib.hid (fun w => rBlank_v k t (.slice uo un uc) w ⟨_, _, _, rfl⟩)
        have QB2 := Lib.hid (fun w => rBlank_v k' t' (.slice uo' un' uc') w ⟨_, _, _, rfl⟩)
        rw [hb1] at QB1
        rw [hb2] at QB2
        have hml : m + 1 ≤ f.len := by omega
        rw [hm]
        clear hd hd' hu hu' hb1 hb2 HT14 hpos hm
        generalize Wn.str t.2.1 = y at *
        generalize t.1 = tk at *
        generalize t.2.2 = tn at *
        generalize Wn.str t'.2.1 = y' at *
        generalize t'.1 = tk' at *
        generalize t'.2.2 = tn' at *
        go_wp2_with fail
        refine (QB1.out _).mono ?_
        rintro e w15 ⟨rfl, b15⟩
        have HC15 := Lib.hid (HC14.out.trans (b15.mono HC14.out.size))
        have m0 := cell_late b15 l0
        have m1 := cell_late b15 l1
        have m2 := cell_late b15 l2
        have m3 := cell_late b15 l3
        have m4 := cell_late b15 l4
        clear b15 HC14 QB1 j0 j1 j2 j3 j4 l0 l1 l2 l3 l4
        go_wp2_with fail
        refine (QB2.out _).mono ?_
        rintro e w16 ⟨rfl, b16⟩
        have HC16 := Lib.hid (HC15.out.trans (b16.mono HC15.out.size))
        have hle9 : ((m : Int) + 1) ≤ (f.len : Int) := by omega
        clear b16 HC15 QB2 m0 m1 m2 m3 m4
        go_wp2_with fail
        go_ret
        exact ⟨ret_bool (by simp; try omega), HC16.out⟩
end Go.Proofs.YtjmocdoimiomdaaDoor
