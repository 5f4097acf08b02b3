/- What until of the verifier's second writing of nest answers. What the verifier's second writing of nest parses. What May of the verifier's second writing of nest answers. -/
import Derived.Test.YtjlejiphpbaonaaGreatDoorGT
import Derived.Deep.Cut
import Derived.Test.YtjlejiphpbaonaaGreatDoorGP
import Derived.Test.YtjlejiphpbaonaaGreatDoorGS
import Derived.Test.YtjlejiphpbaonaaGreatDoorGL
set_option linter.unusedVariables false
set_option linter.unusedSimpArgs false
set_option maxRecDepth 20000
namespace Go.Proofs.YtjlejiphpbaonaaGreatDoor
open Go.RowKit Go.Sort
set_option maxRecDepth 100000 in
set_option maxHeartbeats 2000000 in
theorem until_step (l : List Wn.Tok) (hl : l.length ≤ 1000000) (N : Nat) (IH : GSaid l N) : GSaid l (N + 1) := by
  intro k left i v w a b hk hleft hi hN hT ha hb
  subst ha hb
  have HIH := Lib.hid IH; clear IH
  have HT := Lib.hid hT
  have HK := Lib.hid hk
  generalize hres : Wn.valsL k left (l.drop i) = res
  have HRes := Lib.hid hres; clear hres hk
  obtain ⟨vo, vcap, rfl, hc1, hc2, hcell⟩ := hT
  unfold maxLen at hc2
  have HCell := Lib.hid hcell; clear hcell
  obtain ⟨i0, hi0, hz0, hz1, hz2⟩ := info_parts info_val
  have H0 := Lib.hid (gm_start w (i : Int))
  go_enter Tryz.func74, Tryz.ntmps74
  go_wp2_with fail
  generalize (w.alloc (.cells #[.slice none 0 0, .int .i64 0, .bool false] 83)).alloc (.cells #[.slice none 0 0, .int .i64 (i : Int), .bool false] 83) = W0 at *
  go_loopw [] (fun wr => ∃ (r : Value) (j : Nat) (es : List (Int × Wn.Tok × Value)) (acc : Wn.Fs), i ≤ j ∧ j ≤ l.length ∧ es.length ≤ j ∧ Hid (GM w wr r (j : Int) es acc) ∧ Hid (res = (Wn.valsL k left (l.drop j)).map fun p => (acc.app p.1, p.2))) (fun wr => l.length - toOf (w.heap.size + 1) wr)
  case atStart => exact ⟨_, i, [], .nil, by omega, hi, by simp, H0, Lib.hid (by rw [HRes.out]; cases res <;> rfl)⟩
  case round =>
    obtain ⟨r, j, es, acc, hij, hjl, hes, HG, HE⟩ := hrel
    have hsz := HG.out.size
    obtain ⟨ro, rn, rc, rfl⟩ := HG.out.sl
    have p0 := cell_of_block (o := 0) HG.out.g
    have p1 := cell_of_block (o := 1) HG.out.g
    have p2 := cell_of_block (o := 2) HG.out.g
    have f0 := frozen_blk HG.out.g 0
    have f1 := frozen_blk HG.out.g 1
    have f2 := frozen_blk HG.out.g 2
    have q0 := cell_of_block (o := 0) HG.out.res
    have q1 := cell_of_block (o := 1) HG.out.res
    have q2 := cell_of_block (o := 2) HG.out.res
    have y0 := frozen_blk HG.out.res 0
    have y1 := frozen_blk HG.out.res 1
    have y2 := frozen_blk HG.out.res 2
    simp only [List.getElem?_toArray, List.getElem?_cons_zero, List.getElem?_cons_succ] at p0 p1 p2 q0 q1 q2
    have hg1 : w.heap.size + 1 < wr.heap.size := by omega
    have hg2 : ¬ w.heap.size + 1 = wr.heap.size := by omega
    have hr1 : w.heap.size < wr.heap.size := by omega
    have hr2 : ¬ w.heap.size = wr.heap.size := by omega
    by_cases hlt : j < l.length
    · obtain ⟨t, hTk⟩ : ∃ t, l[j]? = some t := ⟨l[j], List.getElem?_eq_getElem hlt⟩
      obtain ⟨b, off, rfl, hin⟩ := HCell.out j _ hTk
      have hbw := hin.lt
      obtain ⟨j0, j1, j2⟩ := hin.below HG.out.below hbw
      have hdr : l.drop j = t :: l.drop (j + 1) := by rw [List.drop_eq_getElem_cons hlt]; rw [List.getElem?_eq_getElem hlt] at hTk; rw [Option.some.inj hTk]
      have e0 := HE.out
      rw [hdr, Wn.valsL_cons, Wn.closes_last HK.out] at e0
      have HE0 := Lib.hid e0
      have hj1 : (j : Int) < (l.length : Int) := by omega
      clear hin hTk hdr e0 HE
      generalize hx : Wn.str t.2.1 = x at *
      have HX := Lib.hid hx; clear hx
      have HGm := Lib.hid (HG.out.move ((j : Int) + 1))
      have hBx : Below (wr.setCell ⟨w.heap.size + 1, 1, none⟩ (.int .i64 ((j : Int) + 1))).heap.size (wr.setCell ⟨w.heap.size + 1, 1, none⟩ (.int .i64 ((j : Int) + 1))) ((wr.setCell ⟨w.heap.size + 1, 1, none⟩ (.int .i64 ((j : Int) + 1))).alloc (.cells #[.int .i64 t.1, .string x, .int .i64 t.2.2] 47)) := (Below.refl _ _).alloc (Nat.le_refl _) _
      have HG1 := Lib.hid (HGm.out.later hBx)
      have hwz : (wr.setCell ⟨w.heap.size + 1, 1, none⟩ (.int .i64 ((j : Int) + 1))).heap.size = wr.heap.size := by simp [World.setCell]
      have HBX := Lib.hid (box1 (wr.setCell ⟨w.heap.size + 1, 1, none⟩ (.int .i64 ((j : Int) + 1))) t)
      rw [HX.out, hwz] at HBX
      have hz1' : ((wr.setCell ⟨w.heap.size + 1, 1, none⟩ (.int .i64 ((j : Int) + 1))).alloc (.cells #[.int .i64 t.1, .string x, .int .i64 t.2.2] 47)).heap.size = wr.heap.size + 1 := by simp [World.setCell]
      have HZ1 := Lib.hid hz1'
      clear hBx hwz hz1' HGm
      by_cases hk0 : 0 < k
      · have hkd : decide (0 < k) = true := by simpa using hk0
        have QL := Lib.hid (fun w => rlast_any t k w)
        rw [HX.out] at QL
        go_wp2_with fail
        generalize (wr.setCell ⟨w.heap.size + 1, 1, none⟩ (.int .i64 ((j : Int) + 1))).alloc (.cells #[.int .i64 t.1, .string x, .int .i64 t.2.2] 47) = W1 at *
        refine (QL.out W1).mono ?_
        rintro e w2 ⟨rfl, b2⟩
        have HG2 := Lib.hid (HG1.out.later b2)
        have T2 := HBX.out.later b2
        have hs2 : wr.heap.size + 1 ≤ w2.heap.size := by have := b2.size; rw [HZ1.out] at this; exact this
        clear p0 p1 p2 f0 f1 f2 q0 q1 q2 y0 y1 y2 b2 QL HG1 HBX HZ1 hg1 hg2 hr1 hr2
        (have k0t2 : w2.cell? ⟨wr.heap.size, 0, none⟩ = some _ := (T2).c0); (have k1t2 : w2.cell? ⟨wr.heap.size, 1, none⟩ = some _ := (T2).c1); (have k2t2 : w2.cell? ⟨wr.heap.size, 2, none⟩ = some _ := (T2).c2); (try dsimp only at k0t2 k1t2 k2t2)
        rw [HX.out] at k1t2
        have p0 := cell_of_block (o := 0) HG2.out.g
        have p1 := cell_of_block (o := 1) HG2.out.g
        have p2 := cell_of_block (o := 2) HG2.out.g
        have f0 := frozen_blk HG2.out.g 0
        have f1 := frozen_blk HG2.out.g 1
        have f2 := frozen_blk HG2.out.g 2
        have q0 := cell_of_block (o := 0) HG2.out.res
        have q1 := cell_of_block (o := 1) HG2.out.res
        have q2 := cell_of_block (o := 2) HG2.out.res
        have y0 := frozen_blk HG2.out.res 0
        have y1 := frozen_blk HG2.out.res 1
        have y2 := frozen_blk HG2.out.res 2
        simp only [List.getElem?_toArray, List.getElem?_cons_zero, List.getElem?_cons_succ] at p0 p1 p2 q0 q1 q2
        have hg1 : w.heap.size + 1 < w2.heap.size := by omega
        have hg2 : ¬ w.heap.size + 1 = w2.heap.size := by omega
        have hr1 : w.heap.size < w2.heap.size := by omega
        have hr2 : ¬ w.heap.size = w2.heap.size := by omega
        clear T2
        cases hlast : Wn.lastOf t k
        · have HE1 : Hid (res = Option.map (fun p => (acc.app p.1, p.2)) (match Wn.oneVal t left (l.drop (j + 1)) with | none => none | some q => (Wn.valsL k left q.2.2.2).map fun p => (.cons q.1 q.2.1 q.2.2.1 p.1, p.2))) := Lib.hid (by rw [HE0.out, hkd, hlast]; rfl)
          have QO := Lib.hid (fun w => ropen_any t w)
          rw [HX.out] at QO
          go_wp2_with fail
          refine (QO.out w2).mono ?_
          rintro e w3 ⟨rfl, b3⟩
          have HG3 := Lib.hid (HG2.out.later b3)
          have T3 := (show TokIn w2 wr.heap.size 0 t from ⟨k0t2, by rw [HX.out]; exact k1t2, k2t2⟩).later b3
          have hs3 := b3.size
          clear p0 p1 p2 f0 f1 f2 q0 q1 q2 y0 y1 y2 b3 QO k0t2 k1t2 k2t2 hg1 hg2 hr1 hr2
          (have k0t3 : w3.cell? ⟨wr.heap.size, 0, none⟩ = some _ := (T3).c0); (have k1t3 : w3.cell? ⟨wr.heap.size, 1, none⟩ = some _ := (T3).c1); (have k2t3 : w3.cell? ⟨wr.heap.size, 2, none⟩ = some _ := (T3).c2); (try dsimp only at k0t3 k1t3 k2t3)
          rw [HX.out] at k1t3
          have p0 := cell_of_block (o := 0) HG3.out.g
          have p1 := cell_of_block (o := 1) HG3.out.g
          have p2 := cell_of_block (o := 2) HG3.out.g
          have f0 := frozen_blk HG3.out.g 0
          have f1 := frozen_blk HG3.out.g 1
          have f2 := frozen_blk HG3.out.g 2
          have q0 := cell_of_block (o := 0) HG3.out.res
          have q1 := cell_of_block (o := 1) HG3.out.res
          have q2 := cell_of_block (o := 2) HG3.out.res
          have y0 := frozen_blk HG3.out.res 0
          have y1 := frozen_blk HG3.out.res 1
          have y2 := frozen_blk HG3.out.res 2
          simp only [List.getElem?_toArray, List.getElem?_cons_zero, List.getElem?_cons_succ] at p0 p1 p2 q0 q1 q2
          have hg1 : w.heap.size + 1 < w3.heap.size := by omega
          have hg2 : ¬ w.heap.size + 1 = w3.heap.size := by omega
          have hr1 : w.heap.size < w3.heap.size := by omega
          have hr2 : ¬ w.heap.size = w3.heap.size := by omega
          have ht1 : wr.heap.size < w3.heap.size := by omega
          have ht2 : ¬ wr.heap.size = w3.heap.size := by omega
          clear T3
          by_cases h1 : Wn.kindOf t = 1
          · have ho : Wn.openK t = 0 := Wn.openK_zero.2 h1
            have HE2 : Hid (res = (Wn.valsL k left (l.drop (j + 1))).map fun p => ((acc.app (.cons 1 t .nil .nil)).app p.1, p.2)) := Lib.hid (by
              rw [HE1.out]; unfold Wn.oneVal; rw [if_pos h1]; dsimp only
              cases Wn.valsL k left (l.drop (j + 1)) <;> simp [Wn.Fs.app_assoc, Wn.Fs.app])
            rw [ho]
            clear ho h1 HE1
            have HB4 : Hid (Below w3.heap.size w3 ((w3.alloc (.cells #[.int .i64 1, .int .i64 t.1, .string x, .int .i64 t.2.2, .slice none 0 0] 49)).alloc (.cells #[.int .i64 1, .int .i64 t.1, .string x, .int .i64 t.2.2, .slice none 0 0] 49))) := Lib.hid (((Below.refl _ _).alloc (Nat.le_refl _) _).alloc (by simp) _)
            have HG4 := Lib.hid (HG3.out.later HB4.out)
            have hz4 := HG4.out.size
            have hesl : es.length ≤ 1000000 := by omega
            go_wp2_with (at_builtin; refine wpList_append_own_at _ rfl _ _ 22 rfl (w.heap.size + 2) 49 i0 (.agg #[.int .i64 0, .int .i64 0, .string ⟨#[]⟩, .int .i64 0, .slice none 0 0]) 5 64 Tryz.underlying22 hi0 hz0 hz1 hz2 rfl (by decide) _ es.length (valsCells es) rfl HG4.out.own ⟨w3.heap.size + 1, 0, none⟩ 1 1 [.int .i64 1, .int .i64 t.1, .string x, .int .i64 t.2.2, .slice none 0 0] rfl rfl (cell_five_new _ _ _ _ _ _ _ _ (by simp)) (fun x hx => by simp at hx; rcases hx with rfl | rfl | rfl | rfl | rfl <;> rfl) (by unfold maxLen; omega) (by omega) hz4 ?_; intro v8 w8 hown8 hgr8 hnil8 hat8; (obtain ⟨so, sn, sc, hv8⟩ := own_slice hown8); subst hv8; (have HZ8 := Lib.hid (And.intro hown8 (And.intro hgr8 hat8))); (have g8 := (hgr8.block (w.heap.size + 1) (by omega) (fun e => by have := (HG4.out.own.lt _ e.symm).1; omega)).trans HG4.out.g); (have p0' := cell_of_block (o := 0) g8); (have f0' := frozen_blk g8 0); (simp only [List.getElem?_toArray, List.getElem?_cons_zero, List.getElem?_cons_succ] at p0'); clear g8 hown8 hgr8 hnil8 hat8)
            obtain ⟨hown8, hgr8, hat8⟩ := HZ8.out
            have hnext := HG4.out.next (k := 1) (t := t) (u := .slice none 0 0) (x := .nil) (base := ((w3.alloc (.cells #[.int .i64 1, .int .i64 t.1, .string x, .int .i64 t.2.2, .slice none 0 0] 49)).alloc (.cells #[.int .i64 1, .int .i64 t.1, .string x, .int .i64 t.2.2, .slice none 0 0] 49)).heap.size) (ValsP.nil _ _) hz4 (fun b hb => (HG4.out.own.lt b hb).2) (by rw [show valCells (1, t, .slice none 0 0) = [.int .i64 1, .int .i64 t.1, .string x, .int .i64 t.2.2, .slice none 0 0] by rw [← HX.out]; rfl]; exact hown8) hgr8 (hat8.imp id (fun e => ⟨_, Nat.le_refl _, e⟩))
            rw [show (j : Int) + 1 = ((j + 1 : Nat) : Int) by omega] at hnext
            refine ⟨⟨_, j + 1, es ++ [(1, t, .slice none 0 0)], acc.app (.cons 1 t .nil .nil), by omega, by omega, by simp; omega, Lib.hid hnext, HE2⟩, ?_⟩
            rw [toOf_at hnext, toOf_at HG.out]; omega
          · have ho : Wn.openK t = Wn.kindOf t := Wn.openK_blk h1
            rw [ho]
            rcases Wn.kindOf_cases t with hk1 | ⟨hk1, hk2⟩
            · exact absurd hk1 h1
            · generalize hkk : Wn.kindOf t = kd at *
              have HKK := Lib.hid hkk; clear hkk ho h1
              by_cases hl0 : left = 0
              · have HF : Hid (res = none) := Lib.hid (by rw [HE1.out]; unfold Wn.oneVal; rw [if_neg (by rw [HKK.out]; omega), if_pos hl0]; rfl)
                obtain ⟨v1, v2⟩ := HG3.out.leave (.slice ro rn rc) (.int .i64 ((j : Int) + 1)) (.bool true)
                subst hl0
                clear HE1 HE0
                have hBf := (HG3.out.below.setCell (p := ⟨w.heap.size + 1, 2, none⟩) (Nat.le_succ _) (.bool true))
                have HBf := Lib.hid (Below.set3 hBf (Nat.le_refl w.heap.size) (.slice ro rn rc) (.int .i64 ((j : Int) + 1)) (.bool true))
                clear v1 v2 hBf
                go_wp2_with fail
                refine bodyPost_ret (v := .agg #[.slice ro rn rc, .int .i64 ((j : Int) + 1), .bool true]) (by simp [results, Tryz.results74, go_sem, q0, q1, q2, hr1, hr2]) rfl ?_
                rw [HF.out]
                exact ⟨HBf.out.alloc (by simp [World.setCell]; omega) _, _, _, _, _, rfl⟩
              · have hv5 : ∃ o, Wn.valsL kd (left - 1) (l.drop (j + 1)) = o := ⟨_, rfl⟩
                obtain ⟨o5, hv5⟩ := hv5
                have HB4 : Hid (Below w3.heap.size w3 (w3.alloc (.cells #[.int .i64 1, .int .i64 t.1, .string x, .int .i64 t.2.2, .slice none 0 0] 49))) := Lib.hid ((Below.refl _ _).alloc (Nat.le_refl _) _)
                have hBw4 := HG3.out.below.trans (HB4.out.mono HG3.out.below.size)
                have QR := Lib.hid (HIH.out kd (left - 1) (j + 1) (.slice (some ⟨b, off, none⟩) l.length vcap) _ ((j : Int) + 1) ((left : Int) - 1) (Or.inr ⟨hk1, hk2⟩) (by omega) (by omega) (by omega) (HT.out.below hBw4) (by omega) (by omega))
                rw [hv5] at QR
                have HV5 := Lib.hid hv5
                have hl1 : ¬ (left : Int) = 0 := by omega
                have hl2 : ((left : Int) == 0) = false := by simpa using hl1
                have bV := heap_alloc_new w3 (.cells #[.int .i64 1, .int .i64 t.1, .string x, .int .i64 t.2.2, .slice none 0 0] 49)
                have hzV : (w3.alloc (.cells #[.int .i64 1, .int .i64 t.1, .string x, .int .i64 t.2.2, .slice none 0 0] 49)).heap.size = w3.heap.size + 1 := by simp
                have HBV := Lib.hid bV
                have HZV := Lib.hid hzV
                clear hv5 hBw4 bV hzV hl0
                go_wp2_with fail
                generalize w3.alloc (.cells #[.int .i64 1, .int .i64 t.1, .string x, .int .i64 t.2.2, .slice none 0 0] 49) = W4 at *
                refine QR.out.mono ?_
                clear QR
                cases o5 with
                | none =>
                  rintro e w5 ⟨b5, xo, xn, xc, xt, rfl⟩
                  have HF : Hid (res = none) := Lib.hid (by rw [HE1.out]; unfold Wn.oneVal; rw [if_neg (by rw [HKK.out]; omega), if_neg (by omega), HKK.out, HV5.out]; rfl)
                  have HG5 := Lib.hid ((HG3.out.later HB4.out).later b5)
                  have hs5 := b5.size
                  have HBf := Lib.hid (Below.set3 HG5.out.below (Nat.le_refl w.heap.size) (.slice xo xn xc) (.int .i64 xt) (.bool true))
                  clear p0 p1 p2 f0 f1 f2 q0 q1 q2 y0 y1 y2 b5 k0t3 k1t3 k2t3 hg1 hg2 hr1 hr2 ht1 ht2 HE1 HE0
                  have q0 := cell_of_block (o := 0) HG5.out.res
                  have q1 := cell_of_block (o := 1) HG5.out.res
                  have q2 := cell_of_block (o := 2) HG5.out.res
                  have y0 := frozen_blk HG5.out.res 0
                  have y1 := frozen_blk HG5.out.res 1
                  have y2 := frozen_blk HG5.out.res 2
                  simp only [List.getElem?_toArray, List.getElem?_cons_zero, List.getElem?_cons_succ] at q0 q1 q2
                  have hz5 := HG5.out.size
                  have hr1 : w.heap.size < w5.heap.size := by omega
                  have hr2 : ¬ w.heap.size = w5.heap.size := by omega
                  go_wp2_with fail
                  refine bodyPost_ret (v := .agg #[.slice xo xn xc, .int .i64 xt, .bool true]) (by simp [results, Tryz.results74, go_sem, q0, q1, q2, hr1, hr2]) rfl ?_
                  rw [HF.out]
                  exact ⟨HBf.out.alloc (by simp [World.setCell]; omega) _, _, _, _, _, rfl⟩
                | some q =>
                  obtain ⟨xs, l1⟩ := q
                  rintro e w5 ⟨b5, u, rfl, hu⟩
                  dsimp only at hu ⊢
                  have hrest := (Wn.valsL_rest HV5.out).1
                  have hsuf := (Wn.valsL_rest HV5.out).2
                  have HE2 : Hid (res = (Wn.valsL k left l1).map fun p => ((acc.app (.cons kd (Wn.blockTok kd t) xs .nil)).app p.1, p.2)) := Lib.hid (by
                    rw [HE1.out]; unfold Wn.oneVal; rw [if_neg (by rw [HKK.out]; omega), if_neg (by omega), HKK.out, HV5.out]; dsimp only [Option.map_some]
                    cases Wn.valsL k left l1 <;> simp [Wn.Fs.app_assoc, Wn.Fs.app])
                  have HG5 := Lib.hid ((HG3.out.later HB4.out).later b5)
                  have hs5 := b5.size
                  have hz5 := HG5.out.size
                  have hform : ∃ ao n c, u = .slice ao n c := by obtain ⟨ao, cap, hv, _⟩ := hu.form; exact ⟨_, _, _, hv⟩
                  obtain ⟨uo, un, uc, rfl⟩ := hform
                  have HU := Lib.hid hu
                  have T5 := ((show TokIn w3 wr.heap.size 0 t from ⟨k0t3, by rw [HX.out]; exact k1t3, k2t3⟩).later HB4.out).later b5
                  have bV5 := block_lat b5 HBV.out
                  have hzv := HZV.out
                  clear p0 p1 p2 f0 f1 f2 q0 q1 q2 y0 y1 y2 k0t3 k1t3 k2t3 hg1 hg2 hr1 hr2 HE1 HE0 hu
                  (have k0t5 : w5.cell? ⟨wr.heap.size, 0, none⟩ = some _ := (T5).c0); (have k1t5 : w5.cell? ⟨wr.heap.size, 1, none⟩ = some _ := (T5).c1); (have k2t5 : w5.cell? ⟨wr.heap.size, 2, none⟩ = some _ := (T5).c2); (try dsimp only at k0t5 k1t5 k2t5)
                  rw [HX.out] at k1t5
                  (have q0r := cell_of_block (o := 0) bV5; have q1r := cell_of_block (o := 1) bV5; have q2r := cell_of_block (o := 2) bV5; have q3r := cell_of_block (o := 3) bV5; have q4r := cell_of_block (o := 4) bV5; have z0r := frozen_blk bV5 0; have z1r := frozen_blk bV5 1; have z2r := frozen_blk bV5 2; have z3r := frozen_blk bV5 3; have z4r := frozen_blk bV5 4; simp only [List.getElem?_toArray, List.getElem?_cons_zero, List.getElem?_cons_succ] at q0r q1r q2r q3r q4r)
                  have p0 := cell_of_block (o := 0) HG5.out.g
                  have p1 := cell_of_block (o := 1) HG5.out.g
                  have p2 := cell_of_block (o := 2) HG5.out.g
                  have f0 := frozen_blk HG5.out.g 0
                  have f1 := frozen_blk HG5.out.g 1
                  have f2 := frozen_blk HG5.out.g 2
                  simp only [List.getElem?_toArray, List.getElem?_cons_zero, List.getElem?_cons_succ] at p0 p1 p2
                  have hg1 : w.heap.size + 1 < w5.heap.size := by omega
                  have hg2 : ¬ w.heap.size + 1 = w5.heap.size := by omega
                  have hv1 : w3.heap.size < w5.heap.size := by omega
                  have hv2 : ¬ w3.heap.size = w5.heap.size := by omega
                  have hv3 : ¬ w3.heap.size = w.heap.size + 1 := by have := HG3.out.size; omega
                  have hv4 : ¬ w.heap.size + 1 = w3.heap.size := by have := HG3.out.size; omega
                  have ht3 : wr.heap.size < w5.heap.size := by omega
                  have ht4 : ¬ wr.heap.size = w5.heap.size := by omega
                  have ht5 : ¬ wr.heap.size = w3.heap.size := by omega
                  have hesl : es.length ≤ 1000000 := by omega
                  obtain ⟨j', hj'⟩ : ∃ j', l.length - l1.length = j' := ⟨_, rfl⟩
                  dsimp only at hrest hsuf
                  rw [List.length_drop] at hrest
                  have HL1 : Hid (l1 = l.drop j') := Lib.hid (by rw [← hj']; exact List.suffix_iff_eq_drop.1 (hsuf.trans (List.drop_suffix _ _)))
                  have hjj : j + 1 ≤ j' := by omega
                  have hjl' : j' ≤ l.length := by omega
                  have hto : (l.length : Int) - (l1.length : Int) = (j' : Int) := by omega
                  rw [hto]
                  have HUJ : Hid (UJ w w3 w5 (w5.alloc (.cells #[.slice uo un uc, .int .i64 (j' : Int), .bool false] 83)) #[.slice uo un uc, .int .i64 (j' : Int), .bool false] #[.int .i64 1, .int .i64 t.1, .string x, .int .i64 t.2.2, .slice none 0 0] #[.slice ro rn rc, .int .i64 ((j : Int) + 1), .bool false]) := Lib.hid (UJ.start (by omega) (by omega) HG5.out.below bV5 HG5.out.g)
                  have HT5 := Lib.hid T5
                  have H35 : Hid (Below w3.heap.size w3 w5) := Lib.hid (HB4.out.trans (b5.mono HB4.out.size))
                  have hwr : wr.heap.size < w3.heap.size := ht1
                  have hwn : w.heap.size + 2 ≤ wr.heap.size := hsz
                  rw [hzv] at HU
                  clear T5 bV5 hzv hsuf hrest hs5 hz5 hs3 hN HV5 HZV HBV hto hj'
                  go_upto_region 16 with fail
                  generalize w5.alloc (.cells #[.slice uo un uc, .int .i64 (j' : Int), .bool false] 83) = W6 at *
                  clear p0 p1 p2 f0 f1 f2 q0r q1r q2r q3r q4r z0r z1r z2r z3r z4r k0t5 k1t5 k2t5 hg1 hg2 hv1 hv2 ht3 ht4
                  (have q0a := cell_of_block (o := 0) HUJ.out.v; have q1a := cell_of_block (o := 1) HUJ.out.v; have q2a := cell_of_block (o := 2) HUJ.out.v; have q3a := cell_of_block (o := 3) HUJ.out.v; have q4a := cell_of_block (o := 4) HUJ.out.v; have z0a := frozen_blk HUJ.out.v 0; have z1a := frozen_blk HUJ.out.v 1; have z2a := frozen_blk HUJ.out.v 2; have z3a := frozen_blk HUJ.out.v 3; have z4a := frozen_blk HUJ.out.v 4; simp only [List.getElem?_toArray, List.getElem?_cons_zero, List.getElem?_cons_succ] at q0a q1a q2a q3a q4a)
                  have x0 := cell_of_block (o := 0) HUJ.out.x
                  have x1 := cell_of_block (o := 1) HUJ.out.x
                  simp only [List.getElem?_toArray, List.getElem?_cons_zero, List.getElem?_cons_succ] at x0 x1
                  have hx1 : ¬ w5.heap.size = w3.heap.size := by have := HUJ.out.lt; omega
                  go_upto_region 17 with fail
                  have HUJ7 : Hid (UJ w w3 w5 (((((W6.setCell ⟨w3.heap.size, 0, none⟩ (.int .i64 kd)).setCell ⟨w3.heap.size, 1, none⟩ (.int .i64 0)).setCell ⟨w3.heap.size, 2, none⟩ (.string ⟨#[]⟩)).setCell ⟨w3.heap.size, 3, none⟩ (.int .i64 0)).setCell ⟨w3.heap.size, 4, none⟩ (.slice uo un uc)) #[.slice uo un uc, .int .i64 (j' : Int), .bool false] #[.int .i64 kd, .int .i64 0, .string ⟨#[]⟩, .int .i64 0, .slice uo un uc] #[.slice ro rn rc, .int .i64 ((j : Int) + 1), .bool false]) := Lib.hid (((((HUJ.out.setV 0 (.int .i64 kd)).setV 1 (.int .i64 0)).setV 2 (.string ⟨#[]⟩)).setV 3 (.int .i64 0)).setV 4 (.slice uo un uc))
                  generalize ((((W6.setCell ⟨w3.heap.size, 0, none⟩ (.int .i64 kd)).setCell ⟨w3.heap.size, 1, none⟩ (.int .i64 0)).setCell ⟨w3.heap.size, 2, none⟩ (.string ⟨#[]⟩)).setCell ⟨w3.heap.size, 3, none⟩ (.int .i64 0)).setCell ⟨w3.heap.size, 4, none⟩ (.slice uo un uc) = W7 at *
                  clear q0a q1a q2a q3a q4a z0a z1a z2a z3a z4a x0 x1 HUJ
                  cases h5 : (kd == 5)
                  · have HBT : Hid (Wn.blockTok kd t = (0, [], 0)) := Lib.hid (by unfold Wn.blockTok; rw [if_neg (by simpa using h5)])
                    go_upto_region 19 with fail
                    have x1 := cell_of_block (o := 1) HUJ7.out.x
                    have g1 := cell_of_block (o := 1) HUJ7.out.g
                    have gf := frozen_blk HUJ7.out.g 1
                    simp only [List.getElem?_toArray, List.getElem?_cons_zero, List.getElem?_cons_succ] at x1 g1
                    go_upto_region 20 with fail
                    have HUJ9 : Hid (UJ w w3 w5 (W7.setCell ⟨w.heap.size + 1, 1, none⟩ (.int .i64 (j' : Int))) #[.slice uo un uc, .int .i64 (j' : Int), .bool false] #[.int .i64 kd, .int .i64 0, .string ⟨#[]⟩, .int .i64 0, .slice uo un uc] #[.slice ro rn rc, .int .i64 (j' : Int), .bool false]) := Lib.hid (HUJ7.out.setG 1 (.int .i64 (j' : Int)))
                    generalize W7.setCell ⟨w.heap.size + 1, 1, none⟩ (.int .i64 (j' : Int)) = W9 at *
                    clear x1 g1 gf HUJ7
                    have HG9 := Lib.hid (HUJ9.out.mid HG3.out H35.out)
                    have HU9 := Lib.hid (HUJ9.out.val HU.out)
                    (have q0c := cell_of_block (o := 0) HUJ9.out.v; have q1c := cell_of_block (o := 1) HUJ9.out.v; have q2c := cell_of_block (o := 2) HUJ9.out.v; have q3c := cell_of_block (o := 3) HUJ9.out.v; have q4c := cell_of_block (o := 4) HUJ9.out.v; have z0c := frozen_blk HUJ9.out.v 0; have z1c := frozen_blk HUJ9.out.v 1; have z2c := frozen_blk HUJ9.out.v 2; have z3c := frozen_blk HUJ9.out.v 3; have z4c := frozen_blk HUJ9.out.v 4; simp only [List.getElem?_toArray, List.getElem?_cons_zero, List.getElem?_cons_succ] at q0c q1c q2c q3c q4c)
                    have g0 := cell_of_block (o := 0) HUJ9.out.g
                    simp only [List.getElem?_toArray, List.getElem?_cons_zero, List.getElem?_cons_succ] at g0
                    have hz9 := HUJ9.out.size
                    have hlt9 := HUJ9.out.lt
                    have hBA : Below W9.heap.size W9 (W9.alloc (.cells #[.int .i64 kd, .int .i64 0, .string ⟨#[]⟩, .int .i64 0, .slice uo un uc] 49)) := (Below.refl _ _).alloc (Nat.le_refl _) _
                    have HGA := Lib.hid (HG9.out.later hBA)
                    have HUA := Lib.hid (HU9.out.below hBA)
                    have hzA := HGA.out.size
                    clear hBA
                    go_wp2_with (at_builtin; refine wpList_append_own_at _ rfl _ _ 22 rfl (w.heap.size + 2) 49 i0 (.agg #[.int .i64 0, .int .i64 0, .string ⟨#[]⟩, .int .i64 0, .slice none 0 0]) 5 64 Tryz.underlying22 hi0 hz0 hz1 hz2 rfl (by decide) _ es.length (valsCells es) rfl HGA.out.own ⟨W9.heap.size, 0, none⟩ 1 1 [.int .i64 kd, .int .i64 0, .string ⟨#[]⟩, .int .i64 0, .slice uo un uc] rfl rfl (cell_five_new _ _ _ _ _ _ _ _ rfl) (fun x hx => by simp at hx; rcases hx with rfl | rfl | rfl | rfl | rfl <;> rfl) (by unfold maxLen; omega) (by omega) hzA ?_; intro v8 w8 hown8 hgr8 hnil8 hat8; (obtain ⟨so, sn, sc, hv8⟩ := own_slice hown8); subst hv8; (have HZ8 := Lib.hid (And.intro hown8 (And.intro hgr8 hat8))); (have g8 := (hgr8.block (w.heap.size + 1) (by omega) (fun e => by have := (HGA.out.own.lt _ e.symm).1; omega)).trans HGA.out.g); (have p0' := cell_of_block (o := 0) g8); (have f0' := frozen_blk g8 0); (simp only [List.getElem?_toArray, List.getElem?_cons_zero, List.getElem?_cons_succ] at p0'); clear g8 hown8 hgr8 hnil8 hat8)
                    obtain ⟨hown8, hgr8, hat8⟩ := HZ8.out
                    have hnext := HGA.out.next (k := kd) (t := Wn.blockTok kd t) (u := .slice uo un uc) (x := xs) (base := w3.heap.size + 1) HUA.out (by omega) (fun b hb => by have := (HG3.out.own.lt b hb).2; omega) (by rw [show valCells (kd, Wn.blockTok kd t, .slice uo un uc) = [.int .i64 kd, .int .i64 0, .string ⟨#[]⟩, .int .i64 0, .slice uo un uc] by rw [HBT.out]; first | rfl | (rw [← HX.out]; rfl)]; exact hown8) hgr8 (hat8.imp id (fun e => ⟨_, Nat.le_refl _, e⟩))
                    refine ⟨⟨_, j', es ++ [(kd, Wn.blockTok kd t, .slice uo un uc)], acc.app (.cons kd (Wn.blockTok kd t) xs .nil), by omega, hjl', by simp; omega, Lib.hid hnext, Lib.hid (by rw [HE2.out, HL1.out])⟩, ?_⟩
                    rw [toOf_at hnext, toOf_at HG.out]; omega
                  · have HBT : Hid (Wn.blockTok kd t = t) := Lib.hid (by unfold Wn.blockTok; rw [if_pos (by simpa using h5)])
                    have T7 := HUJ7.out.tok HT5.out (by omega) (by omega)
                    (have k0t7 : W7.cell? ⟨wr.heap.size, 0, none⟩ = some _ := (T7).c0); (have k1t7 : W7.cell? ⟨wr.heap.size, 1, none⟩ = some _ := (T7).c1); (have k2t7 : W7.cell? ⟨wr.heap.size, 2, none⟩ = some _ := (T7).c2); (try dsimp only at k0t7 k1t7 k2t7)
                    rw [HX.out] at k1t7
                    (have q0b := cell_of_block (o := 0) HUJ7.out.v; have q1b := cell_of_block (o := 1) HUJ7.out.v; have q2b := cell_of_block (o := 2) HUJ7.out.v; have q3b := cell_of_block (o := 3) HUJ7.out.v; have q4b := cell_of_block (o := 4) HUJ7.out.v; have z0b := frozen_blk HUJ7.out.v 0; have z1b := frozen_blk HUJ7.out.v 1; have z2b := frozen_blk HUJ7.out.v 2; have z3b := frozen_blk HUJ7.out.v 3; have z4b := frozen_blk HUJ7.out.v 4; simp only [List.getElem?_toArray, List.getElem?_cons_zero, List.getElem?_cons_succ] at q0b q1b q2b q3b q4b)
                    clear T7
                    go_upto_region 19 with fail
                    have HUJ8 : Hid (UJ w w3 w5 (((W7.setCell ⟨w3.heap.size, 1, none⟩ (.int .i64 t.1)).setCell ⟨w3.heap.size, 2, none⟩ (.string x)).setCell ⟨w3.heap.size, 3, none⟩ (.int .i64 t.2.2)) #[.slice uo un uc, .int .i64 (j' : Int), .bool false] #[.int .i64 kd, .int .i64 t.1, .string x, .int .i64 t.2.2, .slice uo un uc] #[.slice ro rn rc, .int .i64 ((j : Int) + 1), .bool false]) := Lib.hid (((HUJ7.out.setV 1 (.int .i64 t.1)).setV 2 (.string x)).setV 3 (.int .i64 t.2.2))
                    generalize ((W7.setCell ⟨w3.heap.size, 1, none⟩ (.int .i64 t.1)).setCell ⟨w3.heap.size, 2, none⟩ (.string x)).setCell ⟨w3.heap.size, 3, none⟩ (.int .i64 t.2.2) = W8 at *
                    clear q0b q1b q2b q3b q4b z0b z1b z2b z3b z4b k0t7 k1t7 k2t7 HUJ7
                    have x1 := cell_of_block (o := 1) HUJ8.out.x
                    have g1 := cell_of_block (o := 1) HUJ8.out.g
                    have gf := frozen_blk HUJ8.out.g 1
                    simp only [List.getElem?_toArray, List.getElem?_cons_zero, List.getElem?_cons_succ] at x1 g1
                    go_upto_region 20 with fail
                    have HUJ9 : Hid (UJ w w3 w5 (W8.setCell ⟨w.heap.size + 1, 1, none⟩ (.int .i64 (j' : Int))) #[.slice uo un uc, .int .i64 (j' : Int), .bool false] #[.int .i64 kd, .int .i64 t.1, .string x, .int .i64 t.2.2, .slice uo un uc] #[.slice ro rn rc, .int .i64 (j' : Int), .bool false]) := Lib.hid (HUJ8.out.setG 1 (.int .i64 (j' : Int)))
                    generalize W8.setCell ⟨w.heap.size + 1, 1, none⟩ (.int .i64 (j' : Int)) = W9 at *
                    clear x1 g1 gf HUJ8
                    have HG9 := Lib.hid (HUJ9.out.mid HG3.out H35.out)
                    have HU9 := Lib.hid (HUJ9.out.val HU.out)
                    (have q0c := cell_of_block (o := 0) HUJ9.out.v; have q1c := cell_of_block (o := 1) HUJ9.out.v; have q2c := cell_of_block (o := 2) HUJ9.out.v; have q3c := cell_of_block (o := 3) HUJ9.out.v; have q4c := cell_of_block (o := 4) HUJ9.out.v; have z0c := frozen_blk HUJ9.out.v 0; have z1c := frozen_blk HUJ9.out.v 1; have z2c := frozen_blk HUJ9.out.v 2; have z3c := frozen_blk HUJ9.out.v 3; have z4c := frozen_blk HUJ9.out.v 4; simp only [List.getElem?_toArray, List.getElem?_cons_zero, List.getElem?_cons_succ] at q0c q1c q2c q3c q4c)
                    have g0 := cell_of_block (o := 0) HUJ9.out.g
                    simp only [List.getElem?_toArray, List.getElem?_cons_zero, List.getElem?_cons_succ] at g0
                    have hz9 := HUJ9.out.size
                    have hlt9 := HUJ9.out.lt
                    have hBA : Below W9.heap.size W9 (W9.alloc (.cells #[.int .i64 kd, .int .i64 t.1, .string x, .int .i64 t.2.2, .slice uo un uc] 49)) := (Below.refl _ _).alloc (Nat.le_refl _) _
                    have HGA := Lib.hid (HG9.out.later hBA)
                    have HUA := Lib.hid (HU9.out.below hBA)
                    have hzA := HGA.out.size
                    clear hBA
                    go_wp2_with (at_builtin; refine wpList_append_own_at _ rfl _ _ 22 rfl (w.heap.size + 2) 49 i0 (.agg #[.int .i64 0, .int .i64 0, .string ⟨#[]⟩, .int .i64 0, .slice none 0 0]) 5 64 Tryz.underlying22 hi0 hz0 hz1 hz2 rfl (by decide) _ es.length (valsCells es) rfl HGA.out.own ⟨W9.heap.size, 0, none⟩ 1 1 [.int .i64 kd, .int .i64 t.1, .string x, .int .i64 t.2.2, .slice uo un uc] rfl rfl (cell_five_new _ _ _ _ _ _ _ _ rfl) (fun x hx => by simp at hx; rcases hx with rfl | rfl | rfl | rfl | rfl <;> rfl) (by unfold maxLen; omega) (by omega) hzA ?_; intro v8 w8 hown8 hgr8 hnil8 hat8; (obtain ⟨so, sn, sc, hv8⟩ := own_slice hown8); subst hv8; (have HZ8 := Lib.hid (And.intro hown8 (And.intro hgr8 hat8))); (have g8 := (hgr8.block (w.heap.size + 1) (by omega) (fun e => by have := (HGA.out.own.lt _ e.symm).1; omega)).trans HGA.out.g); (have p0' := cell_of_block (o := 0) g8); (have f0' := frozen_blk g8 0); (simp only [List.getElem?_toArray, List.getElem?_cons_zero, List.getElem?_cons_succ] at p0'); clear g8 hown8 hgr8 hnil8 hat8)
                    obtain ⟨hown8, hgr8, hat8⟩ := HZ8.out
                    have hnext := HGA.out.next (k := kd) (t := Wn.blockTok kd t) (u := .slice uo un uc) (x := xs) (base := w3.heap.size + 1) HUA.out (by omega) (fun b hb => by have := (HG3.out.own.lt b hb).2; omega) (by rw [show valCells (kd, Wn.blockTok kd t, .slice uo un uc) = [.int .i64 kd, .int .i64 t.1, .string x, .int .i64 t.2.2, .slice uo un uc] by rw [HBT.out]; first | rfl | (rw [← HX.out]; rfl)]; exact hown8) hgr8 (hat8.imp id (fun e => ⟨_, Nat.le_refl _, e⟩))
                    refine ⟨⟨_, j', es ++ [(kd, Wn.blockTok kd t, .slice uo un uc)], acc.app (.cons kd (Wn.blockTok kd t) xs .nil), by omega, hjl', by simp; omega, Lib.hid hnext, Lib.hid (by rw [HE2.out, HL1.out])⟩, ?_⟩
                    rw [toOf_at hnext, toOf_at HG.out]; omega
        · have HF : Hid (res = some (acc, l.drop (j + 1))) := Lib.hid (by rw [HE0.out, hkd, hlast]; simp [Wn.Fs.app_nil])
          obtain ⟨v1, v2⟩ := HG2.out.leave (.slice ro rn rc) (.int .i64 ((j : Int) + 1)) (.bool false)
          have HV1 := Lib.hid v1
          have HV2 := Lib.hid v2
          clear v1 v2
          go_wp2_with fail
          refine bodyPost_ret (v := .agg #[.slice ro rn rc, .int .i64 ((j : Int) + 1), .bool false]) (by simp [results, Tryz.results74, go_sem, q0, q1, q2]) rfl ?_
          rw [HF.out]
          exact ⟨HV1.out, _, by rw [List.length_drop, show ((l.length : Int) - ((l.length - (j + 1) : Nat) : Int)) = (j : Int) + 1 by omega], HV2.out⟩
      · have hk00 : k = 0 := by rcases HK.out with h | h; exact h; omega
        subst hk00
        have HE1 : Hid (res = Option.map (fun p => (acc.app p.1, p.2)) (match Wn.oneVal t left (l.drop (j + 1)) with | none => none | some q => (Wn.valsL 0 left q.2.2.2).map fun p => (.cons q.1 q.2.1 q.2.2.1 p.1, p.2))) := Lib.hid (by rw [HE0.out, show decide ((0 : Int) < 0) = false from rfl]; rfl)
        go_wp2_with fail
        generalize (wr.setCell ⟨w.heap.size + 1, 1, none⟩ (.int .i64 ((j : Int) + 1))).alloc (.cells #[.int .i64 t.1, .string x, .int .i64 t.2.2] 47) = w2 at *
        have HG2 := HG1
        have T2 := HBX.out
        have hs2 : wr.heap.size + 1 ≤ w2.heap.size := by rw [HZ1.out]; exact Nat.le_refl _
        clear p0 p1 p2 f0 f1 f2 q0 q1 q2 y0 y1 y2 HG1 HBX HZ1 hg1 hg2 hr1 hr2
        (have k0t2 : w2.cell? ⟨wr.heap.size, 0, none⟩ = some _ := (T2).c0); (have k1t2 : w2.cell? ⟨wr.heap.size, 1, none⟩ = some _ := (T2).c1); (have k2t2 : w2.cell? ⟨wr.heap.size, 2, none⟩ = some _ := (T2).c2); (try dsimp only at k0t2 k1t2 k2t2)
        rw [HX.out] at k1t2
        have p0 := cell_of_block (o := 0) HG2.out.g
        have p1 := cell_of_block (o := 1) HG2.out.g
        have p2 := cell_of_block (o := 2) HG2.out.g
        have f0 := frozen_blk HG2.out.g 0
        have f1 := frozen_blk HG2.out.g 1
        have f2 := frozen_blk HG2.out.g 2
        have q0 := cell_of_block (o := 0) HG2.out.res
        have q1 := cell_of_block (o := 1) HG2.out.res
        have q2 := cell_of_block (o := 2) HG2.out.res
        have y0 := frozen_blk HG2.out.res 0
        have y1 := frozen_blk HG2.out.res 1
        have y2 := frozen_blk HG2.out.res 2
        simp only [List.getElem?_toArray, List.getElem?_cons_zero, List.getElem?_cons_succ] at p0 p1 p2 q0 q1 q2
        have hg1 : w.heap.size + 1 < w2.heap.size := by omega
        have hg2 : ¬ w.heap.size + 1 = w2.heap.size := by omega
        have hr1 : w.heap.size < w2.heap.size := by omega
        have hr2 : ¬ w.heap.size = w2.heap.size := by omega
        clear T2
        have QO := Lib.hid (fun w => ropen_any t w)
        rw [HX.out] at QO
        go_wp2_with fail
        refine (QO.out w2).mono ?_
        rintro e w3 ⟨rfl, b3⟩
        have HG3 := Lib.hid (HG2.out.later b3)
        have T3 := (show TokIn w2 wr.heap.size 0 t from ⟨k0t2, by rw [HX.out]; exact k1t2, k2t2⟩).later b3
        have hs3 := b3.size
        clear p0 p1 p2 f0 f1 f2 q0 q1 q2 y0 y1 y2 b3 QO k0t2 k1t2 k2t2 hg1 hg2 hr1 hr2
        (have k0t3 : w3.cell? ⟨wr.heap.size, 0, none⟩ = some _ := (T3).c0); (have k1t3 : w3.cell? ⟨wr.heap.size, 1, none⟩ = some _ := (T3).c1); (have k2t3 : w3.cell? ⟨wr.heap.size, 2, none⟩ = some _ := (T3).c2); (try dsimp only at k0t3 k1t3 k2t3)
        rw [HX.out] at k1t3
        have p0 := cell_of_block (o := 0) HG3.out.g
        have p1 := cell_of_block (o := 1) HG3.out.g
        have p2 := cell_of_block (o := 2) HG3.out.g
        have f0 := frozen_blk HG3.out.g 0
        have f1 := frozen_blk HG3.out.g 1
        have f2 := frozen_blk HG3.out.g 2
        have q0 := cell_of_block (o := 0) HG3.out.res
        have q1 := cell_of_block (o := 1) HG3.out.res
        have q2 := cell_of_block (o := 2) HG3.out.res
        have y0 := frozen_blk HG3.out.res 0
        have y1 := frozen_blk HG3.out.res 1
        have y2 := frozen_blk HG3.out.res 2
        simp only [List.getElem?_toArray, List.getElem?_cons_zero, List.getElem?_cons_succ] at p0 p1 p2 q0 q1 q2
        have hg1 : w.heap.size + 1 < w3.heap.size := by omega
        have hg2 : ¬ w.heap.size + 1 = w3.heap.size := by omega
        have hr1 : w.heap.size < w3.heap.size := by omega
        have hr2 : ¬ w.heap.size = w3.heap.size := by omega
        have ht1 : wr.heap.size < w3.heap.size := by omega
        have ht2 : ¬ wr.heap.size = w3.heap.size := by omega
        clear T3
        by_cases h1 : Wn.kindOf t = 1
        · have ho : Wn.openK t = 0 := Wn.openK_zero.2 h1
          have HE2 : Hid (res = (Wn.valsL 0 left (l.drop (j + 1))).map fun p => ((acc.app (.cons 1 t .nil .nil)).app p.1, p.2)) := Lib.hid (by
            rw [HE1.out]; unfold Wn.oneVal; rw [if_pos h1]; dsimp only
            cases Wn.valsL 0 left (l.drop (j + 1)) <;> simp [Wn.Fs.app_assoc, Wn.Fs.app])
          rw [ho]
          clear ho h1 HE1
          have HB4 : Hid (Below w3.heap.size w3 ((w3.alloc (.cells #[.int .i64 1, .int .i64 t.1, .string x, .int .i64 t.2.2, .slice none 0 0] 49)).alloc (.cells #[.int .i64 1, .int .i64 t.1, .string x, .int .i64 t.2.2, .slice none 0 0] 49))) := Lib.hid (((Below.refl _ _).alloc (Nat.le_refl _) _).alloc (by simp) _)
          have HG4 := Lib.hid (HG3.out.later HB4.out)
          have hz4 := HG4.out.size
          have hesl : es.length ≤ 1000000 := by omega
          go_wp2_with (at_builtin; refine wpList_append_own_at _ rfl _ _ 22 rfl (w.heap.size + 2) 49 i0 (.agg #[.int .i64 0, .int .i64 0, .string ⟨#[]⟩, .int .i64 0, .slice none 0 0]) 5 64 Tryz.underlying22 hi0 hz0 hz1 hz2 rfl (by decide) _ es.length (valsCells es) rfl HG4.out.own ⟨w3.heap.size + 1, 0, none⟩ 1 1 [.int .i64 1, .int .i64 t.1, .string x, .int .i64 t.2.2, .slice none 0 0] rfl rfl (cell_five_new _ _ _ _ _ _ _ _ (by simp)) (fun x hx => by simp at hx; rcases hx with rfl | rfl | rfl | rfl | rfl <;> rfl) (by unfold maxLen; omega) (by omega) hz4 ?_; intro v8 w8 hown8 hgr8 hnil8 hat8; (obtain ⟨so, sn, sc, hv8⟩ := own_slice hown8); subst hv8; (have HZ8 := Lib.hid (And.intro hown8 (And.intro hgr8 hat8))); (have g8 := (hgr8.block (w.heap.size + 1) (by omega) (fun e => by have := (HG4.out.own.lt _ e.symm).1; omega)).trans HG4.out.g); (have p0' := cell_of_block (o := 0) g8); (have f0' := frozen_blk g8 0); (simp only [List.getElem?_toArray, List.getElem?_cons_zero, List.getElem?_cons_succ] at p0'); clear g8 hown8 hgr8 hnil8 hat8)
          obtain ⟨hown8, hgr8, hat8⟩ := HZ8.out
          have hnext := HG4.out.next (k := 1) (t := t) (u := .slice none 0 0) (x := .nil) (base := ((w3.alloc (.cells #[.int .i64 1, .int .i64 t.1, .string x, .int .i64 t.2.2, .slice none 0 0] 49)).alloc (.cells #[.int .i64 1, .int .i64 t.1, .string x, .int .i64 t.2.2, .slice none 0 0] 49)).heap.size) (ValsP.nil _ _) hz4 (fun b hb => (HG4.out.own.lt b hb).2) (by rw [show valCells (1, t, .slice none 0 0) = [.int .i64 1, .int .i64 t.1, .string x, .int .i64 t.2.2, .slice none 0 0] by rw [← HX.out]; rfl]; exact hown8) hgr8 (hat8.imp id (fun e => ⟨_, Nat.le_refl _, e⟩))
          rw [show (j : Int) + 1 = ((j + 1 : Nat) : Int) by omega] at hnext
          refine ⟨⟨_, j + 1, es ++ [(1, t, .slice none 0 0)], acc.app (.cons 1 t .nil .nil), by omega, by omega, by simp; omega, Lib.hid hnext, HE2⟩, ?_⟩
          rw [toOf_at hnext, toOf_at HG.out]; omega
        · have ho : Wn.openK t = Wn.kindOf t := Wn.openK_blk h1
          rw [ho]
          rcases Wn.kindOf_cases t with hk1 | ⟨hk1, hk2⟩
          · exact absurd hk1 h1
          · generalize hkk : Wn.kindOf t = kd at *
            have HKK := Lib.hid hkk; clear hkk ho h1
            by_cases hl0 : left = 0
            · have HF : Hid (res = none) := Lib.hid (by rw [HE1.out]; unfold Wn.oneVal; rw [if_neg (by rw [HKK.out]; omega), if_pos hl0]; rfl)
              obtain ⟨v1, v2⟩ := HG3.out.leave (.slice ro rn rc) (.int .i64 ((j : Int) + 1)) (.bool true)
              subst hl0
              clear HE1 HE0
              have hBf := (HG3.out.below.setCell (p := ⟨w.heap.size + 1, 2, none⟩) (Nat.le_succ _) (.bool true))
              have HBf := Lib.hid (Below.set3 hBf (Nat.le_refl w.heap.size) (.slice ro rn rc) (.int .i64 ((j : Int) + 1)) (.bool true))
              clear v1 v2 hBf
              go_wp2_with fail
              refine bodyPost_ret (v := .agg #[.slice ro rn rc, .int .i64 ((j : Int) + 1), .bool true]) (by simp [results, Tryz.results74, go_sem, q0, q1, q2, hr1, hr2]) rfl ?_
              rw [HF.out]
              exact ⟨HBf.out.alloc (by simp [World.setCell]; omega) _, _, _, _, _, rfl⟩
            · have hv5 : ∃ o, Wn.valsL kd (left - 1) (l.drop (j + 1)) = o := ⟨_, rfl⟩
              obtain ⟨o5, hv5⟩ := hv5
              have HB4 : Hid (Below w3.heap.size w3 (w3.alloc (.cells #[.int .i64 1, .int .i64 t.1, .string x, .int .i64 t.2.2, .slice none 0 0] 49))) := Lib.hid ((Below.refl _ _).alloc (Nat.le_refl _) _)
              have hBw4 := HG3.out.below.trans (HB4.out.mono HG3.out.below.size)
              have QR := Lib.hid (HIH.out kd (left - 1) (j + 1) (.slice (some ⟨b, off, none⟩) l.length vcap) _ ((j : Int) + 1) ((left : Int) - 1) (Or.inr ⟨hk1, hk2⟩) (by omega) (by omega) (by omega) (HT.out.below hBw4) (by omega) (by omega))
              rw [hv5] at QR
              have HV5 := Lib.hid hv5
              have hl1 : ¬ (left : Int) = 0 := by omega
              have hl2 : ((left : Int) == 0) = false := by simpa using hl1
              have bV := heap_alloc_new w3 (.cells #[.int .i64 1, .int .i64 t.1, .string x, .int .i64 t.2.2, .slice none 0 0] 49)
              have hzV : (w3.alloc (.cells #[.int .i64 1, .int .i64 t.1, .string x, .int .i64 t.2.2, .slice none 0 0] 49)).heap.size = w3.heap.size + 1 := by simp
              have HBV := Lib.hid bV
              have HZV := Lib.hid hzV
              clear hv5 hBw4 bV hzV hl0
              go_wp2_with fail
              generalize w3.alloc (.cells #[.int .i64 1, .int .i64 t.1, .string x, .int .i64 t.2.2, .slice none 0 0] 49) = W4 at *
              refine QR.out.mono ?_
              clear QR
              cases o5 with
              | none =>
                rintro e w5 ⟨b5, xo, xn, xc, xt, rfl⟩
                have HF : Hid (res = none) := Lib.hid (by rw [HE1.out]; unfold Wn.oneVal; rw [if_neg (by rw [HKK.out]; omega), if_neg (by omega), HKK.out, HV5.out]; rfl)
                have HG5 := Lib.hid ((HG3.out.later HB4.out).later b5)
                have hs5 := b5.size
                have HBf := Lib.hid (Below.set3 HG5.out.below (Nat.le_refl w.heap.size) (.slice xo xn xc) (.int .i64 xt) (.bool true))
                clear p0 p1 p2 f0 f1 f2 q0 q1 q2 y0 y1 y2 b5 k0t3 k1t3 k2t3 hg1 hg2 hr1 hr2 ht1 ht2 HE1 HE0
                have q0 := cell_of_block (o := 0) HG5.out.res
                have q1 := cell_of_block (o := 1) HG5.out.res
                have q2 := cell_of_block (o := 2) HG5.out.res
                have y0 := frozen_blk HG5.out.res 0
                have y1 := frozen_blk HG5.out.res 1
                have y2 := frozen_blk HG5.out.res 2
                simp only [List.getElem?_toArray, List.getElem?_cons_zero, List.getElem?_cons_succ] at q0 q1 q2
                have hz5 := HG5.out.size
                have hr1 : w.heap.size < w5.heap.size := by omega
                have hr2 : ¬ w.heap.size = w5.heap.size := by omega
                go_wp2_with fail
                refine bodyPost_ret (v := .agg #[.slice xo xn xc, .int .i64 xt, .bool true]) (by simp [results, Tryz.results74, go_sem, q0, q1, q2, hr1, hr2]) rfl ?_
                rw [HF.out]
                exact ⟨HBf.out.alloc (by simp [World.setCell]; omega) _, _, _, _, _, rfl⟩
              | some q =>
                obtain ⟨xs, l1⟩ := q
                rintro e w5 ⟨b5, u, rfl, hu⟩
                dsimp only at hu ⊢
                have hrest := (Wn.valsL_rest HV5.out).1
                have hsuf := (Wn.valsL_rest HV5.out).2
                have HE2 : Hid (res = (Wn.valsL 0 left l1).map fun p => ((acc.app (.cons kd (Wn.blockTok kd t) xs .nil)).app p.1, p.2)) := Lib.hid (by
                  rw [HE1.out]; unfold Wn.oneVal; rw [if_neg (by rw [HKK.out]; omega), if_neg (by omega), HKK.out, HV5.out]; dsimp only [Option.map_some]
                  cases Wn.valsL 0 left l1 <;> simp [Wn.Fs.app_assoc, Wn.Fs.app])
                have HG5 := Lib.hid ((HG3.out.later HB4.out).later b5)
                have hs5 := b5.size
                have hz5 := HG5.out.size
                have hform : ∃ ao n c, u = .slice ao n c := by obtain ⟨ao, cap, hv, _⟩ := hu.form; exact ⟨_, _, _, hv⟩
                obtain ⟨uo, un, uc, rfl⟩ := hform
                have HU := Lib.hid hu
                have T5 := ((show TokIn w3 wr.heap.size 0 t from ⟨k0t3, by rw [HX.out]; exact k1t3, k2t3⟩).later HB4.out).later b5
                have bV5 := block_lat b5 HBV.out
                have hzv := HZV.out
                clear p0 p1 p2 f0 f1 f2 q0 q1 q2 y0 y1 y2 k0t3 k1t3 k2t3 hg1 hg2 hr1 hr2 HE1 HE0 hu
                (have k0t5 : w5.cell? ⟨wr.heap.size, 0, none⟩ = some _ := (T5).c0); (have k1t5 : w5.cell? ⟨wr.heap.size, 1, none⟩ = some _ := (T5).c1); (have k2t5 : w5.cell? ⟨wr.heap.size, 2, none⟩ = some _ := (T5).c2); (try dsimp only at k0t5 k1t5 k2t5)
                rw [HX.out] at k1t5
                (have q0r := cell_of_block (o := 0) bV5; have q1r := cell_of_block (o := 1) bV5; have q2r := cell_of_block (o := 2) bV5; have q3r := cell_of_block (o := 3) bV5; have q4r := cell_of_block (o := 4) bV5; have z0r := frozen_blk bV5 0; have z1r := frozen_blk bV5 1; have z2r := frozen_blk bV5 2; have z3r := frozen_blk bV5 3; have z4r := frozen_blk bV5 4; simp only [List.getElem?_toArray, List.getElem?_cons_zero, List.getElem?_cons_succ] at q0r q1r q2r q3r q4r)
                have p0 := cell_of_block (o := 0) HG5.out.g
                have p1 := cell_of_block (o := 1) HG5.out.g
                have p2 := cell_of_block (o := 2) HG5.out.g
                have f0 := frozen_blk HG5.out.g 0
                have f1 := frozen_blk HG5.out.g 1
                have f2 := frozen_blk HG5.out.g 2
                simp only [List.getElem?_toArray, List.getElem?_cons_zero, List.getElem?_cons_succ] at p0 p1 p2
                have hg1 : w.heap.size + 1 < w5.heap.size := by omega
                have hg2 : ¬ w.heap.size + 1 = w5.heap.size := by omega
                have hv1 : w3.heap.size < w5.heap.size := by omega
                have hv2 : ¬ w3.heap.size = w5.heap.size := by omega
                have hv3 : ¬ w3.heap.size = w.heap.size + 1 := by have := HG3.out.size; omega
                have hv4 : ¬ w.heap.size + 1 = w3.heap.size := by have := HG3.out.size; omega
                have ht3 : wr.heap.size < w5.heap.size := by omega
                have ht4 : ¬ wr.heap.size = w5.heap.size := by omega
                have ht5 : ¬ wr.heap.size = w3.heap.size := by omega
                have hesl : es.length ≤ 1000000 := by omega
                obtain ⟨j', hj'⟩ : ∃ j', l.length - l1.length = j' := ⟨_, rfl⟩
                dsimp only at hrest hsuf
                rw [List.length_drop] at hrest
                have HL1 : Hid (l1 = l.drop j') := Lib.hid (by rw [← hj']; exact List.suffix_iff_eq_drop.1 (hsuf.trans (List.drop_suffix _ _)))
                have hjj : j + 1 ≤ j' := by omega
                have hjl' : j' ≤ l.length := by omega
                have hto : (l.length : Int) - (l1.length : Int) = (j' : Int) := by omega
                rw [hto]
                have HUJ : Hid (UJ w w3 w5 (w5.alloc (.cells #[.slice uo un uc, .int .i64 (j' : Int), .bool false] 83)) #[.slice uo un uc, .int .i64 (j' : Int), .bool false] #[.int .i64 1, .int .i64 t.1, .string x, .int .i64 t.2.2, .slice none 0 0] #[.slice ro rn rc, .int .i64 ((j : Int) + 1), .bool false]) := Lib.hid (UJ.start (by omega) (by omega) HG5.out.below bV5 HG5.out.g)
                have HT5 := Lib.hid T5
                have H35 : Hid (Below w3.heap.size w3 w5) := Lib.hid (HB4.out.trans (b5.mono HB4.out.size))
                have hwr : wr.heap.size < w3.heap.size := ht1
                have hwn : w.heap.size + 2 ≤ wr.heap.size := hsz
                rw [hzv] at HU
                clear T5 bV5 hzv hsuf hrest hs5 hz5 hs3 hN HV5 HZV HBV hto hj'
                go_upto_region 16 with fail
                generalize w5.alloc (.cells #[.slice uo un uc, .int .i64 (j' : Int), .bool false] 83) = W6 at *
                clear p0 p1 p2 f0 f1 f2 q0r q1r q2r q3r q4r z0r z1r z2r z3r z4r k0t5 k1t5 k2t5 hg1 hg2 hv1 hv2 ht3 ht4
                (have q0a := cell_of_block (o := 0) HUJ.out.v; have q1a := cell_of_block (o := 1) HUJ.out.v; have q2a := cell_of_block (o := 2) HUJ.out.v; have q3a := cell_of_block (o := 3) HUJ.out.v; have q4a := cell_of_block (o := 4) HUJ.out.v; have z0a := frozen_blk HUJ.out.v 0; have z1a := frozen_blk HUJ.out.v 1; have z2a := frozen_blk HUJ.out.v 2; have z3a := frozen_blk HUJ.out.v 3; have z4a := frozen_blk HUJ.out.v 4; simp only [List.getElem?_toArray, List.getElem?_cons_zero, List.getElem?_cons_succ] at q0a q1a q2a q3a q4a)
                have x0 := cell_of_block (o := 0) HUJ.out.x
                have x1 := cell_of_block (o := 1) HUJ.out.x
                simp only [List.getElem?_toArray, List.getElem?_cons_zero, List.getElem?_cons_succ] at x0 x1
                have hx1 : ¬ w5.heap.size = w3.heap.size := by have := HUJ.out.lt; omega
                go_upto_region 17 with fail
                have HUJ7 : Hid (UJ w w3 w5 (((((W6.setCell ⟨w3.heap.size, 0, none⟩ (.int .i64 kd)).setCell ⟨w3.heap.size, 1, none⟩ (.int .i64 0)).setCell ⟨w3.heap.size, 2, none⟩ (.string ⟨#[]⟩)).setCell ⟨w3.heap.size, 3, none⟩ (.int .i64 0)).setCell ⟨w3.heap.size, 4, none⟩ (.slice uo un uc)) #[.slice uo un uc, .int .i64 (j' : Int), .bool false] #[.int .i64 kd, .int .i64 0, .string ⟨#[]⟩, .int .i64 0, .slice uo un uc] #[.slice ro rn rc, .int .i64 ((j : Int) + 1), .bool false]) := Lib.hid (((((HUJ.out.setV 0 (.int .i64 kd)).setV 1 (.int .i64 0)).setV 2 (.string ⟨#[]⟩)).setV 3 (.int .i64 0)).setV 4 (.slice uo un uc))
                generalize ((((W6.setCell ⟨w3.heap.size, 0, none⟩ (.int .i64 kd)).setCell ⟨w3.heap.size, 1, none⟩ (.int .i64 0)).setCell ⟨w3.heap.size, 2, none⟩ (.string ⟨#[]⟩)).setCell ⟨w3.heap.size, 3, none⟩ (.int .i64 0)).setCell ⟨w3.heap.size, 4, none⟩ (.slice uo un uc) = W7 at *
                clear q0a q1a q2a q3a q4a z0a z1a z2a z3a z4a x0 x1 HUJ
                cases h5 : (kd == 5)
                · have HBT : Hid (Wn.blockTok kd t = (0, [], 0)) := Lib.hid (by unfold Wn.blockTok; rw [if_neg (by simpa using h5)])
                  go_upto_region 19 with fail
                  have x1 := cell_of_block (o := 1) HUJ7.out.x
                  have g1 := cell_of_block (o := 1) HUJ7.out.g
                  have gf := frozen_blk HUJ7.out.g 1
                  simp only [List.getElem?_toArray, List.getElem?_cons_zero, List.getElem?_cons_succ] at x1 g1
                  go_upto_region 20 with fail
                  have HUJ9 : Hid (UJ w w3 w5 (W7.setCell ⟨w.heap.size + 1, 1, none⟩ (.int .i64 (j' : Int))) #[.slice uo un uc, .int .i64 (j' : Int), .bool false] #[.int .i64 kd, .int .i64 0, .string ⟨#[]⟩, .int .i64 0, .slice uo un uc] #[.slice ro rn rc, .int .i64 (j' : Int), .bool false]) := Lib.hid (HUJ7.out.setG 1 (.int .i64 (j' : Int)))
                  generalize W7.setCell ⟨w.heap.size + 1, 1, none⟩ (.int .i64 (j' : Int)) = W9 at *
                  clear x1 g1 gf HUJ7
                  have HG9 := Lib.hid (HUJ9.out.mid HG3.out H35.out)
                  have HU9 := Lib.hid (HUJ9.out.val HU.out)
                  (have q0c := cell_of_block (o := 0) HUJ9.out.v; have q1c := cell_of_block (o := 1) HUJ9.out.v; have q2c := cell_of_block (o := 2) HUJ9.out.v; have q3c := cell_of_block (o := 3) HUJ9.out.v; have q4c := cell_of_block (o := 4) HUJ9.out.v; have z0c := frozen_blk HUJ9.out.v 0; have z1c := frozen_blk HUJ9.out.v 1; have z2c := frozen_blk HUJ9.out.v 2; have z3c := frozen_blk HUJ9.out.v 3; have z4c := frozen_blk HUJ9.out.v 4; simp only [List.getElem?_toArray, List.getElem?_cons_zero, List.getElem?_cons_succ] at q0c q1c q2c q3c q4c)
                  have g0 := cell_of_block (o := 0) HUJ9.out.g
                  simp only [List.getElem?_toArray, List.getElem?_cons_zero, List.getElem?_cons_succ] at g0
                  have hz9 := HUJ9.out.size
                  have hlt9 := HUJ9.out.lt
                  have hBA : Below W9.heap.size W9 (W9.alloc (.cells #[.int .i64 kd, .int .i64 0, .string ⟨#[]⟩, .int .i64 0, .slice uo un uc] 49)) := (Below.refl _ _).alloc (Nat.le_refl _) _
                  have HGA := Lib.hid (HG9.out.later hBA)
                  have HUA := Lib.hid (HU9.out.below hBA)
                  have hzA := HGA.out.size
                  clear hBA
                  go_wp2_with (at_builtin; refine wpList_append_own_at _ rfl _ _ 22 rfl (w.heap.size + 2) 49 i0 (.agg #[.int .i64 0, .int .i64 0, .string ⟨#[]⟩, .int .i64 0, .slice none 0 0]) 5 64 Tryz.underlying22 hi0 hz0 hz1 hz2 rfl (by decide) _ es.length (valsCells es) rfl HGA.out.own ⟨W9.heap.size, 0, none⟩ 1 1 [.int .i64 kd, .int .i64 0, .string ⟨#[]⟩, .int .i64 0, .slice uo un uc] rfl rfl (cell_five_new _ _ _ _ _ _ _ _ rfl) (fun x hx => by simp at hx; rcases hx with rfl | rfl | rfl | rfl | rfl <;> rfl) (by unfold maxLen; omega) (by omega) hzA ?_; intro v8 w8 hown8 hgr8 hnil8 hat8; (obtain ⟨so, sn, sc, hv8⟩ := own_slice hown8); subst hv8; (have HZ8 := Lib.hid (And.intro hown8 (And.intro hgr8 hat8))); (have g8 := (hgr8.block (w.heap.size + 1) (by omega) (fun e => by have := (HGA.out.own.lt _ e.symm).1; omega)).trans HGA.out.g); (have p0' := cell_of_block (o := 0) g8); (have f0' := frozen_blk g8 0); (simp only [List.getElem?_toArray, List.getElem?_cons_zero, List.getElem?_cons_succ] at p0'); clear g8 hown8 hgr8 hnil8 hat8)
                  obtain ⟨hown8, hgr8, hat8⟩ := HZ8.out
                  have hnext := HGA.out.next (k := kd) (t := Wn.blockTok kd t) (u := .slice uo un uc) (x := xs) (base := w3.heap.size + 1) HUA.out (by omega) (fun b hb => by have := (HG3.out.own.lt b hb).2; omega) (by rw [show valCells (kd, Wn.blockTok kd t, .slice uo un uc) = [.int .i64 kd, .int .i64 0, .string ⟨#[]⟩, .int .i64 0, .slice uo un uc] by rw [HBT.out]; first | rfl | (rw [← HX.out]; rfl)]; exact hown8) hgr8 (hat8.imp id (fun e => ⟨_, Nat.le_refl _, e⟩))
                  refine ⟨⟨_, j', es ++ [(kd, Wn.blockTok kd t, .slice uo un uc)], acc.app (.cons kd (Wn.blockTok kd t) xs .nil), by omega, hjl', by simp; omega, Lib.hid hnext, Lib.hid (by rw [HE2.out, HL1.out])⟩, ?_⟩
                  rw [toOf_at hnext, toOf_at HG.out]; omega
                · have HBT : Hid (Wn.blockTok kd t = t) := Lib.hid (by unfold Wn.blockTok; rw [if_pos (by simpa using h5)])
                  have T7 := HUJ7.out.tok HT5.out (by omega) (by omega)
                  (have k0t7 : W7.cell? ⟨wr.heap.size, 0, none⟩ = some _ := (T7).c0); (have k1t7 : W7.cell? ⟨wr.heap.size, 1, none⟩ = some _ := (T7).c1); (have k2t7 : W7.cell? ⟨wr.heap.size, 2, none⟩ = some _ := (T7).c2); (try dsimp only at k0t7 k1t7 k2t7)
                  rw [HX.out] at k1t7
                  (have q0b := cell_of_block (o := 0) HUJ7.out.v; have q1b := cell_of_block (o := 1) HUJ7.out.v; have q2b := cell_of_block (o := 2) HUJ7.out.v; have q3b := cell_of_block (o := 3) HUJ7.out.v; have q4b := cell_of_block (o := 4) HUJ7.out.v; have z0b := frozen_blk HUJ7.out.v 0; have z1b := frozen_blk HUJ7.out.v 1; have z2b := frozen_blk HUJ7.out.v 2; have z3b := frozen_blk HUJ7.out.v 3; have z4b := frozen_blk HUJ7.out.v 4; simp only [List.getElem?_toArray, List.getElem?_cons_zero, List.getElem?_cons_succ] at q0b q1b q2b q3b q4b)
                  clear T7
                  go_upto_region 19 with fail
                  have HUJ8 : Hid (UJ w w3 w5 (((W7.setCell ⟨w3.heap.size, 1, none⟩ (.int .i64 t.1)).setCell ⟨w3.heap.size, 2, none⟩ (.string x)).setCell ⟨w3.heap.size, 3, none⟩ (.int .i64 t.2.2)) #[.slice uo un uc, .int .i64 (j' : Int), .bool false] #[.int .i64 kd, .int .i64 t.1, .string x, .int .i64 t.2.2, .slice uo un uc] #[.slice ro rn rc, .int .i64 ((j : Int) + 1), .bool false]) := Lib.hid (((HUJ7.out.setV 1 (.int .i64 t.1)).setV 2 (.string x)).setV 3 (.int .i64 t.2.2))
                  generalize ((W7.setCell ⟨w3.heap.size, 1, none⟩ (.int .i64 t.1)).setCell ⟨w3.heap.size, 2, none⟩ (.string x)).setCell ⟨w3.heap.size, 3, none⟩ (.int .i64 t.2.2) = W8 at *
                  clear q0b q1b q2b q3b q4b z0b z1b z2b z3b z4b k0t7 k1t7 k2t7 HUJ7
                  have x1 := cell_of_block (o := 1) HUJ8.out.x
                  have g1 := cell_of_block (o := 1) HUJ8.out.g
                  have gf := frozen_blk HUJ8.out.g 1
                  simp only [List.getElem?_toArray, List.getElem?_cons_zero, List.getElem?_cons_succ] at x1 g1
                  go_upto_region 20 with fail
                  have HUJ9 : Hid (UJ w w3 w5 (W8.setCell ⟨w.heap.size + 1, 1, none⟩ (.int .i64 (j' : Int))) #[.slice uo un uc, .int .i64 (j' : Int), .bool false] #[.int .i64 kd, .int .i64 t.1, .string x, .int .i64 t.2.2, .slice uo un uc] #[.slice ro rn rc, .int .i64 (j' : Int), .bool false]) := Lib.hid (HUJ8.out.setG 1 (.int .i64 (j' : Int)))
                  generalize W8.setCell ⟨w.heap.size + 1, 1, none⟩ (.int .i64 (j' : Int)) = W9 at *
                  clear x1 g1 gf HUJ8
                  have HG9 := Lib.hid (HUJ9.out.mid HG3.out H35.out)
                  have HU9 := Lib.hid (HUJ9.out.val HU.out)
                  (have q0c := cell_of_block (o := 0) HUJ9.out.v; have q1c := cell_of_block (o := 1) HUJ9.out.v; have q2c := cell_of_block (o := 2) HUJ9.out.v; have q3c := cell_of_block (o := 3) HUJ9.out.v; have q4c := cell_of_block (o := 4) HUJ9.out.v; have z0c := frozen_blk HUJ9.out.v 0; have z1c := frozen_blk HUJ9.out.v 1; have z2c := frozen_blk HUJ9.out.v 2; have z3c := frozen_blk HUJ9.out.v 3; have z4c := frozen_blk HUJ9.out.v 4; simp only [List.getElem?_toArray, List.getElem?_cons_zero, List.getElem?_cons_succ] at q0c q1c q2c q3c q4c)
                  have g0 := cell_of_block (o := 0) HUJ9.out.g
                  simp only [List.getElem?_toArray, List.getElem?_cons_zero, List.getElem?_cons_succ] at g0
                  have hz9 := HUJ9.out.size
                  have hlt9 := HUJ9.out.lt
                  have hBA : Below W9.heap.size W9 (W9.alloc (.cells #[.int .i64 kd, .int .i64 t.1, .string x, .int .i64 t.2.2, .slice uo un uc] 49)) := (Below.refl _ _).alloc (Nat.le_refl _) _
                  have HGA := Lib.hid (HG9.out.later hBA)
                  have HUA := Lib.hid (HU9.out.below hBA)
                  have hzA := HGA.out.size
                  clear hBA
                  go_wp2_with (at_builtin; refine wpList_append_own_at _ rfl _ _ 22 rfl (w.heap.size + 2) 49 i0 (.agg #[.int .i64 0, .int .i64 0, .string ⟨#[]⟩, .int .i64 0, .slice none 0 0]) 5 64 Tryz.underlying22 hi0 hz0 hz1 hz2 rfl (by decide) _ es.length (valsCells es) rfl HGA.out.own ⟨W9.heap.size, 0, none⟩ 1 1 [.int .i64 kd, .int .i64 t.1, .string x, .int .i64 t.2.2, .slice uo un uc] rfl rfl (cell_five_new _ _ _ _ _ _ _ _ rfl) (fun x hx => by simp at hx; rcases hx with rfl | rfl | rfl | rfl | rfl <;> rfl) (by unfold maxLen; omega) (by omega) hzA ?_; intro v8 w8 hown8 hgr8 hnil8 hat8; (obtain ⟨so, sn, sc, hv8⟩ := own_slice hown8); subst hv8; (have HZ8 := Lib.hid (And.intro hown8 (And.intro hgr8 hat8))); (have g8 := (hgr8.block (w.heap.size + 1) (by omega) (fun e => by have := (HGA.out.own.lt _ e.symm).1; omega)).trans HGA.out.g); (have p0' := cell_of_block (o := 0) g8); (have f0' := frozen_blk g8 0); (simp only [List.getElem?_toArray, List.getElem?_cons_zero, List.getElem?_cons_succ] at p0'); clear g8 hown8 hgr8 hnil8 hat8)
                  obtain ⟨hown8, hgr8, hat8⟩ := HZ8.out
                  have hnext := HGA.out.next (k := kd) (t := Wn.blockTok kd t) (u := .slice uo un uc) (x := xs) (base := w3.heap.size + 1) HUA.out (by omega) (fun b hb => by have := (HG3.out.own.lt b hb).2; omega) (by rw [show valCells (kd, Wn.blockTok kd t, .slice uo un uc) = [.int .i64 kd, .int .i64 t.1, .string x, .int .i64 t.2.2, .slice uo un uc] by rw [HBT.out]; first | rfl | (rw [← HX.out]; rfl)]; exact hown8) hgr8 (hat8.imp id (fun e => ⟨_, Nat.le_refl _, e⟩))
                  refine ⟨⟨_, j', es ++ [(kd, Wn.blockTok kd t, .slice uo un uc)], acc.app (.cons kd (Wn.blockTok kd t) xs .nil), by omega, hjl', by simp; omega, Lib.hid hnext, Lib.hid (by rw [HE2.out, HL1.out])⟩, ?_⟩
                  rw [toOf_at hnext, toOf_at HG.out]; omega
    · have HF : Hid (res = some (acc, [])) := Lib.hid (by rw [HE.out, List.drop_of_length_le (by omega), Wn.valsL_nil]; simp [Wn.Fs.app_nil])
      have hjn : j = l.length := by omega
      have HJ := Lib.hid hjn; clear hjn
      obtain ⟨v1, v2⟩ := HG.out.leave (.slice ro rn rc) (.int .i64 (j : Int)) (.bool false)
      have HV1 := Lib.hid v1
      have HV2 := Lib.hid v2
      clear v1 v2
      go_wp2_with fail
      refine bodyPost_ret (v := .agg #[.slice ro rn rc, .int .i64 (j : Int), .bool false]) (by simp [results, Tryz.results74, go_sem, q0, q1, q2]) rfl ?_
      rw [HF.out]
      exact ⟨HV1.out, _, by rw [HJ.out]; simp, HV2.out⟩
end Go.Proofs.YtjlejiphpbaonaaGreatDoor
set_option linter.unusedVariables false
set_option linter.unusedSimpArgs false
set_option maxRecDepth 20000
namespace Go.Proofs.YtjlejiphpbaonaaGreatDoor
open Go.RowKit Go.Sort
theorem until_all (l : List Wn.Tok) (hl : l.length ≤ 1000000) : ∀ N : Nat, GSaid l N
  | 0 => fun _ _ _ _ _ _ _ _ _ _ h => by omega
  | N + 1 => until_step l hl N (until_all l hl N)
set_option maxHeartbeats 400000 in
theorem rParse_arg (v : Value) (l : List Wn.Tok) (deep : Int) (w : World) (h : deep < 1 ∨ 60 < deep) :
    Calls Tryz.prog 47 #[v, .int .i64 deep] w (ParsePost w l deep) := by
  have HH := Lib.hid h
  by_cases h1 : deep < 1
  · clear h
    go_enter Tryz.func47, Tryz.ntmps47
    go_wp2_with fail
    go_ret2
    exact ⟨Below.refl _ _, by rw [if_pos HH.out]; rfl⟩
  · have h2 : 60 < deep := by omega
    clear h
    go_enter Tryz.func47, Tryz.ntmps47
    go_wp2_with fail
    go_ret2
    exact ⟨Below.refl _ _, by rw [if_pos HH.out]; rfl⟩
set_option maxRecDepth 100000 in
set_option maxHeartbeats 400000 in
theorem rParse_in (v : Value) (l : List Wn.Tok) (deep : Int) (w : World) (h1 : 1 ≤ deep) (h2 : deep ≤ 60) (hT : Toks w v l) (hl : l.length < 1000000) :
    Calls Tryz.prog 47 #[v, .int .i64 deep] w (ParsePost w l deep) := by
  have HH : Hid (¬ (deep < 1 ∨ 60 < deep)) := Lib.hid (by omega)
  have QU := Lib.hid (until_all l (by omega) (l.length + 1) 0 deep.toNat 0 v w 0 deep (.inl rfl) (by omega) (by omega) (by omega) hT rfl (by omega))
  rw [List.drop_zero] at QU
  generalize hres : Wn.valsL 0 deep.toNat l = res at QU
  have HRes := Lib.hid hres
  have hd1 : ¬ deep < 1 := by omega
  have hd2 : ¬ 60 < deep := by omega
  clear hres hT hl
  generalize l.length = n at QU
  go_enter Tryz.func47, Tryz.ntmps47
  go_wp2_with fail
  refine QU.out.mono ?_
  clear QU
  cases res with
  | none =>
    rintro e w1 ⟨b1, ao, c, d, to, rfl⟩
    have HB := Lib.hid b1
    clear b1
    go_wp2_with fail
    go_ret2
    exact ⟨HB.out.alloc HB.out.size _, by rw [if_neg HH.out, parse_valsL, HRes.out]; rfl⟩
  | some p =>
    rintro e w1 ⟨b1, r, rfl, hv⟩
    have HB := Lib.hid b1
    have HV := Lib.hid hv
    have hform : ∃ ao n c, r = .slice ao n c := by obtain ⟨ao, cap, hv, _⟩ := hv.form; exact ⟨_, _, _, hv⟩
    obtain ⟨ro, rn, rc, rfl⟩ := hform
    clear b1 hv
    go_wp2_with fail
    go_ret2
    exact ⟨HB.out.alloc HB.out.size _, by rw [if_neg HH.out, parse_valsL, HRes.out]; exact ⟨_, rfl, HV.out.below ((Below.refl _ _).alloc (Nat.le_refl _) _)⟩⟩
theorem rParse_any (v : Value) (l : List Wn.Tok) (deep : Int) (w : World) (hT : Toks w v l) (hl : l.length < 1000000) :
    Calls Tryz.prog 47 #[v, .int .i64 deep] w (ParsePost w l deep) := by
  by_cases h : deep < 1 ∨ 60 < deep
  · exact rParse_arg v l deep w h
  · exact rParse_in v l deep w (by omega) (by omega) hT hl
end Go.Proofs.YtjlejiphpbaonaaGreatDoor
set_option linter.unusedVariables false
set_option linter.unusedSimpArgs false
set_option maxRecDepth 20000
namespace Go.Proofs.YtjlejiphpbaonaaGreatDoor
open Go.RowKit Go.Sort
theorem rFlat_any (v : Value) (f : Wn.Fs) (w : World) (hv : Vals w v f) (hl : (Wn.flat f).length ≤ 1000000) : Calls Tryz.prog 51 #[v] w (FlatPost w (Wn.flat f)) := rFlat_all (f.size + 1) f (Nat.lt_succ_self _) v w hv hl
end Go.Proofs.YtjlejiphpbaonaaGreatDoor
