/- What nest.Depth answers. What nest.Same, sameVal and slices.EqualFunc answer. What nest.allValid and May answer. What was parsed is told flat, and parsed again as it was: plain mathematics of values. Parsing that succeeds, and that does not; literal tokens. -/
import Derived.Test.YtjlejiphpbaonaaGreatDoorGP
import Derived.Test.YtjlejiphpbaonaaGreatDoorGM
set_option linter.unusedVariables false
set_option linter.unusedSimpArgs false
set_option maxRecDepth 20000
namespace Wn
theorem depth_le_size : ∀ f : Fs, depth f ≤ f.size
  | .nil => Nat.le_refl _
  | .cons k t x r => by
    have h1 := depth_le_size x
    have h2 := depth_le_size r
    simp only [depth, Fs.size]
    split <;> omega
end Wn
namespace Go.Proofs.YtjlejiphpbaonaaGreatDoor
open Go.RowKit Go.Sort
def DSaid (f : Wn.Fs) : Prop := ∀ (v : Value) (w : World), Vals w v f → Calls Tryz.prog 85 #[v] w fun e w' => e = .returned (.int .i64 (Wn.depth f)) ∧ Below w.heap.size w w'
set_option maxRecDepth 100000 in
set_option maxHeartbeats 2000000 in
theorem Depth_step (f : Wn.Fs) (hf : f.size ≤ 1000000) (IH : ∀ g : Wn.Fs, g.size < f.size → DSaid g) : DSaid f := by
  intro v w hv
  have HIH := Lib.hid IH; clear IH
  have HV := Lib.hid hv
  obtain ⟨ao, cap, rfl, c1, c2⟩ := hv.form
  unfold maxLen at c2
  clear hv
  have hD := Wn.depth_le_size f
  generalize hDD : Wn.depth f = D at *
  have HD0 : Hid (max 0 (Wn.depth (f.drop 0)) = D) := Lib.hid (by rw [Wn.Fs.drop_zero, hDD]; omega)
  clear hDD
  go_enter Tryz.func85, Tryz.ntmps85
  go_wp2_with fail
  go_loopw [3, 8] (fun v3 v8 wr => ∃ (i mx : Nat), i ≤ f.len ∧ mx ≤ D ∧ v8 = .int .i64 (i : Int) ∧ v3 = .int .i64 (mx : Int) ∧ Hid (Below w.heap.size w wr) ∧ Hid (max mx (Wn.depth (f.drop i)) = D)) (fun _ v8 _ => f.len - (intOf v8).toNat)
  case atStart => exact ⟨0, 0, by omega, by omega, rfl, rfl, Lib.hid (Below.refl _ _), HD0⟩
  case round =>
    obtain ⟨i, mx, hil, hmx, rfl, rfl, HB, HE⟩ := hrel
    by_cases hlt : i < f.len
    · obtain ⟨k, t, x, hd⟩ := Wn.Fs.drop_cons hlt
      obtain ⟨b, o, rfl, j0, ⟨j1, j2, j3⟩, u, j4, hu⟩ := (HV.out.below HB.out).at hd
      rw [show o + i * 5 + 1 + 1 = o + i * 5 + 2 by omega] at j2
      rw [show o + i * 5 + 1 + 2 = o + i * 5 + 3 by omega] at j3
      have hsz := Wn.Fs.size_drop hd
      have HDr := Lib.hid hd; clear hd
      have hform : ∃ ao n c, u = .slice ao n c := by obtain ⟨ao, cap, hv, _⟩ := hu.form; exact ⟨_, _, _, hv⟩
      obtain ⟨uo, un, uc, rfl⟩ := hform
      have QB := Lib.hid (fun w => isBlock_any k t (.slice uo un uc) w)
      have bV := heap_alloc_new wr (.cells #[.int .i64 k, .int .i64 t.1, .string (Wn.str t.2.1), .int .i64 t.2.2, .slice uo un uc] 49)
      have hBB : Below wr.heap.size wr (wr.alloc (.cells #[.int .i64 k, .int .i64 t.1, .string (Wn.str t.2.1), .int .i64 t.2.2, .slice uo un uc] 49)) := (Below.refl _ _).alloc (Nat.le_refl _) _
      generalize Wn.str t.2.1 = y at *
      have HBB := Lib.hid hBB
      have HBV := Lib.hid bV
      have HU := Lib.hid hu
      clear hu hBB bV
      have hi1 : (i : Int) < (f.len : Int) := by omega
      go_wp2_with fail
      generalize wr.alloc (.cells #[.int .i64 k, .int .i64 t.1, .string y, .int .i64 t.2.2, .slice uo un uc] 49) = W at *
      refine (QB.out W).mono ?_
      rintro e w2 ⟨rfl, b2⟩
      have HB2 := Lib.hid (HB.out.trans ((HBB.out.trans (b2.mono HBB.out.size)).mono HB.out.size))
      have k4 := cell_of_block (o := 4) (block_lat b2 HBV.out)
      simp only [List.getElem?_toArray, List.getElem?_cons_zero, List.getElem?_cons_succ] at k4
      have HU2 := Lib.hid ((HU.out.below HBB.out).below b2)
      clear b2 QB
      cases hk : Wn.isBlk k
      · have HE2 : Hid (max mx (Wn.depth (f.drop (i + 1))) = D) := Lib.hid (by rw [← HE.out, HDr.out]; simp [Wn.depth, hk])
        go_wp2_with fail
        exact ⟨⟨i + 1, mx, by omega, hmx, by go_num, rfl, HB2, HE2⟩, by simp [intOf]; omega⟩
      · have HE2 : Hid (max (max mx (1 + Wn.depth x)) (Wn.depth (f.drop (i + 1))) = D) := Lib.hid (by rw [← HE.out, HDr.out]; simp [Wn.depth, hk])
        have hdx : 1 + Wn.depth x ≤ D := by have := HE2.out; omega
        have QD := Lib.hid (HIH.out x hsz (.slice uo un uc))
        generalize Wn.depth x = dx at *
        go_wp2_with fail
        refine (QD.out _ HU2.out).mono ?_
        rintro e w3 ⟨rfl, b3⟩
        have HB3 := Lib.hid (HB2.out.trans (b3.mono HB2.out.size))
        clear b3
        go_wp2_with fail
        exact ⟨⟨i + 1, max mx (1 + dx), by omega, by omega, by go_num, by congr 1; omega, HB3, HE2⟩, by simp [intOf]; omega⟩
    · have HE2 : Hid (mx = D) := Lib.hid (by have := HE.out; rw [Wn.Fs.drop_len (by omega)] at this; simpa [Wn.depth] using this)
      go_wp2_with fail
      go_ret
      exact ⟨ret_int (by rw [HE2.out]), HB.out⟩
theorem Depth_all : ∀ (n : Nat) (f : Wn.Fs), f.size < n → f.size ≤ 1000000 → DSaid f
  | 0, f, h, _ => by omega
  | n + 1, f, h, hf => Depth_step f hf fun g hg => Depth_all n g (by omega) (by omega)
theorem Depth_any (v : Value) (f : Wn.Fs) (w : World) (hv : Vals w v f) (hf : f.size ≤ 1000000) :
    Calls Tryz.prog 85 #[v] w fun e w' => e = .returned (.int .i64 (Wn.depth f)) ∧ Below w.heap.size w w' := Depth_all (f.size + 1) f (Nat.lt_succ_self _) hf v w hv
end Go.Proofs.YtjlejiphpbaonaaGreatDoor
set_option linter.unusedVariables false
set_option linter.unusedSimpArgs false
set_option maxRecDepth 20000
namespace Go.Proofs.YtjlejiphpbaonaaGreatDoor
open Go.RowKit Go.Sort
def SSaid (f : Wn.Fs) : Prop := ∀ (g : Wn.Fs) (v u : Value) (w : World), Vals w v f → Vals w u g → Calls Tryz.prog 73 #[v, u] w fun e w' => e = .returned (.bool (decide (f = g))) ∧ Below w.heap.size w w'
theorem str_dec {x y : ByteArray} {a b : List UInt8} (hx : x.toList = a) (hy : y.toList = b) : (x.toList == y.toList) = decide (a = b) := by rw [hx, hy]; rw [Bool.eq_iff_iff]; simp
set_option maxRecDepth 100000 in
set_option maxHeartbeats 1000000 in
theorem sameVal_any (k k' : Int) (t t' : Wn.Tok) (x x' : Wn.Fs) (u u' : Value) (w : World) (hx : SSaid x) (hu : Vals w u x) (hu' : Vals w u' x') :
    Calls Tryz.prog 93 #[.agg #[.int .i64 k, .int .i64 t.1, .string (Wn.str t.2.1), .int .i64 t.2.2, u], .agg #[.int .i64 k', .int .i64 t'.1, .string (Wn.str t'.2.1), .int .i64 t'.2.2, u']] w fun e w' => e = .returned (.bool (decide (k = k' ∧ t = t' ∧ x = x'))) ∧ Below w.heap.size w w' := by
  obtain ⟨a, b, c⟩ := t
  obtain ⟨a', b', c'⟩ := t'
  dsimp only at *
  have hf : ∃ ao n c, u = .slice ao n c := by obtain ⟨ao, cap, hv, _⟩ := hu.form; exact ⟨_, _, _, hv⟩
  have hf' : ∃ ao n c, u' = .slice ao n c := by obtain ⟨ao, cap, hv, _⟩ := hu'.form; exact ⟨_, _, _, hv⟩
  obtain ⟨uo, un, uc, rfl⟩ := hf
  obtain ⟨vo, vn, vc, rfl⟩ := hf'
  have hs := str_list b
  have hs' := str_list b'
  have e : decide (k = k' ∧ (a, b, c) = (a', b', c') ∧ x = x') = ((k == k') && ((a == a') && (b == b') && (c == c')) && decide (x = x')) := by
    rw [Bool.eq_iff_iff]; simp [and_assoc]
  rw [e]
  clear e
  generalize Wn.str b = p at *
  generalize Wn.str b' = q at *
  subst hs hs'
  have HB : Hid (Below w.heap.size w ((w.alloc (.cells #[.int .i64 k, .int .i64 a, .string p, .int .i64 c, .slice uo un uc] 49)).alloc (.cells #[.int .i64 k', .int .i64 a', .string q, .int .i64 c', .slice vo vn vc] 49))) := Lib.hid (((Below.refl _ _).alloc (Nat.le_refl _) _).alloc (by simp) _)
  have QS := Lib.hid (hx x' (.slice uo un uc) (.slice vo vn vc))
  have HU := Lib.hid (hu.below HB.out)
  have HU' := Lib.hid (hu'.below HB.out)
  clear hx hu hu'
  generalize decide (x = x') = R at *
  cases h0 : (k == k')
  · go_enter Tryz.func93, Tryz.ntmps93
    go_wp2_with fail
    go_ret
    exact ⟨ret_bool (by simp), HB.out⟩
  · cases h1 : (a == a')
    · go_enter Tryz.func93, Tryz.ntmps93
      go_wp2_with fail
      go_ret
      exact ⟨ret_bool (by simp), HB.out⟩
    · cases h2 : (p.toList == q.toList)
      · go_enter Tryz.func93, Tryz.ntmps93
        go_wp2_with fail
        go_ret
        exact ⟨ret_bool (by simp), HB.out⟩
      · cases h3 : (c == c')
        · go_enter Tryz.func93, Tryz.ntmps93
          go_wp2_with fail
          go_ret
          exact ⟨ret_bool (by simp), HB.out⟩
        · go_enter Tryz.func93, Tryz.ntmps93
          go_wp2_with fail
          refine (QS.out _ HU.out HU'.out).mono ?_
          rintro e w2 ⟨rfl, b2⟩
          have HB2 := Lib.hid (HB.out.trans (b2.mono HB.out.size)); clear b2
          go_wp2_with fail
          go_ret
          exact ⟨ret_bool (by simp), HB2.out⟩
set_option maxRecDepth 100000 in
set_option maxHeartbeats 2000000 in
theorem EqualFunc_any (f g : Wn.Fs) (v u : Value) (w : World) (IH : ∀ x : Wn.Fs, x.size < f.size → SSaid x) (hv : Vals w v f) (hu : Vals w u g) :
    Calls Tryz.prog 92 #[v, u, .func (.func 93) #[] #[]] w fun e w' => e = .returned (.bool (decide (f = g))) ∧ Below w.heap.size w w' := by
  have HIH := Lib.hid IH; clear IH
  have HV := Lib.hid hv
  have HU := Lib.hid hu
  obtain ⟨ao, cap, rfl, c1, c2⟩ := hv.form
  obtain ⟨bo, cbp, rfl, d1, d2⟩ := hu.form
  unfold maxLen at c2 d2
  clear hv hu
  by_cases hlen : f.len = g.len
  · generalize hR : decide (f = g) = R
    have HR : Hid (decide (f.drop 0 = g.drop 0) = R) := Lib.hid (by rw [Wn.Fs.drop_zero, Wn.Fs.drop_zero]; exact hR)
    clear hR
    have hnb : ((f.len : Int) != (g.len : Int)) = false := by rw [hlen]; simp
    have HLN := Lib.hid hlen; clear hlen
    go_enter Tryz.func92, Tryz.ntmps92
    go_wp2_with fail
    go_loopw [17] (fun v17 wr => ∃ (i : Nat), i ≤ f.len ∧ v17 = .int .i64 (i : Int) ∧ Hid (Below w.heap.size w wr) ∧ Hid (decide (f.drop i = g.drop i) = R)) (fun v17 _ => f.len - (intOf v17).toNat)
    case atStart => exact ⟨0, by omega, rfl, Lib.hid (Below.refl _ _), HR⟩
    case round =>
      obtain ⟨i, hil, rfl, HB, HE⟩ := hrel
      by_cases hlt : i < f.len
      · have hlt2 : i < g.len := by have := HLN.out; omega
        obtain ⟨k, t, x, hd⟩ := Wn.Fs.drop_cons hlt
        obtain ⟨k', t', x', hd'⟩ := Wn.Fs.drop_cons hlt2
        obtain ⟨b, o, rfl, j0, ⟨j1, j2, j3⟩, u, j4, hu⟩ := (HV.out.below HB.out).at hd
        obtain ⟨b', o', rfl, l0, ⟨l1, l2, l3⟩, u', l4, hu'⟩ := (HU.out.below HB.out).at hd'
        rw [show o + i * 5 + 1 + 1 = o + i * 5 + 2 by omega] at j2
        rw [show o + i * 5 + 1 + 2 = o + i * 5 + 3 by omega] at j3
        rw [show o' + i * 5 + 1 + 1 = o' + i * 5 + 2 by omega] at l2
        rw [show o' + i * 5 + 1 + 2 = o' + i * 5 + 3 by omega] at l3
        have hbl : b' < wr.heap.size := World.block_lt_of_cell? _ _ l0
        have hbn : ¬ b' = wr.heap.size := by omega
        have hsz := Wn.Fs.size_drop hd
        have HE2 : Hid ((decide (k = k' ∧ t = t' ∧ x = x') && decide (f.drop (i + 1) = g.drop (i + 1))) = R) := Lib.hid (by
          rw [← HE.out, hd, hd']; rw [Bool.eq_iff_iff]; simp [and_assoc])
        have hform : ∃ ao n c, u = .slice ao n c := by obtain ⟨ao, cap, hv, _⟩ := hu.form; exact ⟨_, _, _, hv⟩
        have hform' : ∃ ao n c, u' = .slice ao n c := by obtain ⟨ao, cap, hv, _⟩ := hu'.form; exact ⟨_, _, _, hv⟩
        obtain ⟨uo, un, uc, rfl⟩ := hform
        obtain ⟨vo, vn, vc, rfl⟩ := hform'
        have QS := Lib.hid (fun w hu hu' => sameVal_any k k' t t' x x' (.slice uo un uc) (.slice vo vn vc) w (HIH.out x hsz) hu hu')
        generalize Wn.str t.2.1 = y at *
        generalize Wn.str t'.2.1 = y' at *
        have HBB : Hid (Below wr.heap.size wr ((wr.alloc (.cells #[.int .i64 k, .int .i64 t.1, .string y, .int .i64 t.2.2, .slice uo un uc] 49)).alloc (.cells #[.int .i64 k', .int .i64 t'.1, .string y', .int .i64 t'.2.2, .slice vo vn vc] 49))) := Lib.hid (((Below.refl _ _).alloc (Nat.le_refl _) _).alloc (by simp) _)
        have HUx := Lib.hid (hu.below HBB.out)
        have HUy := Lib.hid (hu'.below HBB.out)
        clear hu hu' hd hd'
        have hi1 : (i : Int) < (f.len : Int) := by omega
        have hi2 : (i : Int) < (g.len : Int) := by omega
        generalize decide (k = k' ∧ t = t' ∧ x = x') = c at *
        go_wp2_with fail
        refine (QS.out _ HUx.out HUy.out).mono ?_
        rintro e w2 ⟨rfl, b2⟩
        have HB2 := Lib.hid (HB.out.trans ((HBB.out.trans (b2.mono HBB.out.size)).mono HB.out.size))
        clear b2
        cases c
        · go_wp2_with fail
          go_ret
          exact ⟨ret_bool (by rw [← HE2.out]; simp), HB2.out⟩
        · go_wp2_with fail
          exact ⟨⟨i + 1, by omega, by go_num, HB2, Lib.hid (by rw [← HE2.out]; simp)⟩, by simp [intOf]; omega⟩
      · have HE2 : Hid (R = true) := Lib.hid (by rw [← HE.out, Wn.Fs.drop_len (by omega), Wn.Fs.drop_len (by have := HLN.out; omega)]; simp)
        go_wp2_with fail
        go_ret
        exact ⟨ret_bool HE2.out.symm, HB.out⟩
  · have hR : decide (f = g) = false := by simp; intro h; exact hlen (by rw [h])
    have HR := Lib.hid hR; clear hR
    have hnb : ((f.len : Int) != (g.len : Int)) = true := by rw [bne_iff_ne]; omega
    clear hlen
    go_enter Tryz.func92, Tryz.ntmps92
    go_wp2_with fail
    go_ret
    exact ⟨ret_bool HR.out.symm, Below.refl _ _⟩
set_option maxHeartbeats 400000 in
theorem Same_step (f : Wn.Fs) (IH : ∀ x : Wn.Fs, x.size < f.size → SSaid x) : SSaid f := by
  intro g v u w hv hu
  have Q := Lib.hid (EqualFunc_any f g v u w IH hv hu)
  clear IH hv hu
  generalize decide (f = g) = R at *
  go_enter Tryz.func73, Tryz.ntmps73
  go_wp2_with fail
  refine Q.out.mono ?_
  rintro e w2 ⟨rfl, b2⟩
  have HB2 := Lib.hid b2; clear b2
  go_wp2_with fail
  go_ret
  exact ⟨rfl, HB2.out⟩
theorem Same_all : ∀ (n : Nat) (f : Wn.Fs), f.size < n → SSaid f
  | 0, f, h => by omega
  | n + 1, f, h => Same_step f fun g hg => Same_all n g (by omega)
theorem NSame_any (v u : Value) (f g : Wn.Fs) (w : World) (hv : Vals w v f) (hu : Vals w u g) :
    Calls Tryz.prog 73 #[v, u] w fun e w' => e = .returned (.bool (decide (f = g))) ∧ Below w.heap.size w w' := Same_all (f.size + 1) f (Nat.lt_succ_self _) g v u w hv hu
end Go.Proofs.YtjlejiphpbaonaaGreatDoor
set_option linter.unusedVariables false
set_option linter.unusedSimpArgs false
set_option maxRecDepth 20000
namespace Wn
def mayF (f : Fs) : Bool := (flat f).all may && decide (parse (flat f) 60 = some f)
end Wn
namespace Go.Proofs.YtjlejiphpbaonaaGreatDoor
open Go.RowKit Go.Sort
theorem all_step' {l : List Wn.Tok} {j : Nat} {t : Wn.Tok} (h : l[j]? = some t) : (l.drop j).all Wn.may = (Wn.may t && (l.drop (j + 1)).all Wn.may) := by
  have hj : j < l.length := (List.getElem?_eq_some_iff.1 h).1
  rw [List.drop_eq_getElem_cons hj, List.all_cons]
  rw [List.getElem?_eq_getElem hj, Option.some.injEq] at h
  rw [h]
set_option maxRecDepth 100000 in
set_option maxHeartbeats 1000000 in
theorem allValid_any (v : Value) (l : List Wn.Tok) (w : World) (ht : Tab w) (hl : Toks w v l) (hf : ∀ t ∈ l, Fine t) :
    Calls Tryz.prog 90 #[v] w fun e w' => e = .returned (.bool (l.all Wn.may)) ∧ Below w.heap.size w w' := by
  generalize hR : l.all Wn.may = R
  have HR : Hid ((l.drop 0).all Wn.may = R) := Lib.hid hR
  clear hR
  have HT := Lib.hid ht; clear ht
  have HF := Lib.hid hf; clear hf
  obtain ⟨lo, lcap, rfl, hc1, hc2, hcell⟩ := hl
  have HLC := Lib.hid hcell
  clear hcell
  unfold maxLen at hc2
  go_enter Tryz.func90, Tryz.ntmps90
  go_wp2_with fail
  go_loopw [7] (fun v7 ws => ∃ j : Nat, j ≤ l.length ∧ v7 = .int .i64 (j : Int) ∧ Hid (Below w.heap.size w ws) ∧ Hid ((l.drop j).all Wn.may = R)) (fun v7 _ => l.length - (intOf v7).toNat)
  case atStart => exact ⟨0, by omega, rfl, Lib.hid (Below.refl _ _), HR⟩
  case round =>
    obtain ⟨j, hj, rfl, HB, HV⟩ := hrel
    by_cases hlt : j < l.length
    · obtain ⟨t, hTk⟩ : ∃ t, l[j]? = some t := ⟨l[j], List.getElem?_eq_getElem hlt⟩
      obtain ⟨b, off, rfl, hin⟩ := HLC.out j _ hTk
      obtain ⟨i0, i1, i2⟩ := hin.below HB.out hin.lt
      generalize hm : Wn.may t = m
      have qm := fun w ht => May_r t m _ w rfl hm ht (HF.out t (List.mem_of_getElem? hTk))
      rw [tokV_str] at qm
      have HTK := Lib.hid (all_step' hTk)
      have HM := Lib.hid hm
      have hBB : Below wr.heap.size wr (wr.alloc (.cells #[.int .i64 t.1, .string (Wn.str t.2.1), .int .i64 t.2.2] 47)) := (Below.refl _ _).alloc (Nat.le_refl _) _
      clear hm hTk hin
      generalize hx : Wn.str t.2.1 = x at *
      have HBB := Lib.hid (HB.out.trans (hBB.mono HB.out.size))
      have QM := Lib.hid qm
      clear qm hx hBB
      have hi1 : (j : Int) < (l.length : Int) := by omega
      go_wp2_with fail
      refine (QM.out _ (HT.out.below HBB.out)).mono ?_
      rintro e w10 ⟨rfl, b10⟩
      have HB10 := Lib.hid (HBB.out.trans (b10.mono HBB.out.size)); clear b10
      cases m
      · go_wp2_with fail
        go_ret
        exact ⟨ret_bool (by rw [← HV.out, HTK.out, HM.out]; rfl), HB10.out⟩
      · go_wp2_with fail
        exact ⟨⟨j + 1, by omega, by go_num, HB10, Lib.hid (by rw [← HV.out, HTK.out, HM.out]; rfl)⟩, by simp [intOf]; omega⟩
    · have HR2 : Hid (R = true) := Lib.hid (by rw [← HV.out, List.drop_of_length_le (by omega)]; rfl)
      go_wp2_with fail
      go_ret
      exact ⟨ret_bool HR2.out.symm, HB.out⟩
set_option maxRecDepth 100000 in
set_option maxHeartbeats 1000000 in
theorem NMay_any (v : Value) (f : Wn.Fs) (w : World) (ht : Tab w) (hv : Vals w v f) (hl : (Wn.flat f).length < 1000000) (hf : ∀ t ∈ Wn.flat f, Fine t) :
    Calls Tryz.prog 69 #[v] w fun e w' => e = .returned (.bool (Wn.mayF f)) ∧ Below w.heap.size w w' := by
  have hR : Wn.mayF f = ((Wn.flat f).all Wn.may && decide (Wn.parse (Wn.flat f) 60 = some f)) := rfl
  generalize Wn.mayF f = R at *
  have HT := Lib.hid ht; clear ht
  have HV := Lib.hid hv; clear hv
  have QF := Lib.hid (Flat_any v f w HV.out (by omega))
  have QA := Lib.hid (fun v w ht hl => allValid_any v (Wn.flat f) w ht hl hf)
  have QP := Lib.hid (fun v w hT => Parse_any v (Wn.flat f) 60 w hT hl)
  have HR := Lib.hid hR
  clear hl hf hR
  generalize hall : (Wn.flat f).all Wn.may = al at *
  clear hall
  go_enter Tryz.func69, Tryz.ntmps69
  go_wp2_with fail
  refine QF.out.mono ?_
  rintro e w1 ⟨r, rfl, hown, b1⟩
  have HW1 := Lib.hid (Toks.ofRow hown)
  have HB1 := Lib.hid b1
  clear hown b1 QF
  go_wp2_with fail
  refine (QA.out _ _ (HT.out.below HB1.out) HW1.out).mono ?_
  rintro e w2 ⟨rfl, b2⟩
  have HW2 := Lib.hid (HW1.out.below b2)
  have HB2 := Lib.hid (HB1.out.trans (b2.mono HB1.out.size))
  clear b2 QA
  cases al
  · go_wp2_with fail
    go_ret
    exact ⟨ret_bool (by rw [HR.out]; simp), HB2.out⟩
  · go_wp2_with fail
    refine (QP.out _ _ HW2.out).mono ?_
    rintro e w3 ⟨b3, hpost⟩
    rw [if_neg (by omega)] at hpost
    have HB3 := Lib.hid (HB2.out.trans (b3.mono HB2.out.size))
    rw [show (60 : Int).toNat = 60 from rfl] at hpost
    clear b3 QP
    cases hp : Wn.parse (Wn.flat f) 60 with
    | none =>
      rw [hp] at hpost
      dsimp only at hpost
      subst hpost
      have HR2 : Hid (R = false) := Lib.hid (by rw [HR.out, hp]; simp)
      clear hp
      go_wp2_with fail
      go_ret
      exact ⟨ret_bool HR2.out.symm, HB3.out⟩
    | some f' =>
      rw [hp] at hpost
      dsimp only at hpost
      obtain ⟨r', rfl, hv'⟩ := hpost
      have HV' := Lib.hid hv'.any
      have HR2 : Hid (R = decide (f' = f)) := Lib.hid (by rw [HR.out, hp]; simp)
      clear hp hv'
      go_wp2_with fail
      refine (NSame_any _ _ f' f _ HV'.out (HV.out.below HB3.out)).mono ?_
      rintro e w4 ⟨rfl, b4⟩
      have HB4 := Lib.hid (HB3.out.trans (b4.mono HB3.out.size))
      clear b4
      go_wp2_with fail
      go_ret
      exact ⟨ret_bool HR2.out.symm, HB4.out⟩
end Go.Proofs.YtjlejiphpbaonaaGreatDoor
set_option linter.unusedVariables false
set_option linter.unusedSimpArgs false
set_option maxRecDepth 20000
namespace Wn
/-- values as they may stand in a block of kind k -/
def Ok : Int → Fs → Prop
  | _, .nil => True
  | k, .cons k' t x r => ((k' = 1 ∧ x = .nil ∧ kindOf t = 1 ∧ closes t k = false) ∨ (isBlk k' = true ∧ t = blockTok k' (opening k' t) ∧ kindOf (opening k' t) = k' ∧ Ok k' x)) ∧ Ok k r
theorem closes_tok {t : Tok} {k : Int} (h : closes t k = true) : isBlk k = true ∧ t = dlm (closeB k) := by unfold closes at h; simpa using h
theorem kindOf_close (k : Int) : kindOf (dlm (closeB k)) = 1 := by
  unfold closeB
  split
  · decide
  · split <;> decide
theorem closes_no {t : Tok} {k : Int} (h : ¬ kindOf t = 1) : closes t k = false := by
  cases hc : closes t k
  · rfl
  · obtain ⟨_, rfl⟩ := closes_tok hc
    exact absurd (kindOf_close k) h
theorem kindOf_blk {t : Tok} (h : ¬ kindOf t = 1) : isBlk (kindOf t) = true := by
  rcases kindOf_cases t with h1 | ⟨h1, h2⟩
  · exact absurd h1 h
  · unfold isBlk; simp; omega
/-- the token that opens a block is told as it was -/
theorem opening_block {t : Tok} (h : ¬ kindOf t = 1) : opening (kindOf t) (blockTok (kindOf t) t) = t := by
  unfold opening blockTok
  by_cases h5 : kindOf t = 5
  · simp [h5]
  · rw [if_neg h5]
    have hk : ¬ t.1 = 2 := fun h2 => h5 (by unfold kindOf; rw [if_pos h2])
    unfold kindOf at h ⊢
    rw [if_neg hk] at h ⊢
    split
    · rename_i e; rw [e]; rfl
    · split
      · rename_i e; rw [e]; rfl
      · split
        · rename_i e; rw [e]; rfl
        · simp_all
theorem blk_ne {k : Int} (h : isBlk k = true) : ¬ k = 1 := by rintro rfl; simp [isBlk] at h
theorem flat_block {k : Int} (t : Tok) (x r : Fs) (hb : isBlk k = true) : flat (.cons k t x r) = opening k t :: (flat x ++ dlm (closeB k) :: flat r) := by
  simp [flat, blk_ne hb, hb]
theorem flat_one (t : Tok) (r : Fs) : flat (.cons 1 t .nil r) = t :: flat r := by simp [flat]
theorem depth_block {k : Int} (t : Tok) (x r : Fs) (hb : isBlk k = true) : depth (.cons k t x r) = max (1 + depth x) (depth r) := by simp [depth, hb]
theorem depth_one (t : Tok) (r : Fs) : depth (.cons 1 t .nil r) = depth r := by simp [depth, isBlk]
/-- what comes of parsing, step by step -/
theorem valsL_ind {M : Int → Nat → List Tok → Fs → List Tok → Prop}
    (hnil : ∀ k left, M k left [] .nil [])
    (hclose : ∀ k left l, isBlk k = true → M k left (dlm (closeB k) :: l) .nil l)
    (htok : ∀ k left t l f l', closes t k = false → kindOf t = 1 → valsL k left l = some (f, l') → M k left l f l' → M k left (t :: l) (.cons 1 t .nil f) l')
    (hblk : ∀ k left t l x l1 f l', closes t k = false → ¬ kindOf t = 1 → 0 < left → valsL (kindOf t) (left - 1) l = some (x, l1) → M (kindOf t) (left - 1) l x l1 → valsL k left l1 = some (f, l') → M k left l1 f l' → M k left (t :: l) (.cons (kindOf t) (blockTok (kindOf t) t) x f) l') :
    ∀ (n : Nat) (k : Int) (left : Nat) (l : List Tok) (f : Fs) (l' : List Tok), l.length ≤ n → valsL k left l = some (f, l') → M k left l f l'
  | n, k, left, [], f, l', _, h => by
    rw [valsL_nil] at h
    simp only [Option.some.injEq, Prod.mk.injEq] at h
    obtain ⟨rfl, rfl⟩ := h
    exact hnil k left
  | 0, k, left, t :: l, f, l', hl, _ => by simp at hl
  | n + 1, k, left, t :: l, f, l', hl, h => by
    simp only [List.length_cons] at hl
    rw [valsL_cons] at h
    cases hc : closes t k
    · rw [hc] at h
      simp only [Bool.false_eq_true, if_false] at h
      cases ho : oneVal t left l with
      | none => rw [ho] at h; cases h
      | some q =>
        rw [ho] at h
        dsimp only at h
        rw [Option.map_eq_some_iff] at h
        obtain ⟨p, hp, he⟩ := h
        simp only [Prod.mk.injEq] at he
        obtain ⟨rfl, rfl⟩ := he
        have hr := (oneVal_rest ho).1
        unfold oneVal at ho
        by_cases h1 : kindOf t = 1
        · rw [if_pos h1] at ho
          simp only [Option.some.injEq] at ho
          subst ho
          exact htok k left t l p.1 p.2 hc h1 hp (valsL_ind hnil hclose htok hblk n k left l p.1 p.2 (by omega) hp)
        · rw [if_neg h1] at ho
          by_cases h0 : left = 0
          · rw [if_pos h0] at ho; cases ho
          · rw [if_neg h0, Option.map_eq_some_iff] at ho
            obtain ⟨q', hq', rfl⟩ := ho
            dsimp only at hp hr ⊢
            exact hblk k left t l q'.1 q'.2 p.1 p.2 hc h1 (by omega) hq' (valsL_ind hnil hclose htok hblk n _ _ l q'.1 q'.2 (by omega) hq') hp (valsL_ind hnil hclose htok hblk n k left q'.2 p.1 p.2 (by omega) hp)
    · rw [hc] at h
      simp only [if_true, Option.some.injEq, Prod.mk.injEq] at h
      obtain ⟨rfl, rfl⟩ := h
      obtain ⟨hb, rfl⟩ := closes_tok hc
      exact hclose k left l hb
theorem valsL_ok {k : Int} {left : Nat} {l : List Tok} {f : Fs} {l' : List Tok} (h : valsL k left l = some (f, l')) : Ok k f :=
  valsL_ind (M := fun k _ _ f _ => Ok k f) (fun _ _ => trivial) (fun _ _ _ _ => trivial) (fun k left t l f l' hc h1 _ ih => ⟨.inl ⟨rfl, rfl, h1, hc⟩, ih⟩)
    (fun k left t l x l1 f l' hc h1 h0 _ ih1 _ ih2 => ⟨.inr ⟨kindOf_blk h1, by rw [opening_block h1], by rw [opening_block h1], ih1⟩, ih2⟩) _ k left l f l' (Nat.le_refl _) h
theorem valsL_depth {k : Int} {left : Nat} {l : List Tok} {f : Fs} {l' : List Tok} (h : valsL k left l = some (f, l')) : depth f ≤ left :=
  valsL_ind (M := fun _ left _ f _ => depth f ≤ left) (fun _ _ => Nat.zero_le _) (fun _ _ _ _ => Nat.zero_le _) (fun k left t l f l' hc h1 _ ih => by rw [depth_one]; exact ih)
    (fun k left t l x l1 f l' hc h1 h0 _ ih1 _ ih2 => by rw [depth_block _ _ _ (kindOf_blk h1)]; omega) _ k left l f l' (Nat.le_refl _) h
theorem valsL_size {k : Int} {left : Nat} {l : List Tok} {f : Fs} {l' : List Tok} (h : valsL k left l = some (f, l')) : f.size + l'.length ≤ l.length :=
  valsL_ind (M := fun _ _ l f l' => f.size + l'.length ≤ l.length) (fun _ _ => Nat.le_refl _) (fun _ _ _ _ => by simp [Fs.size]) (fun k left t l f l' hc h1 _ ih => by simp only [Fs.size, List.length_cons]; omega)
    (fun k left t l x l1 f l' hc h1 h0 _ ih1 _ ih2 => by simp only [Fs.size, List.length_cons]; omega) _ k left l f l' (Nat.le_refl _) h
theorem flat_len : ∀ f : Fs, (flat f).length ≤ 2 * f.size
  | .nil => Nat.le_refl _
  | .cons k t x r => by
    have h1 := flat_len x
    have h2 := flat_len r
    simp only [flat, Fs.size, List.length_append]
    split
    · simp; omega
    · split
      · simp; omega
      · simp; omega
/-- the tokens that were parsed are those that are told, but for last ones that were not there -/
theorem valsL_flat {k : Int} {left : Nat} {l : List Tok} {f : Fs} {l' : List Tok} (h : valsL k left l = some (f, l')) : (isBlk k = true ∧ l = flat f ++ dlm (closeB k) :: l') ∨ (l' = [] ∧ l <+: flat f) :=
  valsL_ind (M := fun k _ l f l' => (isBlk k = true ∧ l = flat f ++ dlm (closeB k) :: l') ∨ (l' = [] ∧ l <+: flat f)) (fun _ _ => .inr ⟨rfl, List.nil_prefix⟩) (fun k left l hb => .inl ⟨hb, rfl⟩)
    (fun k left t l f l' hc h1 _ ih => by
      rw [flat_one]
      rcases ih with ⟨hb, e⟩ | ⟨e, hp⟩
      · exact .inl ⟨hb, by rw [List.cons_append, ← e]⟩
      · exact .inr ⟨e, List.prefix_cons_inj t |>.2 hp⟩)
    (fun k left t l x l1 f l' hc h1 h0 hv1 ih1 hv2 ih2 => by
      rw [flat_block _ _ _ (kindOf_blk h1), opening_block h1]
      rcases ih1 with ⟨hb1, e1⟩ | ⟨rfl, hp1⟩
      · rcases ih2 with ⟨hb, e⟩ | ⟨e, hp⟩
        · exact .inl ⟨hb, by rw [e1, e]; simp⟩
        · refine .inr ⟨e, List.prefix_cons_inj t |>.2 ?_⟩
          rw [e1]
          exact (List.prefix_append_right_inj _).2 ((List.prefix_cons_inj _).2 hp)
      · rw [valsL_nil] at hv2
        simp only [Option.some.injEq, Prod.mk.injEq] at hv2
        obtain ⟨rfl, rfl⟩ := hv2
        exact .inr ⟨rfl, List.prefix_cons_inj t |>.2 (hp1.trans (List.prefix_append _ _))⟩) _ k left l f l' (Nat.le_refl _) h
theorem valsL_mem {k : Int} {left : Nat} {l : List Tok} {f : Fs} {l' : List Tok} (h : valsL k left l = some (f, l')) : (∀ t ∈ flat f, t ∈ l ∨ ∃ k, t = dlm (closeB k)) ∧ ∀ t ∈ l', t ∈ l :=
  valsL_ind (M := fun _ _ l f l' => (∀ t ∈ flat f, t ∈ l ∨ ∃ k, t = dlm (closeB k)) ∧ ∀ t ∈ l', t ∈ l) (fun _ _ => ⟨fun t ht => by simp [flat] at ht, fun t ht => by simp at ht⟩) (fun k left l hb => ⟨fun t ht => by simp [flat] at ht, fun t ht => List.mem_cons_of_mem _ ht⟩)
    (fun k left t l f l' hc h1 _ ih => ⟨fun u hu => by
      rw [flat_one, List.mem_cons] at hu
      rcases hu with rfl | hu
      · exact .inl List.mem_cons_self
      · exact (ih.1 u hu).imp (List.mem_cons_of_mem _) id, fun u hu => List.mem_cons_of_mem _ (ih.2 u hu)⟩)
    (fun k left t l x l1 f l' hc h1 h0 hv1 ih1 hv2 ih2 => ⟨fun u hu => by
      rw [flat_block _ _ _ (kindOf_blk h1), opening_block h1, List.mem_cons, List.mem_append, List.mem_cons] at hu
      rcases hu with rfl | hu | rfl | hu
      · exact .inl List.mem_cons_self
      · exact (ih1.1 u hu).imp (List.mem_cons_of_mem _) id
      · exact .inr ⟨_, rfl⟩
      · rcases ih2.1 u hu with h | h
        · exact .inl (List.mem_cons_of_mem _ (ih1.2 u h))
        · exact .inr h, fun u hu => List.mem_cons_of_mem _ (ih1.2 u (ih2.2 u hu))⟩) _ k left l f l' (Nat.le_refl _) h
/-- values that are told flat, and what stands behind them -/
theorem valsL_read : ∀ (f : Fs) (k : Int) (left : Nat) (R : List Tok), Ok k f → depth f ≤ left → valsL k left (flat f ++ R) = (valsL k left R).map fun p => (f.app p.1, p.2)
  | .nil, k, left, R, _, _ => by simp [flat, Fs.app]
  | .cons k' t x r, k, left, R, hok, hd => by
    obtain ⟨hc, hr⟩ := hok
    rcases hc with ⟨rfl, rfl, h1, h2⟩ | ⟨hb, ht, hk, hx⟩
    · rw [depth_one] at hd
      rw [flat_one, List.cons_append, valsL_cons, h2]
      simp only [Bool.false_eq_true, if_false]
      have ho : oneVal t left (flat r ++ R) = some (1, t, .nil, flat r ++ R) := by unfold oneVal; rw [if_pos h1]
      rw [ho]
      dsimp only
      rw [valsL_read r k left R hr hd]
      cases valsL k left R <;> simp [Fs.app]
    · rw [depth_block _ _ _ hb] at hd
      have hne : ¬ kindOf (opening k' t) = 1 := by rw [hk]; exact blk_ne hb
      rw [flat_block _ _ _ hb, List.cons_append, valsL_cons, closes_no hne]
      simp only [Bool.false_eq_true, if_false]
      have e : flat x ++ dlm (closeB k') :: flat r ++ R = flat x ++ (dlm (closeB k') :: (flat r ++ R)) := by simp
      have hcl : closes (dlm (closeB k')) k' = true := by unfold closes; simp [hb]
      have hin : valsL k' (left - 1) (flat x ++ dlm (closeB k') :: flat r ++ R) = some (x, flat r ++ R) := by
        rw [e, valsL_read x k' (left - 1) _ hx (by omega), valsL_cons, hcl]
        simp [Fs.app_nil]
      have ho : oneVal (opening k' t) left (flat x ++ dlm (closeB k') :: flat r ++ R) = some (k', t, x, flat r ++ R) := by
        unfold oneVal
        rw [if_neg hne, if_neg (by omega), hk, hin]
        simp [← ht]
      rw [ho]
      dsimp only
      rw [valsL_read r k left R hr (by omega)]
      cases valsL k left R <;> simp [Fs.app]
/-- not with less depth -/
theorem valsL_less : ∀ (f : Fs) (k : Int) (left : Nat) (R : List Tok), Ok k f → left < depth f → valsL k left (flat f ++ R) = none
  | .nil, k, left, R, _, h => by simp [depth] at h
  | .cons k' t x r, k, left, R, hok, hd => by
    obtain ⟨hc, hr⟩ := hok
    rcases hc with ⟨rfl, rfl, h1, h2⟩ | ⟨hb, ht, hk, hx⟩
    · rw [depth_one] at hd
      rw [flat_one, List.cons_append, valsL_cons, h2]
      simp only [Bool.false_eq_true, if_false]
      have ho : oneVal t left (flat r ++ R) = some (1, t, .nil, flat r ++ R) := by unfold oneVal; rw [if_pos h1]
      rw [ho]
      dsimp only
      rw [valsL_less r k left R hr hd]
      rfl
    · rw [depth_block _ _ _ hb] at hd
      have hne : ¬ kindOf (opening k' t) = 1 := by rw [hk]; exact blk_ne hb
      rw [flat_block _ _ _ hb, List.cons_append, valsL_cons, closes_no hne]
      simp only [Bool.false_eq_true, if_false]
      have e : flat x ++ dlm (closeB k') :: flat r ++ R = flat x ++ (dlm (closeB k') :: (flat r ++ R)) := by simp
      have hcl : closes (dlm (closeB k')) k' = true := by unfold closes; simp [hb]
      by_cases h0 : left = 0
      · have ho : oneVal (opening k' t) left (flat x ++ dlm (closeB k') :: flat r ++ R) = none := by
          unfold oneVal
          rw [if_neg hne, if_pos h0]
        rw [ho]
      · by_cases hdx : depth x ≤ left - 1
        · have hin : valsL k' (left - 1) (flat x ++ dlm (closeB k') :: flat r ++ R) = some (x, flat r ++ R) := by
            rw [e, valsL_read x k' (left - 1) _ hx hdx, valsL_cons, hcl]
            simp [Fs.app_nil]
          have ho : oneVal (opening k' t) left (flat x ++ dlm (closeB k') :: flat r ++ R) = some (k', t, x, flat r ++ R) := by
            unfold oneVal
            rw [if_neg hne, if_neg h0, hk, hin]
            simp [← ht]
          rw [ho]
          dsimp only
          rw [valsL_less r k left R hr (by omega)]
          rfl
        · have ho : oneVal (opening k' t) left (flat x ++ dlm (closeB k') :: flat r ++ R) = none := by
            unfold oneVal
            rw [if_neg hne, if_neg h0, hk, e, valsL_less x k' (left - 1) _ hx (by omega)]
            rfl
          rw [ho]
theorem parse_valsL' (l : List Tok) (n : Nat) : parse l n = (valsL 0 n l).map (·.1) := rfl
theorem parse_some {l : List Tok} {n : Nat} {f : Fs} (h : parse l n = some f) : ∃ l', valsL 0 n l = some (f, l') := by
  rw [parse_valsL', Option.map_eq_some_iff] at h
  obtain ⟨p, hp, rfl⟩ := h
  exact ⟨p.2, hp⟩
theorem parse_flat {f : Fs} {n : Nat} (hok : Ok 0 f) (hd : depth f ≤ n) : parse (flat f) n = some f := by
  have := valsL_read f 0 n [] hok hd
  rw [List.append_nil] at this
  rw [parse_valsL', this, valsL_nil]
  simp [Fs.app_nil]
theorem parse_less {f : Fs} {n : Nat} (hok : Ok 0 f) (hd : n < depth f) : parse (flat f) n = none := by
  have := valsL_less f 0 n [] hok hd
  rw [List.append_nil] at this
  rw [parse_valsL', this]
  rfl
theorem parse_both {f g : Fs} {b : List Tok} {n : Nat} (hok : Ok 0 f) (hd : depth f ≤ n) (h : parse b n = some g) : parse (flat f ++ b) n = some (f.app g) := by
  obtain ⟨l', hv⟩ := parse_some h
  rw [parse_valsL', valsL_read f 0 n b hok hd, hv]
  simp
theorem depth_app : ∀ f g : Fs, depth (f.app g) = max (depth f) (depth g)
  | .nil, g => by simp [Fs.app, depth]
  | .cons k t x r, g => by rw [Fs.app, depth, depth, depth_app r g]; omega
theorem may_close (k : Int) : may (dlm (closeB k)) = true := by
  unfold closeB
  split
  · decide +kernel
  · split <;> decide +kernel
theorem may_parsed {l : List Tok} {f : Fs} (h : parse l 60 = some f) (hm : l.all may = true) : mayF f = true := by
  obtain ⟨l', hv⟩ := parse_some h
  unfold mayF
  rw [parse_flat (valsL_ok hv) (valsL_depth hv)]
  simp only [decide_true, Bool.and_true]
  rw [List.all_eq_true] at hm ⊢
  intro t ht
  rcases (valsL_mem hv).1 t ht with h | ⟨k, rfl⟩
  · exact hm t h
  · exact may_close k
theorem parse_prefix {l : List Tok} {f : Fs} {n : Nat} (h : parse l n = some f) : l <+: flat f := by
  obtain ⟨l', hv⟩ := parse_some h
  rcases valsL_flat hv with ⟨hb, _⟩ | ⟨_, hp⟩
  · simp [isBlk] at hb
  · exact hp
theorem parse_size {l : List Tok} {f : Fs} {n : Nat} (h : parse l n = some f) : f.size ≤ l.length := by
  obtain ⟨l', hv⟩ := parse_some h
  have := valsL_size hv
  omega
end Wn
set_option linter.unusedVariables false
set_option linter.unusedSimpArgs false
set_option maxRecDepth 20000
namespace Wn
def nA : List Tok := [(2, [97], 0), (1, [98], 0), (7, [93], 0)]
def nF : Fs := .cons 5 (2, [97], 0) (.cons 1 (1, [98], 0) .nil (.cons 1 (7, [93], 0) .nil .nil)) .nil
def nB : List Tok := [(7, [40], 0), (7, [91], 0), (7, [123], 0), (1, [120], 0)]
def nG : Fs := .cons 2 (0, [], 0) (.cons 3 (0, [], 0) (.cons 4 (0, [], 0) (.cons 1 (1, [120], 0) .nil .nil) .nil) .nil) .nil
def nZ : Fs := .cons 0 (0, [], 0) .nil .nil
theorem lex_nA : lex [97, 40, 98, 93] = nA := by decide +kernel
theorem lex_nB : lex [40, 91, 123, 120] = nB := by decide +kernel
theorem parse_nA : parse nA 9 = some nF := by decide +kernel
theorem parse_nB2 : parse nB 2 = none := by decide +kernel
theorem parse_nB3 : parse nB 3 = some nG := by decide +kernel
theorem depth_nG : depth nG = 3 := by decide +kernel
theorem flat_nG : flat nG = [(7, [40], 0), (7, [91], 0), (7, [123], 0), (1, [120], 0), (7, [125], 0), (7, [93], 0), (7, [41], 0)] := by decide +kernel
theorem text_nG : text (flat nG) = [40, 91, 123, 120, 125, 93, 41] := by decide +kernel
theorem may_nG : mayF nG = true := by decide +kernel
theorem may_nZ : mayF nZ = false := by decide +kernel
theorem ne_nFG : decide (nF = nG) = false := by decide +kernel
end Wn
namespace Go.Proofs.YtjlejiphpbaonaaGreatDoor
open Go.RowKit Go.Sort
theorem fine_lit {l : List Wn.Tok} (h : (l.all fun t => decide (t.2.1.length ≤ 100000 ∧ -9223372036854775808 ≤ t.2.2 ∧ t.2.2 ≤ 9223372036854775807)) = true) : (∀ t ∈ l, Fine t) ∧ ∀ t ∈ l, ShortTok t := by
  simp only [List.all_eq_true, decide_eq_true_eq] at h
  exact ⟨fun t ht => ⟨by have := (h t ht).1; omega, (h t ht).2⟩, h⟩
/-- a parse that succeeds, and one that does not -/
theorem Parse_some {l : List Wn.Tok} {deep : Int} {f : Wn.Fs} (v : Value) (w : World) (h1 : 1 ≤ deep) (h2 : deep ≤ 60) (hp : Wn.parse l deep.toNat = some f) (hT : Toks w v l) (hl : l.length < 1000000) :
    Calls Tryz.prog 91 #[v, .int .i64 deep] w fun e w' => ∃ r, e = .returned (.tuple #[r, .int .i64 0]) ∧ ValsP w' (fun b => w.heap.size ≤ b) r f ∧ Below w.heap.size w w' :=
  (Parse_any v l deep w hT hl).mono fun e w' ⟨hb, h⟩ => by
    rw [if_neg (by omega), hp] at h
    obtain ⟨r, he, hv⟩ := h
    exact ⟨r, he, hv, hb⟩
theorem Parse_none {l : List Wn.Tok} {deep : Int} (v : Value) (w : World) (h1 : 1 ≤ deep) (h2 : deep ≤ 60) (hp : Wn.parse l deep.toNat = none) (hT : Toks w v l) (hl : l.length < 1000000) :
    Calls Tryz.prog 91 #[v, .int .i64 deep] w fun e w' => e = .returned (.tuple #[.slice none 0 0, .int .i64 20]) ∧ Below w.heap.size w w' :=
  (Parse_any v l deep w hT hl).mono fun e w' ⟨hb, h⟩ => by
    rw [if_neg (by omega), hp] at h
    exact ⟨h, hb⟩
theorem Parse_bad (v : Value) (deep : Int) (w : World) (h : deep < 1 ∨ 60 < deep) :
    Calls Tryz.prog 91 #[v, .int .i64 deep] w fun e w' => e = .returned (.tuple #[.slice none 0 0, .int .i64 1]) ∧ Below w.heap.size w w' :=
  (Parse_arg v [] deep w h).mono fun e w' ⟨hb, h'⟩ => by
    rw [if_pos h] at h'
    exact ⟨h', hb⟩
theorem Vals.mk1 (w : World) (g : Nat) (hg : g = w.heap.size) (k : Int) (t : Wn.Tok) (x : Wn.Fs) (u : Value) (hu : Vals w u x) : Vals (w.alloc (.cells #[.int .i64 k, .int .i64 t.1, .string (Wn.str t.2.1), .int .i64 t.2.2, u] 49)) (.slice (some ⟨g, 0, none⟩) 1 1) (.cons k t x .nil) := by
  subst hg
  have hb := heap_alloc_new w (.cells #[.int .i64 k, .int .i64 t.1, .string (Wn.str t.2.1), .int .i64 t.2.2, u] 49)
  exact ⟨_, 1, rfl, Nat.le_refl _, by unfold maxLen; omega, fun h => (by cases h), fun _ => ⟨_, 0, rfl, VAt.mk trivial (cell_of_block (o := 0) hb) ⟨cell_of_block (o := 1) hb, cell_of_block (o := 2) hb, cell_of_block (o := 3) hb⟩ (cell_of_block (o := 4) hb) (hu.below ((Below.refl _ _).alloc (Nat.le_refl _) _)) trivial⟩⟩
end Go.Proofs.YtjlejiphpbaonaaGreatDoor
