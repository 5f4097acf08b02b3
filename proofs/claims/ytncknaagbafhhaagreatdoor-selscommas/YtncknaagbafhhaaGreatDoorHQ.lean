/- The verifier's second writing of selectors: what part answers. The verifier's second writing of selectors: what May answers. Reading and parsing in one word each, for the laws of the fourth layer. -/
import Derived.Test.YtncknaagbafhhaaGreatDoorHK
import Derived.Test.YtncknaagbafhhaaGreatDoorHM
import Derived.Test.YtncknaagbafhhaaGreatDoorHL
import Derived.Test.YtncknaagbafhhaaGreatDoorKitCM
import Derived.Test.YtncknaagbafhhaaGreatDoorHP
import Derived.Test.YtncknaagbafhhaaGreatDoorGU
set_option linter.unusedVariables false
set_option linter.unusedSimpArgs false
set_option maxRecDepth 20000
namespace Wn
end Wn
namespace Go.Proofs.YtncknaagbafhhaaGreatDoor
open Go.RowKit Go.Sort
theorem short_of_read {s : List UInt8} {f : Wn.Fs} (h : Wn.readF s = some f) (hs : s.length ≤ 100000) : ∀ t ∈ Wn.flat f, ShortTok t := by
  obtain ⟨l', hv⟩ := Wn.parse_some h
  intro t ht
  rcases (Wn.valsL_mem hv).1 t ht with h | ⟨k, rfl⟩
  · exact ⟨Wn.lex_len 100000 s hs t h, Wn.valid_n (Wn.lex_valid _ s (Nat.le_refl _) t h)⟩
  · exact ⟨by have := Wn.closeB_len k; simp only [Wn.dlm]; omega, by simp [Wn.dlm], by simp [Wn.dlm]⟩
theorem short_trim {f : Wn.Fs} (h : ∀ t ∈ Wn.flat f, ShortTok t) : ∀ t ∈ Wn.flat (Wn.trimF f), ShortTok t := fun t ht => h t (Wn.dropB_flat f t (Wn.rtrim_flat _ t ht))
end Go.Proofs.YtncknaagbafhhaaGreatDoor
namespace Wn
def allFrom : Bool → List Sm → Bool
  | _, [] => true
  | f, x :: r => maySm x && (f || !(decide (x.k < 3))) && allFrom false r
def partB (l : List Sm) : Bool := allFrom true l && decide (l.length ≤ 8)
theorem maySm_pos {x : Sm} (h : maySm x = true) : 1 ≤ x.k := by
  by_cases h1 : 1 ≤ x.k
  · exact h1
  · exfalso
    rw [maySm_not (by omega)] at h
    unfold mayPlain at h
    rw [if_neg (by omega), if_neg (by omega), if_neg (by omega), if_neg (by omega), if_neg (by omega), if_neg (by omega), if_neg (by omega)] at h
    cases h
theorem later_eq (x : Sm) : (maySm x && (false || !(decide (x.k < 3)))) = mayLater x := by
  unfold mayLater
  cases h : maySm x
  · simp
  · have := maySm_pos h
    rw [Bool.eq_iff_iff]
    simp
    omega
theorem allFrom_later : ∀ l : List Sm, allFrom false l = l.all mayLater
  | [] => rfl
  | x :: l => by rw [allFrom, later_eq, allFrom_later l]; rfl
theorem mayPart_eq (l : List Sm) (e : Bool) : mayPart l e = if l = [] then e else partB l := by
  cases l with
  | nil => rfl
  | cons x r =>
    rw [if_neg (by simp)]
    unfold mayPart partB allFrom
    rw [allFrom_later]
    simp only [Bool.true_or, Bool.and_true, List.length_cons]
    cases maySm x <;> cases r.all mayLater <;> simp
end Wn
namespace Go.Proofs.YtncknaagbafhhaaGreatDoor
open Go.RowKit Go.Sort
set_option maxRecDepth 100000 in
set_option maxHeartbeats 2000000 in
theorem rPart_v (l : List Wn.Sm) (v : Value) (w : World) (hv : smK.P w (fun _ => True) v l) (hx : ∀ x ∈ l, Wn.shD x) :
    Calls Tryz.prog 46 #[v] w fun e w' => e = .returned (.bool (Wn.partB l)) ∧ Below w.heap.size w w' := by
  have HV := Lib.hid hv
  have HX := Lib.hid hx; clear hx
  obtain ⟨ao, cap, rfl, c1, c2⟩ := hv.form
  unfold maxLen at c2
  clear hv
  generalize hR : Wn.partB l = R
  have HR : Hid ((Wn.allFrom ((0 : Nat) == 0) (l.drop 0) && decide (l.length ≤ 8)) = R) := Lib.hid (by rw [List.drop_zero]; exact hR)
  clear hR
  go_enter Tryz.func46, Tryz.ntmps46
  go_wp2_with fail
  go_loopw [3] (fun v3 wr => ∃ (i : Nat), i ≤ l.length ∧ v3 = .int .i64 (i : Int) ∧ Hid (Below w.heap.size w wr) ∧ Hid ((Wn.allFrom (i == 0) (l.drop i) && decide (l.length ≤ 8)) = R)) (fun v3 _ => l.length - (intOf v3).toNat)
  case atStart => exact ⟨0, by omega, rfl, Lib.hid (Below.refl _ _), HR⟩
  case round =>
    clear HR
    obtain ⟨i, hil, rfl, HB, HE⟩ := hrel
    by_cases hlt : i < l.length
    · obtain ⟨x, hx⟩ := Wn.get_lt hlt
      obtain ⟨g, p, cs, rfl, _, _, hRx, hLx⟩ := (HV.out.below HB.out).at hx
      obtain ⟨xu, rfl, hxu⟩ := hRx
      obtain ⟨xo, xc, rfl, _, _⟩ := hxu.form
      have x0 := hLx 0 _ rfl
      have x1 := hLx 1 _ rfl
      have x2 := hLx 2 _ rfl
      have x3 := hLx 3 _ rfl
      have x4 := hLx 4 _ rfl
      have x5 := hLx 5 _ rfl
      simp only [show smK.sz = 6 from rfl, Nat.add_zero] at x0 x1 x2 x3 x4 x5
      have QO := Lib.hid (rOne_v x _ wr hxu (HX.out x (List.mem_of_getElem? hx)))
      have HE2 : Hid (((Wn.maySm x && ((i == 0) || !(decide (x.k < 3)))) && (Wn.allFrom false (l.drop (i + 1)) && decide (l.length ≤ 8))) = R) := Lib.hid (by rw [← HE.out, Wn.drop_at hx, Wn.allFrom]; simp only [Bool.and_assoc])
      have hi1 : (i : Int) < (l.length : Int) := by omega
      have X0 := Lib.hid x0
      unfold smV at QO
      clear hLx hxu hx HE
      generalize Wn.maySm x = T at *
      generalize x.k = xk at *
      generalize Wn.str x.n = sn at *
      generalize Wn.str x.v = sv at *
      generalize x.a = xa at *
      generalize x.b = xb at *
      generalize x.l.len = ln at *
      go_wp2_with fail
      refine QO.out.mono ?_
      rintro e w1 ⟨rfl, b1⟩
      clear x0 x1 x2 x3 x4 x5
      have x0 := (b1.cell (World.block_lt_of_cell? _ _ X0.out)).trans X0.out
      have HB1 := Lib.hid (HB.out.trans (b1.mono HB.out.size))
      clear b1 QO X0
      cases T
      · have HE3 : Hid (R = false) := Lib.hid (by rw [← HE2.out]; rfl)
        go_wp2_with fail
        go_ret
        exact ⟨ret_bool HE3.out.symm, HB1.out⟩
      · by_cases h0 : i = 0
        · subst h0
          have HE4 : Hid ((Wn.allFrom ((0 + 1 : Nat) == 0) (l.drop (0 + 1)) && decide (l.length ≤ 8)) = R) := Lib.hid (by rw [← HE2.out]; simp)
          clear HE2
          simp only [Nat.zero_mul, Nat.add_zero] at x0
          go_wp2_with fail
          exact ⟨⟨0 + 1, by omega, by go_num, HB1, HE4⟩, by simp [intOf]; omega⟩
        · have hi0 : (0 : Int) < (i : Int) := by omega
          by_cases h3 : xk < 3
          · have HE3 : Hid (R = false) := Lib.hid (by rw [← HE2.out]; simp [h0, h3])
            go_wp2_with fail
            go_ret
            exact ⟨ret_bool HE3.out.symm, HB1.out⟩
          · have HE4 : Hid ((Wn.allFrom ((i + 1 : Nat) == 0) (l.drop (i + 1)) && decide (l.length ≤ 8)) = R) := Lib.hid (by rw [← HE2.out]; simp [h3])
            clear HE2
            go_wp2_with fail
            exact ⟨⟨i + 1, by omega, by go_num, HB1, HE4⟩, by simp [intOf]; omega⟩
    · have HE2 : Hid (R = decide (l.length ≤ 8)) := Lib.hid (by rw [← HE.out, List.drop_of_length_le (by omega)]; rfl)
      have hni : ¬ (i : Int) < (l.length : Int) := by omega
      by_cases h8 : l.length ≤ 8
      · have h8' : (l.length : Int) ≤ 8 := by omega
        go_wp2_with fail
        go_ret
        exact ⟨ret_bool (by rw [HE2.out]; simp; omega), HB.out⟩
      · have h8' : ¬ (l.length : Int) ≤ 8 := by omega
        go_wp2_with fail
        go_ret
        exact ⟨ret_bool (by rw [HE2.out]; simp; omega), HB.out⟩
end Go.Proofs.YtncknaagbafhhaaGreatDoor
set_option linter.unusedVariables false
set_option linter.unusedSimpArgs false
set_option maxRecDepth 20000
namespace Wn
/-- a part, with the combinator that is ahead of it; ps: is there a pseudo-element? last: is it the last one? -/
def stepB (k : Nat) (c : Int) (l : List Sm) (last ps : Bool) : Bool := (decide (0 ≤ c) && decide (c ≤ 4) && (decide (c = 0) == decide (k = 0))) && (partB l && !(decide (l = []) && (!last || !ps)))
theorem partB_nil : partB [] = true := rfl
theorem mayParts_step (ps : Bool) (k : Nat) (p : Int × List Sm) (l : List (Int × List Sm)) : mayParts ps (k == 0) (p :: l) = (stepB k p.1 p.2 (decide (l = [])) ps && mayParts ps (k + 1 == 0) l) := by
  rw [mayParts, mayPart_eq]
  congr 1
  unfold stepB
  by_cases hl : p.2 = []
  · rw [if_pos hl, hl, partB_nil]
    congr 1
    · by_cases hk : k = 0
      · subst hk; rw [Bool.eq_iff_iff]; simp; omega
      · rw [Bool.eq_iff_iff]; simp [hk]; omega
    · cases ps <;> simp
  · rw [if_neg hl]
    congr 1
    · by_cases hk : k = 0
      · subst hk; rw [Bool.eq_iff_iff]; simp; omega
      · rw [Bool.eq_iff_iff]; simp [hk]; omega
    · simp [hl]
def endsB (n : Nat) (s : List UInt8) : Bool := decide (1 ≤ n) && decide (n ≤ 16) && (decide (s = []) || isPseudo s)
theorem mayCx_eq (c : Cx) : mayCx c = (mayParts (decide (c.2 ≠ [])) ((0 : Nat) == 0) c.1 && endsB c.1.length c.2) := by
  unfold mayCx endsB
  rw [Bool.and_comm]; rfl
end Wn
namespace Go.Proofs.YtncknaagbafhhaaGreatDoor
open Go.RowKit Go.Sort
set_option maxRecDepth 100000 in
set_option maxHeartbeats 4000000 in
theorem rMay4_v (l : List Wn.Cx) (v : Value) (w : World) (hv : cxK.P w (fun _ => True) v l) (hx : ∀ c ∈ l, ∀ q ∈ c.1, ∀ x ∈ q.2, Wn.shD x) :
    Calls Tryz.prog 21 #[v] w fun e w' => e = .returned (.bool (Wn.maySels l)) ∧ Below w.heap.size w w' := by
  have HV := Lib.hid hv
  have HX := Lib.hid hx; clear hx
  obtain ⟨ao, cap, rfl, c1, c2⟩ := hv.form
  unfold maxLen at c2
  clear hv
  have HR : Hid (Wn.maySels l = ((l.drop 0).all Wn.mayCx && (decide (1 ≤ l.length) && decide (l.length ≤ 32)))) := Lib.hid (by rw [List.drop_zero, Bool.and_comm]; rfl)
  generalize Wn.maySels l = R at *
  go_enter Tryz.func21, Tryz.ntmps21
  go_wp2_with fail
  go_loopw [3] (fun v3 wr => ∃ (i : Nat), i ≤ l.length ∧ v3 = .int .i64 (i : Int) ∧ Hid (Below w.heap.size w wr) ∧ Hid (R = ((l.drop i).all Wn.mayCx && (decide (1 ≤ l.length) && decide (l.length ≤ 32))))) (fun v3 _ => l.length - (intOf v3).toNat)
  case atStart => exact ⟨0, by omega, rfl, Lib.hid (Below.refl _ _), HR⟩
  case round =>
    clear HR
    obtain ⟨i, hil, rfl, HB, HE⟩ := hrel
    by_cases hlt : i < l.length
    · obtain ⟨x, hx⟩ := Wn.get_lt hlt
      obtain ⟨xs, s⟩ := x
      obtain ⟨b, o, xo, xc, rfl, hxs, j0, j1⟩ := cx_at (HV.out.below HB.out) hx
      have HXX := Lib.hid (HX.out (xs, s) (List.mem_of_getElem? hx))
      have HE2 : Hid (R = (Wn.mayParts (decide (s ≠ [])) ((0 : Nat) == 0) (xs.drop 0) && (Wn.endsB xs.length s && ((l.drop (i + 1)).all Wn.mayCx && (decide (1 ≤ l.length) && decide (l.length ≤ 32)))))) := Lib.hid (by
        rw [HE.out, Wn.drop_at hx, List.all_cons, Wn.mayCx_eq, List.drop_zero]; simp only [Bool.and_assoc])
      dsimp only at j0 j1 hxs
      obtain ⟨_, _, hxe, hxc1, hxc2⟩ := hxs.form
      simp only [Value.slice.injEq, true_and] at hxe
      obtain ⟨rfl, rfl⟩ := hxe
      unfold maxLen at hxc2
      have hi1 : (i : Int) < (l.length : Int) := by omega
      have hB2 : Below wr.heap.size wr (wr.alloc (.cells #[.slice xo xs.length xc, .string (Wn.str s)] 46)) := (Below.refl _ _).alloc (Nat.le_refl _) _
      have HXS := Lib.hid (hxs.below hB2)
      have HC := Lib.hid (heap_alloc_new wr (Obj.cells #[.slice xo xs.length xc, .string (Wn.str s)] 46))
      have HB2 := Lib.hid (HB.out.trans (hB2.mono HB.out.size))
      have hs := str_list s
      have HIS : Hid (Wn.isPseudo s = (decide (s = [98, 101, 102, 111, 114, 101]) || decide (s = [97, 102, 116, 101, 114]))) := Lib.hid rfl
      clear hxs hx HE hB2
      generalize Wn.str s = sx at *
      go_wp2_with fail
      generalize (wr.alloc (.cells #[.slice xo xs.length xc, .string sx] 46)) = Wa at *
      generalize wr.heap.size = B at *
      clear j0 j1
      subst hs
      have c0 := cell_of_block (o := 0) HC.out
      have c1' := cell_of_block (o := 1) HC.out
      simp only [List.getElem?_toArray, List.getElem?_cons_zero, List.getElem?_cons_succ] at c0 c1'
      go_wp2_with fail
      go_loopw [6] (fun v6 wr => ∃ (k : Nat), k ≤ xs.length ∧ v6 = .int .i64 (k : Int) ∧ Hid (Below Wa.heap.size Wa wr) ∧ Hid (R = (Wn.mayParts (decide (sx.toList ≠ [])) (k == 0) (xs.drop k) && (Wn.endsB xs.length sx.toList && ((l.drop (i + 1)).all Wn.mayCx && (decide (1 ≤ l.length) && decide (l.length ≤ 32))))))) (fun v6 _ => xs.length - (intOf v6).toNat)
      case atStart => exact ⟨0, by omega, rfl, Lib.hid (Below.refl _ _), HE2⟩
      case round =>
        clear HE2 c0 c1'
        obtain ⟨k, hkl, rfl, HBk, HEk⟩ := hrel
        have c0 := cell_of_block (o := 0) (block_lat HBk.out HC.out)
        have c1' := cell_of_block (o := 1) (block_lat HBk.out HC.out)
        simp only [List.getElem?_toArray, List.getElem?_cons_zero, List.getElem?_cons_succ] at c0 c1'
        by_cases hklt : k < xs.length
        · obtain ⟨p, hp⟩ := Wn.get_lt hklt
          obtain ⟨cb, sms⟩ := p
          obtain ⟨c, d, so, sc, rfl, hsm, t0, t1⟩ := pt_at (HXS.out.below HBk.out) hp
          have HS2 := Lib.hid (HXX.out (cb, sms) (List.mem_of_getElem? hp))
          have hlast : decide (xs.drop (k + 1) = []) = decide (¬ (k : Int) < (xs.length : Int) - 1) := by rw [Bool.eq_iff_iff]; simp; omega
          have HE3 : Hid (R = (Wn.stepB k cb sms (decide (¬ (k : Int) < (xs.length : Int) - 1)) (decide (sx.toList ≠ [])) && (Wn.mayParts (decide (sx.toList ≠ [])) (k + 1 == 0) (xs.drop (k + 1)) && (Wn.endsB xs.length sx.toList && ((l.drop (i + 1)).all Wn.mayCx && (decide (1 ≤ l.length) && decide (l.length ≤ 32))))))) := Lib.hid (by
            rw [HEk.out, Wn.drop_at hp, Wn.mayParts_step, hlast]; simp only [Bool.and_assoc])
          dsimp only at t0 t1
          obtain ⟨_, _, hse, hsc1, hsc2⟩ := hsm.form
          simp only [Value.slice.injEq, true_and] at hse
          obtain ⟨rfl, rfl⟩ := hse
          unfold maxLen at hsc2
          have hA : Below wr.heap.size wr (wr.alloc (.cells #[.int .i64 cb, .slice so sms.length sc] 49)) := (Below.refl _ _).alloc (Nat.le_refl _) _
          have QP := Lib.hid (rPart_v sms _ _ (hsm.below hA) HS2.out)
          have HPB := Lib.hid (heap_alloc_new wr (Obj.cells #[.int .i64 cb, .slice so sms.length sc] 49))
          have HCB := Lib.hid (block_lat hA (block_lat HBk.out HC.out))
          have HBA := Lib.hid (HBk.out.trans (hA.mono HBk.out.size))
          have HFIN := Lib.hid (fun W (h : Below Wa.heap.size Wa W) => HB2.out.trans (h.mono HB2.out.size))
          have hz : (wr.alloc (.cells #[.int .i64 cb, .slice so sms.length sc] 49)).heap.size = wr.heap.size + 1 := by simp
          have hBlt : B < wr.heap.size := lt_of_block (block_lat HBk.out HC.out)
          have hBne : ¬ B = wr.heap.size := by omega
          have hcl := World.block_lt_of_cell? _ _ t0
          dsimp only at hcl
          have hk1 : (k : Int) < (xs.length : Int) := by omega
          have hln : (sms = []) ↔ ((sms.length : Int) = 0) := by constructor <;> intro h <;> simpa using h
          unfold Wn.stepB at HE3
          clear hsm hA HEk hp HBk HB2 HXS HXX HS2 hlast
          generalize Wn.partB sms = T at *
          generalize hREST : (Wn.mayParts (decide (sx.toList ≠ [])) (k + 1 == 0) (xs.drop (k + 1)) && (Wn.endsB xs.length sx.toList && ((l.drop (i + 1)).all Wn.mayCx && (decide (1 ≤ l.length) && decide (l.length ≤ 32))))) = REST at *
          have HREST := Lib.hid hREST; clear hREST
          have HLN := Lib.hid hln; clear hln
          by_cases hlo : cb < 0
          · have HF : Hid (R = false) := Lib.hid (by rw [HE3.out]; simp [show ¬ 0 ≤ cb by omega])
            go_wp2_with fail
            go_ret
            exact ⟨ret_bool HF.out.symm, HFIN.out _ HBA.out⟩
          by_cases hhi : 4 < cb
          · have HF : Hid (R = false) := Lib.hid (by rw [HE3.out]; simp [show ¬ cb ≤ 4 by omega])
            go_wp2_with fail
            go_ret
            exact ⟨ret_bool HF.out.symm, HFIN.out _ HBA.out⟩
          have hlo' : 0 ≤ cb := by omega
          have hhi' : cb ≤ 4 := by omega
          by_cases hc0 : cb = 0
          · subst hc0
            by_cases hk0 : k = 0
            · have HE6 : Hid (R = ((T && !(decide (sms = []) && (!(decide (¬ (k : Int) < (xs.length : Int) - 1)) || !(decide (sx.toList ≠ []))))) && REST)) := Lib.hid (by rw [HE3.out, decide_eq_true hk0]; simp)
              have hk0b : ((k : Int) == 0) = true := by simpa using hk0
              have hk0c : decide ((k : Int) = 0) = true := by simpa using hk0
              clear hk0
              clear HE3
              go_wp2_with fail
              refine QP.out.mono ?_
              rintro e w2 ⟨rfl, b2⟩
              have e1 := cell_of_block (o := 1) (block_lat b2 HPB.out)
              have c1'' := cell_of_block (o := 1) (block_lat b2 HCB.out)
              simp only [List.getElem?_toArray, List.getElem?_cons_zero, List.getElem?_cons_succ] at e1 c1''
              have HBC := Lib.hid (HBA.out.trans (b2.mono HBA.out.size))
              clear b2 HPB HCB HBA QP c0 c1'
              cases T
              · have HF : Hid (R = false) := Lib.hid (by rw [HE6.out]; rfl)
                go_wp2_with fail
                go_ret
                exact ⟨ret_bool HF.out.symm, HFIN.out _ HBC.out⟩
              · by_cases hl : (sms.length : Int) = 0
                · have hsm0 := HLN.out.2 hl
                  by_cases hkn : (k : Int) < (xs.length : Int) - 1
                  · have HF : Hid (R = false) := Lib.hid (by rw [HE6.out]; simp [hsm0, show ¬ ((xs.length : Int) - 1 ≤ (k : Int)) by omega])
                    go_wp2_with fail
                    go_ret
                    exact ⟨ret_bool HF.out.symm, HFIN.out _ HBC.out⟩
                  · cases g0 : (sx.toList == [])
                    · have g0' : ¬ sx.toList = [] := by simpa using g0
                      have HF := Lib.hid ((show R = REST by rw [HE6.out]; simp [hsm0, show (xs.length : Int) - 1 ≤ (k : Int) by omega, g0']).trans HREST.out.symm)
                      go_wp2_with fail
                      exact ⟨⟨k + 1, by omega, by go_num, HBC, HF⟩, by simp [intOf]; omega⟩
                    · have g0' : sx.toList = [] := by simpa using g0
                      have HF : Hid (R = false) := Lib.hid (by rw [HE6.out]; simp [hsm0, show (xs.length : Int) - 1 ≤ (k : Int) by omega, g0'])
                      go_wp2_with fail
                      go_ret
                      exact ⟨ret_bool HF.out.symm, HFIN.out _ HBC.out⟩
                · have hsm0 : ¬ sms = [] := fun h => hl (HLN.out.1 h)
                  have HF := Lib.hid ((show R = REST by rw [HE6.out]; simp [hsm0]).trans HREST.out.symm)
                  go_wp2_with fail
                  exact ⟨⟨k + 1, by omega, by go_num, HBC, HF⟩, by simp [intOf]; omega⟩
            · have hk0' : ¬ (k : Int) = 0 := by omega
              have HF : Hid (R = false) := Lib.hid (by rw [HE3.out]; simp [hk0])
              go_wp2_with fail
              go_ret
              exact ⟨ret_bool HF.out.symm, HFIN.out _ HBA.out⟩
          · by_cases hk0 : k = 0
            · have HF : Hid (R = false) := Lib.hid (by rw [HE3.out]; simp [hc0, hk0])
              have hk0b : ((k : Int) == 0) = true := by simpa using hk0
              have hk0c : decide ((k : Int) = 0) = true := by simpa using hk0
              have hc0b : (cb == 0) = false := by simpa using hc0
              have hc0c : decide (cb = 0) = false := by simpa using hc0
              clear hk0
              go_wp2_with fail
              go_ret
              exact ⟨ret_bool HF.out.symm, HFIN.out _ HBA.out⟩
            · have hk0' : ¬ (k : Int) = 0 := by omega
              have hk0b : ((k : Int) == 0) = false := by simpa using hk0'
              have hk0c : decide ((k : Int) = 0) = false := by simpa using hk0
              have hc0b : (cb == 0) = false := by simpa using hc0
              have hc0c : decide (cb = 0) = false := by simpa using hc0
              have HE6 : Hid (R = ((T && !(decide (sms = []) && (!(decide (¬ (k : Int) < (xs.length : Int) - 1)) || !(decide (sx.toList ≠ []))))) && REST)) := Lib.hid (by rw [HE3.out]; simp [hlo', hhi', hc0, hk0])
              clear HE3
              go_wp2_with fail
              refine QP.out.mono ?_
              rintro e w2 ⟨rfl, b2⟩
              have e1 := cell_of_block (o := 1) (block_lat b2 HPB.out)
              have c1'' := cell_of_block (o := 1) (block_lat b2 HCB.out)
              simp only [List.getElem?_toArray, List.getElem?_cons_zero, List.getElem?_cons_succ] at e1 c1''
              have HBC := Lib.hid (HBA.out.trans (b2.mono HBA.out.size))
              clear b2 HPB HCB HBA QP c0 c1'
              cases T
              · have HF : Hid (R = false) := Lib.hid (by rw [HE6.out]; rfl)
                go_wp2_with fail
                go_ret
                exact ⟨ret_bool HF.out.symm, HFIN.out _ HBC.out⟩
              · by_cases hl : (sms.length : Int) = 0
                · have hsm0 := HLN.out.2 hl
                  by_cases hkn : (k : Int) < (xs.length : Int) - 1
                  · have HF : Hid (R = false) := Lib.hid (by rw [HE6.out]; simp [hsm0, show ¬ ((xs.length : Int) - 1 ≤ (k : Int)) by omega])
                    go_wp2_with fail
                    go_ret
                    exact ⟨ret_bool HF.out.symm, HFIN.out _ HBC.out⟩
                  · cases g0 : (sx.toList == [])
                    · have g0' : ¬ sx.toList = [] := by simpa using g0
                      have HF := Lib.hid ((show R = REST by rw [HE6.out]; simp [hsm0, show (xs.length : Int) - 1 ≤ (k : Int) by omega, g0']).trans HREST.out.symm)
                      go_wp2_with fail
                      exact ⟨⟨k + 1, by omega, by go_num, HBC, HF⟩, by simp [intOf]; omega⟩
                    · have g0' : sx.toList = [] := by simpa using g0
                      have HF : Hid (R = false) := Lib.hid (by rw [HE6.out]; simp [hsm0, show (xs.length : Int) - 1 ≤ (k : Int) by omega, g0'])
                      go_wp2_with fail
                      go_ret
                      exact ⟨ret_bool HF.out.symm, HFIN.out _ HBC.out⟩
                · have hsm0 : ¬ sms = [] := fun h => hl (HLN.out.1 h)
                  have HF := Lib.hid ((show R = REST by rw [HE6.out]; simp [hsm0]).trans HREST.out.symm)
                  go_wp2_with fail
                  exact ⟨⟨k + 1, by omega, by go_num, HBC, HF⟩, by simp [intOf]; omega⟩
        · have HE4 : Hid (R = (Wn.endsB xs.length sx.toList && ((l.drop (i + 1)).all Wn.mayCx && (decide (1 ≤ l.length) && decide (l.length ≤ 32))))) := Lib.hid (by rw [HEk.out, List.drop_of_length_le (l := xs) (by omega)]; rfl)
          have hni : ¬ (k : Int) < (xs.length : Int) := by omega
          have HFIN := Lib.hid (HB2.out.trans (HBk.out.mono HB2.out.size))
          unfold Wn.endsB at HE4
          clear HEk HXS HXX
          by_cases hn1 : xs.length < 1
          · have hn1' : (xs.length : Int) < 1 := by omega
            have HF : Hid (R = false) := Lib.hid (by rw [HE4.out]; simp [show ¬ 1 ≤ xs.length by omega])
            go_wp2_with fail
            go_ret
            exact ⟨ret_bool HF.out.symm, HFIN.out⟩
          have hn1' : ¬ (xs.length : Int) < 1 := by omega
          by_cases hn16 : 16 < xs.length
          · have hn16' : (16 : Int) < (xs.length : Int) := by omega
            have HF : Hid (R = false) := Lib.hid (by rw [HE4.out]; simp [show ¬ xs.length ≤ 16 by omega])
            go_wp2_with fail
            go_ret
            exact ⟨ret_bool HF.out.symm, HFIN.out⟩
          have hn16' : ¬ (16 : Int) < (xs.length : Int) := by omega
          have HE5 : Hid (R = ((decide (sx.toList = []) || Wn.isPseudo sx.toList) && ((l.drop (i + 1)).all Wn.mayCx && (decide (1 ≤ l.length) && decide (l.length ≤ 32))))) := Lib.hid (by rw [HE4.out, decide_eq_true (show 1 ≤ xs.length by omega), decide_eq_true (show xs.length ≤ 16 by omega)]; rfl)
          clear HE4
          unfold Wn.isPseudo at HE5
          cases g0 : (sx.toList == [])
          · have g0' : ¬ sx.toList = [] := by simpa using g0
            cases g1 : (sx.toList == [98, 101, 102, 111, 114, 101])
            · have g1' : ¬ sx.toList = [98, 101, 102, 111, 114, 101] := by simpa using g1
              cases g2 : (sx.toList == [97, 102, 116, 101, 114])
              · have g2' : ¬ sx.toList = [97, 102, 116, 101, 114] := by simpa using g2
                have HF : Hid (R = false) := Lib.hid (by rw [HE5.out]; simp [g0', g1', g2'])
                go_wp2_with fail
                go_ret
                exact ⟨ret_bool HF.out.symm, HFIN.out⟩
              · have g2' : sx.toList = [97, 102, 116, 101, 114] := by simpa using g2
                have HF : Hid (R = ((l.drop (i + 1)).all Wn.mayCx && (decide (1 ≤ l.length) && decide (l.length ≤ 32)))) := Lib.hid (by rw [HE5.out, g2']; rfl)
                go_wp2_with fail
                exact ⟨⟨i + 1, by omega, by go_num, HFIN, HF⟩, by simp [intOf]; omega⟩
            · have g1' : sx.toList = [98, 101, 102, 111, 114, 101] := by simpa using g1
              have HF : Hid (R = ((l.drop (i + 1)).all Wn.mayCx && (decide (1 ≤ l.length) && decide (l.length ≤ 32)))) := Lib.hid (by rw [HE5.out, g1']; rfl)
              go_wp2_with fail
              exact ⟨⟨i + 1, by omega, by go_num, HFIN, HF⟩, by simp [intOf]; omega⟩
          · have g0' : sx.toList = [] := by simpa using g0
            have HF : Hid (R = ((l.drop (i + 1)).all Wn.mayCx && (decide (1 ≤ l.length) && decide (l.length ≤ 32)))) := Lib.hid (by rw [HE5.out, g0']; rfl)
            go_wp2_with fail
            exact ⟨⟨i + 1, by omega, by go_num, HFIN, HF⟩, by simp [intOf]; omega⟩
    · have HE2 : Hid (R = (decide (1 ≤ l.length) && decide (l.length ≤ 32))) := Lib.hid (by rw [HE.out, List.drop_of_length_le (by omega)]; rfl)
      have hni : ¬ (i : Int) < (l.length : Int) := by omega
      by_cases h1 : 1 ≤ l.length
      · have h1' : (1 : Int) ≤ (l.length : Int) := by omega
        by_cases h2 : l.length ≤ 32
        · have h2' : (l.length : Int) ≤ 32 := by omega
          go_wp2_with fail
          go_ret
          exact ⟨ret_bool (by rw [HE2.out]; simp; omega), HB.out⟩
        · have h2' : ¬ (l.length : Int) ≤ 32 := by omega
          go_wp2_with fail
          go_ret
          exact ⟨ret_bool (by rw [HE2.out]; simp; omega), HB.out⟩
      · have h1' : ¬ (1 : Int) ≤ (l.length : Int) := by omega
        go_wp2_with fail
        go_ret
        exact ⟨ret_bool (by rw [HE2.out]; simp; omega), HB.out⟩
end Go.Proofs.YtncknaagbafhhaaGreatDoor
set_option linter.unusedVariables false
set_option linter.unusedSimpArgs false
set_option maxRecDepth 20000
namespace Wn
theorem shD_short {x : Sm} (h : shD x) (hp : maySm x = true) : x.short := by
  obtain ⟨⟨h1, h2⟩, h3⟩ := h
  refine ⟨by omega, by omega, ?_⟩
  rcases sm_shape hp with e | ⟨y, e, ey⟩
  · rw [e]; trivial
  · have := h3 y (by rw [e]; simp [Sm.on, Ss.toL])
    rw [e]
    simp only [Sm.on, Ss.short]
    rw [ey]
    exact ⟨by have := this.1; omega, by have := this.2; omega, trivial, trivial⟩
where
  plain_l {x : Sm} (h : mayPlain x = true) : x.l = .nil := by
    rw [mayPlain_eq] at h
    simp only [Bool.and_eq_true, decide_eq_true_eq] at h
    rw [h.1]; exact meantS_l x
  sm_shape {x : Sm} (h : maySm x = true) : x.l = .nil ∨ ∃ y : Sm, x.l = y.on .nil ∧ y.l = .nil := by
    unfold maySm at h
    generalize hL : x.l.toL = L at h
    cases L with
    | nil => exact .inl (plain_l h)
    | cons y m =>
      cases m with
      | cons z m => exact .inl (plain_l h)
      | nil =>
        dsimp only at h
        split at h
        · simp only [Bool.and_eq_true, decide_eq_true_eq] at h
          refine .inr ⟨y, ?_, plain_l h.1⟩
          have := Ss.ofL_toL x.l
          rw [hL] at this
          exact this.symm
        · exact .inl (plain_l h)
theorem may_mem {l : List Cx} (h : maySels l = true) : ∀ c ∈ l, ∀ q ∈ c.1, ∀ x ∈ q.2, maySm x = true := by
  simp only [maySels, Bool.and_eq_true, decide_eq_true_eq, List.all_eq_true] at h
  intro c hc q hq x hx
  have hm := h.2 c hc
  unfold mayCx at hm
  simp only [Bool.and_eq_true] at hm
  exact parts_mem hm.2 q hq x hx
where
  part_mem {l : List Sm} {e : Bool} (h : mayPart l e = true) : ∀ x ∈ l, maySm x = true := by
    cases l with
    | nil => intro x hx; simp at hx
    | cons y r =>
      simp only [mayPart, Bool.and_eq_true, List.all_eq_true] at h
      intro x hx
      rcases List.mem_cons.1 hx with rfl | hx
      · exact h.1.2
      · have := h.2 x hx; simp only [mayLater, Bool.and_eq_true] at this; exact this.2
  parts_mem {ps : Bool} : ∀ {l : List (Int × List Sm)} {f : Bool}, mayParts ps f l = true → ∀ q ∈ l, ∀ x ∈ q.2, maySm x = true
    | [], _, _, q, hq => by simp at hq
    | p :: l, f, h, q, hq => by
      simp only [mayParts, Bool.and_eq_true] at h
      rcases List.mem_cons.1 hq with rfl | hq
      · exact part_mem h.1.2
      · exact parts_mem h.2 q hq
end Wn
namespace Go.Proofs.YtncknaagbafhhaaGreatDoor
open Go.RowKit Go.Sort
/-- ref03.Read in one word -/
theorem rRead_w (s : ByteArray) (w : World) (hs : s.size ≤ 1000) :
    Calls Tryz.prog 22 #[.string s] w fun e w' => ∃ ao n c k f, e = .returned (.tuple #[.slice ao n c, .int .i64 k]) ∧ Below w.heap.size w w' ∧ Vals w' (.slice ao n c) f ∧ f.size ≤ 1000 ∧ Tl f ∧ ((k = 0 ∧ Wn.mayF f = true ∧ ∀ t ∈ Wn.flat f, t.2.1.length ≤ 100000) ∨ k = 20) := by
  refine (rRead_any s w (by omega)).mono ?_
  rintro e w' ⟨r, k, rfl, hb, ⟨rfl, rfl, _⟩ | ⟨rfl, f, hf, hv⟩⟩
  · exact ⟨_, _, _, 20, .nil, rfl, hb, ValsP.nil _ _, by simp [Wn.Fs.size], trivial, .inr rfl⟩
  · obtain ⟨ao, c, rfl, _, _⟩ := hv.form
    have h1 := Wn.parse_size hf
    have h2 := Wn.lex_length s.data.toList
    have h3 := Wn.trim_size f
    have hl : s.data.toList.length ≤ 1000 := by simpa using hs
    exact ⟨_, _, _, 0, _, rfl, hb, hv, by omega, read_tl hf (by omega), .inl ⟨rfl, Wn.may_trim (Wn.may_read hf), fun t ht => (short_trim (short_of_read hf (by omega)) t ht).1⟩⟩
/-- sels.Parse in one word -/
theorem SParse_u (v : Value) (f : Wn.Fs) (w : World) (hv : Vals w v f) (ht : Tl f) (hf : f.size ≤ 100000) :
    Calls Tryz.prog 13 #[v] w fun e w' => ∃ ao c k l, e = .returned (.tuple #[.slice ao (List.length l) c, .int .i64 k]) ∧ Below w.heap.size w w' ∧ cxK.P w' (fun _ => True) (.slice ao l.length c) l ∧ ((k = 0 ∧ Wn.selsF f = some l) ∨ (k = 40 ∧ Wn.selsF f = none ∧ l = [])) := by
  refine (SParse_v v f w hv ht hf).mono ?_
  rintro e w' ⟨hb, ⟨l, u, h, rfl, hp⟩ | ⟨h, rfl⟩⟩
  · obtain ⟨ao, c, rfl, _, _⟩ := hp.form
    exact ⟨_, _, 0, l, rfl, hb, hp.any, .inl ⟨rfl, h⟩⟩
  · exact ⟨_, _, 40, [], rfl, hb, RK.P.nil _ _, .inr ⟨rfl, h, rfl⟩⟩
theorem all_app {p : Wn.Tok → Prop} : ∀ {f g : Wn.Fs}, f.all p → g.all p → (f.app g).all p
  | .nil, g, _, h => h
  | .cons k t x r, g, ⟨h1, h2, h3⟩, h => ⟨h1, h2, all_app h3 h⟩
theorem Tl.join {f g : Wn.Fs} (h : Tl f) (k : Tl g) : Tl (Wn.joinF [44] [f, g]) := by
  rw [Wn.join_two]
  exact all_app h ⟨by simp [Wn.dlm], trivial, k⟩
theorem join_size {f g : Wn.Fs} (h : f.size ≤ 1000) (k : g.size ≤ 1000) : (Wn.joinF [44] [f, g]).size ≤ 100000 ∧ Wn.sizes [f, g] ≤ 100000 := by
  have h1 := Wn.joinF_size [44] [f, g]
  simp only [Wn.sizes] at h1 ⊢
  omega
theorem Tl.cuts {p : Int → Wn.Tok → Bool} : ∀ {f : Wn.Fs}, Tl f → ∀ g ∈ Wn.cuts p f, Tl g
  | .nil, h, g, hg => by simp [Wn.cuts] at hg; subst hg; trivial
  | .cons k t x r, h, g, hg => by
    rw [Wn.cuts] at hg
    split at hg
    · rcases List.mem_cons.1 hg with rfl | hg
      · trivial
      · exact Tl.cuts h.2.2 g hg
    · cases hc : Wn.cuts p r with
      | nil => exact absurd hc (Wn.cuts_ne p r)
      | cons a l =>
        rw [hc] at hg
        have ih := Tl.cuts (p := p) h.2.2
        rw [hc] at ih
        rcases List.mem_cons.1 hg with rfl | hg
        · exact ⟨h.1, h.2.1, ih a (by simp)⟩
        · exact ih g (by simp [hg])
theorem cuts_size {p : Int → Wn.Tok → Bool} {f g : Wn.Fs} (h : g ∈ Wn.cuts p f) : g.size ≤ f.size := by
  have a := Wn.joinAll_mem_size h
  rw [Wn.joinAll_cuts] at a
  exact Nat.le_trans a (Wn.lessF_size _ f)
theorem take_one {α : Type} {l : List α} {i : Nat} {x : α} (h : l[i]? = some x) : (l.take (i + 1)).drop i = [x] := by
  obtain ⟨h1, rfl⟩ := List.getElem?_eq_some_iff.1 h
  rw [List.take_add_one, List.drop_left' (by simp; omega), List.getElem?_eq_getElem h1]
  rfl
/-- two values in a list -/
theorem two_list {W : World} {b : Nat} {T : TypeId} {u u' : Value} {f g : Wn.Fs} (hb : W.heap[b]? = some (.cells #[u, u'] T)) (hu : Vals W u f) (hu' : Vals W u' g) : ListP W (fun b => b < W.heap.size) (.slice (some ⟨b, 0, none⟩) 2 2) [f, g] := by
  refine ⟨_, 2, [u, u'], rfl, by simp, by unfold maxLen; omega, ⟨hu.old, hu'.old, trivial⟩, fun i x hi => ⟨b, 0, rfl, lt_of_block hb, ?_⟩⟩
  match i, hi with
  | 0, hi => simp at hi; subst hi; exact cell_of_block (o := 0) hb
  | 1, hi => simp at hi; subst hi; exact cell_of_block (o := 1) hb
  | i + 2, hi => simp at hi
end Go.Proofs.YtncknaagbafhhaaGreatDoor
