/- What the verifier's Small and Same answer. -/
import Derived.Test.YtnkdppbpcinjhaaDoorTokU
set_option maxRecDepth 20000
namespace Wn
def small (l : List Tok) (most : Int) : Bool := (l.all fun t => decide (t.2.1.length ≤ 100)) && decide ((l.length : Int) ≤ most)
end Wn
namespace Go.Proofs.YtnkdppbpcinjhaaDoor
open Go.RowKit
set_option maxRecDepth 100000 in
set_option maxHeartbeats 1000000 in
theorem Small_any (v : Value) (l : List Wn.Tok) (most : Int) (w : World) (hW : Toks w v l) :
    Calls Tryd.prog 14 #[v, .int .i64 most] w fun e w' => e = .returned (.bool (Wn.small l most)) ∧ w = w' := by
  obtain ⟨ao, cap, rfl, hc1, hc2, hcell⟩ := hW
  generalize hR : Wn.small l most = R
  have HR : Hid (((l.drop 0).all fun t => decide (t.2.1.length ≤ 100)) = true → decide ((l.length : Int) ≤ most) = R) := Lib.hid (fun h => by rw [← hR]; unfold Wn.small; rw [List.drop_zero] at h; rw [h]; rfl)
  have HN : Hid (((l.drop 0).all fun t => decide (t.2.1.length ≤ 100)) = false → R = false) := Lib.hid (fun h => by rw [← hR]; unfold Wn.small; rw [List.drop_zero] at h; rw [h]; rfl)
  clear hR
  have HCell := Lib.hid hcell; clear hcell
  unfold maxLen at hc2
  go_enter Tryd.func14, Tryd.ntmps14
  go_wp2_with fail
  go_loop [5] (fun v => ∃ k : Nat, k ≤ l.length ∧ v = .int .i64 (k : Int) ∧ Hid (((l.drop k).all fun t => decide (t.2.1.length ≤ 100)) = true → decide ((l.length : Int) ≤ most) = R) ∧ Hid (((l.drop k).all fun t => decide (t.2.1.length ≤ 100)) = false → R = false)) (fun v => l.length - (intOf v).toNat)
  case atStart => exact ⟨0, by omega, rfl, HR, HN⟩
  case round =>
    obtain ⟨k, hk, rfl, HR', HN'⟩ := hrel
    by_cases hlt : k < l.length
    · obtain ⟨t, hTk⟩ : ∃ t, l[k]? = some t := ⟨l[k], List.getElem?_eq_getElem hlt⟩
      obtain ⟨b, off, rfl, hin⟩ := HCell.out k _ hTk
      have i1 := hin.c1
      have hsz := Wn.str_size t.2.1
      have HDR : Hid (l.drop k = t :: l.drop (k + 1)) := Lib.hid (by rw [List.drop_eq_getElem_cons hlt]; rw [List.getElem?_eq_getElem hlt] at hTk; rw [Option.some.inj hTk])
      generalize Wn.str t.2.1 = x at *
      have HSZ := Lib.hid hsz; clear hsz hTk hin
      by_cases hbig : 100 < x.size
      · go_wp2_with fail
        go_ret
        exact ⟨ret_bool ((HN'.out (by rw [HDR.out, List.all_cons, decide_eq_false (by have := HSZ.out; omega)]; rfl)).symm), rfl⟩
      · go_wp2_with fail
        go_round
        case rel =>
          refine ⟨k + 1, by omega, by go_num, Lib.hid fun h => HR'.out ?_, Lib.hid fun h => HN'.out ?_⟩
          · rw [HDR.out, List.all_cons, h]; have := HSZ.out; simp; omega
          · rw [HDR.out, List.all_cons, h]; simp
        case measure => simp [intOf]; omega
    · have HDR : Hid (l.drop k = []) := Lib.hid (List.drop_of_length_le (by omega))
      go_wp2_with fail
      go_ret
      exact ⟨ret_bool (HR'.out (by rw [HDR.out]; rfl)), rfl⟩
set_option maxRecDepth 100000 in
set_option maxHeartbeats 2000000 in
theorem Same_any (v u : Value) (l m : List Wn.Tok) (w : World) (hW : Toks w v l) (hU : Toks w u m) :
    Calls Tryd.prog 16 #[v, u] w fun e w' => e = .returned (.bool (decide (l = m))) ∧ ∃ n, w' = w.drewN n := by
  obtain ⟨ao, cap, rfl, hc1, hc2, hcell⟩ := hW
  obtain ⟨bo, dap, rfl, hd1, hd2, hdell⟩ := hU
  have HCell := Lib.hid hcell; clear hcell
  have HDell := Lib.hid hdell; clear hdell
  unfold maxLen at hc2 hd2
  by_cases hlen : l.length = m.length
  · generalize hR : decide (l = m) = R
    have HR : Hid (decide (l.drop 0 = m.drop 0) = R) := Lib.hid (by rw [← hR]; simp)
    clear hR
    have HL := Lib.hid hlen
    have hb : ((l.length : Int) != (m.length : Int)) = false := by simp [hlen]
    clear hlen
    go_enter Tryd.func16, Tryd.ntmps16
    go_wp2_with fail
    go_loopw [5] (fun v wr => ∃ (k n : Nat), k ≤ l.length ∧ v = .int .i64 (k : Int) ∧ wr = w.drewN n ∧ Hid (decide (l.drop k = m.drop k) = R)) (fun v _ => l.length - (intOf v).toNat)
    case atStart => exact ⟨0, 0, by omega, rfl, rfl, HR⟩
    case round =>
      obtain ⟨k, n, hk, rfl, rfl, HK⟩ := hrel
      by_cases hlt : k < l.length
      · have hlt2 : k < m.length := by have := HL.out; omega
        obtain ⟨⟨tk, tt, tn⟩, hTk⟩ : ∃ t, l[k]? = some t := ⟨l[k], List.getElem?_eq_getElem hlt⟩
        obtain ⟨⟨uk, ut, un⟩, hUk⟩ : ∃ t, m[k]? = some t := ⟨m[k], List.getElem?_eq_getElem hlt2⟩
        obtain ⟨b, off, rfl, hin⟩ := HCell.out k _ hTk
        obtain ⟨b', off', rfl, hin'⟩ := HDell.out k _ hUk
        have HDR : Hid (l.drop k = (tk, tt, tn) :: l.drop (k + 1)) := Lib.hid (by rw [List.drop_eq_getElem_cons hlt]; rw [List.getElem?_eq_getElem hlt] at hTk; rw [Option.some.inj hTk])
        have HDU : Hid (m.drop k = (uk, ut, un) :: m.drop (k + 1)) := Lib.hid (by rw [List.drop_eq_getElem_cons hlt2]; rw [List.getElem?_eq_getElem hlt2] at hUk; rw [Option.some.inj hUk])
        obtain ⟨i0, i1, i2⟩ := hin
        obtain ⟨j0, j1, j2⟩ := hin'
        dsimp only at *
        have hx := str_list tt
        have hy := str_list ut
        generalize Wn.str tt = x at *
        generalize Wn.str ut = y at *
        clear hTk hUk
        have hi1 : (k : Int) < (l.length : Int) := by omega
        have hi2 : (k : Int) < (m.length : Int) := by omega
        by_cases hne : (tk, tt, tn) = (uk, ut, un)
        · simp only [Prod.mk.injEq] at hne
          obtain ⟨rfl, rfl, rfl⟩ := hne
          have hxy : x = y := by
            apply ByteArray.ext
            apply Array.toList_inj.1
            rw [← ByteArray.toList_eq, ← ByteArray.toList_eq, hx, hy]
          subst hxy
          have HX := Lib.hid hx; clear hx hy
          go_wp2_with fail
          go_quiet (fail)
          go_wp2_with fail
          exact ⟨⟨k + 1, n + nq, by omega, by go_num, rfl, Lib.hid (by rw [← HK.out, HDR.out, HDU.out]; simp)⟩, by simp [intOf]; omega⟩
        · have hdf : R = false := by
            rw [← HK.out, HDR.out, HDU.out]
            simp only [decide_eq_false_iff_not, List.cons.injEq]
            exact fun h => hne h.1
          have HDF := Lib.hid hdf; clear hdf
          subst hx hy
          cases h0 : (tk == uk)
          · go_wp2_with fail
            go_quiet (fail)
            go_wp2_with fail
            go_ret
            exact ⟨ret_bool HDF.out.symm, n + nq, World.drewN_drewN ..⟩
          · cases h1 : (x.toList == y.toList)
            · go_wp2_with fail
              go_quiet (fail)
              go_wp2_with fail
              go_ret
              exact ⟨ret_bool HDF.out.symm, n + nq, World.drewN_drewN ..⟩
            · have h2 : (tn == un) = false := by
                rw [beq_eq_false_iff_ne]; intro h
                exact hne (by rw [beq_iff_eq] at h0 h1; rw [h0, h1, h])
              go_wp2_with fail
              go_quiet (fail)
              go_wp2_with fail
              go_ret
              exact ⟨ret_bool HDF.out.symm, n + nq, World.drewN_drewN ..⟩
      · have HDR : Hid (l.drop k = []) := Lib.hid (List.drop_of_length_le (by omega))
        have HDU : Hid (m.drop k = []) := Lib.hid (List.drop_of_length_le (by have := HL.out; omega))
        go_wp2_with fail
        go_ret
        exact ⟨ret_bool (by rw [← HK.out, HDR.out, HDU.out]; rfl), n, rfl⟩
  · have hR : decide (l = m) = false := by simp; intro h; exact hlen (by rw [h])
    have HR := Lib.hid hR; clear hR
    have hb : ((l.length : Int) != (m.length : Int)) = true := by rw [bne_iff_ne]; omega
    have HL := Lib.hid hlen; clear hlen
    go_enter Tryd.func16, Tryd.ntmps16
    go_wp2_with fail
    go_ret
    exact ⟨ret_bool HR.out.symm, 0, rfl⟩
end Go.Proofs.YtnkdppbpcinjhaaDoor
