/- The verifier's second writing: may a token be? -/
import Derived.Test.YtnkdppbpcinjhaaDoorRefK
set_option maxRecDepth 20000
namespace Go.Proofs.YtnkdppbpcinjhaaDoor
open Go.RowKit
set_option maxRecDepth 100000 in
set_option maxHeartbeats 2000000 in
theorem rMay (t : Wn.Tok) (w : World) (hl : t.2.1.length ≤ 100000) (hn0 : -9223372036854775808 ≤ t.2.2) (hn1 : t.2.2 ≤ 9223372036854775807) :
    Calls Tryd.prog 24 #[.agg #[.int .i64 t.1, .string (Wn.str t.2.1), .int .i64 t.2.2]] w fun e w' => e = .returned (.bool (Wn.may t)) ∧ Below w.heap.size w w' := by
  have hlen := Wn.oneText_len t hn0 hn1
  have hm : Wn.may t = decide (Wn.lex (Wn.oneText t) = [t]) := rfl
  rw [hm]
  obtain ⟨L, hL⟩ : ∃ L, Wn.lex (Wn.oneText t) = L := ⟨_, rfl⟩
  rw [hL]
  generalize hR : decide (L = [t]) = R
  have HR := Lib.hid hR; clear hR
  have QO := Lib.hid (fun w => rOne t w (by omega) hn0 hn1)
  have BX := Lib.hid (box1 w t)
  have QA := Lib.hid (fun w => rAll (Wn.str (Wn.oneText t)) L w (by rw [Wn.str_size]; omega) (by rw [← hL]; rfl))
  clear hm hL hlen hl hn0 hn1
  generalize Wn.str (Wn.oneText t) = z at *
  obtain ⟨tk, tt, tn⟩ := t
  dsimp only at *
  have hx := str_list tt
  generalize hxx : Wn.str tt = x at *
  have HXX := Lib.hid hxx; clear hxx
  have HZ : Hid ((w.alloc (Obj.cells #[Value.int IntKind.i64 tk, Value.string x, Value.int IntKind.i64 tn] 24)).heap.size = w.heap.size + 1) := Lib.hid (by simp)
  go_enter Tryd.func24, Tryd.ntmps24
  go_wp2_with fail
  refine (QO.out _).mono ?_
  rintro e w1 ⟨rfl, b1⟩
  have HB1 : Hid (Below w.heap.size w w1) := Lib.hid (((Below.refl _ _).alloc (Nat.le_refl _) _).trans (b1.mono (by simp)))
  have HT1 := Lib.hid (BX.out.later b1)
  clear b1
  go_wp2_with fail
  refine (QA.out _).mono ?_
  rintro e w2 ⟨v2, rfl, h2, b2⟩
  have HB2 : Hid (Below w.heap.size w w2) := Lib.hid (HB1.out.trans (b2.mono HB1.out.size))
  have T2 := HT1.out.later b2
  (have k0a2 : w2.cell? ⟨w.heap.size, 0, none⟩ = some _ := (T2).c0); (have k1a2 : w2.cell? ⟨w.heap.size, 1, none⟩ = some _ := (T2).c1); (have k2a2 : w2.cell? ⟨w.heap.size, 2, none⟩ = some _ := (T2).c2); (try dsimp only at k0a2 k1a2 k2a2)
  rw [HXX.out] at k1a2
  clear T2 b2 HT1 HB1
  obtain ⟨ao, cap, rfl, c1, c2, hcell⟩ := h2.toks
  unfold maxLen at c2
  have HC := Lib.hid hcell
  clear hcell h2
  clear QA QO BX
  cases L with
  | nil =>
    go_wp2_with fail
    go_quiet (fail)
    go_wp2_with fail
    go_ret
    exact ⟨ret_bool (by rw [← HR.out]; simp), below_drewN' HB2.out _⟩
  | cons u L' =>
    cases L' with
    | cons b L' =>
      have hne : ((((u :: b :: L').length : Nat) : Int) == 1) = false := by simp; omega
      have hR : R = false := by rw [← HR.out]; simp
      have HR2 := Lib.hid hR; clear hR HR
      generalize hn : (u :: b :: L').length = n at *
      have HN := Lib.hid hn; clear hn
      go_wp2_with fail
      go_quiet (fail)
      go_wp2_with fail
      go_ret
      exact ⟨ret_bool HR2.out.symm, below_drewN' HB2.out _⟩
    | nil =>
      obtain ⟨b, off, rfl, hin⟩ := HC.out 0 u rfl
      obtain ⟨uk, ut, un⟩ := u
      obtain ⟨j0, j1, j2⟩ := hin
      dsimp only at *
      simp only [Nat.zero_mul, Nat.add_zero] at j0 j1 j2
      have hy := str_list ut
      generalize Wn.str ut = y at *
      clear HXX HC
      by_cases hne : (uk, ut, un) = (tk, tt, tn)
      · have hR : R = true := by rw [← HR.out, hne]; simp
        have HR2 := Lib.hid hR; clear hR HR
        simp only [Prod.mk.injEq] at hne
        obtain ⟨rfl, rfl, rfl⟩ := hne
        have hxy : y = x := by
          apply ByteArray.ext
          apply Array.toList_inj.1
          rw [← ByteArray.toList_eq, ← ByteArray.toList_eq, hx, hy]
        subst hxy
        clear hx hy
        go_wp2_with fail
        go_quiet (fail)
        go_wp2_with fail
        go_ret
        exact ⟨ret_bool (by rw [HR2.out]), below_drewN' HB2.out _⟩
      · have hR : R = false := by rw [← HR.out]; simpa using hne
        have HR2 := Lib.hid hR; clear hR HR
        subst hx hy
        cases h0 : (uk == tk)
        · go_wp2_with fail
          go_quiet (fail)
          go_wp2_with fail
          go_ret
          exact ⟨ret_bool (by rw [HR2.out]), below_drewN' HB2.out _⟩
        · cases h1 : (y.toList == x.toList)
          · go_wp2_with fail
            go_quiet (fail)
            go_wp2_with fail
            go_ret
            exact ⟨ret_bool (by rw [HR2.out]), below_drewN' HB2.out _⟩
          · have h2 : (un == tn) = false := by
              rw [beq_eq_false_iff_ne]; intro h
              exact hne (by rw [beq_iff_eq] at h0 h1; rw [h0, h1, h])
            go_wp2_with fail
            go_quiet (fail)
            go_wp2_with fail
            go_ret
            exact ⟨ret_bool (by rw [HR2.out]), below_drewN' HB2.out _⟩
end Go.Proofs.YtnkdppbpcinjhaaDoor
