/- The verifier's second writing: are a text's tokens these two? -/
import Derived.Test.YtnkdppbpcinjhaaDoorRefM
set_option maxRecDepth 20000
namespace Go.Proofs.YtnkdppbpcinjhaaDoor
open Go.RowKit
theorem str_ext {x y : ByteArray} {tt : List UInt8} (hx : tt = x.toList) (hy : tt = y.toList) : y = x := by
  apply ByteArray.ext
  apply Array.toList_inj.1
  rw [← ByteArray.toList_eq, ← ByteArray.toList_eq, ← hx, ← hy]
set_option maxRecDepth 100000 in
set_option maxHeartbeats 4000000 in
theorem rtwo (s : ByteArray) (a c : Wn.Tok) (w : World) (hs : s.size ≤ 1000000) :
    Calls Tryd.prog 45 #[.string s, .agg #[.int .i64 a.1, .string (Wn.str a.2.1), .int .i64 a.2.2], .agg #[.int .i64 c.1, .string (Wn.str c.2.1), .int .i64 c.2.2]] w fun e w' => e = .returned (.bool (decide (Wn.lex s.data.toList = [a, c]))) ∧ Below w.heap.size w w' := by
  obtain ⟨L, hL⟩ : ∃ L, Wn.lex s.data.toList = L := ⟨_, rfl⟩
  rw [hL]
  generalize hR : decide (L = [a, c]) = R
  have HR := Lib.hid hR; clear hR
  have BX := Lib.hid (box2 w a c)
  have QA := Lib.hid (fun w => rAll s L w hs hL)
  clear hL hs
  obtain ⟨ak, atx, an⟩ := a
  obtain ⟨ck, ct, cn⟩ := c
  dsimp only at *
  have hx := str_list atx
  have hy := str_list ct
  generalize hxx : Wn.str atx = x at *
  generalize hyy : Wn.str ct = y at *
  have HXX := Lib.hid hxx; clear hxx
  have HYY := Lib.hid hyy; clear hyy
  have HB0 : Hid (Below w.heap.size w ((w.alloc (Obj.cells #[Value.int IntKind.i64 ak, Value.string x, Value.int IntKind.i64 an] 24)).alloc (Obj.cells #[Value.int IntKind.i64 ck, Value.string y, Value.int IntKind.i64 cn] 24))) := Lib.hid (((Below.refl _ _).alloc (Nat.le_refl _) _).alloc (by simp) _)
  go_enter Tryd.func45, Tryd.ntmps45
  go_wp2_with fail
  refine (QA.out _).mono ?_
  rintro e w2 ⟨v2, rfl, h2, b2⟩
  have HB2 : Hid (Below w.heap.size w w2) := Lib.hid (HB0.out.trans (b2.mono HB0.out.size))
  have T2 := BX.out.1.later b2
  have U2 := BX.out.2.later b2
  (have k0a2 : w2.cell? ⟨w.heap.size, 0, none⟩ = some _ := (T2).c0); (have k1a2 : w2.cell? ⟨w.heap.size, 1, none⟩ = some _ := (T2).c1); (have k2a2 : w2.cell? ⟨w.heap.size, 2, none⟩ = some _ := (T2).c2); (try dsimp only at k0a2 k1a2 k2a2)
  (have k0c2 : w2.cell? ⟨w.heap.size + 1, 0, none⟩ = some _ := (U2).c0); (have k1c2 : w2.cell? ⟨w.heap.size + 1, 1, none⟩ = some _ := (U2).c1); (have k2c2 : w2.cell? ⟨w.heap.size + 1, 2, none⟩ = some _ := (U2).c2); (try dsimp only at k0c2 k1c2 k2c2)
  rw [HXX.out] at k1a2
  rw [HYY.out] at k1c2
  clear T2 U2 b2 BX HB0
  obtain ⟨ao, cap, rfl, c1, c2, hcell⟩ := h2.toks
  unfold maxLen at c2
  have HC := Lib.hid hcell
  clear hcell h2 QA
  by_cases hlen : L.length = 2
  · match L, hlen with
    | [u, v], _ =>
      obtain ⟨b, off, rfl, hin⟩ := HC.out 0 u rfl
      obtain ⟨b', off', hbb, hin'⟩ := HC.out 1 v rfl
      simp only [Option.some.injEq, Addr.mk.injEq] at hbb
      obtain ⟨rfl, rfl, _⟩ := hbb
      obtain ⟨uk, ut, un⟩ := u
      obtain ⟨vk, vt, vn⟩ := v
      obtain ⟨i0, i1, i2⟩ := hin
      obtain ⟨j0, j1, j2⟩ := hin'
      dsimp only at *
      simp only [Nat.zero_mul, Nat.add_zero, Nat.one_mul] at i0 i1 i2 j0 j1 j2
      have hp := str_list ut
      have hq := str_list vt
      generalize Wn.str ut = p at *
      generalize Wn.str vt = q at *
      clear HXX HYY HC
      simp only [List.length_cons, List.length_nil, Nat.zero_add] at *
      by_cases hne : (uk, ut, un) = (ak, atx, an)
      · simp only [Prod.mk.injEq] at hne
        obtain ⟨rfl, rfl, rfl⟩ := hne
        obtain rfl := str_ext hx.symm hp.symm
        by_cases hne : (vk, vt, vn) = (ck, ct, cn)
        · have hR : R = true := by rw [← HR.out, hne]; simp
          have HR2 := Lib.hid hR; clear hR HR
          simp only [Prod.mk.injEq] at hne
          obtain ⟨rfl, rfl, rfl⟩ := hne
          obtain rfl := str_ext hy.symm hq.symm
          clear hx hy hp hq
          go_wp2_with fail
          go_quiet (fail)
          go_wp2_with fail
          go_ret
          exact ⟨ret_bool (by rw [HR2.out]), below_drewN' HB2.out _⟩
        · have hR : R = false := by rw [← HR.out]; simp only [decide_eq_false_iff_not]; intro h; simp only [List.cons.injEq, true_and, and_true] at h; exact hne h
          have HR2 := Lib.hid hR; clear hR HR
          clear hx hp
          subst hy hq
          cases h0 : (vk == ck)
          · go_wp2_with fail
            go_quiet (fail)
            go_wp2_with fail
            go_ret
            exact ⟨ret_bool (by rw [HR2.out]), below_drewN' HB2.out _⟩
          · cases h1 : (q.toList == y.toList)
            · go_wp2_with fail
              go_quiet (fail)
              go_wp2_with fail
              go_ret
              exact ⟨ret_bool (by rw [HR2.out]), below_drewN' HB2.out _⟩
            · have h2 : (vn == cn) = false := by
                rw [beq_eq_false_iff_ne]; intro h
                exact hne (by rw [beq_iff_eq] at h0 h1; rw [h0, h1, h])
              go_wp2_with fail
              go_quiet (fail)
              go_wp2_with fail
              go_ret
              exact ⟨ret_bool (by rw [HR2.out]), below_drewN' HB2.out _⟩
      · have hR : R = false := by rw [← HR.out]; simp only [decide_eq_false_iff_not]; intro h; simp only [List.cons.injEq, and_true] at h; exact hne h.1
        have HR2 := Lib.hid hR; clear hR HR
        clear hy hq j0 j1 j2
        subst hx hp
        cases h0 : (uk == ak)
        · go_wp2_with fail
          go_quiet (fail)
          go_wp2_with fail
          go_ret
          exact ⟨ret_bool (by rw [HR2.out]), below_drewN' HB2.out _⟩
        · cases h1 : (p.toList == x.toList)
          · go_wp2_with fail
            go_quiet (fail)
            go_wp2_with fail
            go_ret
            exact ⟨ret_bool (by rw [HR2.out]), below_drewN' HB2.out _⟩
          · have h2 : (un == an) = false := by
              rw [beq_eq_false_iff_ne]; intro h
              exact hne (by rw [beq_iff_eq] at h0 h1; rw [h0, h1, h])
            go_wp2_with fail
            go_quiet (fail)
            go_wp2_with fail
            go_ret
            exact ⟨ret_bool (by rw [HR2.out]), below_drewN' HB2.out _⟩
  · have hne : (((L.length : Nat) : Int) == 2) = false := by rw [beq_eq_false_iff_ne]; omega
    have hR : R = false := by rw [← HR.out]; simp only [decide_eq_false_iff_not]; intro h; exact hlen (by rw [h]; rfl)
    have HR2 := Lib.hid hR; clear hR HR HC
    generalize L.length = n at *
    clear hlen
    go_wp2_with fail
    go_quiet (fail)
    go_wp2_with fail
    go_ret
    exact ⟨ret_bool HR2.out.symm, below_drewN' HB2.out _⟩
end Go.Proofs.YtnkdppbpcinjhaaDoor
