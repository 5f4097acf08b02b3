/- The verifier's second writing: are a text's tokens these two? The verifier's second writing: the text of tokens. -/
import Derived.Test.YtjlejiphpbaonaaGreatDoorGL
import Derived.Lib.QuietBelow
set_option maxRecDepth 20000
namespace Go.Proofs.YtjlejiphpbaonaaGreatDoor
open Go.RowKit
theorem str_ext {x y : ByteArray} {tt : List UInt8} (hx : tt = x.toList) (hy : tt = y.toList) : y = x := by
  apply ByteArray.ext
  apply Array.toList_inj.1
  rw [← ByteArray.toList_eq, ← ByteArray.toList_eq, ← hx, ← hy]
set_option maxRecDepth 100000 in
set_option maxHeartbeats 4000000 in
theorem rtwo (s : ByteArray) (a c : Wn.Tok) (w : World) (hs : s.size ≤ 1000000) :
    Calls Tryz.prog 76 #[.string s, .agg #[.int .i64 a.1, .string (Wn.str a.2.1), .int .i64 a.2.2], .agg #[.int .i64 c.1, .string (Wn.str c.2.1), .int .i64 c.2.2]] w fun e w' => e = .returned (.bool (decide (Wn.lex s.data.toList = [a, c]))) ∧ Below w.heap.size w w' := by
  obtain ⟨L, hL⟩ : ∃ L, Wn.lex s.data.toList = L := ⟨_, rfl⟩
  rw [hL]
  generalize hR : decide (L = [a, c]) = R
  have HR := Lib.hid hR; clear hR
  have BX := Lib.hid (box2 w a c)
  have QA := Lib.hid (fun w => rAll s L w hs hL)
  clear hL hs
  obtain ⟨ak, atx, an⟩ := a
  obtain ⟨ck, ct, cn⟩ := c
  dsimp only at *
  have hx := str_list atx
  have hy := str_list ct
  generalize hxx : Wn.str atx = x at *
  generalize hyy : Wn.str ct = y at *
  have HXX := Lib.hid hxx; clear hxx
  have HYY := Lib.hid hyy; clear hyy
  have HB0 : Hid (Below w.heap.size w ((w.alloc (Obj.cells #[Value.int IntKind.i64 ak, Value.string x, Value.int IntKind.i64 an] 47)).alloc (Obj.cells #[Value.int IntKind.i64 ck, Value.string y, Value.int IntKind.i64 cn] 47))) := Lib.hid (((Below.refl _ _).alloc (Nat.le_refl _) _).alloc (by simp) _)
  go_enter Tryz.func76, Tryz.ntmps76
  go_wp2_with fail
  refine (QA.out _).mono ?_
  rintro e w2 ⟨v2, rfl, h2, b2⟩
  have HB2 : Hid (Below w.heap.size w w2) := Lib.hid (HB0.out.trans (b2.mono HB0.out.size))
  have T2 := BX.out.1.later b2
  have U2 := BX.out.2.later b2
  (have k0a2 : w2.cell? ⟨w.heap.size, 0, none⟩ = some _ := (T2).c0); (have k1a2 : w2.cell? ⟨w.heap.size, 1, none⟩ = some _ := (T2).c1); (have k2a2 : w2.cell? ⟨w.heap.size, 2, none⟩ = some _ := (T2).c2); (try dsimp only at k0a2 k1a2 k2a2)
  (have k0c2 : w2.cell? ⟨w.heap.size + 1, 0, none⟩ = some _ := (U2).c0); (have k1c2 : w2.cell? ⟨w.heap.size + 1, 1, none⟩ = some _ := (U2).c1); (have k2c2 : w2.cell? ⟨w.heap.size + 1, 2, none⟩ = some _ := (U2).c2); (try dsimp only at k0c2 k1c2 k2c2)
  rw [HXX.out] at k1a2
  rw [HYY.out] at k1c2
  clear T2 U2 b2 BX HB0
  obtain ⟨ao, cap, rfl, c1, c2, hcell⟩ := h2.toks
  unfold maxLen at c2
  have HC := Lib.hid hcell
  clear hcell h2 QA
  by_cases hlen : L.length = 2
  · match L, hlen with
    | [u, v], _ =>
      obtain ⟨b, off, rfl, hin⟩ := HC.out 0 u rfl
      obtain ⟨b', off', hbb, hin'⟩ := HC.out 1 v rfl
      simp only [Option.some.injEq, Addr.mk.injEq] at hbb
      obtain ⟨rfl, rfl, _⟩ := hbb
      obtain ⟨uk, ut, un⟩ := u
      obtain ⟨vk, vt, vn⟩ := v
      obtain ⟨i0, i1, i2⟩ := hin
      obtain ⟨j0, j1, j2⟩ := hin'
      dsimp only at *
      simp only [Nat.zero_mul, Nat.add_zero, Nat.one_mul] at i0 i1 i2 j0 j1 j2
      have hp := str_list ut
      have hq := str_list vt
      generalize Wn.str ut = p at *
      generalize Wn.str vt = q at *
      clear HXX HYY HC
      simp only [List.length_cons, List.length_nil, Nat.zero_add] at *
      by_cases hne : (uk, ut, un) = (ak, atx, an)
      · simp only [Prod.mk.injEq] at hne
        obtain ⟨rfl, rfl, rfl⟩ := hne
        obtain rfl := str_ext hx.symm hp.symm
        by_cases hne : (vk, vt, vn) = (ck, ct, cn)
        · have hR : R = true := by rw [← HR.out, hne]; simp
          have HR2 := Lib.hid hR; clear hR HR
          simp only [Prod.mk.injEq] at hne
          obtain ⟨rfl, rfl, rfl⟩ := hne
          obtain rfl := str_ext hy.symm hq.symm
          clear hx hy hp hq
          go_wp2_with fail
          go_quiet (fail)
          go_wp2_with fail
          go_ret
          exact ⟨ret_bool (by rw [HR2.out]), below_drewN' HB2.out _⟩
        · have hR : R = false := by rw [← HR.out]; simp only [decide_eq_false_iff_not]; intro h; simp only [List.cons.injEq, true_and, and_true] at h; exact hne h
          have HR2 := Lib.hid hR; clear hR HR
          clear hx hp
          subst hy hq
          cases h0 : (vk == ck)
          · go_wp2_with fail
            go_quiet (fail)
            go_wp2_with fail
            go_ret
            exact ⟨ret_bool (by rw [HR2.out]), below_drewN' HB2.out _⟩
          · cases h1 : (q.toList == y.toList)
            · go_wp2_with fail
              go_quiet (fail)
              go_wp2_with fail
              go_ret
              exact ⟨ret_bool (by rw [HR2.out]), below_drewN' HB2.out _⟩
            · have h2 : (vn == cn) = false := by
                rw [beq_eq_false_iff_ne]; intro h
                exact hne (by rw [beq_iff_eq] at h0 h1; rw [h0, h1, h])
              go_wp2_with fail
              go_quiet (fail)
              go_wp2_with fail
              go_ret
              exact ⟨ret_bool (by rw [HR2.out]), below_drewN' HB2.out _⟩
      · have hR : R = false := by rw [← HR.out]; simp only [decide_eq_false_iff_not]; intro h; simp only [List.cons.injEq, and_true] at h; exact hne h.1
        have HR2 := Lib.hid hR; clear hR HR
        clear hy hq j0 j1 j2
        subst hx hp
        cases h0 : (uk == ak)
        · go_wp2_with fail
          go_quiet (fail)
          go_wp2_with fail
          go_ret
          exact ⟨ret_bool (by rw [HR2.out]), below_drewN' HB2.out _⟩
        · cases h1 : (p.toList == x.toList)
          · go_wp2_with fail
            go_quiet (fail)
            go_wp2_with fail
            go_ret
            exact ⟨ret_bool (by rw [HR2.out]), below_drewN' HB2.out _⟩
          · have h2 : (un == an) = false := by
              rw [beq_eq_false_iff_ne]; intro h
              exact hne (by rw [beq_iff_eq] at h0 h1; rw [h0, h1, h])
            go_wp2_with fail
            go_quiet (fail)
            go_wp2_with fail
            go_ret
            exact ⟨ret_bool (by rw [HR2.out]), below_drewN' HB2.out _⟩
  · have hne : (((L.length : Nat) : Int) == 2) = false := by rw [beq_eq_false_iff_ne]; omega
    have hR : R = false := by rw [← HR.out]; simp only [decide_eq_false_iff_not]; intro h; exact hlen (by rw [h]; rfl)
    have HR2 := Lib.hid hR; clear hR HR HC
    generalize L.length = n at *
    clear hlen
    go_wp2_with fail
    go_quiet (fail)
    go_wp2_with fail
    go_ret
    exact ⟨ret_bool HR2.out.symm, below_drewN' HB2.out _⟩
end Go.Proofs.YtjlejiphpbaonaaGreatDoor
set_option maxRecDepth 20000
namespace Go.Proofs.YtjlejiphpbaonaaGreatDoor
open Go.RowKit Go.Sort
theorem step_text {l : List Wn.Tok} {j : Nat} {p t : Wn.Tok} {acc : List UInt8} {R : Bool} (hp : l[j]? = some p) (ht : l[j + 1]? = some t) (hR : Wn.apart (Wn.oneText p ++ Wn.oneText t) p t = R) (h : acc ++ Wn.texts (Wn.ahead l (j + 1)) (l.drop (j + 1)) = Wn.text l) :
    (acc ++ (if R then [47, 42, 42, 47] else []) ++ Wn.oneText t) ++ Wn.texts (Wn.ahead l (j + 1 + 1)) (l.drop (j + 1 + 1)) = Wn.text l := by
  have hj : j + 1 < l.length := (List.getElem?_eq_some_iff.1 ht).1
  have e : l.drop (j + 1) = t :: l.drop (j + 1 + 1) := by
    rw [List.drop_eq_getElem_cons hj]; rw [List.getElem?_eq_getElem hj, Option.some.injEq] at ht; rw [ht]
  rw [← h, e, Wn.ahead_succ l j p hp, Wn.ahead_succ l (j + 1) t ht]
  simp [Wn.texts, hR]
theorem step_text0 {l : List Wn.Tok} {t : Wn.Tok} {acc : List UInt8} (ht : l[0]? = some t) (h : acc ++ Wn.texts (Wn.ahead l 0) (l.drop 0) = Wn.text l) :
    (acc ++ Wn.oneText t) ++ Wn.texts (Wn.ahead l (0 + 1)) (l.drop (0 + 1)) = Wn.text l := by
  have hj : 0 < l.length := (List.getElem?_eq_some_iff.1 ht).1
  have e : l.drop 0 = t :: l.drop (0 + 1) := by
    rw [List.drop_eq_getElem_cons hj]; rw [List.getElem?_eq_getElem hj, Option.some.injEq] at ht; rw [ht]
  rw [← h, e, Wn.ahead_succ l 0 t ht]
  simp [Wn.texts, Wn.ahead]
def ShortTok (t : Wn.Tok) : Prop := t.2.1.length ≤ 100000 ∧ -9223372036854775808 ≤ t.2.2 ∧ t.2.2 ≤ 9223372036854775807
theorem ShortTok.one {t : Wn.Tok} (h : ShortTok t) : (Wn.oneText t).length ≤ 100100 := by have := Wn.oneText_len t h.2.1 h.2.2; have := h.1; omega
set_option maxRecDepth 100000 in
set_option maxHeartbeats 8000000 in
theorem rText (v : Value) (l : List Wn.Tok) (w : World) (hW : Toks w v l) (hf : ∀ t ∈ l, ShortTok t) (hlen : l.length ≤ 1000000) :
    Calls Tryz.prog 50 #[v] w fun e w' => e = .returned (.string (Wn.str (Wn.text l))) ∧ Below w.heap.size w w' := by
  obtain ⟨ao, cap, rfl, hc1, hc2, hcell⟩ := hW
  have HCell := Lib.hid hcell; clear hcell
  have HF := Lib.hid hf; clear hf
  unfold maxLen at hc2
  go_enter Tryz.func50, Tryz.ntmps50
  go_wp2_with fail
  go_loopw [3, 4] (fun v3 v4 wr => ∃ (k : Nat) (acc : List UInt8), k ≤ l.length ∧ v4 = .int .i64 (k : Int) ∧ v3 = .string (Wn.str acc) ∧ acc.length ≤ k * 200000 ∧ Hid (Below w.heap.size w wr) ∧ Hid (acc ++ Wn.texts (Wn.ahead l k) (l.drop k) = Wn.text l)) (fun _ v4 _ => l.length - (intOf v4).toNat)
  case atStart => exact ⟨0, [], by omega, rfl, rfl, by simp, Lib.hid (Below.refl _ _), Lib.hid rfl⟩
  case round =>
    obtain ⟨k, acc, hk, rfl, rfl, hacc, HB, HA⟩ := hrel
    by_cases hlt : k < l.length
    · obtain ⟨t, hTk⟩ : ∃ t, l[k]? = some t := ⟨l[k], List.getElem?_eq_getElem hlt⟩
      obtain ⟨b, off, rfl, hin⟩ := HCell.out k _ hTk
      have hft := HF.out t (List.mem_of_getElem? hTk)
      obtain ⟨i0, i1, i2⟩ := hin.below HB.out hin.lt
      have qo := fun w => rOne t w (by have := hft.1; omega) hft.2.1 hft.2.2
      have hone := hft.one
      have hal : acc.length ≤ 200000000000 := by omega
      have hzs : (Wn.str acc).size ≤ 200000000000 := by rw [Wn.str_size]; exact hal
      have hzt : (Wn.str (Wn.oneText t)).size ≤ 100100 := by rw [Wn.str_size]; exact hone
      have E0 : Hid (Wn.str (acc ++ Wn.oneText t) = Wn.str acc ++ Wn.str (Wn.oneText t)) := Lib.hid (Wn.str_append _ _).symm
      have E1 : Hid (Wn.str (acc ++ [47, 42, 42, 47] ++ Wn.oneText t) = Wn.str acc ++ ⟨#[47, 42, 42, 47]⟩ ++ Wn.str (Wn.oneText t)) := Lib.hid (by rw [← Wn.str_append, ← Wn.str_append]; rfl)
      cases k with
      | zero =>
        have HA' := Lib.hid (step_text0 hTk HA.out)
        have HAL : Hid ((acc ++ Wn.oneText t).length ≤ (0 + 1) * 200000) := Lib.hid (by rw [List.length_append]; omega)
        clear hTk hin hft HA hacc hal hone
        simp only [Nat.zero_mul, Nat.add_zero] at i0 i1 i2
        generalize Wn.str t.2.1 = x at *
        generalize Wn.str (Wn.oneText t) = z at *
        generalize Wn.str acc = sa at *
        have QO := Lib.hid qo; clear qo
        go_wp2_with fail
        go_quiet (fail)
        go_wp2_with fail
        refine (QO.out _).mono ?_
        rintro e w1 ⟨rfl, b1⟩
        have HB1 : Hid (Below w.heap.size w w1) := Lib.hid ((below_drewN' HB.out _).trans (b1.mono (by simpa using HB.out.size)))
        clear b1
        go_wp2_with fail
        exact ⟨⟨0 + 1, acc ++ Wn.oneText t, by omega, by go_num, by rw [E0.out], HAL.out, HB1, HA'⟩, by simp [intOf]; omega⟩
      | succ j =>
        obtain ⟨p, hTj⟩ : ∃ p, l[j]? = some p := ⟨l[j], List.getElem?_eq_getElem (by omega)⟩
        have hpf := HF.out p (List.mem_of_getElem? hTj)
        obtain ⟨b', off', hbo, hinp⟩ := HCell.out j _ hTj
        simp only [Option.some.injEq, Addr.mk.injEq] at hbo
        obtain ⟨rfl, rfl, _⟩ := hbo
        obtain ⟨j0, j1, j2⟩ := hinp.below HB.out hinp.lt
        have hpo := hpf.one
        have hzp : (Wn.str (Wn.oneText p)).size ≤ 100100 := by rw [Wn.str_size]; exact hpo
        have qp := fun w => rOne p w (by have := hpf.1; omega) hpf.2.1 hpf.2.2
        have qt := fun w => rtwo (Wn.str (Wn.oneText p) ++ Wn.str (Wn.oneText t)) p t w (by rw [ByteArray.size_append]; omega)
        have eD : Wn.lex (Wn.str (Wn.oneText p) ++ Wn.str (Wn.oneText t)).data.toList = Wn.lex (Wn.oneText p ++ Wn.oneText t) := by rw [Wn.str_append, Wn.toList_str]
        rw [eD] at qt
        have eR : Wn.apart (Wn.oneText p ++ Wn.oneText t) p t = ((decide (p.1 = 7) && decide (p.2.1 = [60])) && (decide (t.1 = 7) && decide (t.2.1 = [47])) || !decide (Wn.lex (Wn.oneText p ++ Wn.oneText t) = [p, t])) := rfl
        obtain ⟨R, hR⟩ : ∃ R, Wn.apart (Wn.oneText p ++ Wn.oneText t) p t = R := ⟨_, rfl⟩
        have HA' := Lib.hid (step_text hTj hTk hR HA.out)
        rw [hR] at eR
        generalize decide (Wn.lex (Wn.oneText p ++ Wn.oneText t) = [p, t]) = D at *
        have hx := str_list t.2.1
        have hy := str_list p.2.1
        have ER : Hid (R = ((p.1 == 7) && (p.2.1 == [60]) && ((t.1 == 7) && (t.2.1 == [47])) || !D)) := Lib.hid (by
          rw [eR]
          congr 1
          rw [Bool.eq_iff_iff]; simp)
        clear hTk hin hft HA hTj hpf hinp eD hR eR hpo
        generalize Wn.str t.2.1 = x at *
        generalize Wn.str p.2.1 = y at *
        generalize Wn.str (Wn.oneText t) = z at *
        generalize Wn.str (Wn.oneText p) = z' at *
        generalize Wn.str acc = sa at *
        generalize t.2.1 = tx at *
        generalize p.2.1 = px at *
        subst hx hy
        generalize t.1 = tk at *
        generalize p.1 = pk at *
        generalize t.2.2 = tn at *
        generalize p.2.2 = pn at *
        have c0 := cell_regrown i0
        have c1 := cell_regrown i1
        have c2 := cell_regrown i2
        have d0 := cell_regrown j0
        have d1 := cell_regrown j1
        have d2 := cell_regrown j2
        have CO : Hid (∀ d os, Calls Tryz.prog 77 #[.agg #[.int .i64 tk, .string x, .int .i64 tn]] (grow (redrawn wr d) os) fun e w'' => e = .returned (.string z) ∧ ∃ p : Regrown, w'' = grow (redrawn wr p.d) p.os) := Lib.hid (fun d os => Calls.regrown_of (qo _))
        have CP : Hid (∀ d os, Calls Tryz.prog 77 #[.agg #[.int .i64 pk, .string y, .int .i64 pn]] (grow (redrawn wr d) os) fun e w'' => e = .returned (.string z') ∧ ∃ p : Regrown, w'' = grow (redrawn wr p.d) p.os) := Lib.hid (fun d os => Calls.regrown_of (qp _))
        have CT : Hid (∀ d os, Calls Tryz.prog 76 #[.string (z' ++ z), .agg #[.int .i64 pk, .string y, .int .i64 pn], .agg #[.int .i64 tk, .string x, .int .i64 tn]] (grow (redrawn wr d) os) fun e w'' => e = .returned (.bool D) ∧ ∃ p : Regrown, w'' = grow (redrawn wr p.d) p.os) := Lib.hid (fun d os => Calls.regrown_of (qt _))
        have QO := Lib.hid qo; clear qo qp qt
        have hb1 : (j : Int) < (l.length : Int) := by omega
        have hb2 : (j : Int) + 1 < (l.length : Int) := by omega
        have hb3 : (0 : Int) ≤ (j : Int) + 1 := by omega
        have hb4 : ((j : Int) + 1).toNat = j + 1 := by omega
        have HAL0 : Hid ((acc ++ Wn.oneText t).length ≤ (j + 1 + 1) * 200000) := Lib.hid (by rw [List.length_append]; omega)
        have HAL1 : Hid ((acc ++ [47, 42, 42, 47] ++ Wn.oneText t).length ≤ (j + 1 + 1) * 200000) := Lib.hid (by rw [List.length_append, List.length_append]; simp; omega)
        have hw1 : IntKind.i64.wrap (j : Int) = (j : Int) := IntWalk.i64_in _ (by omega)
        clear hacc hal hone
        have hn1 : ¬ 9223372036854775807 < z'.size + z.size := by omega
        cases D
        · have HR : Hid (R = true) := Lib.hid (by rw [ER.out]; simp)
          (go_wp2_with fail; (refine wp_region_quiet_below (by kernel_rfl) (by kernel_rfl) ?_); (repeat (first | go_big_quiet_skip | quiet_step (first | with_reducible exact CO.out _ _ | with_reducible exact CP.out _ _ | with_reducible exact CT.out _ _))); (refine wpQuiet_nil ?_); intro _ hw'; obtain ⟨⟨dq, osq⟩, hw''⟩ := hw'; subst hw''; dsimp only; have f0 := c0 dq osq; have f1 := c1 dq osq; have f2 := c2 dq osq; have HBq := Lib.hid (below_regrown wr dq osq); clear c0 c1 c2 d0 d1 d2 CO CP CT; generalize grow (redrawn wr dq) osq = w5 at *; have HB5 := Lib.hid (HB.out.trans (HBq.out.mono HB.out.size)); clear HBq HB; go_wp2_with fail; (refine (QO.out _).mono ?_); rintro e w6 ⟨rfl, b6⟩; have HB6 := Lib.hid (HB5.out.trans (b6.mono HB5.out.size)); clear b6 HB5; go_wp2_with fail; have HA2 := HA'.out; rw [HR.out] at HA2)
          (exact ⟨⟨j + 1 + 1, acc ++ [47, 42, 42, 47] ++ Wn.oneText t, by omega, by go_num, by rw [E1.out], HAL1.out, HB6, Lib.hid (by simpa using HA2)⟩, by simp [intOf]; omega⟩)
        · cases h1 : (pk == 7)
          · have HR : Hid (R = false) := Lib.hid (by rw [ER.out, h1]; simp)
            (go_wp2_with fail; (refine wp_region_quiet_below (by kernel_rfl) (by kernel_rfl) ?_); (repeat (first | go_big_quiet_skip | quiet_step (first | with_reducible exact CO.out _ _ | with_reducible exact CP.out _ _ | with_reducible exact CT.out _ _))); (refine wpQuiet_nil ?_); intro _ hw'; obtain ⟨⟨dq, osq⟩, hw''⟩ := hw'; subst hw''; dsimp only; have f0 := c0 dq osq; have f1 := c1 dq osq; have f2 := c2 dq osq; have HBq := Lib.hid (below_regrown wr dq osq); clear c0 c1 c2 d0 d1 d2 CO CP CT; generalize grow (redrawn wr dq) osq = w5 at *; have HB5 := Lib.hid (HB.out.trans (HBq.out.mono HB.out.size)); clear HBq HB; go_wp2_with fail; (refine (QO.out _).mono ?_); rintro e w6 ⟨rfl, b6⟩; have HB6 := Lib.hid (HB5.out.trans (b6.mono HB5.out.size)); clear b6 HB5; go_wp2_with fail; have HA2 := HA'.out; rw [HR.out] at HA2)
            (exact ⟨⟨j + 1 + 1, acc ++ Wn.oneText t, by omega, by go_num, by rw [E0.out], HAL0.out, HB6, Lib.hid (by simpa using HA2)⟩, by simp [intOf]; omega⟩)
          · cases h2 : (y.toList == [60])
            · have HR : Hid (R = false) := Lib.hid (by rw [ER.out, h2]; simp)
              (go_wp2_with fail; (refine wp_region_quiet_below (by kernel_rfl) (by kernel_rfl) ?_); (repeat (first | go_big_quiet_skip | quiet_step (first | with_reducible exact CO.out _ _ | with_reducible exact CP.out _ _ | with_reducible exact CT.out _ _))); (refine wpQuiet_nil ?_); intro _ hw'; obtain ⟨⟨dq, osq⟩, hw''⟩ := hw'; subst hw''; dsimp only; have f0 := c0 dq osq; have f1 := c1 dq osq; have f2 := c2 dq osq; have HBq := Lib.hid (below_regrown wr dq osq); clear c0 c1 c2 d0 d1 d2 CO CP CT; generalize grow (redrawn wr dq) osq = w5 at *; have HB5 := Lib.hid (HB.out.trans (HBq.out.mono HB.out.size)); clear HBq HB; go_wp2_with fail; (refine (QO.out _).mono ?_); rintro e w6 ⟨rfl, b6⟩; have HB6 := Lib.hid (HB5.out.trans (b6.mono HB5.out.size)); clear b6 HB5; go_wp2_with fail; have HA2 := HA'.out; rw [HR.out] at HA2)
              (exact ⟨⟨j + 1 + 1, acc ++ Wn.oneText t, by omega, by go_num, by rw [E0.out], HAL0.out, HB6, Lib.hid (by simpa using HA2)⟩, by simp [intOf]; omega⟩)
            · cases h3 : (tk == 7)
              · have HR : Hid (R = false) := Lib.hid (by rw [ER.out, h3]; simp)
                (go_wp2_with fail; (refine wp_region_quiet_below (by kernel_rfl) (by kernel_rfl) ?_); (repeat (first | go_big_quiet_skip | quiet_step (first | with_reducible exact CO.out _ _ | with_reducible exact CP.out _ _ | with_reducible exact CT.out _ _))); (refine wpQuiet_nil ?_); intro _ hw'; obtain ⟨⟨dq, osq⟩, hw''⟩ := hw'; subst hw''; dsimp only; have f0 := c0 dq osq; have f1 := c1 dq osq; have f2 := c2 dq osq; have HBq := Lib.hid (below_regrown wr dq osq); clear c0 c1 c2 d0 d1 d2 CO CP CT; generalize grow (redrawn wr dq) osq = w5 at *; have HB5 := Lib.hid (HB.out.trans (HBq.out.mono HB.out.size)); clear HBq HB; go_wp2_with fail; (refine (QO.out _).mono ?_); rintro e w6 ⟨rfl, b6⟩; have HB6 := Lib.hid (HB5.out.trans (b6.mono HB5.out.size)); clear b6 HB5; go_wp2_with fail; have HA2 := HA'.out; rw [HR.out] at HA2)
                (exact ⟨⟨j + 1 + 1, acc ++ Wn.oneText t, by omega, by go_num, by rw [E0.out], HAL0.out, HB6, Lib.hid (by simpa using HA2)⟩, by simp [intOf]; omega⟩)
              · cases h4 : (x.toList == [47])
                · have HR : Hid (R = false) := Lib.hid (by rw [ER.out, h4]; simp)
                  (go_wp2_with fail; (refine wp_region_quiet_below (by kernel_rfl) (by kernel_rfl) ?_); (repeat (first | go_big_quiet_skip | quiet_step (first | with_reducible exact CO.out _ _ | with_reducible exact CP.out _ _ | with_reducible exact CT.out _ _))); (refine wpQuiet_nil ?_); intro _ hw'; obtain ⟨⟨dq, osq⟩, hw''⟩ := hw'; subst hw''; dsimp only; have f0 := c0 dq osq; have f1 := c1 dq osq; have f2 := c2 dq osq; have HBq := Lib.hid (below_regrown wr dq osq); clear c0 c1 c2 d0 d1 d2 CO CP CT; generalize grow (redrawn wr dq) osq = w5 at *; have HB5 := Lib.hid (HB.out.trans (HBq.out.mono HB.out.size)); clear HBq HB; go_wp2_with fail; (refine (QO.out _).mono ?_); rintro e w6 ⟨rfl, b6⟩; have HB6 := Lib.hid (HB5.out.trans (b6.mono HB5.out.size)); clear b6 HB5; go_wp2_with fail; have HA2 := HA'.out; rw [HR.out] at HA2)
                  (exact ⟨⟨j + 1 + 1, acc ++ Wn.oneText t, by omega, by go_num, by rw [E0.out], HAL0.out, HB6, Lib.hid (by simpa using HA2)⟩, by simp [intOf]; omega⟩)
                · have HR : Hid (R = true) := Lib.hid (by rw [ER.out, h1, h2, h3, h4]; simp)
                  (go_wp2_with fail; (refine wp_region_quiet_below (by kernel_rfl) (by kernel_rfl) ?_); (repeat (first | go_big_quiet_skip | quiet_step (first | with_reducible exact CO.out _ _ | with_reducible exact CP.out _ _ | with_reducible exact CT.out _ _))); (refine wpQuiet_nil ?_); intro _ hw'; obtain ⟨⟨dq, osq⟩, hw''⟩ := hw'; subst hw''; dsimp only; have f0 := c0 dq osq; have f1 := c1 dq osq; have f2 := c2 dq osq; have HBq := Lib.hid (below_regrown wr dq osq); clear c0 c1 c2 d0 d1 d2 CO CP CT; generalize grow (redrawn wr dq) osq = w5 at *; have HB5 := Lib.hid (HB.out.trans (HBq.out.mono HB.out.size)); clear HBq HB; go_wp2_with fail; (refine (QO.out _).mono ?_); rintro e w6 ⟨rfl, b6⟩; have HB6 := Lib.hid (HB5.out.trans (b6.mono HB5.out.size)); clear b6 HB5; go_wp2_with fail; have HA2 := HA'.out; rw [HR.out] at HA2)
                  (exact ⟨⟨j + 1 + 1, acc ++ [47, 42, 42, 47] ++ Wn.oneText t, by omega, by go_num, by rw [E1.out], HAL1.out, HB6, Lib.hid (by simpa using HA2)⟩, by simp [intOf]; omega⟩)
    · have HTL : Hid (Wn.str acc = Wn.str (Wn.text l)) := Lib.hid (by have := HA.out; rw [List.drop_of_length_le (by omega)] at this; rw [← this]; cases Wn.ahead l k <;> simp [Wn.texts])
      rw [HTL.out]
      go_wp2_with fail
      go_ret
      exact ⟨rfl, HB.out⟩
end Go.Proofs.YtjlejiphpbaonaaGreatDoor
