/- What ref04's count and Small answer: a number, a truth value; nothing turns. Two of the verifier's weights are the same just if their three numbers are. WeightTells: whatever the selectors, the weights and the numbers, the law answers true, and nothing that was there has turned. Arguments of a row that are lists of selectors: what the reading of a row's argument says of the memory. WeightTells holds for all selectors, weights and numbers: the call returns true, and each argument reads afterwards as it read before. -/
import Derived.Test.YtnkhfggngdnjbaaHM
import Derived.Test.YtnkhfggngdnjbaaHL
import Derived.Test.YtnkhfggngdnjbaaKC
import Derived.Test.YtnkhfggngdnjbaaKD
import Derived.Test.YtnkhfggngdnjbaaKE
import Derived.Lib.QuietBelow
import Derived.Test.YtnkhfggngdnjbaaGR
import Derived.OpenShut
import Derived.Test.YtnkhfggngdnjbaaGG
import Derived.Test.YtnkhfggngdnjbaaGH
set_option maxRecDepth 20000
namespace Go.Proofs.Ytnkhfggngdnjbaa
open Go.RowKit Go.Sort
def C4Said (f : Wn.Ss) : Prop := ∀ (v : Value) (n most : Int) (w : World), SsP w (fun _ => True) v f → Calls Try.prog 19 #[v, .int .i64 n, .int .i64 most] w fun e w' => ∃ m : Int, e = .returned (.int .i64 m) ∧ w' = w
set_option maxRecDepth 100000 in
set_option maxHeartbeats 2000000 in
theorem count4_step (f : Wn.Ss) (IH : ∀ x : Wn.Ss, x.size < f.size → C4Said x) : C4Said f := by
  intro v n0 most w hv
  have HIH := Lib.hid IH; clear IH
  have HV := Lib.hid hv
  obtain ⟨ao, cap, rfl, c1, c2⟩ := hv.form
  unfold maxLen at c2
  clear hv
  go_enter Try.func19, Try.ntmps19
  go_wp2_with fail
  go_loopw [1, 7] (fun v1 v7 wr => ∃ (i : Nat) (n : Int), i ≤ f.len ∧ v1 = .int .i64 n ∧ v7 = .int .i64 (i : Int) ∧ Hid (wr = w)) (fun _ v7 _ => f.len - (intOf v7).toNat)
  case atStart => exact ⟨0, n0, by omega, rfl, rfl, Lib.hid rfl⟩
  case round =>
    obtain ⟨i, n, hil, rfl, rfl, HW⟩ := hrel
    obtain rfl := HW.out
    clear HW
    by_cases hlt : i < f.len
    · obtain ⟨k, nm, t, a, b, x, hd⟩ := Wn.Ss.drop_cons hlt
      obtain ⟨p, o, u, rfl, j0, j1, j2, j3, j4, j5, hu⟩ := HV.out.at hd
      have hsz := Wn.Ss.drop_lt hd
      obtain ⟨uo, uc, rfl, _, _⟩ := hu.form
      have CS := Lib.hid (fun a b => HIH.out x hsz _ a b wr hu)
      generalize x.len = xl at *
      generalize Wn.str nm = ny at *
      generalize Wn.str t = ty at *
      clear hu hd j0 j3 j4 hsz
      have hi1 : (i : Int) < (f.len : Int) := by omega
      by_cases hn : n ≤ most
      · by_cases h1 : 100 < ny.size
        · go_wp2_with fail
          go_ret
          first | exact ⟨_, rfl, rfl⟩ | exact ⟨⟨_, rfl⟩, rfl⟩ | exact ⟨rfl, rfl⟩ | exact .inl rfl | exact ⟨.inl rfl, rfl⟩ | exact .inr rfl | exact ⟨.inr rfl, rfl⟩ | exact ⟨_, rfl⟩
        · by_cases h2 : 100 < ty.size
          · go_wp2_with fail
            go_ret
            first | exact ⟨_, rfl, rfl⟩ | exact ⟨⟨_, rfl⟩, rfl⟩ | exact ⟨rfl, rfl⟩ | exact .inl rfl | exact ⟨.inl rfl, rfl⟩ | exact .inr rfl | exact ⟨.inr rfl, rfl⟩ | exact ⟨_, rfl⟩
          · go_wp2_with fail
            refine (CS.out _ _).mono ?_
            rintro e w1 ⟨m, rfl, rfl⟩
            go_wp2_with fail
            exact ⟨⟨i + 1, m, by omega, rfl, by go_num, Lib.hid (by simp)⟩, by simp [intOf]; try omega⟩
      · go_wp2_with fail
        go_ret
        first | exact ⟨_, rfl, rfl⟩ | exact ⟨⟨_, rfl⟩, rfl⟩ | exact ⟨rfl, rfl⟩ | exact .inl rfl | exact ⟨.inl rfl, rfl⟩ | exact .inr rfl | exact ⟨.inr rfl, rfl⟩ | exact ⟨_, rfl⟩
    · have hni : ¬ (i : Int) < (f.len : Int) := by omega
      go_wp2_with fail
      go_ret
      first | exact ⟨_, rfl, rfl⟩ | exact ⟨⟨_, rfl⟩, rfl⟩ | exact ⟨rfl, rfl⟩ | exact .inl rfl | exact ⟨.inl rfl, rfl⟩ | exact .inr rfl | exact ⟨.inr rfl, rfl⟩ | exact ⟨_, rfl⟩
theorem count4_all : ∀ (n : Nat) (f : Wn.Ss), f.size < n → C4Said f
  | 0, f, h => by omega
  | n + 1, f, h => count4_step f fun g hg => count4_all n g (by omega)
set_option maxRecDepth 100000 in
set_option maxHeartbeats 2000000 in
theorem small4_any (v : Value) (l : List Wn.Cx) (most : Int) (w : World) (hv : cxK.P w (fun _ => True) v l) :
    Calls Try.prog 9 #[v, .int .i64 most] w fun e w' => ∃ r : Bool, e = .returned (.bool r) ∧ w' = w := by
  have HV := Lib.hid hv
  obtain ⟨ao, cap, rfl, c1, c2⟩ := hv.form
  unfold maxLen at c2
  clear hv
  go_enter Try.func9, Try.ntmps9
  go_wp2_with fail
  go_loopw [5, 6, 7] (fun v5 v6 v7 wr => ∃ (i : Nat) (n : Int), i ≤ l.length ∧ v5 = .int .i64 n ∧ v6 = .int .i64 (i : Int) ∧ Hid (wr = w)) (fun _ v6 _ _ => l.length - (intOf v6).toNat)
  case atStart => exact ⟨0, _, by omega, rfl, rfl, Lib.hid rfl⟩
  case round =>
    obtain ⟨i, n, hil, rfl, rfl, HW⟩ := hrel
    obtain rfl := HW.out
    clear HW
    by_cases hlt : i < l.length
    · obtain ⟨x, hx⟩ : ∃ x, l[i]? = some x := ⟨l[i], List.getElem?_eq_getElem hlt⟩
      obtain ⟨b, o, po, pc, rfl, hpt, k0, k1⟩ := cx_at HV.out hx
      have HP := Lib.hid hpt
      obtain ⟨po', pc', he, d1, d2⟩ := hpt.form
      simp only [Value.slice.injEq, true_and] at he
      obtain ⟨rfl, rfl⟩ := he
      unfold maxLen at d2
      have hi1 : (i : Int) < (l.length : Int) := by omega
      generalize Wn.str x.2 = y at *
      clear hpt hx
      by_cases hn : n ≤ most
      · go_wp2_with fail
        go_loopw [5, 7] (fun v5 v7 ws => ∃ (j : Nat) (m : Int), j ≤ x.1.length ∧ v5 = .int .i64 m ∧ v7 = .int .i64 (j : Int) ∧ Hid (ws = wr)) (fun _ v7 _ => x.1.length - (intOf v7).toNat)
        case atStart => exact ⟨0, _, by omega, rfl, rfl, Lib.hid rfl⟩
        case round =>
          obtain ⟨j, m, hjl, rfl, rfl, HW⟩ := hrel
          obtain rfl := HW.out
          clear HW
          by_cases hjt : j < x.1.length
          · obtain ⟨s, hs⟩ : ∃ s, x.1[j]? = some s := ⟨x.1[j], List.getElem?_eq_getElem hjt⟩
            obtain ⟨g, q, so, sc, rfl, hsm, _, t1⟩ := pt_at HP.out hs
            have CS : Hid (∀ a b, Calls Try.prog 19 #[.slice so s.2.length sc, .int .i64 a, .int .i64 b] wr fun e w' => ∃ m : Int, e = .returned (.int .i64 m) ∧ w' = wr) := Lib.hid (fun a b => count4_all _ (Wn.Ss.ofL s.2) (Nat.lt_succ_self _) _ a b wr (SsP.k.2 (by rw [Wn.Ss.toL_ofL]; exact hsm)))
            have hj1 : (j : Int) < (x.1.length : Int) := by omega
            clear hs hsm
            generalize s.2.length = sl at *
            by_cases hm : m ≤ most
            · go_wp2_with fail
              refine (CS.out _ _).mono ?_
              rintro e w1 ⟨m', rfl, rfl⟩
              go_wp2_with fail
              exact ⟨⟨j + 1, m', by omega, rfl, by go_num, Lib.hid (by simp)⟩, by simp [intOf]; try omega⟩
            · by_cases hy : 100 < y.size
              · go_wp2_with fail
                go_ret
                first | exact ⟨_, rfl, rfl⟩ | exact ⟨⟨_, rfl⟩, rfl⟩ | exact ⟨rfl, rfl⟩ | exact .inl rfl | exact ⟨.inl rfl, rfl⟩ | exact .inr rfl | exact ⟨.inr rfl, rfl⟩ | exact ⟨_, rfl⟩
              · go_wp2_with fail
                exact ⟨⟨i + 1, _, by omega, rfl, by go_num, Lib.hid (by simp)⟩, by simp [intOf]; try omega⟩
          · have hnj : ¬ (j : Int) < (x.1.length : Int) := by omega
            by_cases hy : 100 < y.size
            · go_wp2_with fail
              go_ret
              first | exact ⟨_, rfl, rfl⟩ | exact ⟨⟨_, rfl⟩, rfl⟩ | exact ⟨rfl, rfl⟩ | exact .inl rfl | exact ⟨.inl rfl, rfl⟩ | exact .inr rfl | exact ⟨.inr rfl, rfl⟩ | exact ⟨_, rfl⟩
            · go_wp2_with fail
              exact ⟨⟨i + 1, _, by omega, rfl, by go_num, Lib.hid (by simp)⟩, by simp [intOf]; try omega⟩
      · go_wp2_with fail
        go_ret
        first | exact ⟨_, rfl, rfl⟩ | exact ⟨⟨_, rfl⟩, rfl⟩ | exact ⟨rfl, rfl⟩ | exact .inl rfl | exact ⟨.inl rfl, rfl⟩ | exact .inr rfl | exact ⟨.inr rfl, rfl⟩ | exact ⟨_, rfl⟩
    · have hni : ¬ (i : Int) < (l.length : Int) := by omega
      by_cases hn : n ≤ most
      · go_wp2_with fail
        go_ret
        first | exact ⟨_, rfl, rfl⟩ | exact ⟨⟨_, rfl⟩, rfl⟩ | exact ⟨rfl, rfl⟩ | exact .inl rfl | exact ⟨.inl rfl, rfl⟩ | exact .inr rfl | exact ⟨.inr rfl, rfl⟩ | exact ⟨_, rfl⟩
      · go_wp2_with fail
        go_ret
        first | exact ⟨_, rfl, rfl⟩ | exact ⟨⟨_, rfl⟩, rfl⟩ | exact ⟨rfl, rfl⟩ | exact .inl rfl | exact ⟨.inl rfl, rfl⟩ | exact .inr rfl | exact ⟨.inr rfl, rfl⟩ | exact ⟨_, rfl⟩
end Go.Proofs.Ytnkhfggngdnjbaa
set_option maxRecDepth 20000
namespace Go.Proofs.Ytnkhfggngdnjbaa
open Go.RowKit Go.Sort
theorem eq3_runA (x0 x1 x2 y0 y1 y2 : Int) (w : World) :
    (Op.equalIn 10000 24 (.agg #[.int .i64 x0, .int .i64 x1, .int .i64 x2]) (.agg #[.int .i64 y0, .int .i64 y1, .int .i64 y2])).run Try.prog w = .ok (x0 == y0 && (x1 == y1 && x2 == y2)) w := by
  have hi : ∃ i, Try.prog.info? 3 = some i := ⟨_, rfl⟩
  obtain ⟨i, hi⟩ := hi
  rw [run_equalIn_array (w := w) 9999 (t := 24) (e := 3) (n := 3) _ _ Try.underlying24 hi]
  have hc : Try.prog.cellsOf 3 = 1 := by kernel_rfl
  have hp : ∀ (xs : Array Value) (k : Nat) (v : Int), xs[k]? = some (.int .i64 v) → ∀ W, (part 3 xs k).run Try.prog W = .ok (.int .i64 v) W := by
    intro xs k v h W
    exact run_part_plain (w := W) (by kernel_rfl) h
  have he : ∀ (a b : Int) (W : World), (Op.equalIn 9999 3 (.int .i64 a) (.int .i64 b)).run Try.prog W = .ok (a == b) W := fun a b W => run_equalIn_int W 9998 _ _ .i64 a b Try.underlying3
  rw [hc]
  show (Op.eqItems 9999 3 1 _ _ [0, 1, 2]).run _ _ = _
  simp only [Op.eqItems, Sem.run_bind]
  rw [hp _ _ x0 rfl]
  simp only [Result.andThen_ok]
  rw [hp _ _ y0 rfl]
  simp only [Result.andThen_ok]
  rw [he]
  simp only [Result.andThen_ok]
  cases x0 == y0
  · simp
  · simp only [Bool.not_true, Bool.false_eq_true, if_false, Sem.run_bind, Bool.true_and]
    rw [hp _ _ x1 rfl]
    simp only [Result.andThen_ok]
    rw [hp _ _ y1 rfl]
    simp only [Result.andThen_ok]
    rw [he]
    simp only [Result.andThen_ok]
    cases x1 == y1
    · simp
    · simp only [Bool.not_true, Bool.false_eq_true, if_false, Sem.run_bind, Bool.true_and]
      rw [hp _ _ x2 rfl]
      simp only [Result.andThen_ok]
      rw [hp _ _ y2 rfl]
      simp only [Result.andThen_ok]
      rw [he]
      simp only [Result.andThen_ok]
      cases x2 == y2 <;> simp
end Go.Proofs.Ytnkhfggngdnjbaa
set_option maxRecDepth 20000
namespace Go.Proofs.Ytnkhfggngdnjbaa
open Go.RowKit Go.Sort
set_option maxRecDepth 100000 in
set_option maxHeartbeats 4000000 in
theorem lwTells_any (l : List Wn.Cx) (x : List Wn.W3) (n : Wn.W3) (vl vx : Value) (w : World) (hl : cxK.P w (fun _ => True) vl l) (hx : vK.P w (fun _ => True) vx x) :
    Calls Try.prog 3 #[vl, vx, wV n] w fun e w' => e = .returned (.bool true) ∧ Below w.heap.size w w' := by
  obtain ⟨lo, lc, rfl, hl1, hl2⟩ := hl.form
  obtain ⟨xo, xc, rfl, hx1, hx2⟩ := hx.form
  obtain ⟨n0, n1, n2⟩ := n
  unfold maxLen at hl2 hx2
  have hAl : Below w.heap.size w (w.alloc (.cells #[.int .i64 n0, .int .i64 n1, .int .i64 n2] 24)) := (Below.refl _ _).alloc (Nat.le_refl _) _
  have HL := Lib.hid (hl.below hAl)
  have HX := Lib.hid (hx.below hAl)
  have HN := Lib.hid (heap_alloc_new w (.cells #[.int .i64 n0, .int .i64 n1, .int .i64 n2] 24))
  have HW := Lib.hid hAl
  have hsz := HW.out.size
  clear hl hx hAl
  have QS := Lib.hid (fun W hW => small4_any _ l 200 W (HL.out.below hW))
  go_enter Try.func3, Try.ntmps3
  go_wp2_with fail
  generalize w.alloc (.cells #[.int .i64 n0, .int .i64 n1, .int .i64 n2] 24) = W0 at *
  generalize hNN : w.heap.size = N at *
  have HNN := Lib.hid hNN
  clear hNN
  refine (QS.out W0 (Below.refl _ _)).mono ?_
  rintro e w1 ⟨r, rfl, rfl⟩
  clear QS
  cases r
  · go_wp2_with fail
    refine (fixed06 _).mono ?_
    rintro e w2 ⟨rfl, b2⟩
    go_wp2_with fail
    go_ret
    exact ⟨rfl, by rw [HNN.out]; exact HW.out.trans (b2.mono hsz)⟩
  by_cases hxl : 20 < x.length
  · have hxl' : (20 : Int) < (x.length : Int) := by omega
    go_wp2_with fail
    refine (fixed06 _).mono ?_
    rintro e w2 ⟨rfl, b2⟩
    go_wp2_with fail
    go_ret
    exact ⟨rfl, by rw [HNN.out]; exact HW.out.trans (b2.mono hsz)⟩
  have hxl' : ¬ (20 : Int) < (x.length : Int) := by omega
  go_wp2_with fail
  go_loopw [7] (fun v7 wr => ∃ k : Nat, k ≤ l.length ∧ v7 = .int .i64 (k : Int) ∧ Hid (Below w1.heap.size w1 wr)) (fun v7 _ => l.length - (intOf v7).toNat)
  case atStart => exact ⟨0, by omega, rfl, Lib.hid (Below.refl _ _)⟩
  case round =>
    obtain ⟨k, hk, rfl, HB⟩ := hrel
    by_cases hkl : k < l.length
    · have hki : (k : Int) < (l.length : Int) := by omega
      obtain ⟨c, hc⟩ : ∃ c, l[k]? = some c := ⟨l[k], List.getElem?_eq_getElem hkl⟩
      obtain ⟨b, o, po, pc, rfl, hpt, k0, k1⟩ := cx_at (HL.out.below HB.out) hc
      have C1 : Hid (∀ d os, Calls Try.prog 11 #[.agg #[.slice po c.1.length pc, .string (Wn.str c.2)]] (grow (redrawn wr d) os) fun e w'' => e = .returned (wV (Wn.ofC c)) ∧ ∃ p : Regrown, w'' = grow (redrawn wr p.d) p.os) := Lib.hid (fun d os => Calls.regrown_of (wOf_v c po pc _ (hpt.below (below_regrown wr d os)).old))
      have C2 : Hid (∀ d os, Calls Try.prog 12 #[.agg #[.slice po c.1.length pc, .string (Wn.str c.2)]] (grow (redrawn wr d) os) fun e w'' => e = .returned (wV (Wn.ofC c)) ∧ ∃ p : Regrown, w'' = grow (redrawn wr p.d) p.os) := Lib.hid (fun d os => Calls.regrown_of (rOf6_v c po pc _ (hpt.below (below_regrown wr d os)).old))
      have q0 := cell_regrown k0
      have q1 := cell_regrown k1
      generalize Wn.ofC c = g at *
      obtain ⟨g0, g1, g2⟩ := g
      have HEQ : ∀ W : World, (Op.equalIn 10000 24 (wV (g0, g1, g2)) (wV (g0, g1, g2))).run Try.prog W = .ok true W := fun W => by have := eq3_runA g0 g1 g2 g0 g1 g2 W; simpa using this
      generalize Wn.str c.2 = y at *
      generalize c.1.length = cl at *
      clear hpt hc k0 k1
      go_wp2_with fail
      (refine wp_region_quiet_below (by kernel_rfl) (by kernel_rfl) ?_); (repeat (first | go_big_quiet_skip | quiet_step (first | with_reducible exact C1.out _ _ | with_reducible exact C2.out _ _))); (refine wpQuiet_nil ?_); intro _ hw'; obtain ⟨⟨dq, osq⟩, hw''⟩ := hw'; subst hw''
      have HB2 := Lib.hid (HB.out.trans ((below_regrown wr dq osq).mono HB.out.size))
      clear q0 q1 C1 C2 HEQ HB
      generalize grow (redrawn wr dq) osq = W2 at *
      go_wp2_with fail
      exact ⟨⟨k + 1, by omega, by go_num, HB2⟩, by simp [intOf]; try omega⟩
    · have hkn : ¬ (k : Int) < (l.length : Int) := by omega
      obtain ⟨W2, hW2⟩ : ∃ W2, W2 = wr := ⟨_, rfl⟩
      subst hW2
      have hs2 := HB.out.size
      have HU0 : Hid (OW (W2.alloc (.cells #[] 27)) w1.heap.size (.slice (some ⟨W2.heap.size, 0, none⟩) 0 0) []) := Lib.hid (OW.start W2 hs2)
      have HB0 : Hid (Below w1.heap.size w1 (W2.alloc (.cells #[] 27))) := Lib.hid (HB.out.alloc hs2 _)
      clear hk hkl HB
      go_wp2_with fail
      generalize W2.alloc (.cells #[] 27) = W3 at *
      go_loopw [8, 9] (fun v8 v9 wr => ∃ k : Nat, k ≤ x.length ∧ v9 = .int .i64 (k : Int) ∧ Hid (OW wr w1.heap.size v8 (x.take k)) ∧ Hid (Below w1.heap.size w1 wr)) (fun _ v9 _ => x.length - (intOf v9).toNat)
      case atStart => exact ⟨0, by omega, rfl, HU0, HB0⟩
      case round =>
        clear HU0 HB0
        obtain ⟨k, hk, rfl, HU, HB⟩ := hrel
        obtain ⟨uo, uc, hv8, hu1, hu2⟩ := HU.out.form
        subst hv8
        unfold maxLen at hu2
        by_cases hkl : k < x.length
        · have hki : (k : Int) < (x.length : Int) := by omega
          obtain ⟨y, hy⟩ : ∃ y, x[k]? = some y := ⟨x[k], List.getElem?_eq_getElem hkl⟩
          obtain ⟨z, hz⟩ : ∃ z, x[0]? = some z := ⟨x[0], List.getElem?_eq_getElem (by omega)⟩
          obtain ⟨g, o, hgo, _, hgl, j0, j1, j2⟩ := vK.cells (HX.out.below HB.out) hy
          cases hgo
          have htk : x.take (k + 1) = x.take k ++ [y] := by rw [List.take_add_one, hy]; rfl
          have HTK := Lib.hid htk
          have hgn : ¬ g = wr.heap.size := by omega
          have hZ : Below wr.heap.size wr (wr.alloc (.cells #[.int .i64 y.1, .int .i64 y.2.1, .int .i64 y.2.2] 27)) := (Below.refl _ _).alloc (Nat.le_refl _) _
          have HOZ := Lib.hid (HU.out.below hZ)
          have HWZ : Hid (Below w1.heap.size w1 (wr.alloc (.cells #[.int .i64 y.1, .int .i64 y.2.1, .int .i64 y.2.2] 27))) := Lib.hid (HB.out.alloc HB.out.size _)
          have HSZ : Hid (wK.Src (wr.alloc (.cells #[.int .i64 y.1, .int .i64 y.2.1, .int .i64 y.2.2] 27)) (.slice (some ⟨wr.heap.size, 0, none⟩) 1 1) [c3 y]) := Lib.hid (RK.Src.one (K := wK) (W := wr) (ok := fun _ => True) (x := y) rfl rfl)
          have hlen : ((x.take k).map c3).length + [c3 y].length ≤ 1048576 := by simp; omega
          have hbase : w1.heap.size ≤ (wr.alloc (.cells #[.int .i64 y.1, .int .i64 y.2.1, .int .i64 y.2.2] 27)).heap.size := HWZ.out.size
          have HFin : Hid (∀ v8 w8, w8.ownsRow w1.heap.size wK.e wK.sz v8 ((x.take k).map c3 ++ [c3 y]).length ((x.take k).map c3 ++ [c3 y]).flatten → (wr.alloc (.cells #[.int .i64 y.1, .int .i64 y.2.1, .int .i64 y.2.2] 27)).grownBy w8 (Value.slice uo (x.take k).length uc).ownBlock →
              OW w8 w1.heap.size v8 (x.take (k + 1)) ∧ Below w1.heap.size w1 w8) := Lib.hid (fun v8 w8 h1 h2 => ⟨by rw [HTK.out]; exact OW.app (m := [y]) h1, Below.grown HWZ.out h2 HWZ.out.size (fun b hb => (HOZ.out.lt b hb).1)⟩)
          have HK1 : Hid ((x.take (k + 1)).length = k + 1) := Lib.hid (by rw [List.length_take]; omega)
          have HG : Hid ((x.take (k + 1))[k]? = some y ∧ (x.take (k + 1))[0]? = some z) := Lib.hid ⟨by rw [List.getElem?_take]; simpa using hy, by rw [List.getElem?_take]; simpa using hz⟩
          have HG2 : Hid (x[k]? = some y ∧ x[0]? = some z) := Lib.hid ⟨hy, hz⟩
          clear hy hz htk hZ
          generalize hck : (x.take k).length = ck at *
          go_wp2_with (at_builtin; refine RK.append (K := wK) rfl _ _ rfl rfl rfl HOZ.out HSZ.out hlen hbase ?_; intro v8 w8 hown8 hgr8 hat8; (have HZ8 := Lib.hid (HFin.out _ _ hown8 hgr8)); (obtain ⟨ao8, m1, ac8, hv8, hm1, h81, h82⟩ : ∃ ao8 m1 ac8, v8 = .slice ao8 m1 ac8 ∧ m1 = k + 1 ∧ m1 ≤ ac8 ∧ ac8 ≤ maxLen := by obtain ⟨ao8, ac8, hv8, h81, h82⟩ := HZ8.out.1.form; exact ⟨ao8, _, ac8, hv8, HK1.out, h81, h82⟩); subst hv8; (have HM1 := Lib.hid hm1); unfold maxLen at h82; clear hm1 hown8 hgr8 hat8)
          have HU8 := Lib.hid HZ8.out.1
          have HB8 := Lib.hid HZ8.out.2
          obtain ⟨g2, o2, hg2, _, hgl2, c0, c1, c2⟩ := wK.cells HU8.out.p HG.out.1
          cases hg2
          obtain ⟨g3, o3, hg3, _, _, e0, e1, e2⟩ := wK.cells HU8.out.p HG.out.2
          cases hg3
          obtain ⟨g4, o4, hg4, _, hgl4, f0, f1, f2⟩ := vK.cells (HX.out.below HB8.out) HG2.out.1
          cases hg4
          obtain ⟨g5, o5, hg5, _, _, h0, h1, h2⟩ := vK.cells (HX.out.below HB8.out) HG2.out.2
          cases hg5
          simp only [Nat.zero_mul, Nat.add_zero] at e0 e1 e2 h0 h1 h2
          have c0' := cell_regrown c0
          have c1' := cell_regrown c1
          have c2' := cell_regrown c2
          have e0' := cell_regrown e0
          have e1' := cell_regrown e1
          have e2' := cell_regrown e2
          have f0' := cell_regrown f0
          have f1' := cell_regrown f1
          have f2' := cell_regrown f2
          have h0' := cell_regrown h0
          have h1' := cell_regrown h1
          have h2' := cell_regrown h2
          have C1 : Hid (∀ d os, Calls Try.prog 13 #[wV y, wV z] (grow (redrawn w8 d) os) fun e w'' => e = .returned (.bool (Wn.wless y z)) ∧ ∃ p : Regrown, w'' = grow (redrawn w8 p.d) p.os) := Lib.hid (fun d os => Calls.regrown_of (less_v y z _))
          have C2 : Hid (∀ d os, Calls Try.prog 14 #[wV y, wV z] (grow (redrawn w8 d) os) fun e w'' => e = .returned (.bool (Wn.wless y z)) ∧ ∃ p : Regrown, w'' = grow (redrawn w8 p.d) p.os) := Lib.hid (fun d os => Calls.regrown_of (rless_v y z _))
          generalize Wn.wless y z = L at *
          have hm1 := HM1.out
          have hk2 : (k : Int) < (m1 : Int) := by omega
          have hk3 : 0 < m1 := by omega
          have hx1 : 0 < x.length := by omega
          clear hm1 HM1 HK1
          have hx0 : (0 : Int) < (x.length : Int) := by omega
          clear c0 c1 c2 e0 e1 e2 f0 f1 f2 h0 h1 h2 HG HG2 HZ8 HFin HOZ HWZ HSZ j0 j1 j2
          cases L
          all_goals
            go_wp2_with fail
            (refine wp_region_quiet_below (by kernel_rfl) (by kernel_rfl) ?_); (repeat (first | go_big_quiet_skip | quiet_step (first | with_reducible exact C1.out _ _ | with_reducible exact C2.out _ _))); (refine wpQuiet_nil ?_); intro _ hw'; obtain ⟨⟨dq, osq⟩, hw''⟩ := hw'; subst hw''
            have hbr := below_regrown w8 dq osq
            have HU9 := Lib.hid (HU8.out.below hbr)
            have HB9 := Lib.hid (HB8.out.trans (hbr.mono HB8.out.size))
            clear hbr c0' c1' c2' e0' e1' e2' f0' f1' f2' h0' h1' h2' C1 C2 HU8 HB8
            generalize grow (redrawn w8 dq) osq = W9 at *
            go_wp2_with fail
            exact ⟨⟨k + 1, by omega, by go_num, HU9, HB9⟩, by simp [intOf]; try omega⟩
        · have hkn : ¬ (k : Int) < (x.length : Int) := by omega
          have hke : x.take k = x := List.take_of_length_le (by omega)
          rw [hke] at HU hu1 ⊢
          clear hke
          have C0 : Hid (∀ d os, Calls Try.prog 10 #[] (grow (redrawn wr d) os) fun e w'' => e = .returned (.bool true) ∧ ∃ p : Regrown, w'' = grow (redrawn wr p.d) p.os) := Lib.hid (fun d os => Calls.regrown_of (fixed06 _))
          have C1 : Hid (∀ d os, Calls Try.prog 15 #[.slice uo x.length uc] (grow (redrawn wr d) os) fun e w'' => e = .returned (wV (Wn.wmax x)) ∧ ∃ p : Regrown, w'' = grow (redrawn wr p.d) p.os) := Lib.hid (fun d os => Calls.regrown_of (wMax_v _ x _ (HU.out.p.below (below_regrown wr d os)).old (by omega)))
          have C2 : Hid (∀ d os, Calls Try.prog 16 #[.slice xo x.length xc] (grow (redrawn wr d) os) fun e w'' => e = .returned (wV (Wn.wmax x)) ∧ ∃ p : Regrown, w'' = grow (redrawn wr p.d) p.os) := Lib.hid (fun d os => Calls.regrown_of (rMax6_v _ x _ ((HX.out.below HB.out).below (below_regrown wr d os)).old))
          have C3 : Hid (∀ d os, Calls Try.prog 17 #[.int .i64 n0, .int .i64 n1, .int .i64 n2] (grow (redrawn wr d) os) fun e w'' => e = .returned (.bool (Wn.wnth n0 n1 n2)) ∧ ∃ p : Regrown, w'' = grow (redrawn wr p.d) p.os) := Lib.hid (fun d os => Calls.regrown_of ((wNth_v n0 n1 n2 _).mono fun e w' h => ⟨h.1, by rw [h.2]; exact Below.refl _ _⟩))
          have C4 : Hid (∀ d os, Calls Try.prog 18 #[.int .i64 n0, .int .i64 n1, .int .i64 n2] (grow (redrawn wr d) os) fun e w'' => e = .returned (.bool (Wn.wnth n0 n1 n2)) ∧ ∃ p : Regrown, w'' = grow (redrawn wr p.d) p.os) := Lib.hid (fun d os => Calls.regrown_of ((rnth6_v n0 n1 n2 _).mono fun e w' h => ⟨h.1, by rw [h.2]; exact Below.refl _ _⟩))
          have hN := block_lat HB.out HN.out
          have a0 := cell_regrown (cell_of_block (o := 0) hN : wr.cell? ⟨N, 0, none⟩ = some (.int .i64 n0))
          have a1 := cell_regrown (cell_of_block (o := 1) hN : wr.cell? ⟨N, 1, none⟩ = some (.int .i64 n1))
          have a2 := cell_regrown (cell_of_block (o := 2) hN : wr.cell? ⟨N, 2, none⟩ = some (.int .i64 n2))
          generalize Wn.wmax x = m at *
          obtain ⟨m0, m1, m2⟩ := m
          generalize Wn.wnth n0 n1 n2 = L at *
          have HEQ : ∀ W : World, (Op.equalIn 10000 24 (wV (m0, m1, m2)) (wV (m0, m1, m2))).run Try.prog W = .ok true W := fun W => by have := eq3_runA m0 m1 m2 m0 m1 m2 W; simpa using this
          clear hN hk hkl
          cases L
          all_goals
            go_wp2_with fail
            (refine wp_region_quiet_below (by kernel_rfl) (by kernel_rfl) ?_); (repeat (first | go_big_quiet_skip | quiet_step (first | with_reducible exact C0.out _ _ | with_reducible exact C1.out _ _ | with_reducible exact C2.out _ _ | with_reducible exact C3.out _ _ | with_reducible exact C4.out _ _))); (refine wpQuiet_nil ?_); intro _ hw'; obtain ⟨⟨dq, osq⟩, hw''⟩ := hw'; subst hw''
            have HB9 := Lib.hid (HB.out.trans ((below_regrown wr dq osq).mono HB.out.size))
            go_wp2_with fail
            go_ret
            exact ⟨rfl, by rw [HNN.out]; exact HW.out.trans (HB9.out.mono hsz)⟩
end Go.Proofs.Ytnkhfggngdnjbaa
set_option maxRecDepth 20000
namespace Go.Proofs.Ytnkhfggngdnjbaa
open Go.ChangeShapes Go.WideShapes Go.RowKit Go.Deep
section
variable {H : Type} {enc : TypeId × Value → H} {w : World} {base : Nat} {spare : Nat → Bool} {held : Bool}
/-- a slice of records, where each element's cells read as one -/
theorem open_rk {α : Type} (K : RK α) (hc : Try.prog.cellsOf K.e = K.sz) {fuel : Nat} {cs : List Value} {x : DataW H × List MemPlace} (h : DataW.trod enc Try.prog w base spare held fuel K.t cs = some x)
    (el : ∀ m, m < fuel → ∀ (cs : List Value) (x : DataW H × List MemPlace), DataW.trod enc Try.prog w base spare held m K.e cs = some x → ∃ y, K.R w (fun _ => True) cs y) : ∃ v l, cs = [v] ∧ K.P w (fun _ => True) v l := by
  rcases DataW.trod_slice K.under h with ⟨rfl, _⟩ | ⟨a, len, cap, elems, rest, n, hfu, rfl, _, hb, hl, hm, hlen, hel, _⟩
  · exact ⟨_, [], rfl, RK.P.nil w _⟩
  · have elem : ∀ i, i < len → ∃ cs y, w.cells? base (a.add (i * K.sz)) K.sz = some cs ∧ K.R w (fun _ => True) cs y := by
      intro i hi
      have he := hel i hi
      rw [hc, List.getElem?_eq_getElem (by omega), Option.bind_eq_some_iff] at he
      obtain ⟨cs', hcs, ht⟩ := he
      obtain ⟨y, hy⟩ := el n (by omega) _ _ ht
      exact ⟨cs', y, hcs, hy⟩
    by_cases h0 : len = 0
    · subst h0
      exact ⟨_, [], rfl, some a, cap, rfl, by simp, hm, fun h => (by cases h), fun h => absurd rfl h⟩
    · obtain ⟨c0, y0, hc0, hy0⟩ := elem 0 (by omega)
      have hT : ∀ i, ∃ y : α, i < len → ∃ cs, w.cells? base (a.add (i * K.sz)) K.sz = some cs ∧ K.R w (fun _ => True) cs y := by
        intro i
        by_cases hi : i < len
        · obtain ⟨cs, y, h1, h2⟩ := elem i hi
          exact ⟨y, fun _ => ⟨cs, h1, h2⟩⟩
        · exact ⟨y0, fun h => absurd h hi⟩
      obtain ⟨T, hT⟩ := Classical.axiomOfChoice hT
      have hlen : ((List.range len).map T).length = len := by simp
      have hpos := K.pos
      have hcl := K.len hy0
      obtain ⟨_, _, hat0⟩ := World.cells?_some hc0
      have hf0 := hat0 0 (by omega)
      rw [List.getElem?_eq_getElem (by omega)] at hf0
      have hsp : a = ⟨a.block, a.off, none⟩ := spot_none (v := c0[0]) (by simpa [Addr.add] using hf0)
      have hbl : a.block < w.heap.size := by
        have := World.block_lt_of_cell? w _ hf0
        rw [hsp, add_plain] at this
        exact this
      refine ⟨_, (List.range len).map T, rfl, some a, cap, by rw [hlen], by rw [hlen]; omega, hm, fun h => (by cases h), fun _ => ⟨a.block, a.off, by rw [← hsp], trivial, hbl, fun i x hx => ?_⟩⟩
      have hi : i < len := by have := (List.getElem?_eq_some_iff.1 hx).1; simpa using this
      have hx' : T i = x := by simpa [List.getElem?_eq_getElem, hi] using hx
      subst hx'
      obtain ⟨cs, h1, h2⟩ := hT i hi
      refine ⟨cs, h2, fun j u hj => ?_⟩
      obtain ⟨_, _, hat⟩ := World.cells?_some h1
      have hj3 : j < K.sz := by have := (List.getElem?_eq_some_iff.1 hj).1; have := K.len h2; omega
      have q := hat j hj3
      rw [hsp, add_plain, add_plain] at q
      rw [← hj]
      exact q
theorem cells_sm : Try.prog.cellsOf 45 = 6 := by kernel_rfl
theorem cells_pt : Try.prog.cellsOf 43 = 2 := by kernel_rfl
theorem cells_cx : Try.prog.cellsOf 31 = 2 := by kernel_rfl
theorem cells_str : Try.prog.cellsOf 9 = 1 := by kernel_rfl
theorem cells_sls : Try.prog.cellsOf 41 = 1 := by kernel_rfl
theorem cells_slp : Try.prog.cellsOf 29 = 1 := by kernel_rfl
theorem str_of (s : ByteArray) : s = Wn.str s.data.toList := by cases s; simp [Wn.str]
theorem open_smsF : ∀ (fuel : Nat) (cs : List Value) (x : DataW H × List MemPlace), DataW.trod enc Try.prog w base spare held fuel 41 cs = some x → ∃ v l, cs = [v] ∧ smK.P w (fun _ => True) v l := by
  intro fuel
  induction fuel using Nat.strongRecOn with
  | ind fuel ih =>
    intro cs x h
    refine open_rk smK cells_sm h fun m hm cs x h => ?_
    obtain ⟨ys, n', hn', _, hlen, hyl, hf⟩ := DataW.trod_struct Try.underlying45 h
    have h0 : DataW.trod enc Try.prog w base spare held n' 3 ((cs.drop 0).take (Try.prog.cellsOf 3)) = ys[0]? := hf 0 _ rfl
    have h1 : DataW.trod enc Try.prog w base spare held n' 9 ((cs.drop 1).take (Try.prog.cellsOf 9)) = ys[1]? := hf 1 _ rfl
    have h2 : DataW.trod enc Try.prog w base spare held n' 9 ((cs.drop 2).take (Try.prog.cellsOf 9)) = ys[2]? := hf 2 _ rfl
    have h3 : DataW.trod enc Try.prog w base spare held n' 3 ((cs.drop 3).take (Try.prog.cellsOf 3)) = ys[3]? := hf 3 _ rfl
    have h4 : DataW.trod enc Try.prog w base spare held n' 3 ((cs.drop 4).take (Try.prog.cellsOf 3)) = ys[4]? := hf 4 _ rfl
    have h5 : DataW.trod enc Try.prog w base spare held n' 41 ((cs.drop 5).take (Try.prog.cellsOf 41)) = ys[5]? := hf 5 _ rfl
    rw [cells_int] at h0 h3 h4
    rw [cells_str] at h1 h2
    rw [cells_sls] at h5
    match cs, hlen.trans cells_sm with
    | [c0, c1, c2, c3, c4, c5], _ =>
      match ys, hyl with
      | [y0, y1, y2, y3, y4, y5], _ =>
        simp only [List.drop_zero, List.drop_succ_cons, List.take_succ_cons, List.take_zero, List.getElem?_cons_zero, List.getElem?_cons_succ] at h0 h1 h2 h3 h4 h5
        obtain ⟨k, e0, _, _⟩ := DataW.trod_int (k := .i64) Try.underlying3 h0
        obtain ⟨s, e1, _, _⟩ := DataW.trod_string Try.underlying9 h1
        obtain ⟨t, e2, _, _⟩ := DataW.trod_string Try.underlying9 h2
        obtain ⟨p, e3, _, _⟩ := DataW.trod_int (k := .i64) Try.underlying3 h3
        obtain ⟨q, e4, _, _⟩ := DataW.trod_int (k := .i64) Try.underlying3 h4
        obtain ⟨v, l, e5, hp⟩ := ih n' (by omega) _ _ h5
        simp only [List.cons.injEq, and_true] at e0 e1 e2 e3 e4 e5
        refine ⟨⟨k, s.data.toList, t.data.toList, p, q, Wn.Ss.ofL l⟩, v, ?_, SsP.k.2 (by rw [Wn.Ss.toL_ofL]; exact hp)⟩
        show _ = [Value.int .i64 k, .string (Wn.str s.data.toList), .string (Wn.str t.data.toList), .int .i64 p, .int .i64 q, v]
        rw [e0, e1, e2, e3, e4, e5, ← str_of, ← str_of]
theorem open_ptsF (fuel : Nat) (cs : List Value) (x : DataW H × List MemPlace) (h : DataW.trod enc Try.prog w base spare held fuel 29 cs = some x) : ∃ v l, cs = [v] ∧ ptK.P w (fun _ => True) v l := by
  refine open_rk ptK cells_pt h fun m hm cs x h => ?_
  obtain ⟨ys, n', hn', _, hlen, hyl, hf⟩ := DataW.trod_struct Try.underlying43 h
  have h0 : DataW.trod enc Try.prog w base spare held n' 3 ((cs.drop 0).take (Try.prog.cellsOf 3)) = ys[0]? := hf 0 _ rfl
  have h1 : DataW.trod enc Try.prog w base spare held n' 41 ((cs.drop 1).take (Try.prog.cellsOf 41)) = ys[1]? := hf 1 _ rfl
  rw [cells_int] at h0
  rw [cells_sls] at h1
  match cs, hlen.trans cells_pt with
  | [c0, c1], _ =>
    match ys, hyl with
    | [y0, y1], _ =>
      simp only [List.drop_zero, List.drop_succ_cons, List.take_succ_cons, List.take_zero, List.getElem?_cons_zero, List.getElem?_cons_succ] at h0 h1
      obtain ⟨k, e0, _, _⟩ := DataW.trod_int (k := .i64) Try.underlying3 h0
      obtain ⟨v, l, e1, hp⟩ := open_smsF _ _ _ h1
      simp only [List.cons.injEq, and_true] at e0 e1
      exact ⟨(k, l), v, by rw [e0, e1], hp⟩
theorem open_cxsF (fuel : Nat) (cs : List Value) (x : DataW H × List MemPlace) (h : DataW.trod enc Try.prog w base spare held fuel 22 cs = some x) : ∃ v l, cs = [v] ∧ cxK.P w (fun _ => True) v l := by
  refine open_rk cxK cells_cx h fun m hm cs x h => ?_
  obtain ⟨ys, n', hn', _, hlen, hyl, hf⟩ := DataW.trod_struct Try.underlying31 h
  have h0 : DataW.trod enc Try.prog w base spare held n' 29 ((cs.drop 0).take (Try.prog.cellsOf 29)) = ys[0]? := hf 0 _ rfl
  have h1 : DataW.trod enc Try.prog w base spare held n' 9 ((cs.drop 1).take (Try.prog.cellsOf 9)) = ys[1]? := hf 1 _ rfl
  rw [cells_slp] at h0
  rw [cells_str] at h1
  match cs, hlen.trans cells_cx with
  | [c0, c1], _ =>
    match ys, hyl with
    | [y0, y1], _ =>
      simp only [List.drop_zero, List.drop_succ_cons, List.take_succ_cons, List.take_zero, List.getElem?_cons_zero, List.getElem?_cons_succ] at h0 h1
      obtain ⟨v, l, e0, hp⟩ := open_ptsF _ _ _ h0
      obtain ⟨s, e1, _, _⟩ := DataW.trod_string Try.underlying9 h1
      simp only [List.cons.injEq, and_true] at e0 e1
      exact ⟨(l, s.data.toList), v, by rw [e0, e1, ← str_of], hp⟩
/-- a slice of selectors -/
theorem open_cxs {r : Reach} {b0 : Nat} {v : Value} {d : DataW H} {p : List MemPlace} (hv : Value.okWide Try.prog w r b0 22 v) (h : DataW.Trod enc Try.prog w base spare held 22 v d p) :
    ∃ l : List Wn.Cx, cxK.P w (fun _ => True) v l := by
  obtain ⟨a0, len0, cap0, rfl⟩ := okWide_slice Try.underlying22 hv
  obtain ⟨fuel, h⟩ := h
  obtain ⟨v', l, hcs, hl⟩ := open_cxsF fuel _ _ h
  simp [Value.cells] at hcs
  subst hcs
  exact ⟨l, hl⟩
end
end Go.Proofs.Ytnkhfggngdnjbaa
set_option maxRecDepth 20000
namespace Go.Proofs.Ytnkhfggngdnjbaa.WTells
open Go.ChangeShapes Go.WideShapes Go.ChangeAt Go.RowKit
open Go.ChangeMaps (open_string shut_string)
noncomputable def laidWorld (os : Os) : World := World.holding Try.prog os ⟨#[], #[], []⟩
theorem contract (H : Type) (enc : TypeId × Value → H) (W : World) (base : Nat) (args : Array Value) (ds gs : List (DataW H)) (before : List MemPlace)
    (hval : ∀ (j : Nat) t v, Try.f3.params[j]? = some t → args[j]? = some v → Value.okWide Try.prog W .any base t v)
    (hW : DataW.Whole enc Try.prog Try.f3.params.toList Rows.weightTellsSpec.vars false W args.toList ds gs before) (_hL : laidMetH Try.prog Rows.weightTellsRow.laid W) :
    Calls Try.prog 3 args W fun e W' => ∃ v, e = .returned v ∧ Rows.weightTellsSpec.post enc Try.prog Try.f3 false true false false W args v W' := by
  have hW' := hW
  obtain ⟨p, q, hA0, hV, rfl, hfz, hnd⟩ := hW
  have hA : DataW.TrodAll enc Try.prog W 0 (fun _ => true) true Try.f3.params.toList args.toList ds p := hA0
  rw [Try.params3] at hA hval
  obtain ⟨v0, vs0, d0, ds0, p0, q0, hargs, rfl, rfl, h0, r0⟩ := trodAll_cons hA
  obtain ⟨v1, vs1, d1, ds1, p1, q1, rfl, rfl, rfl, h1, r1⟩ := trodAll_cons r0
  obtain ⟨v2, vs2, d2, ds2, p2, q2, rfl, rfl, rfl, h2, r2⟩ := trodAll_cons r1
  obtain ⟨rfl, rfl, rfl⟩ := trodAll_nil r2
  obtain rfl : args = #[v0, v1, v2] := by cases args; simp_all
  obtain ⟨rfl, rfl⟩ := trodVars_none hV
  obtain ⟨l0, hl0⟩ := open_cxs (hval 0 22 v0 rfl rfl) h0
  obtain ⟨l1, hl1⟩ := open_w3s (hval 1 23 v1 rfl rfl) h1
  obtain ⟨g2, hg2⟩ := open_w3 (hval 2 24 v2 rfl rfl) h2
  subst hg2
  clear hA0
  simp only [List.append_nil] at hW'
  have hlt : ∀ x ∈ (p0 ++ (p1 ++ p2)), x.block < W.heap.size := fun x hx => hW'.lt x hx
  refine (lwTells_any l0 l1 g2 v0 v1 W hl0 hl1).mono fun e W' ⟨he, hb⟩ => ?_
  subst he
  exact ⟨_, rfl, post_of_below (pa := (p0 ++ (p1 ++ (p2 ++ [])))) (pv := []) hW' (fun _ _ _ => trodAll_cons_mk (shut_bool Try.underlying4 _) trodAll_mk0)
    (fun sp hsp => (trodAll_cons_mk (again (t := 22) (by kernel_rfl) (by decide) h0 hb (fun x hx => hlt x (by simp [hx])) (fun x hx => hsp x (by simp [hx])))
      (trodAll_cons_mk (again (t := 23) (by kernel_rfl) (by decide) h1 hb (fun x hx => hlt x (by simp [hx])) (fun x hx => hsp x (by simp [hx])))
      (trodAll_cons_mk (again (t := 24) (by kernel_rfl) (by decide) h2 hb (fun x hx => hlt x (by simp [hx])) (fun x hx => hsp x (by simp [hx])))
      trodAll_mk0)))) (fun _ _ => rfl) (by simp) hb
    (ok_one (by kernel_rfl) rfl (okWide_bool_mk Try.underlying4 _))⟩
theorem laid_met (os : Os) : laidMet Try.prog Rows.weightTellsRow.laid ((laidWorld os).forCall (fun _ _ => 0) ⟨#[], #[.slice none 0 0, .slice none 0 0, .agg #[.int .i64 0, .int .i64 0, .int .i64 0]], []⟩).memory :=
  laidMet_of_run' 8 (by kernel_rfl) (by kernel_rfl)
theorem reads (os : Os) {H : Type} (enc : TypeId × Value → H) : ∃ places, DataW.whole enc Try.prog ((laidWorld os).forCall (fun _ _ => 0) ⟨#[], #[.slice none 0 0, .slice none 0 0, .agg #[.int .i64 0, .int .i64 0, .int .i64 0]], []⟩).memory Try.f3.params.toList Rows.weightTellsSpec.vars false #[Value.slice none 0 0, Value.slice none 0 0, Value.agg #[.int .i64 0, .int .i64 0, .int .i64 0]].toList 8 = some ([.nil, .nil, .agg [.lit (.int .i64 0), .lit (.int .i64 0), .lit (.int .i64 0)]], [], places) :=
  ⟨[], by kernel_rfl⟩
set_option maxRecDepth 100000 in
theorem lifted (os : Os) (started : os.Started) (H : Type) (enc : TypeId × Value → H) (F : Stop.Interp) :
    ReturnsInHanded {} Try.checked os 3 .any ((OpenSpec.ofChange Rows.weightTellsSpec).preRow enc Try.prog Try.f3 Rows.weightTellsRow.domain false Rows.weightTellsRow.laid) (((OpenSpec.ofChange Rows.weightTellsSpec).at F).post enc Try.prog Try.f3 false true false false) := by
  obtain ⟨places, hx⟩ := reads os enc
  refine returnsInHanded_of_row (C := Try.checked) (s := OpenSpec.ofChange Rows.weightTellsSpec) own started (by kernel_rfl) Try.func3
    (witness_row_at (enc := enc) (C := Try.checked) false (laidWorld os) #[.slice none 0 0, .slice none 0 0, .agg #[.int .i64 0, .int .i64 0, .int .i64 0]] rfl (by kernel_rfl) (by kernel_rfl) (by kernel_rfl)
      (OpenSpec.preRow_of_cond 8 hx (by kernel_rfl) (fun k hk => by cases hk) (by kernel_rfl) (laid_met os))) ?_
  intro W base args ds gs before hval hW _ _ _ hL _ _
  exact contract H enc W base args ds gs before hval hW hL
theorem said : Rows.WeightTellsSaid :=
  OpenClaim.holds_of_cond 3 Try.f3 rfl rfl rfl rfl rfl rfl rfl ⟨rfl, rfl, rfl, rfl, rfl⟩ rfl rfl rfl rfl rfl (by kernel_rfl) Try.func3 (by kernel_rfl)
    (of_decide_eq_true (by kernel_rfl)) (by unfold Func.isWrapper; first | (rw [if_pos (by decide +kernel)]; kernel_rfl) | (rw [if_neg (by decide +kernel)]; exact ⟨rfl, rfl⟩))
    (fun os started H enc _ F => by rw [OpenClaim.pre_eq_preRow]; exact lifted os started H enc F)
end Go.Proofs.Ytnkhfggngdnjbaa.WTells
namespace Go.Proofs.Ytnkhfggngdnjbaa
open Go
theorem weightTells_holds : Rows.WeightTellsSaid := WTells.said
end Go.Proofs.Ytnkhfggngdnjbaa
