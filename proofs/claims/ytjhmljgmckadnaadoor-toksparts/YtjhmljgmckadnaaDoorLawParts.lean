/- ToksParts: whatever the text, the law answers true, and nothing that was there has turned. -/
import Derived.Test.YtjhmljgmckadnaaDoorTokMh
import Derived.Test.YtjhmljgmckadnaaDoorTokZ
namespace Go.Proofs.YtjhmljgmckadnaaDoor
open Go.RowKit
theorem parts_big (s : ByteArray) (w : World) (ht : Tab w) (hs : s.size ≤ maxLen) (hbig : 2000 < s.size) :
    Calls Tryd.prog 7 #[.string s] w fun e w' => e = .returned (.bool true) ∧ Below w.heap.size w w' := by
  unfold maxLen at hs
  have HT := Lib.hid ht; clear ht
  go_enter Tryd.func7, Tryd.ntmps7
  go_wp2_with fail
  refine (fixed_any _ HT.out).mono ?_
  rintro e w1 ⟨rfl, b1⟩
  have HB := Lib.hid b1; clear b1
  go_wp2_with fail
  refine (fixed_any _ (HT.out.below HB.out)).mono ?_
  rintro e w2 ⟨rfl, b2⟩
  have HB2 := Lib.hid (HB.out.trans (b2.mono HB.out.size)); clear b2
  go_wp2_with fail
  go_ret
  exact ⟨rfl, HB2.out⟩
theorem valid_kinds {t : Wn.Tok} (h : Wn.Valid t) :
    (∃ K x, ¬ K < (1 : Int) ∧ ¬ (8 : Int) < K ∧ (K == 5) = false ∧ (K == 6) = false ∧ (K == 7) = false ∧ (K == 8) = false ∧ ¬ K = 5 ∧ ¬ K = 6 ∧ t = (K, x, 0)) ∨ (∃ x n, -999999999 ≤ n ∧ n ≤ 999999999 ∧ t = (5, x, n)) ∨ (∃ x q, (q = 34 ∨ q = 39) ∧ Wn.Clean q x ∧ t = (6, x, q)) ∨ (∃ c, t = (7, [c], 0)) ∨ t = (8, [10], 0) := by
  rcases h with ⟨x, _, rfl⟩ | ⟨x, _, rfl⟩ | ⟨x, _, rfl⟩ | ⟨x, _, _, rfl⟩ | ⟨x, n, hn0, hn1, _, rfl⟩ | ⟨x, q, hq, hcl, rfl⟩ | ⟨c, _, rfl⟩ | rfl
  · exact .inl ⟨1, x, by decide, by decide, rfl, rfl, rfl, rfl, by decide, by decide, rfl⟩
  · exact .inl ⟨2, x, by decide, by decide, rfl, rfl, rfl, rfl, by decide, by decide, rfl⟩
  · exact .inl ⟨3, x, by decide, by decide, rfl, rfl, rfl, rfl, by decide, by decide, rfl⟩
  · exact .inl ⟨4, x, by decide, by decide, rfl, rfl, rfl, rfl, by decide, by decide, rfl⟩
  · exact .inr (.inl ⟨x, n, hn0, hn1, rfl⟩)
  · exact .inr (.inr (.inl ⟨x, q, hq, hcl, rfl⟩))
  · exact .inr (.inr (.inr (.inl ⟨c, rfl⟩)))
  · exact .inr (.inr (.inr (.inr rfl)))
theorem clean_at {q : Int} {x : List UInt8} (h : Wn.Clean q x) (j : Nat) (hj : j < (Wn.str x).size) :
    (((Wn.str x)[j].toNat : Int) == q) = false ∧ (((Wn.str x)[j].toNat : Int) == 10) = false ∧ (((Wn.str x)[j].toNat : Int) == 12) = false ∧ (((Wn.str x)[j].toNat : Int) == 13) = false := by
  have hm : (Wn.str x)[j] ∈ x := by
    have : (Wn.str x)[j] = x[j]'(by rw [Wn.str_size] at hj; exact hj) := rfl
    rw [this]; exact List.getElem_mem _
  obtain ⟨h1, h2, h3, h4⟩ := h _ hm
  generalize (Wn.str x)[j] = b at *
  refine ⟨by simpa using h1, ?_, ?_, ?_⟩
  · have : (b.toNat : Int) ≠ 10 := fun e => h2 (UInt8.toNat.inj (by simpa using Int.ofNat.inj e)); simpa using this
  · have : (b.toNat : Int) ≠ 12 := fun e => h3 (UInt8.toNat.inj (by simpa using Int.ofNat.inj e)); simpa using this
  · have : (b.toNat : Int) ≠ 13 := fun e => h4 (UInt8.toNat.inj (by simpa using Int.ofNat.inj e)); simpa using this
set_option maxRecDepth 100000 in
set_option maxHeartbeats 4000000 in
theorem parts_small (s : ByteArray) (w : World) (ht : Tab w) (hs : s.size ≤ 2000) :
    Calls Tryd.prog 7 #[.string s] w fun e w' => e = .returned (.bool true) ∧ Below w.heap.size w w' := by
  have HT := Lib.hid ht; clear ht
  generalize hA : Wn.lex s.data.toList = A
  have lA : A.length ≤ s.size := by rw [← hA]; have := Wn.lex_length s.data.toList; simpa using this
  have vA : ∀ t ∈ A, Wn.Valid t := by rw [← hA]; exact Wn.lex_valid _ _ (Nat.le_refl _)
  have fA : ∀ t ∈ A, Fine t := by rw [← hA]; exact lex_fine (by simp; omega)
  have adj : ∀ (i : Nat) (a b : Wn.Tok), A[i]? = some a → A[i + 1]? = some b → a.1 = 8 → b.1 = 8 → 6 ≤ s.size := by
    rw [← hA]; intro i a b h1 h2 h3 h4
    have := Wn.lex_adj _ _ (Nat.le_refl _) i a b h1 h2 h3 h4
    simpa using this
  have QA := Lib.hid (fun w => All_toks s A w (by omega) hA)
  have HVA := Lib.hid vA
  have HFA := Lib.hid fA
  have HADJ := Lib.hid adj
  clear hA vA fA adj
  go_enter Tryd.func7, Tryd.ntmps7
  go_wp2_with fail
  refine (fixed_any _ HT.out).mono ?_
  rintro e w1 ⟨rfl, b1⟩
  have HB1 := Lib.hid b1; clear b1
  go_wp2_with fail
  refine (QA.out _).mono ?_
  rintro e w2 ⟨va, rfl, ha, b2⟩
  have HB2 := Lib.hid (HB1.out.trans (b2.mono HB1.out.size)); clear b2 HB1
  obtain ⟨ao, acap, rfl, ac1, ac2, acell⟩ := ha
  have HAC := Lib.hid acell
  clear acell QA
  unfold maxLen at ac2
  have hz2 : w.heap.size ≤ w2.heap.size := HB2.out.size
  go_wp2_with fail
  go_loopw [4] (fun v4 wr => ∃ k : Nat, k ≤ A.length ∧ v4 = .int .i64 (k : Int) ∧ Hid (Below w2.heap.size w2 wr)) (fun v4 _ => A.length - (intOf v4).toNat)
  case atStart => exact ⟨0, by omega, rfl, Lib.hid (Below.refl _ _)⟩
  case round =>
    obtain ⟨k, hk, rfl, HBr⟩ := hrel
    have hzr : w2.heap.size ≤ wr.heap.size := HBr.out.size
    by_cases hlt : k < A.length
    · obtain ⟨t, hTk⟩ : ∃ t, A[k]? = some t := ⟨A[k], List.getElem?_eq_getElem hlt⟩
      obtain ⟨b, off, rfl, hin⟩ := HAC.out k _ hTk
      have hbl : b < w2.heap.size := hin.lt
      obtain ⟨i0, i1, i2⟩ := hin.below HBr.out hin.lt
      have hv := HVA.out t (List.mem_of_getElem? hTk)
      have hf := HFA.out t (List.mem_of_getElem? hTk)
      have hys := Wn.str_size t.2.1
      have HTK := Lib.hid hTk
      clear hin hTk
      rcases valid_kinds hv with ⟨K, x, k1, k2, k5, k6, k7, k8, m5, m6, rfl⟩ | ⟨x, n, hn0, hn1, rfl⟩ | ⟨x, q, hq, hcl, rfl⟩ | ⟨c, rfl⟩ | rfl
      · dsimp only at i0 i1 i2 hys
        have BX := Lib.hid (box1 wr (K, x, 0))
        have hyl : (Wn.str x).size ≤ 1048576 := by rw [Wn.str_size]; exact hf.1
        dsimp only at BX
        generalize hy : Wn.str x = y at *
        have HY := Lib.hid hy
        clear hy hys hf
        go_wp2_with fail
        have HBt : Hid (Below w2.heap.size w2 (wr.alloc (Obj.cells #[Value.int IntKind.i64 K, Value.string y, Value.int IntKind.i64 0] 24))) := Lib.hid (HBr.out.alloc (by omega) _)
        have c0 := BX.out.c0; have c1 := BX.out.c1; have c2 := BX.out.c2
        dsimp only at c0 c1 c2
        rw [HY.out] at c1
        have hzt : wr.heap.size < (wr.alloc (Obj.cells #[Value.int IntKind.i64 K, Value.string y, Value.int IntKind.i64 0] 24)).heap.size := by simp
        clear BX i0 i1 i2 HBr
        generalize wr.alloc (Obj.cells #[Value.int IntKind.i64 K, Value.string y, Value.int IntKind.i64 0] 24) = wt at *
        generalize wr.heap.size = P at *
        go_loopw [6] (fun v6 ws => ∃ j : Nat, j ≤ y.size ∧ v6 = .int .i64 (j : Int) ∧ Hid (Below wt.heap.size wt ws)) (fun v6 _ => y.size - (intOf v6).toNat)
        case atStart => exact ⟨0, by omega, rfl, Lib.hid (Below.refl _ _)⟩
        case round =>
          obtain ⟨j, hj, rfl, HBs⟩ := hrel
          have e0 := (HBs.out.cell (p := ⟨P, 0, none⟩) hzt).trans c0
          have e1 := (HBs.out.cell (p := ⟨P, 1, none⟩) hzt).trans c1
          have e2 := (HBs.out.cell (p := ⟨P, 2, none⟩) hzt).trans c2
          have hzs : wt.heap.size ≤ wr.heap.size := HBs.out.size
          have HBw : Hid (Below w2.heap.size w2 wr) := Lib.hid (HBt.out.trans (HBs.out.mono HBt.out.size))
          clear c0 c1 c2
          by_cases hjl : j < y.size
          · cases k with
            | zero =>
              go_wp2_with fail
              go_round
              case rel => exact ⟨0 + 1, by omega, by go_num, HBw⟩
              case measure => simp [intOf]; omega
            | succ k =>
              go_wp2_with fail
              go_round
              case rel => exact ⟨k + 1 + 1, by omega, by go_num, HBw⟩
              case measure => simp [intOf]; omega
          · cases k with
            | zero =>
              go_wp2_with fail
              go_round
              case rel => exact ⟨0 + 1, by omega, by go_num, HBw⟩
              case measure => simp [intOf]; omega
            | succ k =>
              go_wp2_with fail
              go_round
              case rel => exact ⟨k + 1 + 1, by omega, by go_num, HBw⟩
              case measure => simp [intOf]; omega
      · dsimp only at i0 i1 i2 hys
        have BX := Lib.hid (box1 wr (5, x, n))
        have hyl : (Wn.str x).size ≤ 1048576 := by rw [Wn.str_size]; exact hf.1
        dsimp only at BX
        generalize hy : Wn.str x = y at *
        have HY := Lib.hid hy
        clear hy hys hf
        go_wp2_with fail
        have HBt : Hid (Below w2.heap.size w2 (wr.alloc (Obj.cells #[Value.int IntKind.i64 5, Value.string y, Value.int IntKind.i64 n] 24))) := Lib.hid (HBr.out.alloc (by omega) _)
        have c0 := BX.out.c0; have c1 := BX.out.c1; have c2 := BX.out.c2
        dsimp only at c0 c1 c2
        rw [HY.out] at c1
        have hzt : wr.heap.size < (wr.alloc (Obj.cells #[Value.int IntKind.i64 5, Value.string y, Value.int IntKind.i64 n] 24)).heap.size := by simp
        clear BX i0 i1 i2 HBr
        generalize wr.alloc (Obj.cells #[Value.int IntKind.i64 5, Value.string y, Value.int IntKind.i64 n] 24) = wt at *
        generalize wr.heap.size = P at *
        go_loopw [6] (fun v6 ws => ∃ j : Nat, j ≤ y.size ∧ v6 = .int .i64 (j : Int) ∧ Hid (Below wt.heap.size wt ws)) (fun v6 _ => y.size - (intOf v6).toNat)
        case atStart => exact ⟨0, by omega, rfl, Lib.hid (Below.refl _ _)⟩
        case round =>
          obtain ⟨j, hj, rfl, HBs⟩ := hrel
          have e0 := (HBs.out.cell (p := ⟨P, 0, none⟩) hzt).trans c0
          have e1 := (HBs.out.cell (p := ⟨P, 1, none⟩) hzt).trans c1
          have e2 := (HBs.out.cell (p := ⟨P, 2, none⟩) hzt).trans c2
          have hzs : wt.heap.size ≤ wr.heap.size := HBs.out.size
          have HBw : Hid (Below w2.heap.size w2 wr) := Lib.hid (HBt.out.trans (HBs.out.mono HBt.out.size))
          clear c0 c1 c2
          by_cases hjl : j < y.size
          · cases k with
            | zero =>
              go_wp2_with fail
              go_round
              case rel => exact ⟨0 + 1, by omega, by go_num, HBw⟩
              case measure => simp [intOf]; omega
            | succ k =>
              go_wp2_with fail
              go_round
              case rel => exact ⟨k + 1 + 1, by omega, by go_num, HBw⟩
              case measure => simp [intOf]; omega
          · cases k with
            | zero =>
              go_wp2_with fail
              go_round
              case rel => exact ⟨0 + 1, by omega, by go_num, HBw⟩
              case measure => simp [intOf]; omega
            | succ k =>
              go_wp2_with fail
              go_round
              case rel => exact ⟨k + 1 + 1, by omega, by go_num, HBw⟩
              case measure => simp [intOf]; omega
      · dsimp only at i0 i1 i2 hys
        have BX := Lib.hid (box1 wr (6, x, q))
        have hyl : (Wn.str x).size ≤ 1048576 := by rw [Wn.str_size]; exact hf.1
        dsimp only at BX
        have HCL : Hid (∀ (j : Nat) (h : j < (Wn.str x).size), (((Wn.str x)[j].toNat : Int) == q) = false ∧ (((Wn.str x)[j].toNat : Int) == 10) = false ∧ (((Wn.str x)[j].toNat : Int) == 12) = false ∧ (((Wn.str x)[j].toNat : Int) == 13) = false) := Lib.hid (clean_at hcl)
        generalize hy : Wn.str x = y at *
        have HY := Lib.hid hy
        clear hy hys hf
        go_wp2_with fail
        have HBt : Hid (Below w2.heap.size w2 (wr.alloc (Obj.cells #[Value.int IntKind.i64 6, Value.string y, Value.int IntKind.i64 q] 24))) := Lib.hid (HBr.out.alloc (by omega) _)
        have c0 := BX.out.c0; have c1 := BX.out.c1; have c2 := BX.out.c2
        dsimp only at c0 c1 c2
        rw [HY.out] at c1
        have hzt : wr.heap.size < (wr.alloc (Obj.cells #[Value.int IntKind.i64 6, Value.string y, Value.int IntKind.i64 q] 24)).heap.size := by simp
        clear BX i0 i1 i2 HBr
        generalize wr.alloc (Obj.cells #[Value.int IntKind.i64 6, Value.string y, Value.int IntKind.i64 q] 24) = wt at *
        generalize wr.heap.size = P at *
        go_loopw [6] (fun v6 ws => ∃ j : Nat, j ≤ y.size ∧ v6 = .int .i64 (j : Int) ∧ Hid (Below wt.heap.size wt ws)) (fun v6 _ => y.size - (intOf v6).toNat)
        case atStart => exact ⟨0, by omega, rfl, Lib.hid (Below.refl _ _)⟩
        case round =>
          obtain ⟨j, hj, rfl, HBs⟩ := hrel
          have e0 := (HBs.out.cell (p := ⟨P, 0, none⟩) hzt).trans c0
          have e1 := (HBs.out.cell (p := ⟨P, 1, none⟩) hzt).trans c1
          have e2 := (HBs.out.cell (p := ⟨P, 2, none⟩) hzt).trans c2
          have hzs : wt.heap.size ≤ wr.heap.size := HBs.out.size
          have HBw : Hid (Below w2.heap.size w2 wr) := Lib.hid (HBt.out.trans (HBs.out.mono HBt.out.size))
          clear c0 c1 c2
          by_cases hjl : j < y.size
          · obtain ⟨n1, n2, n3, n4⟩ := HCL.out j hjl
            have hw1 : IntKind.i64.wrap (y[j].toNat : Int) = (y[j].toNat : Int) := IntWalk.i64_in _ (by have := y[j].toNat_lt; omega)
            have hw2 : wrap64 (y[j].toNat : Int) = (y[j].toNat : Int) := wrap64_u8 _
            have hj0 : (0 : Int) ≤ (j : Int) := by omega
            have hj1 : (j : Int) < (y.size : Int) := by omega
            go_wp2_with fail
            go_quiet (fail)
            go_wp2_with fail
            go_round
            case rel => exact ⟨j + 1, by omega, by go_num, Lib.hid (by first | exact HBs.out | exact HBs.out.drew | exact below_drewN' HBs.out _)⟩
            case measure => simp [intOf]; omega
          · cases k with
            | zero =>
              go_wp2_with fail
              go_round
              case rel => exact ⟨0 + 1, by omega, by go_num, HBw⟩
              case measure => simp [intOf]; omega
            | succ k =>
              go_wp2_with fail
              go_round
              case rel => exact ⟨k + 1 + 1, by omega, by go_num, HBw⟩
              case measure => simp [intOf]; omega
      · dsimp only at i0 i1 i2 hys
        have BX := Lib.hid (box1 wr (7, [c], 0))
        have hyl : (Wn.str [c]).size = 1 := by rw [Wn.str_size]; rfl
        dsimp only at BX
        generalize hy : Wn.str [c] = y at *
        have HY := Lib.hid hy
        clear hy hys hf
        go_wp2_with fail
        have HBt : Hid (Below w2.heap.size w2 (wr.alloc (Obj.cells #[Value.int IntKind.i64 7, Value.string y, Value.int IntKind.i64 0] 24))) := Lib.hid (HBr.out.alloc (by omega) _)
        have c0 := BX.out.c0; have c1 := BX.out.c1; have c2 := BX.out.c2
        dsimp only at c0 c1 c2
        rw [HY.out] at c1
        have hzt : wr.heap.size < (wr.alloc (Obj.cells #[Value.int IntKind.i64 7, Value.string y, Value.int IntKind.i64 0] 24)).heap.size := by simp
        clear BX i0 i1 i2 HBr
        generalize wr.alloc (Obj.cells #[Value.int IntKind.i64 7, Value.string y, Value.int IntKind.i64 0] 24) = wt at *
        generalize wr.heap.size = P at *
        go_loopw [6] (fun v6 ws => ∃ j : Nat, j ≤ y.size ∧ v6 = .int .i64 (j : Int) ∧ Hid (Below wt.heap.size wt ws)) (fun v6 _ => y.size - (intOf v6).toNat)
        case atStart => exact ⟨0, by omega, rfl, Lib.hid (Below.refl _ _)⟩
        case round =>
          obtain ⟨j, hj, rfl, HBs⟩ := hrel
          have e0 := (HBs.out.cell (p := ⟨P, 0, none⟩) hzt).trans c0
          have e1 := (HBs.out.cell (p := ⟨P, 1, none⟩) hzt).trans c1
          have e2 := (HBs.out.cell (p := ⟨P, 2, none⟩) hzt).trans c2
          have hzs : wt.heap.size ≤ wr.heap.size := HBs.out.size
          have HBw : Hid (Below w2.heap.size w2 wr) := Lib.hid (HBt.out.trans (HBs.out.mono HBt.out.size))
          clear c0 c1 c2
          by_cases hjl : j < y.size
          · cases k with
            | zero =>
              go_wp2_with fail
              go_round
              case rel => exact ⟨0 + 1, by omega, by go_num, HBw⟩
              case measure => simp [intOf]; omega
            | succ k =>
              go_wp2_with fail
              go_round
              case rel => exact ⟨k + 1 + 1, by omega, by go_num, HBw⟩
              case measure => simp [intOf]; omega
          · cases k with
            | zero =>
              go_wp2_with fail
              go_round
              case rel => exact ⟨0 + 1, by omega, by go_num, HBw⟩
              case measure => simp [intOf]; omega
            | succ k =>
              go_wp2_with fail
              go_round
              case rel => exact ⟨k + 1 + 1, by omega, by go_num, HBw⟩
              case measure => simp [intOf]; omega
      · dsimp only at i0 i1 i2 hys
        have BX := Lib.hid (box1 wr (8, [10], 0))
        have hy : Wn.str [10] = ⟨#[10]⟩ := rfl
        have hyl : (⟨#[10]⟩ : ByteArray).size = 1 := rfl
        dsimp only at BX
        rw [hy] at i1 BX
        have HY := Lib.hid hy
        clear hy hys hf
        go_wp2_with fail
        have HBt : Hid (Below w2.heap.size w2 (wr.alloc (Obj.cells #[Value.int IntKind.i64 8, Value.string ⟨#[10]⟩, Value.int IntKind.i64 0] 24))) := Lib.hid (HBr.out.alloc (by omega) _)
        have c0 := BX.out.c0; have c1 := BX.out.c1; have c2 := BX.out.c2
        dsimp only at c0 c1 c2
        rw [HY.out] at c1
        have hzt : wr.heap.size < (wr.alloc (Obj.cells #[Value.int IntKind.i64 8, Value.string ⟨#[10]⟩, Value.int IntKind.i64 0] 24)).heap.size := by simp
        clear BX i0 i1 i2 HBr
        generalize wr.alloc (Obj.cells #[Value.int IntKind.i64 8, Value.string ⟨#[10]⟩, Value.int IntKind.i64 0] 24) = wt at *
        generalize wr.heap.size = P at *
        go_loopw [6] (fun v6 ws => ∃ j : Nat, j ≤ 1 ∧ v6 = .int .i64 (j : Int) ∧ Hid (Below wt.heap.size wt ws)) (fun v6 _ => 1 - (intOf v6).toNat)
        case atStart => exact ⟨0, by omega, rfl, Lib.hid (Below.refl _ _)⟩
        case round =>
          obtain ⟨j, hj, rfl, HBs⟩ := hrel
          have e0 := (HBs.out.cell (p := ⟨P, 0, none⟩) hzt).trans c0
          have e1 := (HBs.out.cell (p := ⟨P, 1, none⟩) hzt).trans c1
          have e2 := (HBs.out.cell (p := ⟨P, 2, none⟩) hzt).trans c2
          have hzs : wt.heap.size ≤ wr.heap.size := HBs.out.size
          have HBw : Hid (Below w2.heap.size w2 wr) := Lib.hid (HBt.out.trans (HBs.out.mono HBt.out.size))
          clear c0 c1 c2
          by_cases hjl : j < 1
          · cases k with
            | zero =>
              go_wp2_with fail
              go_round
              case rel => exact ⟨0 + 1, by omega, by go_num, HBw⟩
              case measure => simp [intOf]; omega
            | succ k =>
              obtain ⟨t', hTk⟩ : ∃ t, A[k]? = some t := ⟨A[k], List.getElem?_eq_getElem (by omega)⟩
              obtain ⟨b', off', hbo, hin⟩ := HAC.out k _ hTk
              simp only [Option.some.injEq, Addr.mk.injEq, and_true] at hbo
              obtain ⟨rfl, rfl⟩ := hbo
              obtain ⟨i0, i1, i2⟩ := hin.below HBw.out hin.lt
              have h6 : t'.1 = 8 → 6 ≤ s.size := fun h => HADJ.out k t' _ hTk HTK.out h rfl
              clear hin hTk i1 i2
              by_cases h8 : (t'.1 == 8) = true
              · have h6' : ¬ (s.size : Int) < 6 := by have := h6 (by simpa using h8); omega
                clear h6
                go_wp2_with fail
                go_round
                case rel => exact ⟨k + 1 + 1, by omega, by go_num, HBw⟩
                case measure => simp [intOf]; omega
              · have h8' : (t'.1 == 8) = false := by simpa using h8
                clear h6 h8
                go_wp2_with fail
                go_round
                case rel => exact ⟨k + 1 + 1, by omega, by go_num, HBw⟩
                case measure => simp [intOf]; omega
          · cases k with
            | zero =>
              go_wp2_with fail
              go_round
              case rel => exact ⟨0 + 1, by omega, by go_num, HBw⟩
              case measure => simp [intOf]; omega
            | succ k =>
              obtain ⟨t', hTk⟩ : ∃ t, A[k]? = some t := ⟨A[k], List.getElem?_eq_getElem (by omega)⟩
              obtain ⟨b', off', hbo, hin⟩ := HAC.out k _ hTk
              simp only [Option.some.injEq, Addr.mk.injEq, and_true] at hbo
              obtain ⟨rfl, rfl⟩ := hbo
              obtain ⟨i0, i1, i2⟩ := hin.below HBw.out hin.lt
              have h6 : t'.1 = 8 → 6 ≤ s.size := fun h => HADJ.out k t' _ hTk HTK.out h rfl
              clear hin hTk i1 i2
              by_cases h8 : (t'.1 == 8) = true
              · have h6' : ¬ (s.size : Int) < 6 := by have := h6 (by simpa using h8); omega
                clear h6
                go_wp2_with fail
                go_round
                case rel => exact ⟨k + 1 + 1, by omega, by go_num, HBw⟩
                case measure => simp [intOf]; omega
              · have h8' : (t'.1 == 8) = false := by simpa using h8
                clear h6 h8
                go_wp2_with fail
                go_round
                case rel => exact ⟨k + 1 + 1, by omega, by go_num, HBw⟩
                case measure => simp [intOf]; omega
    · clear HAC HVA HFA HADJ
      go_wp2_with fail
      go_ret
      exact ⟨ret_bool (by simp <;> omega), HB2.out.trans (HBr.out.mono hz2)⟩
end Go.Proofs.YtjhmljgmckadnaaDoor
