/- The verifier's second writing of selectors: what Low, Name, few answer. The verifier's second writing of selectors: what one answers. The verifier's second writing of selectors: what one answers, of a kind without fields. -/
import Derived.Test.YtncknaagbafhhaaGreatDoorHI
import Derived.Test.YtncknaagbafhhaaGreatDoorHD
import Derived.Test.YtncknaagbafhhaaGreatDoorHM
import Derived.Test.YtncknaagbafhhaaGreatDoorHJ
import Derived.Test.YtncknaagbafhhaaGreatDoorGT
import Derived.Test.YtncknaagbafhhaaGreatDoorHK
set_option linter.unusedVariables false
set_option linter.unusedSimpArgs false
set_option maxRecDepth 20000
namespace Go.Proofs.YtncknaagbafhhaaGreatDoor
open Go.RowKit Go.Sort
set_option maxRecDepth 100000 in
set_option maxHeartbeats 1000000 in
theorem rLow_v (s : List UInt8) (w : World) (hs : s.length ≤ 1048576) :
    Calls Tryz.prog 103 #[.string (Wn.str s)] w fun e w' => e = .returned (.string (Wn.str (Wn.low s))) ∧ Below w.heap.size w w' := by
  obtain ⟨C, W, hrun, hB, hW, hC⟩ := bytes_of s w
  have HB := Lib.hid hB
  have HW := Lib.hid hW
  have HLN := Lib.hid (Wn.lowTo_length (l := s))
  clear hB hW
  generalize hn : w.heap.size = n at *
  clear hn
  generalize Wn.str s = x at *
  go_enter Tryz.func103, Tryz.ntmps103
  go_wp2_with fail
  go_loopw [4] (fun v4 wr => ∃ i : Nat, i ≤ s.length ∧ v4 = .int .i64 (i : Int) ∧ Hid (BAt wr n (Wn.lowTo i s)) ∧ Hid (Below n w wr)) (fun v4 _ => s.length - (intOf v4).toNat)
  case atStart => exact ⟨0, Nat.zero_le _, rfl, Lib.hid (by rw [Wn.lowTo_zero]; exact HB.out), HW⟩
  case round =>
    clear hrun
    obtain ⟨i, hi, rfl, HBi, HWi⟩ := hrel
    by_cases hil : i < s.length
    · have hl' : i < (Wn.lowTo i s).length := by rw [HLN.out]; exact hil
      have k0 := HBi.out.cell hl'
      have f0 := HBi.out.frozen hl'
      rw [Wn.lowTo_at hil] at k0
      have hu8 := (s[i]).toNat_lt
      have hi1 : (i : Int) < (s.length : Int) := by omega
      have HSame : Hid (¬ (65 ≤ s[i].toNat ∧ s[i].toNat ≤ 90) → BAt wr n (Wn.lowTo (i + 1) s)) := Lib.hid (fun h => by rw [Wn.lowTo_same hil (Wn.lowB_no h)]; exact HBi.out)
      have HSet : Hid (65 ≤ s[i].toNat → s[i].toNat ≤ 90 → ∀ x : Int, x = (s[i].toNat : Int) + 32 → BAt (wr.setCell ⟨n, i, none⟩ (.int .u8 x)) n (Wn.lowTo (i + 1) s)) := Lib.hid (fun h1 h2 x hx => by rw [Wn.lowTo_succ hil]; exact HBi.out.set _ (by rw [Wn.lowB_yes h1 h2, hx]; rfl))
      clear hl' HBi HB
      generalize s[i].toNat = c at *
      by_cases h65 : 65 ≤ c
      · by_cases h90 : c ≤ 90
        · have h65' : (65 : Int) ≤ (c : Int) := by omega
          have h90' : (c : Int) ≤ 90 := by omega
          go_wp2_with fail
          exact ⟨⟨i + 1, by omega, by go_num, Lib.hid (HSet.out h65 h90 _ (by omega)), Lib.hid (HWi.out.setCell (p := ⟨n, i, none⟩) (Nat.le_refl _) _)⟩, by simp [intOf]; omega⟩
        · have h90' : ¬ (c : Int) ≤ 90 := by omega
          go_wp2_with fail
          exact ⟨⟨i + 1, by omega, by go_num, Lib.hid (HSame.out (fun h => h90 h.2)), HWi⟩, by simp [intOf]; omega⟩
      · have h65' : ¬ (65 : Int) ≤ (c : Int) := by omega
        go_wp2_with fail
        exact ⟨⟨i + 1, by omega, by go_num, Lib.hid (HSame.out (fun h => h65 h.1)), HWi⟩, by simp [intOf]; omega⟩
    · have hback := HBi.out.back C s.length (HLN.out i).symm
      have HE : Hid (Wn.lowTo i s = Wn.low s) := Lib.hid (Wn.lowTo_all (by omega))
      have hi1 : ¬ (i : Int) < (s.length : Int) := by omega
      go_wp2_with fail
      go_ret
      rw [← HE.out]
      exact ⟨rfl, HWi.out⟩
set_option maxHeartbeats 400000 in
theorem rName_v (s : List UInt8) (w : World) (hs : s.length ≤ 100000) :
    Calls Tryz.prog 124 #[.string (Wn.str s)] w fun e w' => e = .returned (.bool (Wn.may (1, s, 0))) ∧ Below w.heap.size w w' := by
  have QM : Hid (Calls Tryz.prog 125 #[.agg #[.int .i64 1, .string (Wn.str s), .int .i64 0]] w fun e w' => e = .returned (.bool (Wn.may (1, s, 0))) ∧ Below w.heap.size w w') :=
    Lib.hid (rMay (1, s, 0) w hs (by show _ ≤ (0 : Int); omega) (by show (0 : Int) ≤ _; omega))
  generalize Wn.str s = x at *
  generalize Wn.may (1, s, 0) = R at *
  go_enter Tryz.func124, Tryz.ntmps124
  go_wp2_with fail
  refine QM.out.mono ?_
  rintro e w1 ⟨rfl, b1⟩
  have HB1 := Lib.hid b1; clear b1
  go_wp2_with fail
  go_ret
  exact ⟨rfl, HB1.out⟩
set_option maxHeartbeats 400000 in
theorem rFew_v (n : Int) (w : World) :
    Calls Tryz.prog 42 #[.int .i64 n] w fun e w' => e = .returned (.bool (Wn.few n)) ∧ w' = w := by
  have e : Wn.few n = (decide (-9999 ≤ n) && decide (n ≤ 9999)) := rfl
  rw [e]
  by_cases h1 : -9999 ≤ n
  · by_cases h2 : n ≤ 9999
    · go_enter Tryz.func42, Tryz.ntmps42
      go_wp2_with fail
      go_ret
      exact ⟨ret_bool (by simp; omega), rfl⟩
    · go_enter Tryz.func42, Tryz.ntmps42
      go_wp2_with fail
      go_ret
      exact ⟨ret_bool (by simp; omega), rfl⟩
  · go_enter Tryz.func42, Tryz.ntmps42
    go_wp2_with fail
    go_ret
    exact ⟨ret_bool (by simp; omega), rfl⟩
end Go.Proofs.YtncknaagbafhhaaGreatDoor
set_option linter.unusedVariables false
set_option linter.unusedSimpArgs false
set_option maxRecDepth 20000
namespace Wn
/-- its plain fields are those of the one that is meant -/
def sameB (x y : Sm) : Bool := (x.k == y.k) && ((x.n == y.n) && ((x.v == y.v) && ((x.a == y.a) && (x.b == y.b))))
theorem one_eq (x : Sm) : mayPlain x = (fieldsB x && sameB x (meantS x) && decide (x.l.len = 0)) := by
  rw [mayPlain_eq, Bool.and_comm]
  cases fieldsB x
  · rfl
  · rw [Bool.true_and, Bool.true_and]
    have hl := meantS_l x
    rw [Bool.eq_iff_iff]
    generalize meantS x = y at *
    obtain ⟨k, n, v, a, b, l⟩ := x
    obtain ⟨k', n', v', a', b', l'⟩ := y
    dsimp only at hl
    subst hl
    have e0 : l.len = 0 ↔ l = .nil := ⟨Ss.len_zero, fun h => by rw [h]; rfl⟩
    simp [sameB, e0, and_assoc]
end Wn
namespace Go.Proofs.YtncknaagbafhhaaGreatDoor
open Go.RowKit Go.Sort
theorem set_other {w : World} {b b' o : Nat} {O : Obj} (h : w.heap[b]? = some O) (hne : b' ≠ b) (v : Value) : (w.setCell ⟨b', o, none⟩ v).heap[b]? = some O := by
  simp [World.setCell, Array.getElem?_modify, hne, h]
theorem two_boxes (w : World) (X Y : Obj) : ((w.alloc X).alloc Y).heap[w.heap.size]? = some X ∧ ((w.alloc X).alloc Y).heap[w.heap.size + 1]? = some Y := by
  refine ⟨?_, ?_⟩
  · rw [Below.heap_alloc _ _ _ (by simp)]; exact heap_alloc_new w X
  · have := heap_alloc_new (w.alloc X) Y
    simpa using this
/-- the boxes of one -/
structure Two4 (w W : World) (x y : Array Value) : Prop where
  below : Below w.heap.size w W
  size : W.heap.size = w.heap.size + 2
  bx : W.heap[w.heap.size]? = some (.cells x 51)
  by_ : W.heap[w.heap.size + 1]? = some (.cells y 51)
theorem Two4.start (w : World) (x y : Array Value) : Two4 w ((w.alloc (.cells x 51)).alloc (.cells y 51)) x y :=
  ⟨((Below.refl _ _).alloc (Nat.le_refl _) _).alloc (by simp) _, by simp, (two_boxes w _ _).1, (two_boxes w _ _).2⟩
theorem Two4.set {w W : World} {x y : Array Value} (h : Two4 w W x y) (o : Nat) (v : Value) : Two4 w (W.setCell ⟨w.heap.size + 1, o, none⟩ v) x (y.setIfInBounds o v) :=
  ⟨h.below.setCell (p := ⟨w.heap.size + 1, o, none⟩) (by simp) _, by simp [World.setCell, h.size], set_other h.bx (by omega) v, heap_set_at h.by_ v⟩
theorem Two4.later {w W W' : World} {x y : Array Value} (h : Two4 w W x y) (hb : Below W.heap.size W W') : Below w.heap.size w W' ∧ W'.heap[w.heap.size]? = some (.cells x 51) ∧ W'.heap[w.heap.size + 1]? = some (.cells y 51) :=
  ⟨h.below.trans (hb.mono (by have := h.size; omega)), block_lat hb h.bx, block_lat hb h.by_⟩
/-- what the two boxes hold, whatever is drawn or grown -/
def Gr12 (W : World) (n : Nat) (x0 x1 x2 x3 x4 x5 y0 y1 y2 y3 y4 y5 : Value) : Prop := (∀ d os, (grow (redrawn W d) os).cell? ⟨n, 0, none⟩ = some x0) ∧ (∀ d os, (grow (redrawn W d) os).cell? ⟨n, 1, none⟩ = some x1) ∧ (∀ d os, (grow (redrawn W d) os).cell? ⟨n, 2, none⟩ = some x2) ∧ (∀ d os, (grow (redrawn W d) os).cell? ⟨n, 3, none⟩ = some x3) ∧ (∀ d os, (grow (redrawn W d) os).cell? ⟨n, 4, none⟩ = some x4) ∧ (∀ d os, (grow (redrawn W d) os).cell? ⟨n, 5, none⟩ = some x5) ∧ (∀ d os, (grow (redrawn W d) os).cell? ⟨n + 1, 0, none⟩ = some y0) ∧ (∀ d os, (grow (redrawn W d) os).cell? ⟨n + 1, 1, none⟩ = some y1) ∧ (∀ d os, (grow (redrawn W d) os).cell? ⟨n + 1, 2, none⟩ = some y2) ∧ (∀ d os, (grow (redrawn W d) os).cell? ⟨n + 1, 3, none⟩ = some y3) ∧ (∀ d os, (grow (redrawn W d) os).cell? ⟨n + 1, 4, none⟩ = some y4) ∧ (∀ d os, (grow (redrawn W d) os).cell? ⟨n + 1, 5, none⟩ = some y5)
theorem gr_of {W : World} {n : Nat} {x0 x1 x2 x3 x4 x5 y0 y1 y2 y3 y4 y5 : Value} (hx : W.heap[n]? = some (.cells #[x0, x1, x2, x3, x4, x5] 51)) (hy : W.heap[n + 1]? = some (.cells #[y0, y1, y2, y3, y4, y5] 51)) : Gr12 W n x0 x1 x2 x3 x4 x5 y0 y1 y2 y3 y4 y5 :=
  ⟨cell_regrown (by rw [cell_of_block (o := 0) hx]; rfl), cell_regrown (by rw [cell_of_block (o := 1) hx]; rfl), cell_regrown (by rw [cell_of_block (o := 2) hx]; rfl), cell_regrown (by rw [cell_of_block (o := 3) hx]; rfl), cell_regrown (by rw [cell_of_block (o := 4) hx]; rfl), cell_regrown (by rw [cell_of_block (o := 5) hx]; rfl), cell_regrown (by rw [cell_of_block (o := 0) hy]; rfl), cell_regrown (by rw [cell_of_block (o := 1) hy]; rfl), cell_regrown (by rw [cell_of_block (o := 2) hy]; rfl), cell_regrown (by rw [cell_of_block (o := 3) hy]; rfl), cell_regrown (by rw [cell_of_block (o := 4) hy]; rfl), cell_regrown (by rw [cell_of_block (o := 5) hy]; rfl)⟩
theorem two4_at (w : World) (x0 x1 x2 x3 x4 x5 y0 y1 y2 y3 y4 y5 : Value) : ∃ W, ((w.alloc (.cells #[x0, x1, x2, x3, x4, x5] 51)).alloc (.cells #[y0, y1, y2, y3, y4, y5] 51)) = W ∧ Hid (Below w.heap.size w W) ∧ Gr12 W w.heap.size x0 x1 x2 x3 x4 x5 y0 y1 y2 y3 y4 y5 :=
  ⟨_, rfl, Lib.hid (Two4.start w _ _).below, gr_of (Two4.start w _ _).bx (Two4.start w _ _).by_⟩
theorem two4_after {w W : World} {x0 x1 x2 x3 x4 x5 y0 y1 y2 y3 y4 y5 : Value} (hb : Below ((w.alloc (.cells #[x0, x1, x2, x3, x4, x5] 51)).alloc (.cells #[y0, y1, y2, y3, y4, y5] 51)).heap.size ((w.alloc (.cells #[x0, x1, x2, x3, x4, x5] 51)).alloc (.cells #[y0, y1, y2, y3, y4, y5] 51)) W) :
    Hid (Below w.heap.size w W) ∧ W.heap[w.heap.size]? = some (.cells #[x0, x1, x2, x3, x4, x5] 51) ∧ W.heap[w.heap.size + 1]? = some (.cells #[y0, y1, y2, y3, y4, y5] 51) :=
  have h := (Two4.start w #[x0, x1, x2, x3, x4, x5] #[y0, y1, y2, y3, y4, y5]).later hb
  ⟨Lib.hid h.1, h.2.1, h.2.2⟩
/-- behind a region that draws -/
theorem gr_next {w W : World} {n : Nat} {x0 x1 x2 x3 x4 x5 y0 y1 y2 y3 y4 y5 : Value} (hb : Hid (Below w.heap.size w W)) (h : Gr12 W n x0 x1 x2 x3 x4 x5 y0 y1 y2 y3 y4 y5) (dq : Nat) (osq : Array Obj) : ∃ V, grow (redrawn W dq) osq = V ∧ Hid (Below w.heap.size w V) ∧ Gr12 V n x0 x1 x2 x3 x4 x5 y0 y1 y2 y3 y4 y5 :=
  ⟨_, rfl, Lib.hid (hb.out.trans ((below_regrown W dq osq).mono hb.out.size)), cell_regrown (h.1 dq osq), cell_regrown (h.2.1 dq osq), cell_regrown (h.2.2.1 dq osq), cell_regrown (h.2.2.2.1 dq osq), cell_regrown (h.2.2.2.2.1 dq osq), cell_regrown (h.2.2.2.2.2.1 dq osq), cell_regrown (h.2.2.2.2.2.2.1 dq osq), cell_regrown (h.2.2.2.2.2.2.2.1 dq osq), cell_regrown (h.2.2.2.2.2.2.2.2.1 dq osq), cell_regrown (h.2.2.2.2.2.2.2.2.2.1 dq osq), cell_regrown (h.2.2.2.2.2.2.2.2.2.2.1 dq osq), cell_regrown (h.2.2.2.2.2.2.2.2.2.2.2 dq osq)⟩
theorem cp_at (W : World) (k : Int) (n v : ByteArray) (a b : Int) (uo : Option Addr) (un uc : Nat) : Hid (∀ d os, Calls Tryz.prog 78 #[.agg #[.int .i64 k, .string n, .string v, .int .i64 a, .int .i64 b, .slice uo un uc]] (grow (redrawn W d) os) fun e w'' => e = .returned (.agg #[.int .i64 k, .string n, .string v, .int .i64 a, .int .i64 b]) ∧ ∃ p : Regrown, w'' = grow (redrawn W p.d) p.os) := Lib.hid (fun d os => Calls.regrown_of (plain_v _ _ _ _ _ _ _ _ _))
set_option maxRecDepth 100000 in
set_option maxHeartbeats 2000000 in
theorem rOne2_v (x : Wn.Sm) (u : Value) (w : World) (hu : SsP w (fun _ => True) u x.l) (hx : Wn.shQ x) (hk : x.k = 2) :
    Calls Tryz.prog 84 #[smV x u] w fun e w' => e = .returned (.bool (Wn.mayPlain x)) ∧ Below w.heap.size w w' := by
  obtain ⟨uo, uc, rfl, _, hc⟩ := hu.form
  unfold maxLen at hc
  have hn := hx.1
  have hv := hx.2
  have HR : Hid (Wn.mayPlain x = _) := Lib.hid (Wn.one_eq x)
  have hlz : decide (x.l.len = 0) = ((x.l.len : Int) == 0) := by rw [Bool.eq_iff_iff]; simp
  have HF : Hid (Wn.fieldsB x = _) := Lib.hid (by unfold Wn.fieldsB; rfl)
  have HS : Hid (Wn.sameB x (Wn.meantS x) = _) := Lib.hid (by unfold Wn.sameB Wn.meantS; rfl)
  have QN := Lib.hid (fun W => rName_v x.n W hn)
  have QL := Lib.hid (fun W => rLow_v x.n W (by omega))
  have QA := Lib.hid (fun W => rFew_v x.a W)
  have QB := Lib.hid (fun W => rFew_v x.b W)
  have QH : Hid (∀ W, Calls Tryz.prog 125 #[.agg #[.int .i64 4, .string (Wn.str x.n), .int .i64 0]] W fun e w' => e = .returned (.bool (Wn.may (4, x.n, 0))) ∧ Below W.heap.size W w') := Lib.hid (fun W => rMay (4, x.n, 0) W hn (by show _ ≤ (0 : Int); omega) (by show (0 : Int) ≤ _; omega))
  have Q4 : Hid (∀ W, Calls Tryz.prog 125 #[.agg #[.int .i64 6, .string (Wn.str x.v), .int .i64 34]] W fun e w' => e = .returned (.bool (Wn.may (6, x.v, 34))) ∧ Below W.heap.size W w') := Lib.hid (fun W => rMay (6, x.v, 34) W hv (by show _ ≤ (34 : Int); omega) (by show (34 : Int) ≤ _; omega))
  have Q9 : Hid (∀ W, Calls Tryz.prog 125 #[.agg #[.int .i64 6, .string (Wn.str x.v), .int .i64 39]] W fun e w' => e = .returned (.bool (Wn.may (6, x.v, 39))) ∧ Below W.heap.size W w') := Lib.hid (fun W => rMay (6, x.v, 39) W hv (by show _ ≤ (39 : Int); omega) (by show (39 : Int) ≤ _; omega))
  have HLO := Lib.hid (low_eq x.n)
  clear hu hx hn hv
  unfold smV
  rw [HR.out, hlz]
  clear HR hlz
  have hsn := str_list x.n
  have hsv := str_list x.v
  generalize Wn.fieldsB x = F at *
  generalize Wn.sameB x (Wn.meantS x) = S at *
  generalize decide (Wn.low x.n = x.n) = E at *
  generalize Wn.str (Wn.low x.n) = sl at *
  generalize Wn.str x.n = sn at *
  generalize Wn.str x.v = sv at *
  generalize Wn.may (1, x.n, 0) = R1 at *
  generalize Wn.may (4, x.n, 0) = R4 at *
  generalize Wn.may (6, x.v, 34) = R6 at *
  generalize Wn.may (6, x.v, 39) = R9 at *
  generalize Wn.few x.a = RA at *
  generalize Wn.few x.b = RB at *
  generalize x.k = xk at *
  generalize x.a = xa at *
  generalize x.b = xb at *
  generalize x.l.len = ln at *
  generalize x.n = xn at *
  generalize x.v = xv at *
  clear x
  subst hsn hsv
  subst hk
  have HE : Hid (F = (R1 && E)) := Lib.hid (by rw [HF.out]; rfl)
  have HT : Hid (S = ((sv.toList == []) && ((xa == 0) && (xb == 0)))) := Lib.hid (by rw [HS.out]; simp [Wn.sNam, Wn.sBare])
  clear HF HS
  go_enter Tryz.func84, Tryz.ntmps84
  go_wp2_with fail
  obtain ⟨W, hW, HBW, HG⟩ := two4_at w (.int .i64 2) (.string sn) (.string sv) (.int .i64 xa) (.int .i64 xb) (.slice uo ln uc) (.int .i64 2) (.string sn) (.string ⟨#[]⟩) (.int .i64 0) (.int .i64 0) (.slice none 0 0)
  rw [hW]
  clear hW
  obtain ⟨c0, c1, c2, c3, c4, c5, f0, f1, f2, f3, f4, f5⟩ := HG
  have CN : Hid (∀ d os, Calls Tryz.prog 124 #[.string sn] (grow (redrawn W d) os) fun e w'' => e = .returned (.bool R1) ∧ ∃ p : Regrown, w'' = grow (redrawn W p.d) p.os) := Lib.hid (fun d os => Calls.regrown_of (QN.out _))
  have CL : Hid (∀ d os, Calls Tryz.prog 103 #[.string sn] (grow (redrawn W d) os) fun e w'' => e = .returned (.string sl) ∧ ∃ p : Regrown, w'' = grow (redrawn W p.d) p.os) := Lib.hid (fun d os => Calls.regrown_of (QL.out _))
  clear QN QA QB QH Q4 Q9 QL
  cases R1
  · (refine wp_region_quiet_below (by kernel_rfl) (by kernel_rfl) ?_); (repeat (first | go_big_quiet_skip | quiet_step (first | with_reducible exact CN.out _ _ | with_reducible exact CL.out _ _))); (refine wpQuiet_nil ?_); intro _ hw'; obtain ⟨⟨dq, osq⟩, hw''⟩ := hw'; subst hw''
    go_wp2_with fail
    obtain ⟨V, hV, HBV, HG⟩ := gr_next HBW ⟨c0, c1, c2, c3, c4, c5, f0, f1, f2, f3, f4, f5⟩ dq osq
    rw [hV]
    clear hV c0 c1 c2 c3 c4 c5 f0 f1 f2 f3 f4 f5 HBW
    obtain ⟨c0, c1, c2, c3, c4, c5, f0, f1, f2, f3, f4, f5⟩ := HG
    have HBW := HBV
    clear HBV
    have CP := cp_at V 2 sn sv xa xb uo ln uc
    have CQ := cp_at V 2 sn ⟨#[]⟩ 0 0 none 0 0
    (refine wp_region_quiet_below (by kernel_rfl) (by kernel_rfl) ?_); (repeat (first | go_big_quiet_skip | quiet_step (first | with_reducible exact CP.out _ _ | with_reducible exact CQ.out _ _))); (refine wpQuiet_nil ?_); intro _ hw'; obtain ⟨⟨dq, osq⟩, hw''⟩ := hw'; subst hw''
    go_wp2_with fail
    go_ret
    exact ⟨ret_bool (by rw [HE.out]; simp), HBW.out.trans ((below_regrown V dq osq).mono HBW.out.size)⟩
  · (refine wp_region_quiet_below (by kernel_rfl) (by kernel_rfl) ?_); (repeat (first | go_big_quiet_skip | quiet_step (first | with_reducible exact CN.out _ _ | with_reducible exact CL.out _ _))); (refine wpQuiet_nil ?_); intro _ hw'; obtain ⟨⟨dq, osq⟩, hw''⟩ := hw'; subst hw''
    go_wp2_with fail
    obtain ⟨V, hV, HBV, HG⟩ := gr_next HBW ⟨c0, c1, c2, c3, c4, c5, f0, f1, f2, f3, f4, f5⟩ dq osq
    rw [hV]
    clear hV c0 c1 c2 c3 c4 c5 f0 f1 f2 f3 f4 f5 HBW
    obtain ⟨c0, c1, c2, c3, c4, c5, f0, f1, f2, f3, f4, f5⟩ := HG
    have HBW := HBV
    clear HBV
    have CP := cp_at V 2 sn sv xa xb uo ln uc
    have CQ := cp_at V 2 sn ⟨#[]⟩ 0 0 none 0 0
    cases h1 : (sl.toList == sn.toList)
    · skip
      (refine wp_region_quiet_below (by kernel_rfl) (by kernel_rfl) ?_); (repeat (first | go_big_quiet_skip | quiet_step (first | with_reducible exact CP.out _ _ | with_reducible exact CQ.out _ _))); (refine wpQuiet_nil ?_); intro _ hw'; obtain ⟨⟨dq, osq⟩, hw''⟩ := hw'; subst hw''
      go_wp2_with fail
      go_ret
      exact ⟨ret_bool (by rw [HE.out, ← HLO.out, h1]; simp), HBW.out.trans ((below_regrown V dq osq).mono HBW.out.size)⟩
    · have hE1 : E = true := by rw [← HLO.out, h1]
      subst hE1
      cases h2 : (sv.toList == [])
      · skip
        (refine wp_region_quiet_below (by kernel_rfl) (by kernel_rfl) ?_); (repeat (first | go_big_quiet_skip | quiet_step (first | with_reducible exact CP.out _ _ | with_reducible exact CQ.out _ _))); (refine wpQuiet_nil ?_); intro _ hw'; obtain ⟨⟨dq, osq⟩, hw''⟩ := hw'; subst hw''
        go_wp2_with fail
        go_ret
        exact ⟨ret_bool (by rw [HE.out, HT.out]; simp [*]), HBW.out.trans ((below_regrown V dq osq).mono HBW.out.size)⟩
      · skip
        cases h3 : (xa == 0)
        · skip
          (refine wp_region_quiet_below (by kernel_rfl) (by kernel_rfl) ?_); (repeat (first | go_big_quiet_skip | quiet_step (first | with_reducible exact CP.out _ _ | with_reducible exact CQ.out _ _))); (refine wpQuiet_nil ?_); intro _ hw'; obtain ⟨⟨dq, osq⟩, hw''⟩ := hw'; subst hw''
          go_wp2_with fail
          go_ret
          exact ⟨ret_bool (by rw [HE.out, HT.out]; simp [*]), HBW.out.trans ((below_regrown V dq osq).mono HBW.out.size)⟩
        · cases h4 : (xb == 0)
          · skip
            (refine wp_region_quiet_below (by kernel_rfl) (by kernel_rfl) ?_); (repeat (first | go_big_quiet_skip | quiet_step (first | with_reducible exact CP.out _ _ | with_reducible exact CQ.out _ _))); (refine wpQuiet_nil ?_); intro _ hw'; obtain ⟨⟨dq, osq⟩, hw''⟩ := hw'; subst hw''
            go_wp2_with fail
            go_ret
            exact ⟨ret_bool (by rw [HE.out, HT.out]; simp [*]), HBW.out.trans ((below_regrown V dq osq).mono HBW.out.size)⟩
          · skip
            (refine wp_region_quiet_below (by kernel_rfl) (by kernel_rfl) ?_); (repeat (first | go_big_quiet_skip | quiet_step (first | with_reducible exact CP.out _ _ | with_reducible exact CQ.out _ _))); (refine wpQuiet_nil ?_); intro _ hw'; obtain ⟨⟨dq, osq⟩, hw''⟩ := hw'; subst hw''
            go_wp2_with fail
            go_ret
            exact ⟨ret_bool (by rw [HE.out, HT.out]; simp [*]), HBW.out.trans ((below_regrown V dq osq).mono HBW.out.size)⟩
end Go.Proofs.YtncknaagbafhhaaGreatDoor
set_option linter.unusedVariables false
set_option linter.unusedSimpArgs false
set_option maxRecDepth 20000
namespace Go.Proofs.YtncknaagbafhhaaGreatDoor
open Go.RowKit Go.Sort
set_option maxRecDepth 100000 in
set_option maxHeartbeats 2000000 in
theorem rOne1_v (x : Wn.Sm) (u : Value) (w : World) (hu : SsP w (fun _ => True) u x.l) (hx : Wn.shQ x) (hk : x.k = 1) :
    Calls Tryz.prog 84 #[smV x u] w fun e w' => e = .returned (.bool (Wn.mayPlain x)) ∧ Below w.heap.size w w' := by
  obtain ⟨uo, uc, rfl, _, hc⟩ := hu.form
  unfold maxLen at hc
  have hn := hx.1
  have hv := hx.2
  have HR : Hid (Wn.mayPlain x = _) := Lib.hid (Wn.one_eq x)
  have hlz : decide (x.l.len = 0) = ((x.l.len : Int) == 0) := by rw [Bool.eq_iff_iff]; simp
  have HF : Hid (Wn.fieldsB x = _) := Lib.hid (by unfold Wn.fieldsB; rfl)
  have HS : Hid (Wn.sameB x (Wn.meantS x) = _) := Lib.hid (by unfold Wn.sameB Wn.meantS; rfl)
  have QN := Lib.hid (fun W => rName_v x.n W hn)
  have QL := Lib.hid (fun W => rLow_v x.n W (by omega))
  have QA := Lib.hid (fun W => rFew_v x.a W)
  have QB := Lib.hid (fun W => rFew_v x.b W)
  have QH : Hid (∀ W, Calls Tryz.prog 125 #[.agg #[.int .i64 4, .string (Wn.str x.n), .int .i64 0]] W fun e w' => e = .returned (.bool (Wn.may (4, x.n, 0))) ∧ Below W.heap.size W w') := Lib.hid (fun W => rMay (4, x.n, 0) W hn (by show _ ≤ (0 : Int); omega) (by show (0 : Int) ≤ _; omega))
  have Q4 : Hid (∀ W, Calls Tryz.prog 125 #[.agg #[.int .i64 6, .string (Wn.str x.v), .int .i64 34]] W fun e w' => e = .returned (.bool (Wn.may (6, x.v, 34))) ∧ Below W.heap.size W w') := Lib.hid (fun W => rMay (6, x.v, 34) W hv (by show _ ≤ (34 : Int); omega) (by show (34 : Int) ≤ _; omega))
  have Q9 : Hid (∀ W, Calls Tryz.prog 125 #[.agg #[.int .i64 6, .string (Wn.str x.v), .int .i64 39]] W fun e w' => e = .returned (.bool (Wn.may (6, x.v, 39))) ∧ Below W.heap.size W w') := Lib.hid (fun W => rMay (6, x.v, 39) W hv (by show _ ≤ (39 : Int); omega) (by show (39 : Int) ≤ _; omega))
  have HLO := Lib.hid (low_eq x.n)
  clear hu hx hn hv
  unfold smV
  rw [HR.out, hlz]
  clear HR hlz
  have hsn := str_list x.n
  have hsv := str_list x.v
  generalize Wn.fieldsB x = F at *
  generalize Wn.sameB x (Wn.meantS x) = S at *
  generalize decide (Wn.low x.n = x.n) = E at *
  generalize Wn.str (Wn.low x.n) = sl at *
  generalize Wn.str x.n = sn at *
  generalize Wn.str x.v = sv at *
  generalize Wn.may (1, x.n, 0) = R1 at *
  generalize Wn.may (4, x.n, 0) = R4 at *
  generalize Wn.may (6, x.v, 34) = R6 at *
  generalize Wn.may (6, x.v, 39) = R9 at *
  generalize Wn.few x.a = RA at *
  generalize Wn.few x.b = RB at *
  generalize x.k = xk at *
  generalize x.a = xa at *
  generalize x.b = xb at *
  generalize x.l.len = ln at *
  generalize x.n = xn at *
  generalize x.v = xv at *
  clear x
  subst hsn hsv
  subst hk
  have HE : Hid (F = (true)) := Lib.hid (by rw [HF.out]; rfl)
  have HT : Hid (S = ((sn.toList == []) && ((sv.toList == []) && ((xa == 0) && (xb == 0))))) := Lib.hid (by rw [HS.out]; simp [Wn.sNam, Wn.sBare])
  clear HF HS
  go_enter Tryz.func84, Tryz.ntmps84
  go_wp2_with fail
  obtain ⟨W, hW, HBW, HG⟩ := two4_at w (.int .i64 1) (.string sn) (.string sv) (.int .i64 xa) (.int .i64 xb) (.slice uo ln uc) (.int .i64 1) (.string ⟨#[]⟩) (.string ⟨#[]⟩) (.int .i64 0) (.int .i64 0) (.slice none 0 0)
  rw [hW]
  clear hW
  obtain ⟨c0, c1, c2, c3, c4, c5, f0, f1, f2, f3, f4, f5⟩ := HG
  clear QN QA QB QH Q4 Q9 QL
  have CP := cp_at W 1 sn sv xa xb uo ln uc
  have CQ := cp_at W 1 ⟨#[]⟩ ⟨#[]⟩ 0 0 none 0 0
  cases h1 : (sn.toList == [])
  · skip
    (refine wp_region_quiet_below (by kernel_rfl) (by kernel_rfl) ?_); (repeat (first | go_big_quiet_skip | quiet_step (first | with_reducible exact CP.out _ _ | with_reducible exact CQ.out _ _))); (refine wpQuiet_nil ?_); intro _ hw'; obtain ⟨⟨dq, osq⟩, hw''⟩ := hw'; subst hw''
    go_wp2_with fail
    go_ret
    exact ⟨ret_bool (by rw [HE.out, HT.out]; simp [*]), HBW.out.trans ((below_regrown W dq osq).mono HBW.out.size)⟩
  · cases h2 : (sv.toList == [])
    · skip
      (refine wp_region_quiet_below (by kernel_rfl) (by kernel_rfl) ?_); (repeat (first | go_big_quiet_skip | quiet_step (first | with_reducible exact CP.out _ _ | with_reducible exact CQ.out _ _))); (refine wpQuiet_nil ?_); intro _ hw'; obtain ⟨⟨dq, osq⟩, hw''⟩ := hw'; subst hw''
      go_wp2_with fail
      go_ret
      exact ⟨ret_bool (by rw [HE.out, HT.out]; simp [*]), HBW.out.trans ((below_regrown W dq osq).mono HBW.out.size)⟩
    · skip
      cases h3 : (xa == 0)
      · skip
        (refine wp_region_quiet_below (by kernel_rfl) (by kernel_rfl) ?_); (repeat (first | go_big_quiet_skip | quiet_step (first | with_reducible exact CP.out _ _ | with_reducible exact CQ.out _ _))); (refine wpQuiet_nil ?_); intro _ hw'; obtain ⟨⟨dq, osq⟩, hw''⟩ := hw'; subst hw''
        go_wp2_with fail
        go_ret
        exact ⟨ret_bool (by rw [HE.out, HT.out]; simp [*]), HBW.out.trans ((below_regrown W dq osq).mono HBW.out.size)⟩
      · cases h4 : (xb == 0)
        · skip
          (refine wp_region_quiet_below (by kernel_rfl) (by kernel_rfl) ?_); (repeat (first | go_big_quiet_skip | quiet_step (first | with_reducible exact CP.out _ _ | with_reducible exact CQ.out _ _))); (refine wpQuiet_nil ?_); intro _ hw'; obtain ⟨⟨dq, osq⟩, hw''⟩ := hw'; subst hw''
          go_wp2_with fail
          go_ret
          exact ⟨ret_bool (by rw [HE.out, HT.out]; simp [*]), HBW.out.trans ((below_regrown W dq osq).mono HBW.out.size)⟩
        · skip
          (refine wp_region_quiet_below (by kernel_rfl) (by kernel_rfl) ?_); (repeat (first | go_big_quiet_skip | quiet_step (first | with_reducible exact CP.out _ _ | with_reducible exact CQ.out _ _))); (refine wpQuiet_nil ?_); intro _ hw'; obtain ⟨⟨dq, osq⟩, hw''⟩ := hw'; subst hw''
          go_wp2_with fail
          go_ret
          exact ⟨ret_bool (by rw [HE.out, HT.out]; simp [*]), HBW.out.trans ((below_regrown W dq osq).mono HBW.out.size)⟩
set_option maxRecDepth 100000 in
set_option maxHeartbeats 2000000 in
theorem rOne9_v (x : Wn.Sm) (u : Value) (w : World) (hu : SsP w (fun _ => True) u x.l) (hx : Wn.shQ x) (hk : x.k = 9) :
    Calls Tryz.prog 84 #[smV x u] w fun e w' => e = .returned (.bool (Wn.mayPlain x)) ∧ Below w.heap.size w w' := by
  obtain ⟨uo, uc, rfl, _, hc⟩ := hu.form
  unfold maxLen at hc
  have hn := hx.1
  have hv := hx.2
  have HR : Hid (Wn.mayPlain x = _) := Lib.hid (Wn.one_eq x)
  have hlz : decide (x.l.len = 0) = ((x.l.len : Int) == 0) := by rw [Bool.eq_iff_iff]; simp
  have HF : Hid (Wn.fieldsB x = _) := Lib.hid (by unfold Wn.fieldsB; rfl)
  have HS : Hid (Wn.sameB x (Wn.meantS x) = _) := Lib.hid (by unfold Wn.sameB Wn.meantS; rfl)
  have QN := Lib.hid (fun W => rName_v x.n W hn)
  have QL := Lib.hid (fun W => rLow_v x.n W (by omega))
  have QA := Lib.hid (fun W => rFew_v x.a W)
  have QB := Lib.hid (fun W => rFew_v x.b W)
  have QH : Hid (∀ W, Calls Tryz.prog 125 #[.agg #[.int .i64 4, .string (Wn.str x.n), .int .i64 0]] W fun e w' => e = .returned (.bool (Wn.may (4, x.n, 0))) ∧ Below W.heap.size W w') := Lib.hid (fun W => rMay (4, x.n, 0) W hn (by show _ ≤ (0 : Int); omega) (by show (0 : Int) ≤ _; omega))
  have Q4 : Hid (∀ W, Calls Tryz.prog 125 #[.agg #[.int .i64 6, .string (Wn.str x.v), .int .i64 34]] W fun e w' => e = .returned (.bool (Wn.may (6, x.v, 34))) ∧ Below W.heap.size W w') := Lib.hid (fun W => rMay (6, x.v, 34) W hv (by show _ ≤ (34 : Int); omega) (by show (34 : Int) ≤ _; omega))
  have Q9 : Hid (∀ W, Calls Tryz.prog 125 #[.agg #[.int .i64 6, .string (Wn.str x.v), .int .i64 39]] W fun e w' => e = .returned (.bool (Wn.may (6, x.v, 39))) ∧ Below W.heap.size W w') := Lib.hid (fun W => rMay (6, x.v, 39) W hv (by show _ ≤ (39 : Int); omega) (by show (39 : Int) ≤ _; omega))
  have HLO := Lib.hid (low_eq x.n)
  clear hu hx hn hv
  unfold smV
  rw [HR.out, hlz]
  clear HR hlz
  have hsn := str_list x.n
  have hsv := str_list x.v
  generalize Wn.fieldsB x = F at *
  generalize Wn.sameB x (Wn.meantS x) = S at *
  generalize decide (Wn.low x.n = x.n) = E at *
  generalize Wn.str (Wn.low x.n) = sl at *
  generalize Wn.str x.n = sn at *
  generalize Wn.str x.v = sv at *
  generalize Wn.may (1, x.n, 0) = R1 at *
  generalize Wn.may (4, x.n, 0) = R4 at *
  generalize Wn.may (6, x.v, 34) = R6 at *
  generalize Wn.may (6, x.v, 39) = R9 at *
  generalize Wn.few x.a = RA at *
  generalize Wn.few x.b = RB at *
  generalize x.k = xk at *
  generalize x.a = xa at *
  generalize x.b = xb at *
  generalize x.l.len = ln at *
  generalize x.n = xn at *
  generalize x.v = xv at *
  clear x
  subst hsn hsv
  subst hk
  have HE : Hid (F = (true)) := Lib.hid (by rw [HF.out]; rfl)
  have HT : Hid (S = ((sn.toList == []) && ((sv.toList == []) && ((xa == 0) && (xb == 0))))) := Lib.hid (by rw [HS.out]; simp [Wn.sNam, Wn.sBare])
  clear HF HS
  go_enter Tryz.func84, Tryz.ntmps84
  go_wp2_with fail
  obtain ⟨W, hW, HBW, HG⟩ := two4_at w (.int .i64 9) (.string sn) (.string sv) (.int .i64 xa) (.int .i64 xb) (.slice uo ln uc) (.int .i64 9) (.string ⟨#[]⟩) (.string ⟨#[]⟩) (.int .i64 0) (.int .i64 0) (.slice none 0 0)
  rw [hW]
  clear hW
  obtain ⟨c0, c1, c2, c3, c4, c5, f0, f1, f2, f3, f4, f5⟩ := HG
  clear QN QA QB QH Q4 Q9 QL
  have CP := cp_at W 9 sn sv xa xb uo ln uc
  have CQ := cp_at W 9 ⟨#[]⟩ ⟨#[]⟩ 0 0 none 0 0
  cases h1 : (sn.toList == [])
  · skip
    (refine wp_region_quiet_below (by kernel_rfl) (by kernel_rfl) ?_); (repeat (first | go_big_quiet_skip | quiet_step (first | with_reducible exact CP.out _ _ | with_reducible exact CQ.out _ _))); (refine wpQuiet_nil ?_); intro _ hw'; obtain ⟨⟨dq, osq⟩, hw''⟩ := hw'; subst hw''
    go_wp2_with fail
    go_ret
    exact ⟨ret_bool (by rw [HE.out, HT.out]; simp [*]), HBW.out.trans ((below_regrown W dq osq).mono HBW.out.size)⟩
  · cases h2 : (sv.toList == [])
    · skip
      (refine wp_region_quiet_below (by kernel_rfl) (by kernel_rfl) ?_); (repeat (first | go_big_quiet_skip | quiet_step (first | with_reducible exact CP.out _ _ | with_reducible exact CQ.out _ _))); (refine wpQuiet_nil ?_); intro _ hw'; obtain ⟨⟨dq, osq⟩, hw''⟩ := hw'; subst hw''
      go_wp2_with fail
      go_ret
      exact ⟨ret_bool (by rw [HE.out, HT.out]; simp [*]), HBW.out.trans ((below_regrown W dq osq).mono HBW.out.size)⟩
    · skip
      cases h3 : (xa == 0)
      · skip
        (refine wp_region_quiet_below (by kernel_rfl) (by kernel_rfl) ?_); (repeat (first | go_big_quiet_skip | quiet_step (first | with_reducible exact CP.out _ _ | with_reducible exact CQ.out _ _))); (refine wpQuiet_nil ?_); intro _ hw'; obtain ⟨⟨dq, osq⟩, hw''⟩ := hw'; subst hw''
        go_wp2_with fail
        go_ret
        exact ⟨ret_bool (by rw [HE.out, HT.out]; simp [*]), HBW.out.trans ((below_regrown W dq osq).mono HBW.out.size)⟩
      · cases h4 : (xb == 0)
        · skip
          (refine wp_region_quiet_below (by kernel_rfl) (by kernel_rfl) ?_); (repeat (first | go_big_quiet_skip | quiet_step (first | with_reducible exact CP.out _ _ | with_reducible exact CQ.out _ _))); (refine wpQuiet_nil ?_); intro _ hw'; obtain ⟨⟨dq, osq⟩, hw''⟩ := hw'; subst hw''
          go_wp2_with fail
          go_ret
          exact ⟨ret_bool (by rw [HE.out, HT.out]; simp [*]), HBW.out.trans ((below_regrown W dq osq).mono HBW.out.size)⟩
        · skip
          (refine wp_region_quiet_below (by kernel_rfl) (by kernel_rfl) ?_); (repeat (first | go_big_quiet_skip | quiet_step (first | with_reducible exact CP.out _ _ | with_reducible exact CQ.out _ _))); (refine wpQuiet_nil ?_); intro _ hw'; obtain ⟨⟨dq, osq⟩, hw''⟩ := hw'; subst hw''
          go_wp2_with fail
          go_ret
          exact ⟨ret_bool (by rw [HE.out, HT.out]; simp [*]), HBW.out.trans ((below_regrown W dq osq).mono HBW.out.size)⟩
set_option maxRecDepth 100000 in
set_option maxHeartbeats 2000000 in
theorem rOne10_v (x : Wn.Sm) (u : Value) (w : World) (hu : SsP w (fun _ => True) u x.l) (hx : Wn.shQ x) (hk : x.k = 10) :
    Calls Tryz.prog 84 #[smV x u] w fun e w' => e = .returned (.bool (Wn.mayPlain x)) ∧ Below w.heap.size w w' := by
  obtain ⟨uo, uc, rfl, _, hc⟩ := hu.form
  unfold maxLen at hc
  have hn := hx.1
  have hv := hx.2
  have HR : Hid (Wn.mayPlain x = _) := Lib.hid (Wn.one_eq x)
  have hlz : decide (x.l.len = 0) = ((x.l.len : Int) == 0) := by rw [Bool.eq_iff_iff]; simp
  have HF : Hid (Wn.fieldsB x = _) := Lib.hid (by unfold Wn.fieldsB; rfl)
  have HS : Hid (Wn.sameB x (Wn.meantS x) = _) := Lib.hid (by unfold Wn.sameB Wn.meantS; rfl)
  have QN := Lib.hid (fun W => rName_v x.n W hn)
  have QL := Lib.hid (fun W => rLow_v x.n W (by omega))
  have QA := Lib.hid (fun W => rFew_v x.a W)
  have QB := Lib.hid (fun W => rFew_v x.b W)
  have QH : Hid (∀ W, Calls Tryz.prog 125 #[.agg #[.int .i64 4, .string (Wn.str x.n), .int .i64 0]] W fun e w' => e = .returned (.bool (Wn.may (4, x.n, 0))) ∧ Below W.heap.size W w') := Lib.hid (fun W => rMay (4, x.n, 0) W hn (by show _ ≤ (0 : Int); omega) (by show (0 : Int) ≤ _; omega))
  have Q4 : Hid (∀ W, Calls Tryz.prog 125 #[.agg #[.int .i64 6, .string (Wn.str x.v), .int .i64 34]] W fun e w' => e = .returned (.bool (Wn.may (6, x.v, 34))) ∧ Below W.heap.size W w') := Lib.hid (fun W => rMay (6, x.v, 34) W hv (by show _ ≤ (34 : Int); omega) (by show (34 : Int) ≤ _; omega))
  have Q9 : Hid (∀ W, Calls Tryz.prog 125 #[.agg #[.int .i64 6, .string (Wn.str x.v), .int .i64 39]] W fun e w' => e = .returned (.bool (Wn.may (6, x.v, 39))) ∧ Below W.heap.size W w') := Lib.hid (fun W => rMay (6, x.v, 39) W hv (by show _ ≤ (39 : Int); omega) (by show (39 : Int) ≤ _; omega))
  have HLO := Lib.hid (low_eq x.n)
  clear hu hx hn hv
  unfold smV
  rw [HR.out, hlz]
  clear HR hlz
  have hsn := str_list x.n
  have hsv := str_list x.v
  generalize Wn.fieldsB x = F at *
  generalize Wn.sameB x (Wn.meantS x) = S at *
  generalize decide (Wn.low x.n = x.n) = E at *
  generalize Wn.str (Wn.low x.n) = sl at *
  generalize Wn.str x.n = sn at *
  generalize Wn.str x.v = sv at *
  generalize Wn.may (1, x.n, 0) = R1 at *
  generalize Wn.may (4, x.n, 0) = R4 at *
  generalize Wn.may (6, x.v, 34) = R6 at *
  generalize Wn.may (6, x.v, 39) = R9 at *
  generalize Wn.few x.a = RA at *
  generalize Wn.few x.b = RB at *
  generalize x.k = xk at *
  generalize x.a = xa at *
  generalize x.b = xb at *
  generalize x.l.len = ln at *
  generalize x.n = xn at *
  generalize x.v = xv at *
  clear x
  subst hsn hsv
  subst hk
  have HE : Hid (F = (true)) := Lib.hid (by rw [HF.out]; rfl)
  have HT : Hid (S = ((sn.toList == []) && ((sv.toList == []) && ((xa == 0) && (xb == 0))))) := Lib.hid (by rw [HS.out]; simp [Wn.sNam, Wn.sBare])
  clear HF HS
  go_enter Tryz.func84, Tryz.ntmps84
  go_wp2_with fail
  obtain ⟨W, hW, HBW, HG⟩ := two4_at w (.int .i64 10) (.string sn) (.string sv) (.int .i64 xa) (.int .i64 xb) (.slice uo ln uc) (.int .i64 10) (.string ⟨#[]⟩) (.string ⟨#[]⟩) (.int .i64 0) (.int .i64 0) (.slice none 0 0)
  rw [hW]
  clear hW
  obtain ⟨c0, c1, c2, c3, c4, c5, f0, f1, f2, f3, f4, f5⟩ := HG
  clear QN QA QB QH Q4 Q9 QL
  have CP := cp_at W 10 sn sv xa xb uo ln uc
  have CQ := cp_at W 10 ⟨#[]⟩ ⟨#[]⟩ 0 0 none 0 0
  cases h1 : (sn.toList == [])
  · skip
    (refine wp_region_quiet_below (by kernel_rfl) (by kernel_rfl) ?_); (repeat (first | go_big_quiet_skip | quiet_step (first | with_reducible exact CP.out _ _ | with_reducible exact CQ.out _ _))); (refine wpQuiet_nil ?_); intro _ hw'; obtain ⟨⟨dq, osq⟩, hw''⟩ := hw'; subst hw''
    go_wp2_with fail
    go_ret
    exact ⟨ret_bool (by rw [HE.out, HT.out]; simp [*]), HBW.out.trans ((below_regrown W dq osq).mono HBW.out.size)⟩
  · cases h2 : (sv.toList == [])
    · skip
      (refine wp_region_quiet_below (by kernel_rfl) (by kernel_rfl) ?_); (repeat (first | go_big_quiet_skip | quiet_step (first | with_reducible exact CP.out _ _ | with_reducible exact CQ.out _ _))); (refine wpQuiet_nil ?_); intro _ hw'; obtain ⟨⟨dq, osq⟩, hw''⟩ := hw'; subst hw''
      go_wp2_with fail
      go_ret
      exact ⟨ret_bool (by rw [HE.out, HT.out]; simp [*]), HBW.out.trans ((below_regrown W dq osq).mono HBW.out.size)⟩
    · skip
      cases h3 : (xa == 0)
      · skip
        (refine wp_region_quiet_below (by kernel_rfl) (by kernel_rfl) ?_); (repeat (first | go_big_quiet_skip | quiet_step (first | with_reducible exact CP.out _ _ | with_reducible exact CQ.out _ _))); (refine wpQuiet_nil ?_); intro _ hw'; obtain ⟨⟨dq, osq⟩, hw''⟩ := hw'; subst hw''
        go_wp2_with fail
        go_ret
        exact ⟨ret_bool (by rw [HE.out, HT.out]; simp [*]), HBW.out.trans ((below_regrown W dq osq).mono HBW.out.size)⟩
      · cases h4 : (xb == 0)
        · skip
          (refine wp_region_quiet_below (by kernel_rfl) (by kernel_rfl) ?_); (repeat (first | go_big_quiet_skip | quiet_step (first | with_reducible exact CP.out _ _ | with_reducible exact CQ.out _ _))); (refine wpQuiet_nil ?_); intro _ hw'; obtain ⟨⟨dq, osq⟩, hw''⟩ := hw'; subst hw''
          go_wp2_with fail
          go_ret
          exact ⟨ret_bool (by rw [HE.out, HT.out]; simp [*]), HBW.out.trans ((below_regrown W dq osq).mono HBW.out.size)⟩
        · skip
          (refine wp_region_quiet_below (by kernel_rfl) (by kernel_rfl) ?_); (repeat (first | go_big_quiet_skip | quiet_step (first | with_reducible exact CP.out _ _ | with_reducible exact CQ.out _ _))); (refine wpQuiet_nil ?_); intro _ hw'; obtain ⟨⟨dq, osq⟩, hw''⟩ := hw'; subst hw''
          go_wp2_with fail
          go_ret
          exact ⟨ret_bool (by rw [HE.out, HT.out]; simp [*]), HBW.out.trans ((below_regrown W dq osq).mono HBW.out.size)⟩
end Go.Proofs.YtncknaagbafhhaaGreatDoor
