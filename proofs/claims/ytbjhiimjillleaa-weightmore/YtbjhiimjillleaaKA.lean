/- What the program's weights answer: Nth, and whether one is less than another one. What the program's weights answer: is one less than another one? What the program's weights answer: the greatest one. What the verifier's own weights answer: how many simple selectors are of some kinds, those within a not, too. What the program's weights answer: how count adds, and that it adds what the verifier's own count counts. What the verifier's own weights answer: the weight of a complex selector. -/
import Derived.Test.YtbjhiimjillleaaGB
import Derived.Test.YtbjhiimjillleaaGJ
import Derived.Test.YtbjhiimjillleaaHA
import Derived.Test.YtbjhiimjillleaaGN
import Derived.Deep.RegionWith
import Derived.Test.YtbjhiimjillleaaHL
set_option maxRecDepth 20000
namespace Wn
def opr (n : Int) : Bool := decide (-1000000000 ≤ n) && decide (n ≤ 1000000000)
/-- is a place one of an nth? -/
def wnth (a b i : Int) : Bool := opr a && opr b && opr i && (if a = 0 then decide (i = b) else decide ((i - b).tmod a = 0) && decide (0 ≤ (i - b).tdiv a))
def cmpI (a b : Int) : Int := if a < b then -1 else if b < a then 1 else 0
/-- is a weight less than another one? -/
def wless (a b : Int × Int × Int) : Bool := decide (a.1 < b.1) || (decide (a.1 = b.1) && (decide (a.2.1 < b.2.1) || (decide (a.2.1 = b.2.1) && decide (a.2.2 < b.2.2))))
end Wn
namespace Go.Proofs.Ytbjhiimjillleaa
open Go.RowKit Go.Sort
theorem opr_v (n : Int) (w : World) :
    Calls Try.prog 24 #[.int .i64 n] w fun e w' => e = .returned (.bool (Wn.opr n)) ∧ w' = w := by
  have e : Wn.opr n = (decide (-1000000000 ≤ n) && decide (n ≤ 1000000000)) := rfl
  rw [e]
  by_cases h1 : -1000000000 ≤ n
  · by_cases h2 : n ≤ 1000000000
    · go_enter Try.func24, Try.ntmps24
      go_wp2_with fail
      go_ret
      exact ⟨ret_bool (by simp; omega), rfl⟩
    · go_enter Try.func24, Try.ntmps24
      go_wp2_with fail
      go_ret
      exact ⟨ret_bool (by simp; omega), rfl⟩
  · go_enter Try.func24, Try.ntmps24
    go_wp2_with fail
    go_ret
    exact ⟨ret_bool (by simp; omega), rfl⟩
theorem isNaN_v (n : Int) (w : World) :
    Calls Try.prog 33 #[.int .i64 n] w fun e w' => e = .returned (.bool false) ∧ w' = w := by
  go_enter Try.func33, Try.ntmps33
  go_wp2_with fail
  go_ret
  exact ⟨ret_bool (by simp), rfl⟩
theorem cmpI_v (a b : Int) (w : World) :
    Calls Try.prog 27 #[.int .i64 a, .int .i64 b] w fun e w' => e = .returned (.int .i64 (Wn.cmpI a b)) ∧ w' = w := by
  have QA := Lib.hid (fun V => isNaN_v a V)
  have QB := Lib.hid (fun V => isNaN_v b V)
  have e : Wn.cmpI a b = if a < b then -1 else if b < a then 1 else 0 := rfl
  rw [e]
  clear e
  by_cases h1 : a < b
  · rw [if_pos h1]
    go_enter Try.func27, Try.ntmps27
    go_wp2_with fail
    refine (QA.out _).mono ?_
    rintro e w1 ⟨rfl, rfl⟩
    go_wp2_with fail
    refine (QB.out _).mono ?_
    rintro e w2 ⟨rfl, rfl⟩
    go_wp2_with fail
    go_ret
    exact ⟨rfl, rfl⟩
  · rw [if_neg h1]
    have h1' : b ≤ a := by omega
    by_cases h2 : b < a
    · rw [if_pos h2]
      go_enter Try.func27, Try.ntmps27
      go_wp2_with fail
      refine (QA.out _).mono ?_
      rintro e w1 ⟨rfl, rfl⟩
      go_wp2_with fail
      refine (QB.out _).mono ?_
      rintro e w2 ⟨rfl, rfl⟩
      go_wp2_with fail
      go_ret
      exact ⟨rfl, rfl⟩
    · rw [if_neg h2]
      go_enter Try.func27, Try.ntmps27
      go_wp2_with fail
      refine (QA.out _).mono ?_
      rintro e w1 ⟨rfl, rfl⟩
      go_wp2_with fail
      refine (QB.out _).mono ?_
      rintro e w2 ⟨rfl, rfl⟩
      go_wp2_with fail
      go_ret
      exact ⟨rfl, rfl⟩
set_option maxHeartbeats 1000000 in
theorem wNth_v (a b i : Int) (w : World) :
    Calls Try.prog 17 #[.int .i64 a, .int .i64 b, .int .i64 i] w fun e w' => e = .returned (.bool (Wn.wnth a b i)) ∧ w' = w := by
  have QA := Lib.hid (fun V => opr_v a V)
  have QB := Lib.hid (fun V => opr_v b V)
  have QI := Lib.hid (fun V => opr_v i V)
  have HE : Hid (Wn.wnth a b i = (Wn.opr a && Wn.opr b && Wn.opr i && (if a = 0 then decide (i = b) else decide ((i - b).tmod a = 0) && decide (0 ≤ (i - b).tdiv a)))) := Lib.hid rfl
  have HA : Hid (Wn.opr a = (decide (-1000000000 ≤ a) && decide (a ≤ 1000000000))) := Lib.hid rfl
  have HB : Hid (Wn.opr b = (decide (-1000000000 ≤ b) && decide (b ≤ 1000000000))) := Lib.hid rfl
  have HI : Hid (Wn.opr i = (decide (-1000000000 ≤ i) && decide (i ≤ 1000000000))) := Lib.hid rfl
  generalize Wn.wnth a b i = R at *
  generalize Wn.opr a = oa at *
  generalize Wn.opr b = ob at *
  generalize Wn.opr i = oi at *
  go_enter Try.func17, Try.ntmps17
  go_wp2_with fail
  refine (QA.out _).mono ?_
  rintro e w1 ⟨rfl, rfl⟩
  cases oa
  · go_wp2_with fail
    go_ret
    exact ⟨ret_bool (by rw [HE.out]; rfl), rfl⟩
  · go_wp2_with fail
    refine (QB.out _).mono ?_
    rintro e w1 ⟨rfl, rfl⟩
    cases ob
    · go_wp2_with fail
      go_ret
      exact ⟨ret_bool (by rw [HE.out]; rfl), rfl⟩
    · go_wp2_with fail
      refine (QI.out _).mono ?_
      rintro e w1 ⟨rfl, rfl⟩
      cases oi
      · go_wp2_with fail
        go_ret
        exact ⟨ret_bool (by rw [HE.out]; rfl), rfl⟩
      · have ha := HA.out
        have hb := HB.out
        have hi := HI.out
        simp only [eq_comm (a := true), Bool.and_eq_true, decide_eq_true_eq] at ha hb hi
        obtain ⟨ha1, ha2⟩ := ha
        obtain ⟨hb1, hb2⟩ := hb
        obtain ⟨hi1, hi2⟩ := hi
        have hw : IntKind.i64.wrap (i - b) = i - b := IntWalk.i64_in _ (by omega)
        by_cases h0 : a = 0
        · have HR : Hid (R = decide (i = b)) := Lib.hid (by rw [HE.out, if_pos h0]; simp)
          subst h0
          go_wp2_with fail
          go_ret
          exact ⟨ret_bool (by rw [HR.out]; rw [Bool.eq_iff_iff]; simp), rfl⟩
        · have HR : Hid (R = (decide ((i - b).tmod a = 0) && decide (0 ≤ (i - b).tdiv a))) := Lib.hid (by rw [HE.out, if_neg h0]; simp)
          have h0' : (a == 0) = false := by simpa using h0
          by_cases hm : (i - b).tmod a = 0
          · have hm' : ((i - b).tmod a == 0) = true := by simpa using hm
            have HM := Lib.hid hm
            clear hm
            go_wp2_with fail
            go_ret
            have hd : ((i - b).tdiv a).natAbs ≤ (i - b).natAbs := by rw [Int.natAbs_tdiv]; exact Nat.div_le_self _ _
            have hq : wrap64 ((i - b).tdiv a) = (i - b).tdiv a := by
              generalize (i - b).tdiv a = q at *
              exact IntWalk.wrap64_in _ (by omega)
            exact ⟨ret_bool (by rw [HR.out]; simp [HM.out, hq]), rfl⟩
          · have hm' : ((i - b).tmod a == 0) = false := by simpa using hm
            have HM := Lib.hid hm
            clear hm
            go_wp2_with fail
            go_ret
            exact ⟨ret_bool (by rw [HR.out]; simp [HM.out]), rfl⟩
end Go.Proofs.Ytbjhiimjillleaa
set_option maxRecDepth 20000
namespace Wn
def cmp3 (a b : Int × Int × Int) : Int := if a.1 = b.1 then (if a.2.1 = b.2.1 then cmpI a.2.2 b.2.2 else cmpI a.2.1 b.2.1) else cmpI a.1 b.1
theorem cmpI_zero {a b : Int} : cmpI a b = 0 ↔ a = b := by unfold cmpI; (repeat' split) <;> omega
theorem cmpI_neg {a b : Int} : cmpI a b < 0 ↔ a < b := by unfold cmpI; (repeat' split) <;> omega
theorem cmp3_less (a b : Int × Int × Int) : decide (cmp3 a b < 0) = wless a b := by
  unfold cmp3 wless
  rw [Bool.eq_iff_iff]
  simp only [decide_eq_true_eq, Bool.or_eq_true, Bool.and_eq_true]
  (repeat' split) <;> rw [cmpI_neg] <;> omega
end Wn
namespace Go.Proofs.Ytbjhiimjillleaa
open Go.RowKit Go.Sort
/-- three ints that lie in a block -/
structure In3 (w : World) (A : Nat) (a : Int × Int × Int) : Prop where
  c0 : w.cell? ⟨A, 0, none⟩ = some (.int .i64 a.1)
  c1 : w.cell? ⟨A, 1, none⟩ = some (.int .i64 a.2.1)
  c2 : w.cell? ⟨A, 2, none⟩ = some (.int .i64 a.2.2)
set_option maxRecDepth 100000 in
set_option maxHeartbeats 1000000 in
theorem cmp3_v (A B : Nat) (a b : Int × Int × Int) (w : World) (hA : In3 w A a) (hB : In3 w B b) :
    Calls Try.prog 23 #[.slice (some ⟨A, 0, none⟩) 3 3, .slice (some ⟨B, 0, none⟩) 3 3] w fun e w' => e = .returned (.int .i64 (Wn.cmp3 a b)) ∧ w' = w := by
  obtain ⟨x0, x1, x2⟩ := a
  obtain ⟨y0, y1, y2⟩ := b
  obtain ⟨p0, p1, p2⟩ := hA
  obtain ⟨q0, q1, q2⟩ := hB
  dsimp only at p0 p1 p2 q0 q1 q2
  have HE : Hid (Wn.cmp3 (x0, x1, x2) (y0, y1, y2) = if x0 = y0 then (if x1 = y1 then Wn.cmpI x2 y2 else Wn.cmpI x1 y1) else Wn.cmpI x0 y0) := Lib.hid rfl
  generalize Wn.cmp3 (x0, x1, x2) (y0, y1, y2) = R at *
  have Q0 := Lib.hid (fun V => cmpI_v x0 y0 V)
  have Q1 := Lib.hid (fun V => cmpI_v x1 y1 V)
  have Q2 := Lib.hid (fun V => cmpI_v x2 y2 V)
  have Z0 := Lib.hid (Wn.cmpI_zero (a := x0) (b := y0))
  have Z1 := Lib.hid (Wn.cmpI_zero (a := x1) (b := y1))
  have Z2 := Lib.hid (Wn.cmpI_zero (a := x2) (b := y2))
  generalize Wn.cmpI x0 y0 = r0 at *
  generalize Wn.cmpI x1 y1 = r1 at *
  generalize Wn.cmpI x2 y2 = r2 at *
  have HP0 := Lib.hid p0
  have HP1 := Lib.hid p1
  have HP2 := Lib.hid p2
  have HQ0 := Lib.hid q0
  have HQ1 := Lib.hid q1
  have HQ2 := Lib.hid q2
  go_enter Try.func23, Try.ntmps23
  go_wp2_with fail
  go_loopw [11] (fun v11 wr => ∃ k : Nat, k ≤ 3 ∧ v11 = .int .i64 (k : Int) ∧ Hid (wr = w) ∧ Hid (1 ≤ k → x0 = y0) ∧ Hid (2 ≤ k → x1 = y1) ∧ Hid (3 ≤ k → x2 = y2)) (fun v11 _ => 3 - (intOf v11).toNat)
  case atStart => exact ⟨0, by omega, rfl, Lib.hid rfl, Lib.hid (fun h => by omega), Lib.hid (fun h => by omega), Lib.hid (fun h => by omega)⟩
  case round =>
    obtain ⟨k, hk, rfl, hw, H0, H1, H2⟩ := hrel
    obtain rfl := hw.out
    clear hw
    have hc : k = 0 ∨ k = 1 ∨ k = 2 ∨ k = 3 := by omega
    rcases hc with rfl | rfl | rfl | rfl
    · go_wp2_with fail
      refine (Q0.out _).mono ?_
      rintro e w1 ⟨rfl, rfl⟩
      by_cases hr : r0 = 0
      · have hr' : (r0 == 0) = true := by simpa using hr
        have h := Z0.out.1 hr
        have HH := Lib.hid h
        clear h hr
        go_wp2_with fail
        exact ⟨⟨1, by omega, by go_num, Lib.hid (by simp), Lib.hid (fun _ => HH.out), Lib.hid (fun h => by omega), Lib.hid (fun h => by omega)⟩, by simp [intOf]⟩
      · have hr' : (r0 == 0) = false := by simpa using hr
        have HH : Hid (R = r0) := Lib.hid (by rw [HE.out, if_neg (fun h => hr (Z0.out.2 h))])
        clear hr
        go_wp2_with fail
        go_ret
        exact ⟨by rw [HH.out]; rfl, rfl⟩
    · go_wp2_with fail
      refine (Q1.out _).mono ?_
      rintro e w1 ⟨rfl, rfl⟩
      by_cases hr : r1 = 0
      · have hr' : (r1 == 0) = true := by simpa using hr
        have h := Z1.out.1 hr
        have HH := Lib.hid h
        clear h hr
        go_wp2_with fail
        exact ⟨⟨2, by omega, by go_num, Lib.hid (by simp), Lib.hid (fun _ => H0.out (by omega)), Lib.hid (fun _ => HH.out), Lib.hid (fun h => by omega)⟩, by simp [intOf]⟩
      · have hr' : (r1 == 0) = false := by simpa using hr
        have HH : Hid (R = r1) := Lib.hid (by rw [HE.out, if_pos (H0.out (by omega)), if_neg (fun h => hr (Z1.out.2 h))])
        clear hr
        go_wp2_with fail
        go_ret
        exact ⟨by rw [HH.out]; rfl, rfl⟩
    · go_wp2_with fail
      refine (Q2.out _).mono ?_
      rintro e w1 ⟨rfl, rfl⟩
      by_cases hr : r2 = 0
      · have hr' : (r2 == 0) = true := by simpa using hr
        have h := Z2.out.1 hr
        have HH := Lib.hid h
        clear h hr
        go_wp2_with fail
        exact ⟨⟨3, by omega, by go_num, Lib.hid (by simp), Lib.hid (fun _ => H0.out (by omega)), Lib.hid (fun _ => H1.out (by omega)), Lib.hid (fun _ => HH.out)⟩, by simp [intOf]⟩
      · have hr' : (r2 == 0) = false := by simpa using hr
        have HH : Hid (R = r2) := Lib.hid (by rw [HE.out, if_pos (H0.out (by omega)), if_pos (H1.out (by omega))])
        clear hr
        go_wp2_with fail
        go_ret
        exact ⟨by rw [HH.out]; rfl, rfl⟩
    · have HH : Hid (R = 0) := Lib.hid (by rw [HE.out, if_pos (H0.out (by omega)), if_pos (H1.out (by omega))]; exact Z2.out.2 (H2.out (by omega)))
      go_wp2_with fail
      go_ret
      exact ⟨by rw [HH.out]; rfl, rfl⟩
set_option maxRecDepth 100000 in
theorem less_v (a b : Int × Int × Int) (w : World) :
    Calls Try.prog 13 #[.agg #[.int .i64 a.1, .int .i64 a.2.1, .int .i64 a.2.2], .agg #[.int .i64 b.1, .int .i64 b.2.1, .int .i64 b.2.2]] w fun e w' => e = .returned (.bool (Wn.wless a b)) ∧ Below w.heap.size w w' := by
  obtain ⟨x0, x1, x2⟩ := a
  obtain ⟨y0, y1, y2⟩ := b
  dsimp only
  have HR := Lib.hid (Wn.cmp3_less (x0, x1, x2) (y0, y1, y2))
  generalize Wn.wless (x0, x1, x2) (y0, y1, y2) = R at *
  have hA : (((w.alloc (.cells #[.int .i64 x0, .int .i64 x1, .int .i64 x2] 27)).alloc (.cells #[.int .i64 y0, .int .i64 y1, .int .i64 y2] 27))).heap[w.heap.size]? = some (.cells #[.int .i64 x0, .int .i64 x1, .int .i64 x2] 27) := block_alloc (heap_alloc_new w _) _
  have hB : (((w.alloc (.cells #[.int .i64 x0, .int .i64 x1, .int .i64 x2] 27)).alloc (.cells #[.int .i64 y0, .int .i64 y1, .int .i64 y2] 27))).heap[w.heap.size + 1]? = some (.cells #[.int .i64 y0, .int .i64 y1, .int .i64 y2] 27) := by
    have := heap_alloc_new (w.alloc (.cells #[.int .i64 x0, .int .i64 x1, .int .i64 x2] 27)) (.cells #[.int .i64 y0, .int .i64 y1, .int .i64 y2] 27)
    rw [show (w.alloc (.cells #[.int .i64 x0, .int .i64 x1, .int .i64 x2] 27)).heap.size = w.heap.size + 1 by simp] at this
    exact this
  have HBl : Hid (Below w.heap.size w ((w.alloc (.cells #[.int .i64 x0, .int .i64 x1, .int .i64 x2] 27)).alloc (.cells #[.int .i64 y0, .int .i64 y1, .int .i64 y2] 27))) := Lib.hid (((Below.refl _ _).alloc (Nat.le_refl _) _).alloc (by simp) _)
  have QC : Hid (∀ V : World, V.heap = ((w.alloc (.cells #[.int .i64 x0, .int .i64 x1, .int .i64 x2] 27)).alloc (.cells #[.int .i64 y0, .int .i64 y1, .int .i64 y2] 27)).heap → Calls Try.prog 23 #[.slice (some ⟨w.heap.size, 0, none⟩) 3 3, .slice (some ⟨w.heap.size + 1, 0, none⟩) 3 3] V fun e w' => e = .returned (.int .i64 (Wn.cmp3 (x0, x1, x2) (y0, y1, y2))) ∧ w' = V) := Lib.hid (fun V hV => by
    rw [← hV] at hA hB
    exact cmp3_v _ _ (x0, x1, x2) (y0, y1, y2) V ⟨cell_of_block hA, cell_of_block hA, cell_of_block hA⟩ ⟨cell_of_block hB, cell_of_block hB, cell_of_block hB⟩)
  generalize Wn.cmp3 (x0, x1, x2) (y0, y1, y2) = C at *
  clear hA hB
  go_enter Try.func13, Try.ntmps13
  go_wp2_with fail
  generalize (w.alloc (.cells #[.int .i64 x0, .int .i64 x1, .int .i64 x2] 27)).alloc (.cells #[.int .i64 y0, .int .i64 y1, .int .i64 y2] 27) = W at *
  by_cases hc : C < 0
  · have HC : Hid (R = true) := Lib.hid (by rw [← HR.out]; simpa using hc)
    go_region_with (first | (go_at_call 23; (refine (QC.out _ ?_).mono ?_); exact rfl; rintro e w1 ⟨rfl, rfl⟩))
    all_goals go_wp2_with fail
    all_goals go_ret
    all_goals exact ⟨by rw [HC.out]; rfl, HBl.out.drew⟩
  · have HC : Hid (R = false) := Lib.hid (by rw [← HR.out]; simpa using hc)
    have hcd : Hid (decide (C < 0) = false) := Lib.hid (by simp; omega)
    go_region_with (first | (go_at_call 23; (refine (QC.out _ ?_).mono ?_); exact rfl; rintro e w1 ⟨rfl, rfl⟩))
    all_goals go_wp2_with fail
    all_goals go_ret
    all_goals exact ⟨by rw [HC.out, ← hcd.out]; rfl, HBl.out.drew⟩
end Go.Proofs.Ytbjhiimjillleaa
set_option maxRecDepth 20000
namespace Wn
abbrev W3 := Int × Int × Int
def wstep (g x : W3) : W3 := if wless g x then x else g
def wmax : List W3 → W3
  | [] => (0, 0, 0)
  | a :: l => l.foldl wstep a
end Wn
namespace Go.Proofs.Ytbjhiimjillleaa
open Go.RowKit Go.Sort
/-- weights in slices -/
def wK : RK Wn.W3 where
  e := 27
  t := 33
  sz := 3
  z := .agg #[.int .i64 0, .int .i64 0, .int .i64 0]
  bytes := 24
  under := Try.underlying33
  info := by kernel_rfl
  zsz := rfl
  pos := by decide
  few := by decide
  R _ _ cs x := cs = [.int .i64 x.1, .int .i64 x.2.1, .int .i64 x.2.2]
  len := by rintro w ok cs x rfl; rfl
  one := by
    rintro w ok cs x rfl c hc
    simp at hc
    rcases hc with rfl | rfl | rfl <;> rfl
  same := by
    rintro w w' ok ok' cs x _ _ rfl
    rfl
theorem wK.cells {w : World} {ok : Nat → Prop} {ao : Option Addr} {n cap : Nat} {l : List Wn.W3} (h : wK.P w ok (.slice ao n cap) l) {i : Nat} {x : Wn.W3} (hi : l[i]? = some x) :
    ∃ b o, ao = some ⟨b, o, none⟩ ∧ ok b ∧ b < w.heap.size ∧ w.cell? ⟨b, o + i * 3, none⟩ = some (.int .i64 x.1) ∧ w.cell? ⟨b, o + i * 3 + 1, none⟩ = some (.int .i64 x.2.1) ∧ w.cell? ⟨b, o + i * 3 + 2, none⟩ = some (.int .i64 x.2.2) := by
  obtain ⟨b, o, cs, ha, hb, hl, rfl, hlie⟩ := h.at hi
  exact ⟨b, o, ha, hb, hl, hlie 0 _ rfl, hlie 1 _ rfl, hlie 2 _ rfl⟩
set_option maxRecDepth 100000 in
set_option maxHeartbeats 2000000 in
theorem wMax_v (v : Value) (l : List Wn.W3) (w : World) (hv : wK.P w (fun b => b < w.heap.size) v l) (hl : l.length ≤ 1048576) :
    Calls Try.prog 15 #[v] w fun e w' => e = .returned (.agg #[.int .i64 (Wn.wmax l).1, .int .i64 (Wn.wmax l).2.1, .int .i64 (Wn.wmax l).2.2]) ∧ Below w.heap.size w w' := by
  obtain ⟨ao, cap, rfl, hc1, hc2⟩ := hv.form
  unfold maxLen at hc2
  have hb0 : Below w.heap.size w (w.alloc (.cells #[.int .i64 0, .int .i64 0, .int .i64 0] 27)) := (Below.refl _ _).alloc (Nat.le_refl _) _
  cases l with
  | nil =>
    go_enter Try.func15, Try.ntmps15
    go_wp2_with fail
    refine bodyPost_ret (v := .agg #[.int .i64 0, .int .i64 0, .int .i64 0]) (by simp [results, Try.results15, go_sem]) rfl ⟨rfl, ?_⟩
    (repeat (first | with_reducible exact Below.refl _ _ | (with_reducible refine Below.drew ?_) | (with_reducible refine below_drewN' ?_ _) | ((with_reducible refine Below.alloc ?_ ?_ _); rotate_left; (focus (first | omega | (simp <;> omega)))) | ((with_reducible refine Below.set_new ?_ ?_ _ _); rotate_left; (focus (first | omega | (simp <;> omega))))))
  | cons a l =>
    obtain ⟨b, o, rfl, _, hbl, k0, k1, k2⟩ := wK.cells hv (i := 0) rfl
    have HV := Lib.hid hv
    have hll : l.length ≤ 1048576 := by simp at hl; omega
    clear hl
    have hn0 : ((l.length : Int) + 1 == 0) = false := by simp; omega
    have hn1 : l = [] ∨ ¬ cap = 1 := by
      cases l with
      | nil => left; rfl
      | cons x y => right; simp at hc1; omega
    have HN1 := Lib.hid hn1
    simp only [Nat.zero_mul, Nat.add_zero] at k0 k1 k2
    have hbn : ¬ b = w.heap.size := by omega
    have HMX : Hid (Wn.wmax (a :: l) = l.foldl Wn.wstep a) := Lib.hid rfl
    generalize Wn.wmax (a :: l) = M at *
    have hb1 : Below w.heap.size w ((w.alloc (.cells #[.int .i64 0, .int .i64 0, .int .i64 0] 27)).alloc (.cells #[.int .i64 a.1, .int .i64 a.2.1, .int .i64 a.2.2] 27)) := hb0.alloc (by simp) _
    have HB0 := Lib.hid hb1
    have HR0 : Hid (((w.alloc (.cells #[.int .i64 0, .int .i64 0, .int .i64 0] 27)).alloc (.cells #[.int .i64 a.1, .int .i64 a.2.1, .int .i64 a.2.2] 27)).heap[w.heap.size]? = some (.cells #[.int .i64 0, .int .i64 0, .int .i64 0] 27)) := Lib.hid (block_alloc (heap_alloc_new w _) _)
    have HG0 : Hid (((w.alloc (.cells #[.int .i64 0, .int .i64 0, .int .i64 0] 27)).alloc (.cells #[.int .i64 a.1, .int .i64 a.2.1, .int .i64 a.2.2] 27)).heap[w.heap.size + 1]? = some (.cells #[.int .i64 ((l.take 0).foldl Wn.wstep a).1, .int .i64 ((l.take 0).foldl Wn.wstep a).2.1, .int .i64 ((l.take 0).foldl Wn.wstep a).2.2] 27)) := Lib.hid (by
      have := heap_alloc_new (w.alloc (.cells #[.int .i64 0, .int .i64 0, .int .i64 0] 27)) (.cells #[.int .i64 a.1, .int .i64 a.2.1, .int .i64 a.2.2] 27)
      rw [show (w.alloc (.cells #[.int .i64 0, .int .i64 0, .int .i64 0] 27)).heap.size = w.heap.size + 1 by simp] at this
      exact this)
    clear hv hn1 hb0 hb1
    by_cases hcap : cap = 1
    · have hl0 : l = [] := HN1.out.resolve_right (fun h => h hcap)
      have HL := Lib.hid hl0
      subst hcap
      clear hl0
      go_enter Try.func15, Try.ntmps15
      go_wp2_with fail
      generalize (w.alloc (.cells #[.int .i64 0, .int .i64 0, .int .i64 0] 27)).alloc (.cells #[.int .i64 a.1, .int .i64 a.2.1, .int .i64 a.2.2] 27) = W0 at *
      go_loopw [16] (fun v16 wr => ∃ k : Nat, k ≤ l.length ∧ v16 = .int .i64 (k : Int) ∧ Hid (Below w.heap.size w wr) ∧ Hid (wr.heap[w.heap.size]? = some (.cells #[.int .i64 0, .int .i64 0, .int .i64 0] 27)) ∧ Hid (wr.heap[w.heap.size + 1]? = some (.cells #[.int .i64 ((l.take k).foldl Wn.wstep a).1, .int .i64 ((l.take k).foldl Wn.wstep a).2.1, .int .i64 ((l.take k).foldl Wn.wstep a).2.2] 27))) (fun v16 _ => l.length - (intOf v16).toNat)
      case atStart => exact ⟨0, Nat.zero_le _, rfl, HB0, HR0, HG0⟩
      case round =>
        clear HB0 HR0 HG0 k0 k1 k2
        obtain ⟨k, hk, rfl, HB, HR, HG⟩ := hrel
        generalize hA : (l.take k).foldl Wn.wstep a = acc at *
        have HA := Lib.hid hA
        clear hA
        have hg := HG.out
        have g0 := cell_of_block (o := 0) hg
        have g1 := cell_of_block (o := 1) hg
        have g2 := cell_of_block (o := 2) hg
        have gf0 := frozen_blk hg 0
        have gf1 := frozen_blk hg 1
        have gf2 := frozen_blk hg 2
        have hgl := lt_of_block hg
        simp only [List.getElem?_toArray, List.getElem?_cons_zero, List.getElem?_cons_succ] at g0 g1 g2
        clear hg
        by_cases hkl : k < l.length
        · exact absurd hkl (by rw [HL.out]; simp)
        · have hkn : ¬ (k : Int) < (l.length : Int) := by omega
          have hr := HR.out
          have r0 := cell_of_block (o := 0) hr
          have r1 := cell_of_block (o := 1) hr
          have r2 := cell_of_block (o := 2) hr
          have rf0 := frozen_blk hr 0
          have rf1 := frozen_blk hr 1
          have rf2 := frozen_blk hr 2
          simp only [List.getElem?_toArray, List.getElem?_cons_zero, List.getElem?_cons_succ] at r0 r1 r2
          have HE : Hid (M = acc) := Lib.hid (by rw [HMX.out, ← HA.out, List.take_of_length_le (by omega)])
          have HB2 := HB
          clear hr
          go_wp2_with fail
          refine bodyPost_ret (v := .agg #[.int .i64 acc.1, .int .i64 acc.2.1, .int .i64 acc.2.2]) (by simp [results, Try.results15, go_sem, r0, r1, r2]) rfl ⟨by rw [HE.out], (by (repeat (first | with_reducible exact HB2.out | (with_reducible refine Below.drew ?_) | (with_reducible refine below_drewN' ?_ _) | ((with_reducible refine Below.setCell ?_ ?_ _); rotate_left; (focus (first | omega | (simp; done) | (simp; omega)))) | ((with_reducible refine Below.alloc ?_ ?_ _); rotate_left; (focus (first | omega | (simp; omega)))))))⟩
    · go_enter Try.func15, Try.ntmps15
      go_wp2_with fail
      generalize (w.alloc (.cells #[.int .i64 0, .int .i64 0, .int .i64 0] 27)).alloc (.cells #[.int .i64 a.1, .int .i64 a.2.1, .int .i64 a.2.2] 27) = W0 at *
      go_loopw [16] (fun v16 wr => ∃ k : Nat, k ≤ l.length ∧ v16 = .int .i64 (k : Int) ∧ Hid (Below w.heap.size w wr) ∧ Hid (wr.heap[w.heap.size]? = some (.cells #[.int .i64 0, .int .i64 0, .int .i64 0] 27)) ∧ Hid (wr.heap[w.heap.size + 1]? = some (.cells #[.int .i64 ((l.take k).foldl Wn.wstep a).1, .int .i64 ((l.take k).foldl Wn.wstep a).2.1, .int .i64 ((l.take k).foldl Wn.wstep a).2.2] 27))) (fun v16 _ => l.length - (intOf v16).toNat)
      case atStart => exact ⟨0, Nat.zero_le _, rfl, HB0, HR0, HG0⟩
      case round =>
        clear HB0 HR0 HG0 k0 k1 k2
        obtain ⟨k, hk, rfl, HB, HR, HG⟩ := hrel
        generalize hA : (l.take k).foldl Wn.wstep a = acc at *
        have HA := Lib.hid hA
        clear hA
        have hg := HG.out
        have g0 := cell_of_block (o := 0) hg
        have g1 := cell_of_block (o := 1) hg
        have g2 := cell_of_block (o := 2) hg
        have gf0 := frozen_blk hg 0
        have gf1 := frozen_blk hg 1
        have gf2 := frozen_blk hg 2
        have hgl := lt_of_block hg
        simp only [List.getElem?_toArray, List.getElem?_cons_zero, List.getElem?_cons_succ] at g0 g1 g2
        clear hg
        by_cases hkl : k < l.length
        · have hki : (k : Int) < (l.length : Int) := by omega
          obtain ⟨x, hx⟩ : ∃ x, l[k]? = some x := ⟨l[k], List.getElem?_eq_getElem hkl⟩
          obtain ⟨b', o', hbo, _, hbl', j0, j1, j2⟩ := wK.cells (HV.out.below HB.out) (i := k + 1) (x := x) (by simpa using hx)
          cases hbo
          have HX := Lib.hid hx
          clear hx
          rw [show o + (k + 1) * 3 = o + 3 + k * 3 by omega] at j0 j1 j2
          have hbn' : ¬ b = wr.heap.size := by omega
          have QL := Lib.hid (fun (V : World) => less_v acc x V)
          have HS : Hid ((l.take (k + 1)).foldl Wn.wstep a = Wn.wstep acc x) := Lib.hid (by rw [List.take_add_one, HX.out, Option.toList_some, List.foldl_append, HA.out]; rfl)
          have HW : Hid (Wn.wstep acc x = if Wn.wless acc x then x else acc) := Lib.hid rfl
          generalize Wn.wless acc x = t at *
          have hgn : ¬ w.heap.size + 1 = wr.heap.size := by omega
          have hb2 : Below wr.heap.size wr (wr.alloc (.cells #[.int .i64 x.1, .int .i64 x.2.1, .int .i64 x.2.2] 27)) := (Below.refl _ _).alloc (Nat.le_refl _) _
          have hxb := heap_alloc_new wr (.cells #[.int .i64 x.1, .int .i64 x.2.1, .int .i64 x.2.2] 27)
          have HB2 := Lib.hid (HB.out.trans (hb2.mono HB.out.size))
          have HR2 := Lib.hid (block_lat hb2 HR.out)
          have HG2 := Lib.hid (block_lat hb2 HG.out)
          have HX2 := Lib.hid hxb
          clear hb2 hxb HR HG
          go_wp2_with fail
          generalize wr.alloc (.cells #[.int .i64 x.1, .int .i64 x.2.1, .int .i64 x.2.2] 27) = W2 at *
          refine (QL.out W2).mono ?_
          rintro e w3 ⟨rfl, b3⟩
          have HB3 := Lib.hid (HB2.out.trans (b3.mono HB2.out.size))
          have HR3 := Lib.hid (block_lat b3 HR2.out)
          have hg3 := block_lat b3 HG2.out
          have hx3 := block_lat b3 HX2.out
          have x0 := cell_of_block (o := 0) hx3
          have x1 := cell_of_block (o := 1) hx3
          have x2 := cell_of_block (o := 2) hx3
          have y0 := cell_of_block (o := 0) hg3
          have y1 := cell_of_block (o := 1) hg3
          have y2 := cell_of_block (o := 2) hg3
          have yf0 := frozen_blk hg3 0
          have yf1 := frozen_blk hg3 1
          have yf2 := frozen_blk hg3 2
          simp only [List.getElem?_toArray, List.getElem?_cons_zero, List.getElem?_cons_succ] at x0 x1 x2 y0 y1 y2
          have HG3 := Lib.hid hg3
          clear hg3 hx3 b3 QL HB2 HR2 HG2 HX2 g0 g1 g2 gf0 gf1 gf2
          cases t
          · have HN : Hid (w3.heap[w.heap.size + 1]? = some (.cells #[.int .i64 ((l.take (k + 1)).foldl Wn.wstep a).1, .int .i64 ((l.take (k + 1)).foldl Wn.wstep a).2.1, .int .i64 ((l.take (k + 1)).foldl Wn.wstep a).2.2] 27)) := Lib.hid (by rw [HS.out, HW.out]; exact HG3.out)
            go_wp2_with fail
            exact ⟨⟨k + 1, by omega, by go_num, HB3, HR3, HN⟩, by simp [intOf]; omega⟩
          · have hn3 : ∀ j, j ≠ w.heap.size + 1 → (((w3.setCell ⟨w.heap.size + 1, 0, none⟩ (.int .i64 x.1)).setCell ⟨w.heap.size + 1, 1, none⟩ (.int .i64 x.2.1)).setCell ⟨w.heap.size + 1, 2, none⟩ (.int .i64 x.2.2)).heap[j]? = w3.heap[j]? := fun j hj => by rw [Below.heap_setCell _ _ _ _ hj, Below.heap_setCell _ _ _ _ hj, Below.heap_setCell _ _ _ _ hj]
            have HN : Hid ((((w3.setCell ⟨w.heap.size + 1, 0, none⟩ (.int .i64 x.1)).setCell ⟨w.heap.size + 1, 1, none⟩ (.int .i64 x.2.1)).setCell ⟨w.heap.size + 1, 2, none⟩ (.int .i64 x.2.2)).heap[w.heap.size + 1]? = some (.cells #[.int .i64 ((l.take (k + 1)).foldl Wn.wstep a).1, .int .i64 ((l.take (k + 1)).foldl Wn.wstep a).2.1, .int .i64 ((l.take (k + 1)).foldl Wn.wstep a).2.2] 27)) := Lib.hid (by
              have hh := HG3.out
              rw [HS.out, HW.out]
              simp [World.setCell, Array.getElem?_modify, hh])
            have HBN := Lib.hid (((HB3.out.setCell (p := ⟨w.heap.size + 1, 0, none⟩) (by show _ ≤ w.heap.size + 1; omega) (.int .i64 x.1)).setCell (p := ⟨w.heap.size + 1, 1, none⟩) (by show _ ≤ w.heap.size + 1; omega) (.int .i64 x.2.1)).setCell (p := ⟨w.heap.size + 1, 2, none⟩) (by show _ ≤ w.heap.size + 1; omega) (.int .i64 x.2.2))
            have HRN := Lib.hid ((hn3 w.heap.size (by omega)).trans HR3.out)
            clear hn3
            go_wp2_with fail
            exact ⟨⟨k + 1, by omega, by go_num, HBN, HRN, HN⟩, by simp [intOf]; omega⟩
        · have hkn : ¬ (k : Int) < (l.length : Int) := by omega
          have hr := HR.out
          have r0 := cell_of_block (o := 0) hr
          have r1 := cell_of_block (o := 1) hr
          have r2 := cell_of_block (o := 2) hr
          have rf0 := frozen_blk hr 0
          have rf1 := frozen_blk hr 1
          have rf2 := frozen_blk hr 2
          simp only [List.getElem?_toArray, List.getElem?_cons_zero, List.getElem?_cons_succ] at r0 r1 r2
          have HE : Hid (M = acc) := Lib.hid (by rw [HMX.out, ← HA.out, List.take_of_length_le (by omega)])
          have HB2 := HB
          clear hr
          go_wp2_with fail
          refine bodyPost_ret (v := .agg #[.int .i64 acc.1, .int .i64 acc.2.1, .int .i64 acc.2.2]) (by simp [results, Try.results15, go_sem, r0, r1, r2]) rfl ⟨by rw [HE.out], (by (repeat (first | with_reducible exact HB2.out | (with_reducible refine Below.drew ?_) | (with_reducible refine below_drewN' ?_ _) | ((with_reducible refine Below.setCell ?_ ?_ _); rotate_left; (focus (first | omega | (simp; done) | (simp; omega)))) | ((with_reducible refine Below.alloc ?_ ?_ _); rotate_left; (focus (first | omega | (simp; omega)))))))⟩
end Go.Proofs.Ytbjhiimjillleaa
set_option maxRecDepth 20000
namespace Wn
/-- one more of a kind: the count behind it, with what the selectors in it count to -/
def cnt1 (lo hi acc k kids : Int) : Int :=
  if k = 11 then Go.RowKit.wrap64 ((if lo ≤ k ∧ k ≤ hi then Go.RowKit.wrap64 (acc + 1) else acc) + kids) else if lo ≤ k ∧ k ≤ hi then Go.RowKit.wrap64 (acc + 1) else acc
def cntF (lo hi : Int) : Int → Ss → Int
  | acc, .nil => acc
  | acc, .cons k _ _ _ _ x r => cntF lo hi (cnt1 lo hi acc k (cntF lo hi 0 x)) r
end Wn
namespace Go.Proofs.Ytbjhiimjillleaa
open Go.RowKit Go.Sort
def CntSaid (lo hi : Int) (f : Wn.Ss) : Prop := ∀ (v : Value) (w : World), SsP w (fun _ => True) v f → Calls Try.prog 22 #[v, .int .i64 lo, .int .i64 hi] w fun e w' => e = .returned (.int .i64 (Wn.cntF lo hi 0 f)) ∧ w' = w
set_option maxRecDepth 100000 in
set_option maxHeartbeats 2000000 in
theorem count6_step (lo hi : Int) (f : Wn.Ss) (IH : ∀ x : Wn.Ss, x.size < f.size → CntSaid lo hi x) : CntSaid lo hi f := by
  intro v w hv
  have HIH := Lib.hid IH; clear IH
  have HV := Lib.hid hv
  obtain ⟨ao, cap, rfl, c1, c2⟩ := hv.form
  unfold maxLen at c2
  clear hv
  generalize hR : Wn.cntF lo hi 0 f = R
  have HR : Hid (Wn.cntF lo hi 0 (f.drop 0) = R) := Lib.hid (by rw [Wn.Ss.drop_zero]; exact hR)
  clear hR
  go_enter Try.func22, Try.ntmps22
  go_wp2_with fail
  go_loopw [7, 8] (fun v7 v8 wr => ∃ (i : Nat) (acc : Int), i ≤ f.len ∧ v7 = .int .i64 acc ∧ v8 = .int .i64 (i : Int) ∧ Hid (wr = w) ∧ Hid (Wn.cntF lo hi acc (f.drop i) = R)) (fun _ v8 _ => f.len - (intOf v8).toNat)
  case atStart => exact ⟨0, 0, by omega, rfl, rfl, Lib.hid rfl, HR⟩
  case round =>
    clear HR
    obtain ⟨i, acc, hil, rfl, rfl, HW, HE⟩ := hrel
    obtain rfl := HW.out
    clear HW
    by_cases hlt : i < f.len
    · obtain ⟨k, n, t, a, b, x, hd⟩ := Wn.Ss.drop_cons hlt
      obtain ⟨p, o, u, rfl, j0, j1, j2, j3, j4, j5, hu⟩ := HV.out.at hd
      have hsz := Wn.Ss.drop_lt hd
      have HE2 : Hid (Wn.cntF lo hi (Wn.cnt1 lo hi acc k (Wn.cntF lo hi 0 x)) (f.drop (i + 1)) = R) := Lib.hid (by rw [← HE.out, hd, Wn.cntF])
      obtain ⟨uo, uc, rfl, _, _⟩ := hu.form
      have CS := Lib.hid (HIH.out x hsz _ wr hu)
      generalize Wn.cntF lo hi 0 x = y at *
      generalize x.len = xl at *
      clear hu hd j1 j2 j3 j4 hsz HE
      have hi1 : (i : Int) < (f.len : Int) := by omega
      by_cases h1 : lo ≤ k
      · by_cases h2 : k ≤ hi
        · by_cases h3 : k = 11
          · have HC : Hid (Wn.cnt1 lo hi acc k y = wrap64 (wrap64 (acc + 1) + y)) := Lib.hid (by unfold Wn.cnt1; rw [if_pos h3, if_pos ⟨h1, h2⟩])
            have h3' : (k == 11) = true := beq_iff_eq.2 h3
            clear h3
            go_wp2_with fail
            refine CS.out.mono ?_
            rintro e w1 ⟨rfl, rfl⟩
            go_wp2_with fail
            exact ⟨⟨i + 1, _, by omega, rfl, by go_num, Lib.hid (by simp), Lib.hid (by rw [← HE2.out, HC.out]; try rfl)⟩, by simp [intOf]; try omega⟩
          · have HC : Hid (Wn.cnt1 lo hi acc k y = wrap64 (acc + 1)) := Lib.hid (by unfold Wn.cnt1; rw [if_neg h3, if_pos ⟨h1, h2⟩])
            have h3' : (k == 11) = false := beq_eq_false_iff_ne.2 h3
            clear h3
            go_wp2_with fail
            exact ⟨⟨i + 1, _, by omega, rfl, by go_num, Lib.hid (by simp), Lib.hid (by rw [← HE2.out, HC.out]; try rfl)⟩, by simp [intOf]; try omega⟩
        · by_cases h3 : k = 11
          · have HC : Hid (Wn.cnt1 lo hi acc k y = wrap64 (acc + y)) := Lib.hid (by unfold Wn.cnt1; rw [if_pos h3, if_neg (fun h => h2 h.2)])
            have h3' : (k == 11) = true := beq_iff_eq.2 h3
            clear h3
            go_wp2_with fail
            refine CS.out.mono ?_
            rintro e w1 ⟨rfl, rfl⟩
            go_wp2_with fail
            exact ⟨⟨i + 1, _, by omega, rfl, by go_num, Lib.hid (by simp), Lib.hid (by rw [← HE2.out, HC.out]; try rfl)⟩, by simp [intOf]; try omega⟩
          · have HC : Hid (Wn.cnt1 lo hi acc k y = acc) := Lib.hid (by unfold Wn.cnt1; rw [if_neg h3, if_neg (fun h => h2 h.2)])
            have h3' : (k == 11) = false := beq_eq_false_iff_ne.2 h3
            clear h3
            go_wp2_with fail
            exact ⟨⟨i + 1, _, by omega, rfl, by go_num, Lib.hid (by simp), Lib.hid (by rw [← HE2.out, HC.out]; try rfl)⟩, by simp [intOf]; try omega⟩
      · by_cases h3 : k = 11
        · have HC : Hid (Wn.cnt1 lo hi acc k y = wrap64 (acc + y)) := Lib.hid (by unfold Wn.cnt1; rw [if_pos h3, if_neg (fun h => h1 h.1)])
          have h3' : (k == 11) = true := beq_iff_eq.2 h3
          clear h3
          go_wp2_with fail
          refine CS.out.mono ?_
          rintro e w1 ⟨rfl, rfl⟩
          go_wp2_with fail
          exact ⟨⟨i + 1, _, by omega, rfl, by go_num, Lib.hid (by simp), Lib.hid (by rw [← HE2.out, HC.out]; try rfl)⟩, by simp [intOf]; try omega⟩
        · have HC : Hid (Wn.cnt1 lo hi acc k y = acc) := Lib.hid (by unfold Wn.cnt1; rw [if_neg h3, if_neg (fun h => h1 h.1)])
          have h3' : (k == 11) = false := beq_eq_false_iff_ne.2 h3
          clear h3
          go_wp2_with fail
          exact ⟨⟨i + 1, _, by omega, rfl, by go_num, Lib.hid (by simp), Lib.hid (by rw [← HE2.out, HC.out]; try rfl)⟩, by simp [intOf]; try omega⟩
    · have HE2 : Hid (R = acc) := Lib.hid (by rw [← HE.out, Wn.Ss.drop_len (by omega)]; rfl)
      have hni : ¬ (i : Int) < (f.len : Int) := by omega
      clear HE
      go_wp2_with fail
      go_ret
      exact ⟨by rw [HE2.out]; rfl, rfl⟩
theorem count6_all (lo hi : Int) : ∀ (n : Nat) (f : Wn.Ss), f.size < n → CntSaid lo hi f
  | 0, f, h => by omega
  | n + 1, f, h => count6_step lo hi f fun g hg => count6_all lo hi n g (by omega)
end Go.Proofs.Ytbjhiimjillleaa
set_option maxRecDepth 20000
namespace Wn
open Go.RowKit
theorem w64_w (n : Int) : wrap64 (wrap64 n) = wrap64 n := by unfold wrap64; omega
theorem w64_l (a b : Int) : wrap64 (wrap64 a + b) = wrap64 (a + b) := by unfold wrap64; omega
theorem w64_r (a b : Int) : wrap64 (a + wrap64 b) = wrap64 (a + b) := by unfold wrap64; omega
/-- how many simples are of some kinds, those within a not, too -/
def nOf (lo hi : Int) : Ss → Int
  | .nil => 0
  | .cons k _ _ _ _ x r => ((if lo ≤ k ∧ k ≤ hi then 1 else 0) + if k = 11 then nOf lo hi x else 0) + nOf lo hi r
theorem cnt1_eq (lo hi acc k n : Int) (h : wrap64 acc = acc) : cnt1 lo hi acc k (wrap64 n) = wrap64 (acc + ((if lo ≤ k ∧ k ≤ hi then 1 else 0) + if k = 11 then n else 0)) := by
  unfold cnt1
  by_cases h1 : k = 11
  · rw [if_pos h1, if_pos h1]
    by_cases h2 : lo ≤ k ∧ k ≤ hi
    · rw [if_pos h2, if_pos h2, w64_l, w64_r]; congr 1; omega
    · rw [if_neg h2, if_neg h2, w64_r]; congr 1; omega
  · rw [if_neg h1, if_neg h1]
    by_cases h2 : lo ≤ k ∧ k ≤ hi
    · rw [if_pos h2, if_pos h2]; congr 1
    · rw [if_neg h2, if_neg h2]; simpa using h.symm
theorem cntF_eq (lo hi : Int) : ∀ (f : Ss) (acc : Int), wrap64 acc = acc → cntF lo hi acc f = wrap64 (acc + nOf lo hi f)
  | .nil, acc, h => by simpa [cntF, nOf] using h.symm
  | .cons k n v a b x r, acc, h => by
    rw [cntF, nOf, cntF_eq lo hi x 0 (by unfold wrap64; omega), cnt1_eq lo hi acc k _ h, cntF_eq lo hi r _ (w64_w _), w64_l]
    congr 1
    omega
/-- one simple more, as the program weighs it; y: what the selectors in it would make of the weight -/
def wc1 (g : W3) (k : Int) (y : W3) : W3 :=
  if k = 3 then (wrap64 (g.1 + 1), g.2.1, g.2.2) else if 4 ≤ k ∧ k ≤ 10 then (g.1, wrap64 (g.2.1 + 1), g.2.2) else if k = 2 then (g.1, g.2.1, wrap64 (g.2.2 + 1)) else if k = 11 then y else g
def wcF : W3 → Ss → W3
  | g, .nil => g
  | g, .cons k _ _ _ _ x r => wcF (wc1 g k (wcF g x)) r
def wGood (g : W3) : Prop := wrap64 g.1 = g.1 ∧ wrap64 g.2.1 = g.2.1 ∧ wrap64 g.2.2 = g.2.2
def wAdd (g : W3) (f : Ss) : W3 := (wrap64 (g.1 + nOf 3 3 f), wrap64 (g.2.1 + nOf 4 10 f), wrap64 (g.2.2 + nOf 2 2 f))
theorem wAdd_good (g : W3) (f : Ss) : wGood (wAdd g f) := ⟨w64_w _, w64_w _, w64_w _⟩
theorem wcF_eq : ∀ (f : Ss) (g : W3), wGood g → wcF g f = wAdd g f
  | .nil, g, h => by
    obtain ⟨h1, h2, h3⟩ := h
    simp only [wcF, wAdd, nOf, Int.add_zero, h1, h2, h3]
  | .cons k n v a b x r, g, h => by
    obtain ⟨h1, h2, h3⟩ := h
    have e : wc1 g k (wAdd g x) = (wrap64 (g.1 + ((if 3 ≤ k ∧ k ≤ 3 then 1 else 0) + if k = 11 then nOf 3 3 x else 0)), wrap64 (g.2.1 + ((if 4 ≤ k ∧ k ≤ 10 then 1 else 0) + if k = 11 then nOf 4 10 x else 0)), wrap64 (g.2.2 + ((if 2 ≤ k ∧ k ≤ 2 then 1 else 0) + if k = 11 then nOf 2 2 x else 0))) := by
      unfold wc1 wAdd
      by_cases k3 : k = 3
      · subst k3; simp [h2, h3]
      · rw [if_neg k3, if_neg (show ¬ (3 ≤ k ∧ k ≤ 3) by omega)]
        by_cases k4 : 4 ≤ k ∧ k ≤ 10
        · rw [if_pos k4, if_pos k4, if_neg (show ¬ k = 11 by omega), if_neg (show ¬ (2 ≤ k ∧ k ≤ 2) by omega)]
          simp only [show ¬ k = 11 by omega, if_false, Int.add_zero, h1, h3]
        · rw [if_neg k4, if_neg k4]
          by_cases k2 : k = 2
          · subst k2; simp [h1, h2]
          · rw [if_neg k2, if_neg (show ¬ (2 ≤ k ∧ k ≤ 2) by omega)]
            by_cases k11 : k = 11
            · simp only [if_pos k11, Int.zero_add]
            · simp only [if_neg k11, Int.add_zero, h1, h2, h3]
    rw [wcF, wcF_eq x g ⟨h1, h2, h3⟩, e, wcF_eq r _ ⟨w64_w _, w64_w _, w64_w _⟩]
    unfold wAdd
    simp only [nOf, w64_l, Int.add_assoc]
end Wn
set_option maxRecDepth 20000
namespace Wn
def ofStep (g : W3) (p : Int × List Sm) : W3 := (Go.RowKit.wrap64 (g.1 + cntF 3 3 0 (Ss.ofL p.2)), Go.RowKit.wrap64 (g.2.1 + cntF 4 10 0 (Ss.ofL p.2)), Go.RowKit.wrap64 (g.2.2 + cntF 2 2 0 (Ss.ofL p.2)))
def ofP (l : List (Int × List Sm)) : W3 := l.foldl ofStep (0, 0, 0)
def ofEnd (p : List UInt8) (g : W3) : W3 := if p = [] then g else (g.1, g.2.1, Go.RowKit.wrap64 (g.2.2 + 1))
def ofC (c : Cx) : W3 := ofEnd c.2 (ofP c.1)
theorem ofP_step {l : List (Int × List Sm)} {k : Nat} {x : Int × List Sm} (h : l[k]? = some x) : ofP (l.take (k + 1)) = ofStep (ofP (l.take k)) x := by
  unfold ofP
  rw [List.take_add_one, h, Option.toList_some, List.foldl_append]
  rfl
end Wn
namespace Go.Proofs.Ytbjhiimjillleaa
open Go.RowKit Go.Sort
theorem pt_at' {w : World} {ok : Nat → Prop} {ao : Option Addr} {n cap : Nat} {l : List (Int × List Wn.Sm)} (h : ptK.P w ok (.slice ao n cap) l) {i : Nat} {x : Int × List Wn.Sm} (hi : l[i]? = some x) :
    ∃ b o po pc, ao = some ⟨b, o, none⟩ ∧ b < w.heap.size ∧ smK.P w ok (.slice po x.2.length pc) x.2 ∧ w.cell? ⟨b, o + i * 2 + 1, none⟩ = some (.slice po x.2.length pc) := by
  obtain ⟨b, o, cs, rfl, _, hl, hR, hL⟩ := h.at hi
  obtain ⟨u, rfl, hu⟩ := hR
  obtain ⟨po, pc, rfl, _, _⟩ := hu.form
  exact ⟨b, o, po, pc, rfl, hl, hu, hL 1 _ rfl⟩
abbrev w3b (g : Wn.W3) (t : Nat) : Obj := .cells #[.int .i64 g.1, .int .i64 g.2.1, .int .i64 g.2.2] t
/-- what the loop keeps: the selector that it got, the result's block, the block that it counts in -/
structure OfI (w W : World) (u y : Value) (g : Wn.W3) : Prop where
  bel : Below w.heap.size w W
  s : W.heap[w.heap.size]? = some (.cells #[u, y] 31)
  r : W.heap[w.heap.size + 1]? = some (w3b (0, 0, 0) 24)
  g : W.heap[w.heap.size + 1 + 1]? = some (w3b g 24)
theorem OfI.set0 {w W : World} {u y : Value} {g : Wn.W3} (h : OfI w W u y g) (z : Int) : OfI w (W.setCell ⟨w.heap.size + 1 + 1, 0, none⟩ (.int .i64 z)).drew u y (z, g.2.1, g.2.2) :=
  ⟨(h.bel.setCell (p := ⟨w.heap.size + 1 + 1, 0, none⟩) (by show _ ≤ w.heap.size + 1 + 1; omega) _).drew, (Below.heap_setCell _ _ _ _ (by show _ ≠ w.heap.size + 1 + 1; omega)).trans h.s, (Below.heap_setCell _ _ _ _ (by show _ ≠ w.heap.size + 1 + 1; omega)).trans h.r, by
    have hh := h.g
    show (W.setCell _ _).heap[w.heap.size + 1 + 1]? = _
    simp [World.setCell, Array.getElem?_modify, hh]⟩
theorem OfI.set1 {w W : World} {u y : Value} {g : Wn.W3} (h : OfI w W u y g) (z : Int) : OfI w (W.setCell ⟨w.heap.size + 1 + 1, 1, none⟩ (.int .i64 z)).drew u y (g.1, z, g.2.2) :=
  ⟨(h.bel.setCell (p := ⟨w.heap.size + 1 + 1, 1, none⟩) (by show _ ≤ w.heap.size + 1 + 1; omega) _).drew, (Below.heap_setCell _ _ _ _ (by show _ ≠ w.heap.size + 1 + 1; omega)).trans h.s, (Below.heap_setCell _ _ _ _ (by show _ ≠ w.heap.size + 1 + 1; omega)).trans h.r, by
    have hh := h.g
    show (W.setCell _ _).heap[w.heap.size + 1 + 1]? = _
    simp [World.setCell, Array.getElem?_modify, hh]⟩
theorem OfI.set2 {w W : World} {u y : Value} {g : Wn.W3} (h : OfI w W u y g) (z : Int) : OfI w (W.setCell ⟨w.heap.size + 1 + 1, 2, none⟩ (.int .i64 z)).drew u y (g.1, g.2.1, z) :=
  ⟨(h.bel.setCell (p := ⟨w.heap.size + 1 + 1, 2, none⟩) (by show _ ≤ w.heap.size + 1 + 1; omega) _).drew, (Below.heap_setCell _ _ _ _ (by show _ ≠ w.heap.size + 1 + 1; omega)).trans h.s, (Below.heap_setCell _ _ _ _ (by show _ ≠ w.heap.size + 1 + 1; omega)).trans h.r, by
    have hh := h.g
    show (W.setCell _ _).heap[w.heap.size + 1 + 1]? = _
    simp [World.setCell, Array.getElem?_modify, hh]⟩
set_option maxRecDepth 100000 in
set_option maxHeartbeats 2000000 in
theorem rOf6_v (c : Wn.Cx) (so : Option Addr) (sc : Nat) (w : World) (hv : ptK.P w (fun b => b < w.heap.size) (.slice so c.1.length sc) c.1) :
    Calls Try.prog 12 #[.agg #[.slice so c.1.length sc, .string (Wn.str c.2)]] w fun e w' => e = .returned (.agg #[.int .i64 (Wn.ofC c).1, .int .i64 (Wn.ofC c).2.1, .int .i64 (Wn.ofC c).2.2]) ∧ Below w.heap.size w w' := by
  obtain ⟨l, q⟩ := c
  dsimp only at hv ⊢
  obtain ⟨ao, cap, he, hc1, hc2⟩ := hv.form
  simp only [Value.slice.injEq, true_and] at he
  obtain ⟨rfl, rfl⟩ := he
  unfold maxLen at hc2
  have HV := Lib.hid hv
  clear hv
  have HMX : Hid (Wn.ofC (l, q) = Wn.ofEnd q (Wn.ofP (l.take l.length))) := Lib.hid (by rw [List.take_length]; rfl)
  generalize Wn.ofC (l, q) = M at *
  have hq := str_list q
  generalize Wn.str q = y at *
  subst hq
  have e0 : w.heap.size + 2 = ((w.alloc (.cells #[.slice so l.length sc, .string y] 31)).alloc (w3b (0, 0, 0) 24)).heap.size := by simp
  have HB0 : Hid (Below w.heap.size w (((w.alloc (.cells #[.slice so l.length sc, .string y] 31)).alloc (w3b (0, 0, 0) 24)).alloc (w3b (0, 0, 0) 24))) := Lib.hid ((((Below.refl _ _).alloc (Nat.le_refl _) _).alloc (by simp) _).alloc (by simp; omega) _)
  have HS0 : Hid ((((w.alloc (.cells #[.slice so l.length sc, .string y] 31)).alloc (w3b (0, 0, 0) 24)).alloc (w3b (0, 0, 0) 24)).heap[w.heap.size]? = some (.cells #[.slice so l.length sc, .string y] 31)) := Lib.hid (block_alloc (block_alloc (heap_alloc_new w _) _) _)
  have HR0 : Hid ((((w.alloc (.cells #[.slice so l.length sc, .string y] 31)).alloc (w3b (0, 0, 0) 24)).alloc (w3b (0, 0, 0) 24)).heap[w.heap.size + 1]? = some (w3b (0, 0, 0) 24)) := Lib.hid (by
    have := heap_alloc_new (w.alloc (.cells #[.slice so l.length sc, .string y] 31)) (w3b (0, 0, 0) 24)
    rw [show (w.alloc (.cells #[.slice so l.length sc, .string y] 31)).heap.size = w.heap.size + 1 by simp] at this
    exact block_alloc this _)
  have HG0 : Hid ((((w.alloc (.cells #[.slice so l.length sc, .string y] 31)).alloc (w3b (0, 0, 0) 24)).alloc (w3b (0, 0, 0) 24)).heap[w.heap.size + 2]? = some (w3b (Wn.ofP (l.take 0)) 24)) := Lib.hid (by
    have := heap_alloc_new ((w.alloc (.cells #[.slice so l.length sc, .string y] 31)).alloc (w3b (0, 0, 0) 24)) (w3b (0, 0, 0) 24)
    rw [← e0] at this
    exact this)
  clear e0
  go_enter Try.func12, Try.ntmps12
  go_wp2_with fail
  generalize ((w.alloc (.cells #[.slice so l.length sc, .string y] 31)).alloc (w3b (0, 0, 0) 24)).alloc (w3b (0, 0, 0) 24) = W0 at *
  go_loopw [4, 5] (fun v4 _ wr => ∃ k : Nat, k ≤ l.length ∧ v4 = .int .i64 (k : Int) ∧ Hid (Below w.heap.size w wr) ∧ Hid (wr.heap[w.heap.size]? = some (.cells #[.slice so l.length sc, .string y] 31)) ∧ Hid (wr.heap[w.heap.size + 1]? = some (w3b (0, 0, 0) 24)) ∧ Hid (wr.heap[w.heap.size + 2]? = some (w3b (Wn.ofP (l.take k)) 24))) (fun v4 _ _ => l.length - (intOf v4).toNat)
  case atStart => exact ⟨0, Nat.zero_le _, rfl, HB0, HS0, HR0, HG0⟩
  case round =>
    clear HB0 HS0 HR0 HG0
    obtain ⟨k, hk, rfl, HB, HS, HR, HG⟩ := hrel
    have hs := HS.out
    have s0 := cell_of_block (o := 0) hs
    have s1 := cell_of_block (o := 1) hs
    simp only [List.getElem?_toArray, List.getElem?_cons_zero, List.getElem?_cons_succ] at s0 s1
    have hsl := lt_of_block hs
    have hgl := lt_of_block HG.out
    clear hs
    by_cases hkl : k < l.length
    · have hki : (k : Int) < (l.length : Int) := by omega
      obtain ⟨x, hx⟩ : ∃ x, l[k]? = some x := ⟨l[k], List.getElem?_eq_getElem hkl⟩
      have HST := Lib.hid (Wn.ofP_step hx)
      obtain ⟨b, o, po, pc, rfl, hb, hsm, j1⟩ := pt_at' HV.out hx
      have j1' := j1
      clear j1
      have hcc : ∀ lo hi (V : World), Below w.heap.size w V → Calls Try.prog 22 #[.slice po x.2.length pc, .int .i64 lo, .int .i64 hi] V fun e w' => e = .returned (.int .i64 (Wn.cntF lo hi 0 (Wn.Ss.ofL x.2))) ∧ w' = V := fun lo hi V hV => count6_all lo hi _ _ (Nat.lt_succ_self _) _ V (SsP.k.2 (by rw [Wn.Ss.toL_ofL]; exact RK.P.any (hsm.below hV)))
      have Q1 := Lib.hid (hcc 3 3)
      have Q2 := Lib.hid (hcc 4 10)
      have Q3 := Lib.hid (hcc 2 2)
      clear hcc hx
      generalize hA : Wn.ofP (l.take k) = acc at *
      have HA := Lib.hid hA
      clear hA
      unfold Wn.ofStep at HST
      generalize Wn.cntF 3 3 0 (Wn.Ss.ofL x.2) = y1 at *
      generalize Wn.cntF 4 10 0 (Wn.Ss.ofL x.2) = y2 at *
      generalize Wn.cntF 2 2 0 (Wn.Ss.ofL x.2) = y3 at *
      generalize x.2.length = xl at *
      generalize hN : Wn.ofP (l.take (k + 1)) = nxt at *
      have HN := Lib.hid hN
      clear hN
      have HI : Hid (OfI w wr (.slice (some ⟨b, o, none⟩) l.length sc) (.string y) acc) := Lib.hid ⟨HB.out, HS.out, HR.out, HG.out⟩
      clear HB HS HR HG s0 s1 hsl hgl
      obtain ⟨HJ⟩ : Nonempty (Hid (∀ W, Below w.heap.size w W → W.cell? ⟨b, o + k * 2 + 1, none⟩ = some (.slice po xl pc))) := ⟨Lib.hid (fun W hW => (hW.cell hb).trans j1')⟩
      clear j1'
      have hs := HI.out.s
      have s0 := cell_of_block (o := 0) hs
      have s1 := cell_of_block (o := 1) hs
      have hg := HI.out.g
      have g0 := cell_of_block (o := 0) hg
      have g1 := cell_of_block (o := 1) hg
      have g2 := cell_of_block (o := 2) hg
      have gf0 := frozen_blk hg 0
      have gf1 := frozen_blk hg 1
      have gf2 := frozen_blk hg 2
      have hgl := lt_of_block hg
      have hsl := lt_of_block hs
      simp only [List.getElem?_toArray, List.getElem?_cons_zero, List.getElem?_cons_succ] at s0 s1 g0 g1 g2
      clear hs hg
      have j1 := HJ.out _ HI.out.bel
      go_wp2_with fail
      go_region_with (first | (go_at_call 22; (refine (Q1.out _ ?_).mono ?_); exact HI.out.bel.drew; rintro e w1 ⟨rfl, rfl⟩))
      all_goals
        have HI1 := Lib.hid (HI.out.set0 (IntKind.i64.wrap (acc.1 + y1)))
        clear s0 s1 hsl hgl g0 g1 g2 gf0 gf1 gf2 HI Q1
        generalize (wr.setCell ⟨w.heap.size + 1 + 1, 0, none⟩ (.int .i64 (IntKind.i64.wrap (acc.1 + y1)))).drew = W1 at *
        have hs := HI1.out.s
        have s0 := cell_of_block (o := 0) hs
        have s1 := cell_of_block (o := 1) hs
        have hg := HI1.out.g
        have g0 := cell_of_block (o := 0) hg
        have g1 := cell_of_block (o := 1) hg
        have g2 := cell_of_block (o := 2) hg
        have gf0 := frozen_blk hg 0
        have gf1 := frozen_blk hg 1
        have gf2 := frozen_blk hg 2
        have hgl := lt_of_block hg
        have hsl := lt_of_block hs
        simp only [List.getElem?_toArray, List.getElem?_cons_zero, List.getElem?_cons_succ] at s0 s1 g0 g1 g2
        clear hs hg
        go_wp2_with fail
        go_region_with (first | (go_at_call 22; (refine (Q2.out _ ?_).mono ?_); exact HI1.out.bel.drew; rintro e w1 ⟨rfl, rfl⟩))
      all_goals
        have HI2 := Lib.hid (HI1.out.set1 (IntKind.i64.wrap (acc.2.1 + y2)))
        clear s0 s1 hsl hgl g0 g1 g2 gf0 gf1 gf2 HI1 Q2
        generalize (W1.setCell ⟨w.heap.size + 1 + 1, 1, none⟩ (.int .i64 (IntKind.i64.wrap (acc.2.1 + y2)))).drew = W2 at *
        have hs := HI2.out.s
        have s0 := cell_of_block (o := 0) hs
        have s1 := cell_of_block (o := 1) hs
        have hg := HI2.out.g
        have g0 := cell_of_block (o := 0) hg
        have g1 := cell_of_block (o := 1) hg
        have g2 := cell_of_block (o := 2) hg
        have gf0 := frozen_blk hg 0
        have gf1 := frozen_blk hg 1
        have gf2 := frozen_blk hg 2
        have hgl := lt_of_block hg
        have hsl := lt_of_block hs
        simp only [List.getElem?_toArray, List.getElem?_cons_zero, List.getElem?_cons_succ] at s0 s1 g0 g1 g2
        clear hs hg
        go_wp2_with fail
        go_region_with (first | (go_at_call 22; (refine (Q3.out _ ?_).mono ?_); exact HI2.out.bel.drew; rintro e w1 ⟨rfl, rfl⟩))
      all_goals
        have HI3 := Lib.hid (HI2.out.set2 (IntKind.i64.wrap (acc.2.2 + y3)))
        clear s0 s1 hsl hgl g0 g1 g2 gf0 gf1 gf2 HI2 Q3
        generalize (W2.setCell ⟨w.heap.size + 1 + 1, 2, none⟩ (.int .i64 (IntKind.i64.wrap (acc.2.2 + y3)))).drew = W3 at *
        have HG : Hid (W3.heap[w.heap.size + 2]? = some (w3b (Wn.ofP (l.take (k + 1))) 24)) := Lib.hid (by rw [HN.out, HST.out]; simp only [← IntWalk.i64_left]; exact HI3.out.g)
        go_wp2_with fail
        exact ⟨⟨k + 1, by omega, by go_num, Lib.hid HI3.out.bel, Lib.hid HI3.out.s, Lib.hid HI3.out.r, HG⟩, by simp [intOf]; try omega⟩
    · have hkn : ¬ (k : Int) < (l.length : Int) := by omega
      have HE : Hid (M = Wn.ofEnd y.toList (Wn.ofP (l.take k))) := Lib.hid (by rw [HMX.out, show k = l.length by omega])
      have HI : Hid (OfI w wr (.slice so l.length sc) (.string y) (Wn.ofP (l.take k))) := Lib.hid ⟨HB.out, HS.out, HR.out, HG.out⟩
      clear HB HS HR HG s0 s1 hsl hgl
      generalize Wn.ofP (l.take k) = acc at *
      have hs := HI.out.s
      have s0 := cell_of_block (o := 0) hs
      have s1 := cell_of_block (o := 1) hs
      have hg := HI.out.g
      have g0 := cell_of_block (o := 0) hg
      have g1 := cell_of_block (o := 1) hg
      have g2 := cell_of_block (o := 2) hg
      have gf0 := frozen_blk hg 0
      have gf1 := frozen_blk hg 1
      have gf2 := frozen_blk hg 2
      have hgl := lt_of_block hg
      have hsl := lt_of_block hs
      simp only [List.getElem?_toArray, List.getElem?_cons_zero, List.getElem?_cons_succ] at s0 s1 g0 g1 g2
      clear hs hg
      have hr := HI.out.r
      have r0 := cell_of_block (o := 0) hr
      have r1 := cell_of_block (o := 1) hr
      have r2 := cell_of_block (o := 2) hr
      have rf0 := frozen_blk hr 0
      have rf1 := frozen_blk hr 1
      have rf2 := frozen_blk hr 2
      simp only [List.getElem?_toArray, List.getElem?_cons_zero, List.getElem?_cons_succ] at r0 r1 r2
      clear hr
      have HB2 := Lib.hid HI.out.bel
      cases hy : (y.toList == [])
      · have HE2 : Hid (M = (acc.1, acc.2.1, wrap64 (acc.2.2 + 1))) := Lib.hid (by rw [HE.out]; unfold Wn.ofEnd; exact if_neg (by simpa using hy))
        go_wp2_with fail
        refine bodyPost_ret (v := .agg #[.int .i64 acc.1, .int .i64 acc.2.1, .int .i64 (wrap64 (acc.2.2 + 1))]) (by simp [results, Try.results12, go_sem, r0, r1, r2]) rfl ⟨by rw [HE2.out], (by (repeat (first | with_reducible exact HB2.out | (with_reducible refine Below.drew ?_) | (with_reducible refine below_drewN' ?_ _) | ((with_reducible refine Below.setCell ?_ ?_ _); rotate_left; (focus (first | omega | (simp; done) | (simp; omega)))) | ((with_reducible refine Below.alloc ?_ ?_ _); rotate_left; (focus (first | omega | (simp; omega)))))))⟩
      · have HE2 : Hid (M = acc) := Lib.hid (by rw [HE.out]; unfold Wn.ofEnd; exact if_pos (by simpa using hy))
        go_wp2_with fail
        refine bodyPost_ret (v := .agg #[.int .i64 acc.1, .int .i64 acc.2.1, .int .i64 acc.2.2]) (by simp [results, Try.results12, go_sem, r0, r1, r2]) rfl ⟨by rw [HE2.out], (by (repeat (first | with_reducible exact HB2.out | (with_reducible refine Below.drew ?_) | (with_reducible refine below_drewN' ?_ _) | ((with_reducible refine Below.setCell ?_ ?_ _); rotate_left; (focus (first | omega | (simp; done) | (simp; omega)))) | ((with_reducible refine Below.alloc ?_ ?_ _); rotate_left; (focus (first | omega | (simp; omega)))))))⟩
end Go.Proofs.Ytbjhiimjillleaa
