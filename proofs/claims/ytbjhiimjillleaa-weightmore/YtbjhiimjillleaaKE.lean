/- Weights are ordered: what the sixth layer's laws say of less and of the greatest. What the verifier's own weights answer: is one less than another one, and its nth. What the verifier's own weights answer: the greatest one. Arguments of a row that are weights, or lists of weights: what the reading of a row's argument says of the memory. -/
import Derived.Test.YtbjhiimjillleaaKA
import Derived.Test.YtbjhiimjillleaaGR
import Derived.OpenShut
set_option maxRecDepth 20000
namespace Wn
theorem wless_iff {a b : W3} : wless a b = true ↔ a.1 < b.1 ∨ (a.1 = b.1 ∧ (a.2.1 < b.2.1 ∨ (a.2.1 = b.2.1 ∧ a.2.2 < b.2.2))) := by
  unfold wless
  simp only [Bool.or_eq_true, Bool.and_eq_true, decide_eq_true_eq]
theorem w3_ext {a b : W3} (h1 : a.1 = b.1) (h2 : a.2.1 = b.2.1) (h3 : a.2.2 = b.2.2) : a = b := by
  obtain ⟨a1, a2, a3⟩ := a
  obtain ⟨b1, b2, b3⟩ := b
  simp only at h1 h2 h3
  rw [h1, h2, h3]
theorem wless_irr (a : W3) : wless a a = false := by
  rw [Bool.eq_false_iff, Ne, wless_iff]; omega
theorem wless_asym {a b : W3} (h : wless a b = true) : wless b a = false := by
  rw [wless_iff] at h
  rw [Bool.eq_false_iff, Ne, wless_iff]; omega
theorem wless_trans {a b c : W3} (h1 : wless a b = true) (h2 : wless b c = true) : wless a c = true := by
  rw [wless_iff] at h1 h2 ⊢; omega
theorem wless_total {a b : W3} (h1 : wless a b = false) (h2 : wless b a = false) : a = b := by
  rw [Bool.eq_false_iff, Ne, wless_iff] at h1 h2
  exact w3_ext (by omega) (by omega) (by omega)
/-- the greatest of a list: one of them, and less than none -/
def IsMax (m : W3) (l : List W3) : Prop := m ∈ l ∧ ∀ x ∈ l, wless m x = false
theorem wstep_max {m x : W3} {l : List W3} (h : IsMax m l) : IsMax (wstep m x) (l ++ [x]) := by
  unfold wstep
  cases hx : wless m x
  · rw [if_neg (by simp)]
    refine ⟨by simp [h.1], fun y hy => ?_⟩
    rcases List.mem_append.1 hy with hy | hy
    · exact h.2 y hy
    · rw [List.mem_singleton.1 hy]; exact hx
  · rw [if_pos rfl]
    refine ⟨by simp, fun y hy => ?_⟩
    rcases List.mem_append.1 hy with hy | hy
    · cases hxy : wless x y
      · rfl
      · have := h.2 y hy
        rw [wless_trans hx hxy] at this
        cases this
    · rw [List.mem_singleton.1 hy]; exact wless_irr x
theorem fold_max : ∀ {l k : List W3} {m : W3}, IsMax m k → IsMax (l.foldl wstep m) (k ++ l)
  | [], k, m, h => by simpa using h
  | x :: l, k, m, h => by
    rw [List.foldl_cons, show k ++ x :: l = (k ++ [x]) ++ l by simp]
    exact fold_max (wstep_max h)
theorem wmax_is {l : List W3} (h : l ≠ []) : IsMax (wmax l) l := by
  cases l with
  | nil => exact absurd rfl h
  | cons a l =>
    have := fold_max (l := l) (k := [a]) (m := a) ⟨by simp, fun y hy => by rw [List.mem_singleton.1 hy]; exact wless_irr a⟩
    exact this
theorem IsMax.uniq {m m' : W3} {l l' : List W3} (h : IsMax m l) (h' : IsMax m' l') (hl : ∀ x, x ∈ l ↔ x ∈ l') : m = m' :=
  wless_total (h.2 _ ((hl _).2 h'.1)) (h'.2 _ ((hl _).1 h.1))
/-- are two weights the same, number by number -/
def weq (a b : W3) : Bool := a.1 == b.1 && (a.2.1 == b.2.1 && a.2.2 == b.2.2)
theorem weq_iff {a b : W3} : weq a b = true ↔ a = b := by
  unfold weq
  simp only [Bool.and_eq_true, beq_iff_eq]
  exact ⟨fun ⟨h1, h2, h3⟩ => w3_ext h1 h2 h3, fun h => by subst h; exact ⟨rfl, rfl, rfl⟩⟩
theorem weq_less (a b : W3) : weq a b = !(wless a b || wless b a) := by
  cases h1 : wless a b
  · cases h2 : wless b a
    · rw [wless_total h1 h2]; simp [weq_iff]
    · have : ¬ a = b := by rintro rfl; rw [wless_irr] at h2; cases h2
      rw [← weq_iff] at this; simpa using this
  · have : ¬ a = b := by rintro rfl; rw [wless_irr] at h1; cases h1
    rw [← weq_iff] at this; simpa using this
end Wn
namespace Wn
theorem wle_trans {a b c : W3} (h1 : wless a b = false) (h2 : wless b c = false) : wless a c = false := by
  rw [Bool.eq_false_iff, Ne, wless_iff] at *; omega
theorem wmax_two {a b : List W3} (ha : a ≠ []) (hb : b ≠ []) : wmax (a ++ b) = wmax [wmax a, wmax b] := by
  have h1 := wmax_is ha
  have h2 := wmax_is hb
  have h3 := wmax_is (l := [wmax a, wmax b]) (by simp)
  refine IsMax.uniq (l := a ++ b) (l' := a ++ b) (wmax_is (by simp [ha])) ⟨?_, fun x hx => ?_⟩ (fun _ => Iff.rfl)
  · have := h3.1
    simp only [List.mem_cons, List.not_mem_nil, or_false] at this
    rcases this with e | e
    · rw [e]; exact List.mem_append.2 (.inl h1.1)
    · rw [e]; exact List.mem_append.2 (.inr h2.1)
  · rcases List.mem_append.1 hx with hx | hx
    · exact wle_trans (h3.2 _ (by simp)) (h1.2 x hx)
    · exact wle_trans (h3.2 _ (by simp)) (h2.2 x hx)
theorem any_mem {l : List W3} {m : W3} (h : m ∈ l) : (l.any fun x => weq x m) = true := by
  rw [List.any_eq_true]; exact ⟨m, h, weq_iff.2 rfl⟩
theorem any_step {l : List W3} {m x : W3} {k : Nat} (h : l[k]? = some x) : ((l.take (k + 1)).any fun x => weq x m) = (((l.take k).any fun x => weq x m) || weq x m) := by
  rw [List.take_add_one, h, Option.toList_some, List.any_append]; simp
end Wn
set_option maxRecDepth 20000
namespace Wn
/-- is a place one of an nth? as the verifier's own reader reckons it -/
def rnth6 (a b i : Int) : Bool := opr a && opr b && opr i && (if a = 0 ∨ i = b then decide (i = b) else if a < 0 then decide (i < b) && decide ((b - i).tmod (-a) = 0) else decide (b < i) && decide ((i - b).tmod a = 0))
theorem quo_sign {x a : Int} (ha : 0 < a) (hm : x.tmod a = 0) (hx : x ≠ 0) : 0 ≤ x.tdiv a ↔ 0 < x := by
  have h := Int.mul_tdiv_add_tmod x a
  rw [hm, Int.add_zero] at h
  generalize x.tdiv a = q at *
  constructor
  · intro hq
    have := Int.mul_nonneg (Int.le_of_lt ha) hq
    omega
  · intro hx0
    have hc : 0 ≤ q ∨ q < 0 := by omega
    rcases hc with hc | hc
    · exact hc
    · have := Int.mul_neg_of_pos_of_neg ha hc
      omega
theorem rnth6_eq (a b i : Int) : rnth6 a b i = wnth a b i := by
  unfold rnth6 wnth
  congr 1
  by_cases ha : a = 0
  · rw [if_pos (Or.inl ha), if_pos ha]
  · rw [if_neg ha]
    by_cases hi : i = b
    · subst hi
      simp
    · rw [if_neg (by rintro (h | h); exact ha h; exact hi h)]
      by_cases hn : a < 0
      · rw [if_pos hn, Bool.eq_iff_iff]
        simp only [Bool.and_eq_true, decide_eq_true_eq]
        have e1 : (i - b).tmod a = -((b - i).tmod (-a)) := by rw [Int.tmod_neg, ← Int.neg_tmod, Int.neg_sub]
        have e2 : (i - b).tdiv a = (b - i).tdiv (-a) := by rw [Int.tdiv_neg, ← Int.neg_tdiv, Int.neg_sub]
        rw [e1, e2]
        constructor
        · rintro ⟨h1, h2⟩
          exact ⟨by omega, (quo_sign (by omega) h2 (by omega)).2 (by omega)⟩
        · rintro ⟨h1, h2⟩
          have h3 : (b - i).tmod (-a) = 0 := by omega
          have := (quo_sign (by omega) h3 (by omega)).1 h2
          exact ⟨by omega, h3⟩
      · rw [if_neg hn, Bool.eq_iff_iff]
        simp only [Bool.and_eq_true, decide_eq_true_eq]
        constructor
        · rintro ⟨h1, h2⟩
          exact ⟨h2, (quo_sign (by omega) h2 (by omega)).2 (by omega)⟩
        · rintro ⟨h1, h2⟩
          have := (quo_sign (by omega) h1 (by omega)).1 h2
          exact ⟨by omega, h1⟩
end Wn
namespace Go.Proofs.Ytbjhiimjillleaa
open Go.RowKit Go.Sort
set_option maxRecDepth 100000 in
set_option maxHeartbeats 1000000 in
theorem rless_v (a b : Int × Int × Int) (w : World) :
    Calls Try.prog 14 #[.agg #[.int .i64 a.1, .int .i64 a.2.1, .int .i64 a.2.2], .agg #[.int .i64 b.1, .int .i64 b.2.1, .int .i64 b.2.2]] w fun e w' => e = .returned (.bool (Wn.wless a b)) ∧ Below w.heap.size w w' := by
  obtain ⟨x0, x1, x2⟩ := a
  obtain ⟨y0, y1, y2⟩ := b
  dsimp only
  have HR : Hid (Wn.wless (x0, x1, x2) (y0, y1, y2) = (decide (x0 < y0) || (decide (x0 = y0) && (decide (x1 < y1) || (decide (x1 = y1) && decide (x2 < y2)))))) := Lib.hid rfl
  generalize Wn.wless (x0, x1, x2) (y0, y1, y2) = R at *
  have HBl : Hid (Below w.heap.size w ((w.alloc (.cells #[.int .i64 x0, .int .i64 x1, .int .i64 x2] 24)).alloc (.cells #[.int .i64 y0, .int .i64 y1, .int .i64 y2] 24))) := Lib.hid (((Below.refl _ _).alloc (Nat.le_refl _) _).alloc (by simp) _)
  by_cases h0 : x0 = y0
  · have HR2 : Hid (R = (decide (x1 < y1) || (decide (x1 = y1) && decide (x2 < y2)))) := Lib.hid (by rw [HR.out]; simp [h0])
    have h0' : (x0 == y0) = true := by simpa using h0
    clear h0
    by_cases h1 : x1 = y1
    · have HR3 : Hid (R = decide (x2 < y2)) := Lib.hid (by rw [HR2.out]; simp [h1])
      have h1' : (x1 == y1) = true := by simpa using h1
      clear h1
      go_enter Try.func14, Try.ntmps14
      go_wp2_with fail
      go_ret
      exact ⟨by rw [HR3.out]; rfl, HBl.out⟩
    · have HR3 : Hid (R = decide (x1 < y1)) := Lib.hid (by rw [HR2.out]; simp [h1])
      have h1' : (x1 == y1) = false := by simpa using h1
      clear h1
      go_enter Try.func14, Try.ntmps14
      go_wp2_with fail
      go_ret
      exact ⟨by rw [HR3.out]; rfl, HBl.out⟩
  · have HR2 : Hid (R = decide (x0 < y0)) := Lib.hid (by rw [HR.out]; simp [h0])
    have h0' : (x0 == y0) = false := by simpa using h0
    clear h0
    go_enter Try.func14, Try.ntmps14
    go_wp2_with fail
    go_ret
    exact ⟨by rw [HR2.out]; rfl, HBl.out⟩
set_option maxHeartbeats 1000000 in
theorem rnth6_v (a b i : Int) (w : World) :
    Calls Try.prog 18 #[.int .i64 a, .int .i64 b, .int .i64 i] w fun e w' => e = .returned (.bool (Wn.wnth a b i)) ∧ w' = w := by
  rw [← Wn.rnth6_eq]
  have HE : Hid (Wn.rnth6 a b i = (Wn.opr a && Wn.opr b && Wn.opr i && (if a = 0 ∨ i = b then decide (i = b) else if a < 0 then decide (i < b) && decide ((b - i).tmod (-a) = 0) else decide (b < i) && decide ((i - b).tmod a = 0)))) := Lib.hid rfl
  have HN : Hid (¬ (-1000000000 ≤ a ∧ a ≤ 1000000000 ∧ -1000000000 ≤ b ∧ b ≤ 1000000000 ∧ -1000000000 ≤ i ∧ i ≤ 1000000000) → Wn.rnth6 a b i = false) := Lib.hid (by
    intro h
    rw [HE.out, Bool.eq_false_iff]
    intro h2
    simp only [Wn.opr, Bool.and_eq_true, decide_eq_true_eq] at h2
    exact h ⟨h2.1.1.1.1, h2.1.1.1.2, h2.1.1.2.1, h2.1.1.2.2, h2.1.2.1, h2.1.2.2⟩)
  have HP : Hid ((-1000000000 ≤ a ∧ a ≤ 1000000000 ∧ -1000000000 ≤ b ∧ b ≤ 1000000000 ∧ -1000000000 ≤ i ∧ i ≤ 1000000000) → Wn.rnth6 a b i = (if a = 0 ∨ i = b then decide (i = b) else if a < 0 then decide (i < b) && decide ((b - i).tmod (-a) = 0) else decide (b < i) && decide ((i - b).tmod a = 0))) := Lib.hid (by
    rintro ⟨h1, h2, h3, h4, h5, h6⟩
    rw [HE.out]
    simp [Wn.opr, h1, h2, h3, h4, h5, h6])
  clear HE
  generalize Wn.rnth6 a b i = R at *
  by_cases a1 : a < -1000000000
  · (have HR : Hid (R = false) := Lib.hid (HN.out (by omega)); clear HN HP; (go_enter Try.func18, Try.ntmps18); go_wp2_with fail; go_ret; exact ⟨by rw [HR.out]; rfl, rfl⟩)
  by_cases a2 : 1000000000 < a
  · (have HR : Hid (R = false) := Lib.hid (HN.out (by omega)); clear HN HP; (go_enter Try.func18, Try.ntmps18); go_wp2_with fail; go_ret; exact ⟨by rw [HR.out]; rfl, rfl⟩)
  by_cases b1 : b < -1000000000
  · (have HR : Hid (R = false) := Lib.hid (HN.out (by omega)); clear HN HP; (go_enter Try.func18, Try.ntmps18); go_wp2_with fail; go_ret; exact ⟨by rw [HR.out]; rfl, rfl⟩)
  by_cases b2 : 1000000000 < b
  · (have HR : Hid (R = false) := Lib.hid (HN.out (by omega)); clear HN HP; (go_enter Try.func18, Try.ntmps18); go_wp2_with fail; go_ret; exact ⟨by rw [HR.out]; rfl, rfl⟩)
  by_cases i1 : i < -1000000000
  · (have HR : Hid (R = false) := Lib.hid (HN.out (by omega)); clear HN HP; (go_enter Try.func18, Try.ntmps18); go_wp2_with fail; go_ret; exact ⟨by rw [HR.out]; rfl, rfl⟩)
  by_cases i2 : 1000000000 < i
  · (have HR : Hid (R = false) := Lib.hid (HN.out (by omega)); clear HN HP; (go_enter Try.func18, Try.ntmps18); go_wp2_with fail; go_ret; exact ⟨by rw [HR.out]; rfl, rfl⟩)
  have hd := HP.out (by omega)
  have w1 : IntKind.i64.wrap (i - b) = i - b := IntWalk.i64_in _ (by omega)
  have w2 : IntKind.i64.wrap (b - i) = b - i := IntWalk.i64_in _ (by omega)
  have w3 : IntKind.i64.wrap (-a) = -a := IntWalk.i64_in _ (by omega)
  clear HP HN
  by_cases ha : a = 0
  · have HR : Hid (R = decide (i = b)) := Lib.hid (by rw [hd, if_pos (Or.inl ha)])
    clear hd
    subst ha
    ((go_enter Try.func18, Try.ntmps18); go_wp2_with fail; go_ret; exact ⟨ret_bool (by rw [HR.out]; rw [Bool.eq_iff_iff]; simp), rfl⟩)
  have ha' : (a == 0) = false := by simpa using ha
  by_cases hi : i = b
  · have HR : Hid (R = true) := Lib.hid (by rw [hd, if_pos (Or.inr hi)]; simpa using hi)
    have hi' : (i == b) = true := by simpa using hi
    clear hd hi
    ((go_enter Try.func18, Try.ntmps18); go_wp2_with fail; go_ret; exact ⟨ret_bool (by rw [HR.out]), rfl⟩)
  have hi' : (i == b) = false := by simpa using hi
  rw [if_neg (by rintro (h | h); exact ha h; exact hi h)] at hd
  clear hi
  by_cases hn : a < 0
  · rw [if_pos hn] at hd
    have hna : ¬ -a = 0 := by omega
    have hna' : (-a == 0) = false := by simpa using hna
    by_cases hc : i < b
    · by_cases hm : (b - i).tmod (-a) = 0
      · have HR : Hid (R = true) := Lib.hid (by rw [hd, decide_eq_true hc, decide_eq_true hm]; rfl)
        have hm' : ((b - i).tmod (-a) == 0) = true := beq_iff_eq.2 hm
        have HM2 : Hid (((b - i) % a == 0) = true) := Lib.hid (by rw [← Int.emod_neg, ← Int.tmod_eq_emod_of_nonneg (by omega)]; exact hm')
        clear hd hm
        ((go_enter Try.func18, Try.ntmps18); go_wp2_with fail; go_ret; exact ⟨ret_bool (by rw [HR.out]; exact HM2.out), rfl⟩)
      · have HR : Hid (R = false) := Lib.hid (by rw [hd, decide_eq_false hm, Bool.and_false])
        have hm' : ((b - i).tmod (-a) == 0) = false := beq_eq_false_iff_ne.2 hm
        have HM2 : Hid (((b - i) % a == 0) = false) := Lib.hid (by rw [← Int.emod_neg, ← Int.tmod_eq_emod_of_nonneg (by omega)]; exact hm')
        clear hd hm
        ((go_enter Try.func18, Try.ntmps18); go_wp2_with fail; go_ret; exact ⟨ret_bool (by rw [HR.out]; exact HM2.out), rfl⟩)
    · have HR : Hid (R = false) := Lib.hid (by rw [hd, decide_eq_false hc, Bool.false_and])
      clear hd
      ((go_enter Try.func18, Try.ntmps18); go_wp2_with fail; go_ret; exact ⟨ret_bool (by rw [HR.out]), rfl⟩)
  · rw [if_neg hn] at hd
    by_cases hc : b < i
    · by_cases hm : (i - b).tmod a = 0
      · have HR : Hid (R = true) := Lib.hid (by rw [hd, decide_eq_true hc, decide_eq_true hm]; rfl)
        have hm' : ((i - b).tmod a == 0) = true := beq_iff_eq.2 hm
        have HM2 : Hid (((i - b) % a == 0) = true) := Lib.hid (by rw [← Int.tmod_eq_emod_of_nonneg (by omega)]; exact hm')
        clear hd hm
        ((go_enter Try.func18, Try.ntmps18); go_wp2_with fail; go_ret; exact ⟨ret_bool (by rw [HR.out]; exact HM2.out), rfl⟩)
      · have HR : Hid (R = false) := Lib.hid (by rw [hd, decide_eq_false hm, Bool.and_false])
        have hm' : ((i - b).tmod a == 0) = false := beq_eq_false_iff_ne.2 hm
        have HM2 : Hid (((i - b) % a == 0) = false) := Lib.hid (by rw [← Int.tmod_eq_emod_of_nonneg (by omega)]; exact hm')
        clear hd hm
        ((go_enter Try.func18, Try.ntmps18); go_wp2_with fail; go_ret; exact ⟨ret_bool (by rw [HR.out]; exact HM2.out), rfl⟩)
    · have HR : Hid (R = false) := Lib.hid (by rw [hd, decide_eq_false hc, Bool.false_and])
      clear hd
      ((go_enter Try.func18, Try.ntmps18); go_wp2_with fail; go_ret; exact ⟨ret_bool (by rw [HR.out]), rfl⟩)
end Go.Proofs.Ytbjhiimjillleaa
set_option maxRecDepth 20000
namespace Wn
/-- the greatest one of the first k -/
def gmax (l : List W3) (k : Nat) : W3 := wmax (l.take k)
theorem gmax_step {l : List W3} {k : Nat} {x : W3} (h : l[k]? = some x) : gmax l (k + 1) = if (k : Int) = 0 ∨ wless (gmax l k) x = true then x else gmax l k := by
  unfold gmax
  cases l with
  | nil => simp at h
  | cons a r =>
    cases k with
    | zero =>
      simp at h
      subst h
      simp [wmax]
    | succ k =>
      simp at h
      have e : (((k + 1 : Nat) : Int) = 0 ∨ wless (wmax ((a :: r).take (k + 1))) x = true) = (wless (wmax ((a :: r).take (k + 1))) x = true) := propext ⟨fun h => h.resolve_left (by omega), Or.inr⟩
      simp only [e]
      rw [List.take_succ_cons, List.take_succ_cons]
      show List.foldl wstep a (r.take (k + 1)) = _
      rw [List.take_add_one, h, Option.toList_some, List.foldl_append]
      rfl
end Wn
namespace Go.Proofs.Ytbjhiimjillleaa
open Go.RowKit Go.Sort
/-- the verifier's weights in slices -/
def vK : RK Wn.W3 where
  e := 24
  t := 23
  sz := 3
  z := .agg #[.int .i64 0, .int .i64 0, .int .i64 0]
  bytes := 24
  under := Try.underlying23
  info := by kernel_rfl
  zsz := rfl
  pos := by decide
  few := by decide
  R _ _ cs x := cs = [.int .i64 x.1, .int .i64 x.2.1, .int .i64 x.2.2]
  len := by rintro w ok cs x rfl; rfl
  one := by
    rintro w ok cs x rfl c hc
    simp at hc
    rcases hc with rfl | rfl | rfl <;> rfl
  same := by
    rintro w w' ok ok' cs x _ _ rfl
    rfl
theorem vK.cells {w : World} {ok : Nat → Prop} {ao : Option Addr} {n cap : Nat} {l : List Wn.W3} (h : vK.P w ok (.slice ao n cap) l) {i : Nat} {x : Wn.W3} (hi : l[i]? = some x) :
    ∃ b o, ao = some ⟨b, o, none⟩ ∧ ok b ∧ b < w.heap.size ∧ w.cell? ⟨b, o + i * 3, none⟩ = some (.int .i64 x.1) ∧ w.cell? ⟨b, o + i * 3 + 1, none⟩ = some (.int .i64 x.2.1) ∧ w.cell? ⟨b, o + i * 3 + 2, none⟩ = some (.int .i64 x.2.2) := by
  obtain ⟨b, o, cs, ha, hb, hl, rfl, hlie⟩ := h.at hi
  exact ⟨b, o, ha, hb, hl, hlie 0 _ rfl, hlie 1 _ rfl, hlie 2 _ rfl⟩
set_option maxRecDepth 100000 in
set_option maxHeartbeats 2000000 in
theorem rMax6_v (v : Value) (l : List Wn.W3) (w : World) (hv : vK.P w (fun b => b < w.heap.size) v l) :
    Calls Try.prog 16 #[v] w fun e w' => e = .returned (.agg #[.int .i64 (Wn.wmax l).1, .int .i64 (Wn.wmax l).2.1, .int .i64 (Wn.wmax l).2.2]) ∧ Below w.heap.size w w' := by
  obtain ⟨ao, cap, rfl, hc1, hc2⟩ := hv.form
  unfold maxLen at hc2
  have HV := Lib.hid hv
  have HMX : Hid (Wn.wmax l = Wn.gmax l l.length) := Lib.hid (by unfold Wn.gmax; rw [List.take_length])
  generalize Wn.wmax l = M at *
  have HB0 : Hid (Below w.heap.size w ((w.alloc (.cells #[.int .i64 0, .int .i64 0, .int .i64 0] 24)).alloc (.cells #[.int .i64 0, .int .i64 0, .int .i64 0] 24))) := Lib.hid (((Below.refl _ _).alloc (Nat.le_refl _) _).alloc (by simp) _)
  have HR0 : Hid (((w.alloc (.cells #[.int .i64 0, .int .i64 0, .int .i64 0] 24)).alloc (.cells #[.int .i64 0, .int .i64 0, .int .i64 0] 24)).heap[w.heap.size]? = some (.cells #[.int .i64 0, .int .i64 0, .int .i64 0] 24)) := Lib.hid (block_alloc (heap_alloc_new w _) _)
  have HG0 : Hid (((w.alloc (.cells #[.int .i64 0, .int .i64 0, .int .i64 0] 24)).alloc (.cells #[.int .i64 0, .int .i64 0, .int .i64 0] 24)).heap[w.heap.size + 1]? = some (.cells #[.int .i64 (Wn.gmax l 0).1, .int .i64 (Wn.gmax l 0).2.1, .int .i64 (Wn.gmax l 0).2.2] 24)) := Lib.hid (by
    have := heap_alloc_new (w.alloc (.cells #[.int .i64 0, .int .i64 0, .int .i64 0] 24)) (.cells #[.int .i64 0, .int .i64 0, .int .i64 0] 24)
    rw [show (w.alloc (.cells #[.int .i64 0, .int .i64 0, .int .i64 0] 24)).heap.size = w.heap.size + 1 by simp] at this
    exact this)
  clear hv
  go_enter Try.func16, Try.ntmps16
  go_wp2_with fail
  generalize (w.alloc (.cells #[.int .i64 0, .int .i64 0, .int .i64 0] 24)).alloc (.cells #[.int .i64 0, .int .i64 0, .int .i64 0] 24) = W0 at *
  go_loopw [4] (fun v4 wr => ∃ k : Nat, k ≤ l.length ∧ v4 = .int .i64 (k : Int) ∧ Hid (Below w.heap.size w wr) ∧ Hid (wr.heap[w.heap.size]? = some (.cells #[.int .i64 0, .int .i64 0, .int .i64 0] 24)) ∧ Hid (wr.heap[w.heap.size + 1]? = some (.cells #[.int .i64 (Wn.gmax l k).1, .int .i64 (Wn.gmax l k).2.1, .int .i64 (Wn.gmax l k).2.2] 24))) (fun v4 _ => l.length - (intOf v4).toNat)
  case atStart => exact ⟨0, Nat.zero_le _, rfl, HB0, HR0, HG0⟩
  case round =>
    clear HB0 HR0 HG0
    obtain ⟨k, hk, rfl, HB, HR, HG⟩ := hrel
    by_cases hkl : k < l.length
    · have hki : (k : Int) < (l.length : Int) := by omega
      obtain ⟨x, hx⟩ : ∃ x, l[k]? = some x := ⟨l[k], List.getElem?_eq_getElem hkl⟩
      obtain ⟨b, o, rfl, _, hbl, j0, j1, j2⟩ := vK.cells (HV.out.below HB.out) hx
      have HS := Lib.hid (Wn.gmax_step hx)
      have HXI := Lib.hid hx
      clear hx
      generalize hA : Wn.gmax l k = acc at *
      have HA := Lib.hid hA
      clear hA
      generalize hN : Wn.gmax l (k + 1) = nxt at *
      have HN := Lib.hid hN
      clear hN
      have CL : Hid (∀ d os, Calls Try.prog 14 #[.agg #[.int .i64 acc.1, .int .i64 acc.2.1, .int .i64 acc.2.2], .agg #[.int .i64 x.1, .int .i64 x.2.1, .int .i64 x.2.2]] (grow (redrawn wr d) os) fun e w'' => e = .returned (.bool (Wn.wless acc x)) ∧ ∃ p : Regrown, w'' = grow (redrawn wr p.d) p.os) := Lib.hid (fun d os => Calls.regrown_of (rless_v acc x _))
      generalize Wn.wless acc x = t at *
      have hg := HG.out
      have g0 := cell_of_block (o := 0) hg
      have g1 := cell_of_block (o := 1) hg
      have g2 := cell_of_block (o := 2) hg
      simp only [List.getElem?_toArray, List.getElem?_cons_zero, List.getElem?_cons_succ] at g0 g1 g2
      have g0' := cell_regrown g0
      have g1' := cell_regrown g1
      have g2' := cell_regrown g2
      have j0' := cell_regrown j0
      have j1' := cell_regrown j1
      have j2' := cell_regrown j2
      clear hg
      have hgl := lt_of_block HG.out
      clear hbl
      by_cases h0 : (k : Int) = 0
      · have h0' : ((k : Int) == 0) = true := by simpa using h0
        have HX : Hid (nxt = x) := Lib.hid (by rw [HS.out, if_pos (Or.inl h0)])
        clear h0
        go_wp2_with fail
        (refine wp_region_quiet_below (by kernel_rfl) (by kernel_rfl) ?_); (repeat (first | go_big_quiet_skip | quiet_step (with_reducible exact CL.out _ _))); (refine wpQuiet_nil ?_); intro _ hw'; obtain ⟨⟨dq, osq⟩, hw''⟩ := hw'; subst hw''
        have hbV := below_regrown wr dq osq
        have HB3 := Lib.hid (HB.out.trans (hbV.mono HB.out.size))
        have HR3 := Lib.hid (block_lat hbV HR.out)
        have hg3 := block_lat hbV HG.out
        obtain ⟨b', o', hbo, _, hbl, x0, x1, x2⟩ := vK.cells (HV.out.below HB3.out) HXI.out
        cases hbo
        clear hbV g0 g1 g2 g0' g1' g2' j0 j1 j2 j0' j1' j2' CL HB HR HG hgl
        generalize grow (redrawn wr dq) osq = w3 at *
        have hgl := lt_of_block hg3
        have y0 := cell_of_block (o := 0) hg3
        have y1 := cell_of_block (o := 1) hg3
        have y2 := cell_of_block (o := 2) hg3
        have yf0 := frozen_blk hg3 0
        have yf1 := frozen_blk hg3 1
        have yf2 := frozen_blk hg3 2
        simp only [List.getElem?_toArray, List.getElem?_cons_zero, List.getElem?_cons_succ] at y0 y1 y2
        have HG3 := Lib.hid hg3
        clear hg3
        have hn3 : ∀ j, j ≠ w.heap.size + 1 → (((w3.setCell ⟨w.heap.size + 1, 0, none⟩ (.int .i64 x.1)).setCell ⟨w.heap.size + 1, 1, none⟩ (.int .i64 x.2.1)).setCell ⟨w.heap.size + 1, 2, none⟩ (.int .i64 x.2.2)).heap[j]? = w3.heap[j]? := fun j hj => by rw [Below.heap_setCell _ _ _ _ hj, Below.heap_setCell _ _ _ _ hj, Below.heap_setCell _ _ _ _ hj]
        have HNN : Hid ((((w3.setCell ⟨w.heap.size + 1, 0, none⟩ (.int .i64 x.1)).setCell ⟨w.heap.size + 1, 1, none⟩ (.int .i64 x.2.1)).setCell ⟨w.heap.size + 1, 2, none⟩ (.int .i64 x.2.2)).heap[w.heap.size + 1]? = some (.cells #[.int .i64 (Wn.gmax l (k + 1)).1, .int .i64 (Wn.gmax l (k + 1)).2.1, .int .i64 (Wn.gmax l (k + 1)).2.2] 24)) := Lib.hid (by
          have hh := HG3.out
          rw [HN.out, HX.out]
          simp [World.setCell, Array.getElem?_modify, hh])
        have HBN := Lib.hid (((HB3.out.setCell (p := ⟨w.heap.size + 1, 0, none⟩) (by show _ ≤ w.heap.size + 1; omega) (.int .i64 x.1)).setCell (p := ⟨w.heap.size + 1, 1, none⟩) (by show _ ≤ w.heap.size + 1; omega) (.int .i64 x.2.1)).setCell (p := ⟨w.heap.size + 1, 2, none⟩) (by show _ ≤ w.heap.size + 1; omega) (.int .i64 x.2.2))
        have HRN := Lib.hid ((hn3 w.heap.size (by omega)).trans HR3.out)
        clear hn3
        go_wp2_with fail
        exact ⟨⟨k + 1, by omega, by go_num, HBN, HRN, HNN⟩, by simp [intOf]; omega⟩
      · have h0' : ((k : Int) == 0) = false := by simpa using h0
        cases t
        · have HX : Hid (nxt = acc) := Lib.hid (by rw [HS.out, if_neg (by rintro (h | h); exact h0 h; exact absurd h (by decide))])
          clear h0
          go_wp2_with fail
          (refine wp_region_quiet_below (by kernel_rfl) (by kernel_rfl) ?_); (repeat (first | go_big_quiet_skip | quiet_step (with_reducible exact CL.out _ _))); (refine wpQuiet_nil ?_); intro _ hw'; obtain ⟨⟨dq, osq⟩, hw''⟩ := hw'; subst hw''
          have hbV := below_regrown wr dq osq
          have HB3 := Lib.hid (HB.out.trans (hbV.mono HB.out.size))
          have HR3 := Lib.hid (block_lat hbV HR.out)
          have HG3 : Hid ((grow (redrawn wr dq) osq).heap[w.heap.size + 1]? = some (.cells #[.int .i64 (Wn.gmax l (k + 1)).1, .int .i64 (Wn.gmax l (k + 1)).2.1, .int .i64 (Wn.gmax l (k + 1)).2.2] 24)) := Lib.hid (by rw [HN.out, HX.out]; exact block_lat hbV HG.out)
          clear hbV
          go_wp2_with fail
          exact ⟨⟨k + 1, by omega, by go_num, HB3, HR3, HG3⟩, by simp [intOf]; omega⟩
        · have HX : Hid (nxt = x) := Lib.hid (by rw [HS.out, if_pos (Or.inr rfl)])
          clear h0
          go_wp2_with fail
          (refine wp_region_quiet_below (by kernel_rfl) (by kernel_rfl) ?_); (repeat (first | go_big_quiet_skip | quiet_step (with_reducible exact CL.out _ _))); (refine wpQuiet_nil ?_); intro _ hw'; obtain ⟨⟨dq, osq⟩, hw''⟩ := hw'; subst hw''
          have hbV := below_regrown wr dq osq
          have HB3 := Lib.hid (HB.out.trans (hbV.mono HB.out.size))
          have HR3 := Lib.hid (block_lat hbV HR.out)
          have hg3 := block_lat hbV HG.out
          obtain ⟨b', o', hbo, _, hbl, x0, x1, x2⟩ := vK.cells (HV.out.below HB3.out) HXI.out
          cases hbo
          clear hbV g0 g1 g2 g0' g1' g2' j0 j1 j2 j0' j1' j2' CL HB HR HG hgl
          generalize grow (redrawn wr dq) osq = w3 at *
          have hgl := lt_of_block hg3
          have y0 := cell_of_block (o := 0) hg3
          have y1 := cell_of_block (o := 1) hg3
          have y2 := cell_of_block (o := 2) hg3
          have yf0 := frozen_blk hg3 0
          have yf1 := frozen_blk hg3 1
          have yf2 := frozen_blk hg3 2
          simp only [List.getElem?_toArray, List.getElem?_cons_zero, List.getElem?_cons_succ] at y0 y1 y2
          have HG3 := Lib.hid hg3
          clear hg3
          have hn3 : ∀ j, j ≠ w.heap.size + 1 → (((w3.setCell ⟨w.heap.size + 1, 0, none⟩ (.int .i64 x.1)).setCell ⟨w.heap.size + 1, 1, none⟩ (.int .i64 x.2.1)).setCell ⟨w.heap.size + 1, 2, none⟩ (.int .i64 x.2.2)).heap[j]? = w3.heap[j]? := fun j hj => by rw [Below.heap_setCell _ _ _ _ hj, Below.heap_setCell _ _ _ _ hj, Below.heap_setCell _ _ _ _ hj]
          have HNN : Hid ((((w3.setCell ⟨w.heap.size + 1, 0, none⟩ (.int .i64 x.1)).setCell ⟨w.heap.size + 1, 1, none⟩ (.int .i64 x.2.1)).setCell ⟨w.heap.size + 1, 2, none⟩ (.int .i64 x.2.2)).heap[w.heap.size + 1]? = some (.cells #[.int .i64 (Wn.gmax l (k + 1)).1, .int .i64 (Wn.gmax l (k + 1)).2.1, .int .i64 (Wn.gmax l (k + 1)).2.2] 24)) := Lib.hid (by
            have hh := HG3.out
            rw [HN.out, HX.out]
            simp [World.setCell, Array.getElem?_modify, hh])
          have HBN := Lib.hid (((HB3.out.setCell (p := ⟨w.heap.size + 1, 0, none⟩) (by show _ ≤ w.heap.size + 1; omega) (.int .i64 x.1)).setCell (p := ⟨w.heap.size + 1, 1, none⟩) (by show _ ≤ w.heap.size + 1; omega) (.int .i64 x.2.1)).setCell (p := ⟨w.heap.size + 1, 2, none⟩) (by show _ ≤ w.heap.size + 1; omega) (.int .i64 x.2.2))
          have HRN := Lib.hid ((hn3 w.heap.size (by omega)).trans HR3.out)
          clear hn3
          go_wp2_with fail
          exact ⟨⟨k + 1, by omega, by go_num, HBN, HRN, HNN⟩, by simp [intOf]; omega⟩
    · have hkn : ¬ (k : Int) < (l.length : Int) := by omega
      have hr := HR.out
      have r0 := cell_of_block (o := 0) hr
      have r1 := cell_of_block (o := 1) hr
      have r2 := cell_of_block (o := 2) hr
      have rf0 := frozen_blk hr 0
      have rf1 := frozen_blk hr 1
      have rf2 := frozen_blk hr 2
      simp only [List.getElem?_toArray, List.getElem?_cons_zero, List.getElem?_cons_succ] at r0 r1 r2
      have HE : Hid (M = Wn.gmax l k) := Lib.hid (by rw [HMX.out, show k = l.length by omega])
      generalize Wn.gmax l k = acc at *
      have hg := HG.out
      have g0 := cell_of_block (o := 0) hg
      have g1 := cell_of_block (o := 1) hg
      have g2 := cell_of_block (o := 2) hg
      simp only [List.getElem?_toArray, List.getElem?_cons_zero, List.getElem?_cons_succ] at g0 g1 g2
      have hgl := lt_of_block hg
      have HB2 := HB
      clear hr hg
      go_wp2_with fail
      refine bodyPost_ret (v := .agg #[.int .i64 acc.1, .int .i64 acc.2.1, .int .i64 acc.2.2]) (by simp [results, Try.results16, go_sem, r0, r1, r2]) rfl ⟨by rw [HE.out], (by (repeat (first | with_reducible exact HB2.out | (with_reducible refine Below.drew ?_) | (with_reducible refine below_drewN' ?_ _) | ((with_reducible refine Below.setCell ?_ ?_ _); rotate_left; (focus (first | omega | (simp; done) | (simp; omega)))) | ((with_reducible refine Below.alloc ?_ ?_ _); rotate_left; (focus (first | omega | (simp; omega)))))))⟩
end Go.Proofs.Ytbjhiimjillleaa
set_option maxRecDepth 20000
namespace Go.Proofs.Ytbjhiimjillleaa
open Go.ChangeShapes Go.WideShapes Go.RowKit Go.Deep
section
variable {H : Type} {enc : TypeId × Value → H} {w : World} {base : Nat} {spare : Nat → Bool} {held : Bool}
theorem cells_w3 : Try.prog.cellsOf 24 = 3 := by kernel_rfl
/-- three cells that read as a weight -/
theorem open_w3c {n : Nat} {cs : List Value} {x : DataW H × List MemPlace} (h : DataW.trod enc Try.prog w base spare held n 24 cs = some x) :
    ∃ g : Wn.W3, cs = [.int .i64 g.1, .int .i64 g.2.1, .int .i64 g.2.2] := by
  obtain ⟨ys, m, _, _, hlen, hyl, hf⟩ := DataW.trod_array Try.underlying24 h
  have h0 := hf 0 (by decide)
  have h1 := hf 1 (by decide)
  have h2 := hf 2 (by decide)
  rw [cells_int] at h0 h1 h2
  match cs, hlen.trans cells_w3 with
  | [c0, c1, c2], _ =>
    match ys, hyl with
    | [y0, y1, y2], _ =>
      simp only [Nat.mul_one, List.drop_zero, List.drop_succ_cons, List.take_succ_cons, List.take_zero, List.getElem?_cons_zero, List.getElem?_cons_succ] at h0 h1 h2
      obtain ⟨a, ha, _, _⟩ := DataW.trod_int (k := .i64) Try.underlying3 h0
      obtain ⟨b, hb, _, _⟩ := DataW.trod_int (k := .i64) Try.underlying3 h1
      obtain ⟨c, hc, _, _⟩ := DataW.trod_int (k := .i64) Try.underlying3 h2
      simp only [List.cons.injEq, and_true] at ha hb hc
      exact ⟨(a, b, c), by rw [ha, hb, hc]⟩
/-- a weight by value -/
theorem open_w3 {r : Reach} {b0 : Nat} {v : Value} {d : DataW H} {p : List MemPlace} (hv : Value.okWide Try.prog w r b0 24 v) (h : DataW.Trod enc Try.prog w base spare held 24 v d p) :
    ∃ g : Wn.W3, v = .agg #[.int .i64 g.1, .int .i64 g.2.1, .int .i64 g.2.2] := by
  simp only [Value.okWide, Try.underlying24] at hv
  obtain ⟨cs, rfl, _⟩ := hv
  obtain ⟨fuel, h⟩ := h
  obtain ⟨g, hcs⟩ := open_w3c h
  refine ⟨g, ?_⟩
  congr 1
  cases cs; simpa [Value.cells] using hcs
/-- a slice of weights -/
theorem open_w3s {r : Reach} {b0 : Nat} {v : Value} {d : DataW H} {p : List MemPlace} (hv : Value.okWide Try.prog w r b0 23 v) (h : DataW.Trod enc Try.prog w base spare held 23 v d p) :
    ∃ l : List Wn.W3, vK.P w (fun _ => True) v l := by
  obtain ⟨a0, len0, cap0, rfl⟩ := okWide_slice Try.underlying23 hv
  obtain ⟨fuel, h⟩ := h
  rcases DataW.trod_slice Try.underlying23 h with ⟨h0, _⟩ | ⟨a, len, cap, elems, rest, n, hfu, h0, _, hb, hl, hm, hlen, hel, _⟩
  · simp [Value.cells] at h0
    obtain ⟨rfl, rfl, rfl⟩ := h0
    exact ⟨[], RK.P.nil w _⟩
  · simp [Value.cells] at h0
    obtain ⟨rfl, rfl, rfl⟩ := h0
    have hT : ∀ i, ∃ g : Wn.W3, i < len0 → w.cells? base (a.add (i * 3)) 3 = some [.int .i64 g.1, .int .i64 g.2.1, .int .i64 g.2.2] := by
      intro i
      by_cases hi : i < len0
      · have he := hel i hi
        rw [cells_w3, List.getElem?_eq_getElem (by omega), Option.bind_eq_some_iff] at he
        obtain ⟨cs', hc, ht⟩ := he
        obtain ⟨g, rfl⟩ := open_w3c ht
        exact ⟨g, fun _ => hc⟩
      · exact ⟨(0, 0, 0), fun h => absurd h hi⟩
    obtain ⟨T, hT⟩ := Classical.axiomOfChoice hT
    have hlen : ((List.range len0).map T).length = len0 := by simp
    refine ⟨(List.range len0).map T, some a, cap0, by rw [hlen], by rw [hlen]; omega, hm, fun h => (by cases h), fun hne => ?_⟩
    have h0 : 0 < len0 := by
      rcases Nat.eq_zero_or_pos len0 with h | h
      · subst h; simp at hne
      · exact h
    have hc0 := hT 0 h0
    obtain ⟨_, _, hat0⟩ := World.cells?_some hc0
    have hf0 := hat0 0 (by omega)
    have hsp : a = ⟨a.block, a.off, none⟩ := spot_none (v := .int .i64 (T 0).1) (by simpa [Addr.add] using hf0)
    have hbl : a.block < w.heap.size := by
      have := World.block_lt_of_cell? w _ hf0
      rw [hsp, add_plain] at this
      exact this
    refine ⟨a.block, a.off, by rw [← hsp], trivial, hbl, fun i x hx => ?_⟩
    have hi : i < len0 := by have := (List.getElem?_eq_some_iff.1 hx).1; simpa using this
    have hx' : T i = x := by simpa [List.getElem?_eq_getElem, hi] using hx
    subst hx'
    refine ⟨_, rfl, fun j u hj => ?_⟩
    obtain ⟨_, _, hat⟩ := World.cells?_some (hT i hi)
    have hj3 : j < 3 := by have := (List.getElem?_eq_some_iff.1 hj).1; simpa using this
    have q := hat j hj3
    rw [hsp, add_plain, add_plain] at q
    rw [← hj]
    exact q
end
end Go.Proofs.Ytbjhiimjillleaa
