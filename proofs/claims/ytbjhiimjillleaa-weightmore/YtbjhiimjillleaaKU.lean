/- What ref04's count and Small answer: true bounds how many simple selectors there are, and their texts. Condition: no list is longer than 2^60. What ref04's Small answers: true bounds how many simple selectors there are, and their texts. Condition: no list is longer than 2^60. Weights as sums: what more parts weigh, what a not weighs, that one more weighs no less. A region that draws its order: three calls in a chain and three variables that are made beside them, in whatever order; wherever they stand. Condition: the callees leave all blocks that there were. Two independent chains of operations in one region that draws its order, in whatever order they come up; each operation is handed in as a hypothesis. Two lists of parts that are laid one behind the other, in a region that draws its order, beside a variable that is made. One part more that holds a not, laid in a region that draws its order beside the load of the list that it is appended to. Arguments of a row that are a selector or a simple selector by value; how long a selector may be. -/
import Derived.Test.YtbjhiimjillleaaKT
import Derived.Test.YtbjhiimjillleaaKC
import Derived.Test.YtbjhiimjillleaaKE
import Derived.Test.YtbjhiimjillleaaJI
import Derived.SizedLaws
set_option maxRecDepth 20000
namespace Wn
/-- texts of at most 100 bytes, all through -/
def Ss.s100 : Ss → Prop
  | .nil => True
  | .cons _ n v _ _ x r => n.length ≤ 100 ∧ v.length ≤ 100 ∧ x.s100 ∧ r.s100
def totC (c : Cx) : Nat := c.1.length + (c.1.map fun p => (Ss.ofL p.2).size).sum
def totL (l : List Cx) : Nat := l.length + (l.map totC).sum
def s100C (c : Cx) : Prop := c.2.length ≤ 100 ∧ ∀ p ∈ c.1, (Ss.ofL p.2).s100
theorem Ss.drop_s100 {f : Ss} {i : Nat} {k : Int} {n v : List UInt8} {a b : Int} {x : Ss} (h : f.drop i = .cons k n v a b x (f.drop (i + 1))) {G : Prop} (hs : (f.drop i).s100 → G) (hn : n.length ≤ 100) (hv : v.length ≤ 100) (hx : x.s100) : (f.drop (i + 1)).s100 → G := fun hr => hs (by rw [h]; exact ⟨hn, hv, hx, hr⟩)
theorem sum_step {α : Type} {l : List α} {g : α → Nat} {k : Nat} {x : α} (h : l[k]? = some x) : ((l.take (k + 1)).map g).sum = ((l.take k).map g).sum + g x := by
  rw [List.take_add_one, h, Option.toList_some, List.map_append, List.sum_append]; simp
theorem mem_step {α : Type} {l : List α} {p : α → Prop} {k : Nat} {x : α} (h : l[k]? = some x) (hs : ∀ y ∈ l.take k, p y) (hx : p x) : ∀ y ∈ l.take (k + 1), p y := by
  rw [List.take_add_one, h, Option.toList_some]
  intro y hy
  rcases List.mem_append.1 hy with hy | hy
  · exact hs y hy
  · rw [List.mem_singleton.1 hy]; exact hx
end Wn
namespace Go.Proofs.Ytbjhiimjillleaa
open Go.RowKit Go.Sort
def C4Post (f : Wn.Ss) (n most : Int) (w : World) (e : Ending) (w' : World) : Prop := ∃ m : Int, e = .returned (.int .i64 m) ∧ w' = w ∧ 0 ≤ m ∧ m ≤ 1001 ∧ (m ≤ most → m = n + (f.size : Int) ∧ f.s100)
def C4S (f : Wn.Ss) : Prop := ∀ (v : Value) (n most : Int) (w : World), SsP w (fun _ => True) v f → 0 ≤ n → n ≤ 1001 → 0 ≤ most → most ≤ 1000 → Calls Try.prog 19 #[v, .int .i64 n, .int .i64 most] w (C4Post f n most w)
set_option maxRecDepth 100000 in
set_option maxHeartbeats 2000000 in
theorem count4s_step (f : Wn.Ss) (IH : ∀ x : Wn.Ss, x.size < f.size → C4S x) : C4S f := by
  intro v n0 most w hv hn0 hn1 hm0 hm1
  have HIH := Lib.hid IH; clear IH
  have HV := Lib.hid hv
  obtain ⟨ao, cap, rfl, c1, c2⟩ := hv.form
  unfold maxLen at c2
  clear hv
  have HS : Hid (n0 ≤ most → n0 + ((f.drop 0).size : Int) = n0 + (f.size : Int) ∧ ((f.drop 0).s100 → f.s100)) := Lib.hid (fun _ => by rw [Wn.Ss.drop_zero]; exact ⟨rfl, id⟩)
  go_enter Try.func19, Try.ntmps19
  go_wp2_with fail
  go_loopw [1, 7] (fun v1 v7 wr => ∃ (i : Nat) (n : Int), i ≤ f.len ∧ v1 = .int .i64 n ∧ v7 = .int .i64 (i : Int) ∧ Hid (wr = w) ∧ 0 ≤ n ∧ n ≤ 1001 ∧ Hid (n ≤ most → n + ((f.drop i).size : Int) = n0 + (f.size : Int) ∧ ((f.drop i).s100 → f.s100))) (fun _ v7 _ => f.len - (intOf v7).toNat)
  case atStart => exact ⟨0, n0, by omega, rfl, rfl, Lib.hid rfl, hn0, hn1, HS⟩
  case round =>
    clear HS
    obtain ⟨i, n, hil, rfl, rfl, HW, hp0, hp1, HE⟩ := hrel
    obtain rfl := HW.out
    clear HW
    by_cases hlt : i < f.len
    · obtain ⟨k, nm, t, a, b, x, hd⟩ := Wn.Ss.drop_cons hlt
      obtain ⟨p, o, u, rfl, j0, j1, j2, j3, j4, j5, hu⟩ := HV.out.at hd
      have hsz := Wn.Ss.drop_lt hd
      obtain ⟨uo, uc, rfl, _, _⟩ := hu.form
      have CS := Lib.hid (fun a b h1 h2 h3 h4 => HIH.out x hsz _ a b wr hu h1 h2 h3 h4)
      have HNM := Lib.hid (Wn.str_size nm)
      have HTM := Lib.hid (Wn.str_size t)
      have HD := Lib.hid hd
      generalize hxl : x.len = xl at *
      generalize Wn.str nm = ny at *
      generalize Wn.str t = ty at *
      clear hu hd j0 j3 j4 hsz hxl
      have hi1 : (i : Int) < (f.len : Int) := by omega
      by_cases hn : n ≤ most
      · have HE2 := Lib.hid (HE.out hn)
        have hw1 : IntKind.i64.wrap (n + 1) = n + 1 := IntWalk.i64_in _ (by omega)
        have hw2 : IntKind.i64.wrap (most + 1) = most + 1 := IntWalk.i64_in _ (by omega)
        clear HE
        by_cases h1 : 100 < ny.size
        · go_wp2_with fail
          go_ret
          exact ⟨most + 1, rfl, rfl, by omega, by omega, fun h => by omega⟩
        · by_cases h2 : 100 < ty.size
          · go_wp2_with fail
            go_ret
            exact ⟨most + 1, rfl, rfl, by omega, by omega, fun h => by omega⟩
          · have HQ := Lib.hid (CS.out (n + 1) most (by omega) (by omega) hm0 hm1)
            go_wp2_with fail
            refine HQ.out.mono ?_
            rintro e w1 ⟨m, rfl, rfl, hq0, hq1, hq⟩
            have HM : Hid (m ≤ most → m + ((f.drop (i + 1)).size : Int) = n0 + (f.size : Int) ∧ ((f.drop (i + 1)).s100 → f.s100)) := Lib.hid (fun h => by
              obtain ⟨e1, e2⟩ := hq h
              obtain ⟨e3, e4⟩ := HE2.out
              have e5 : (f.drop i).size = x.size + (f.drop (i + 1)).size + 1 := by rw [HD.out]; rfl
              have e6 := HNM.out
              have e7 := HTM.out
              exact ⟨by omega, Wn.Ss.drop_s100 HD.out e4 (by omega) (by omega) e2⟩)
            clear hq HQ
            go_wp2_with fail
            exact ⟨⟨i + 1, m, by omega, rfl, by go_num, Lib.hid (by simp), hq0, hq1, HM⟩, by simp [intOf]; try omega⟩
      · go_wp2_with fail
        go_ret
        exact ⟨n, rfl, rfl, hp0, hp1, fun h => absurd h (by omega)⟩
    · have hni : ¬ (i : Int) < (f.len : Int) := by omega
      have HF : Hid (n ≤ most → n = n0 + (f.size : Int) ∧ f.s100) := Lib.hid (fun h => by
        obtain ⟨e1, e2⟩ := HE.out h
        rw [Wn.Ss.drop_len (by omega)] at e1 e2
        exact ⟨by simpa [Wn.Ss.size] using e1, e2 trivial⟩)
      clear HE
      go_wp2_with fail
      go_ret
      exact ⟨n, rfl, rfl, hp0, hp1, HF.out⟩
theorem count4s_all : ∀ (n : Nat) (f : Wn.Ss), f.size < n → C4S f
  | 0, f, h => by omega
  | n + 1, f, h => count4s_step f fun g hg => count4s_all n g (by omega)
end Go.Proofs.Ytbjhiimjillleaa
set_option maxRecDepth 20000
namespace Go.Proofs.Ytbjhiimjillleaa
open Go.RowKit Go.Sort
def S4Post (l : List Wn.Cx) (most : Int) (w : World) (e : Ending) (w' : World) : Prop := ∃ r : Bool, e = .returned (.bool r) ∧ w' = w ∧ (r = true → (Wn.totL l : Int) ≤ most ∧ ∀ c ∈ l, Wn.s100C c)
set_option maxRecDepth 100000 in
set_option maxHeartbeats 2000000 in
theorem small4_s (v : Value) (l : List Wn.Cx) (most : Int) (w : World) (hv : cxK.P w (fun _ => True) v l) (hL : l.length ≤ 1152921504606846976) (hP : ∀ c ∈ l, c.1.length ≤ 1152921504606846976) (hm0 : 0 ≤ most) (hm1 : most ≤ 1000) :
    Calls Try.prog 9 #[v, .int .i64 most] w (S4Post l most w) := by
  have HV := Lib.hid hv
  have HP0 := Lib.hid hP
  obtain ⟨ao, cap, rfl, c1, c2⟩ := hv.form
  unfold maxLen at c2
  clear hv hP
  have HS : Hid ((l.length : Int) ≤ most → (l.length : Int) = ((l.length + ((l.take 0).map Wn.totC).sum : Nat) : Int) ∧ ∀ c ∈ l.take 0, Wn.s100C c) := Lib.hid (fun _ => ⟨by simp, fun c hc => by simp at hc⟩)
  go_enter Try.func9, Try.ntmps9
  go_wp2_with fail
  go_loopw [5, 6, 7] (fun v5 v6 v7 wr => ∃ (i : Nat) (n : Int), i ≤ l.length ∧ v5 = .int .i64 n ∧ v6 = .int .i64 (i : Int) ∧ Hid (wr = w) ∧ 0 ≤ n ∧ n ≤ 2305843009213693952 ∧ Hid (n ≤ most → n = ((l.length + ((l.take i).map Wn.totC).sum : Nat) : Int) ∧ ∀ c ∈ l.take i, Wn.s100C c)) (fun _ v6 _ _ => l.length - (intOf v6).toNat)
  case atStart => exact ⟨0, _, by omega, rfl, rfl, Lib.hid rfl, by omega, by omega, HS⟩
  case round =>
    clear HS
    obtain ⟨i, n, hil, rfl, rfl, HW, hp0, hp1, HE⟩ := hrel
    obtain rfl := HW.out
    clear HW
    by_cases hlt : i < l.length
    · obtain ⟨x, hx⟩ : ∃ x, l[i]? = some x := ⟨l[i], List.getElem?_eq_getElem hlt⟩
      obtain ⟨b, o, po, pc, rfl, hpt, k0, k1⟩ := cx_at HV.out hx
      have HP := Lib.hid hpt
      have hxl := HP0.out x (List.mem_of_getElem? hx)
      obtain ⟨po', pc', he, d1, d2⟩ := hpt.form
      simp only [Value.slice.injEq, true_and] at he
      obtain ⟨rfl, rfl⟩ := he
      unfold maxLen at d2
      have hi1 : (i : Int) < (l.length : Int) := by omega
      have HYS := Lib.hid (Wn.str_size x.2)
      have HXI := Lib.hid hx
      generalize Wn.str x.2 = y at *
      clear hpt hx
      by_cases hn : n ≤ most
      · have HE2 := Lib.hid (HE.out hn)
        have hw1 : IntKind.i64.wrap (n + (x.1.length : Int)) = n + (x.1.length : Int) := IntWalk.i64_in _ (by omega)
        have HS2 : Hid (n + (x.1.length : Int) ≤ most → n + (x.1.length : Int) = n + ((x.1.length + ((x.1.take 0).map fun p => (Wn.Ss.ofL p.2).size).sum : Nat) : Int) ∧ ∀ p ∈ x.1.take 0, (Wn.Ss.ofL p.2).s100) := Lib.hid (fun _ => ⟨by simp, fun c hc => by simp at hc⟩)
        clear HE
        go_wp2_with fail
        go_loopw [5, 7] (fun v5 v7 ws => ∃ (j : Nat) (m : Int), j ≤ x.1.length ∧ v5 = .int .i64 m ∧ v7 = .int .i64 (j : Int) ∧ Hid (ws = wr) ∧ 0 ≤ m ∧ m ≤ 2305843009213693952 ∧ Hid (m ≤ most → m = n + ((x.1.length + ((x.1.take j).map fun p => (Wn.Ss.ofL p.2).size).sum : Nat) : Int) ∧ ∀ p ∈ x.1.take j, (Wn.Ss.ofL p.2).s100)) (fun _ v7 _ => x.1.length - (intOf v7).toNat)
        case atStart => exact ⟨0, _, by omega, rfl, rfl, Lib.hid rfl, by omega, by omega, HS2⟩
        case round =>
          clear HS2
          obtain ⟨j, m, hjl, rfl, rfl, HW, hq0, hq1, HF⟩ := hrel
          obtain rfl := HW.out
          clear HW
          by_cases hjt : j < x.1.length
          · obtain ⟨s, hs⟩ : ∃ s, x.1[j]? = some s := ⟨x.1[j], List.getElem?_eq_getElem hjt⟩
            obtain ⟨g, q, so, sc, rfl, hsm, _, t1⟩ := pt_at HP.out hs
            have hj1 : (j : Int) < (x.1.length : Int) := by omega
            have HSI := Lib.hid hs
            by_cases hm : m ≤ most
            · have HF2 := Lib.hid (HF.out hm)
              have CS : Hid (Calls Try.prog 19 #[.slice so s.2.length sc, .int .i64 m, .int .i64 most] wr (C4Post (Wn.Ss.ofL s.2) m most wr)) := Lib.hid (count4s_all _ (Wn.Ss.ofL s.2) (Nat.lt_succ_self _) _ m most wr (SsP.k.2 (by rw [Wn.Ss.toL_ofL]; exact hsm)) (by omega) (by omega) hm0 hm1)
              clear hs hsm HF
              generalize s.2.length = sl at *
              go_wp2_with fail
              refine CS.out.mono ?_
              rintro e w1 ⟨m', rfl, rfl, hr0, hr1, hr⟩
              have HG : Hid (m' ≤ most → m' = n + ((x.1.length + ((x.1.take (j + 1)).map fun p => (Wn.Ss.ofL p.2).size).sum : Nat) : Int) ∧ ∀ p ∈ x.1.take (j + 1), (Wn.Ss.ofL p.2).s100) := Lib.hid (fun h => by
                obtain ⟨e1, e2⟩ := hr h
                obtain ⟨e3, e4⟩ := HF2.out
                refine ⟨?_, Wn.mem_step (p := fun p => (Wn.Ss.ofL p.2).s100) HSI.out e4 e2⟩
                rw [Wn.sum_step HSI.out]
                omega)
              clear hr CS
              go_wp2_with fail
              exact ⟨⟨j + 1, m', by omega, rfl, by go_num, Lib.hid (by simp), hr0, by omega, HG⟩, by simp [intOf]; try omega⟩
            · clear hs hsm
              by_cases hy : 100 < y.size
              · go_wp2_with fail
                go_ret
                exact ⟨false, rfl, rfl, fun h => by cases h⟩
              · go_wp2_with fail
                exact ⟨⟨i + 1, m, by omega, rfl, by go_num, Lib.hid (by simp), hq0, hq1, Lib.hid (fun h => absurd h hm)⟩, by simp [intOf]; try omega⟩
          · have hnj : ¬ (j : Int) < (x.1.length : Int) := by omega
            have hje : x.1.take j = x.1 := List.take_of_length_le (by omega)
            rw [hje] at HF
            clear hje
            by_cases hy : 100 < y.size
            · go_wp2_with fail
              go_ret
              exact ⟨false, rfl, rfl, fun h => by cases h⟩
            · have HG : Hid (m ≤ most → m = ((l.length + ((l.take (i + 1)).map Wn.totC).sum : Nat) : Int) ∧ ∀ c ∈ l.take (i + 1), Wn.s100C c) := Lib.hid (fun h => by
                obtain ⟨e1, e2⟩ := HF.out h
                obtain ⟨e3, e4⟩ := HE2.out
                have e5 := HYS.out
                refine ⟨?_, Wn.mem_step HXI.out e4 ⟨by omega, e2⟩⟩
                rw [Wn.sum_step HXI.out]
                have e6 : Wn.totC x = x.1.length + (x.1.map fun p => (Wn.Ss.ofL p.2).size).sum := rfl
                omega)
              go_wp2_with fail
              exact ⟨⟨i + 1, m, by omega, rfl, by go_num, Lib.hid (by simp), hq0, hq1, HG⟩, by simp [intOf]; try omega⟩
      · go_wp2_with fail
        go_ret
        exact ⟨false, rfl, rfl, fun h => by cases h⟩
    · have hni : ¬ (i : Int) < (l.length : Int) := by omega
      have hie : l.take i = l := List.take_of_length_le (by omega)
      rw [hie] at HE
      clear hie
      by_cases hn : n ≤ most
      · have HG : Hid ((Wn.totL l : Int) ≤ most ∧ ∀ c ∈ l, Wn.s100C c) := Lib.hid (by
          obtain ⟨e1, e2⟩ := HE.out hn
          exact ⟨by unfold Wn.totL; omega, e2⟩)
        go_wp2_with fail
        go_ret
        exact ⟨true, rfl, rfl, fun _ => HG.out⟩
      · go_wp2_with fail
        go_ret
        exact ⟨false, rfl, rfl, fun h => by cases h⟩
end Go.Proofs.Ytbjhiimjillleaa
set_option linter.unusedVariables false
set_option linter.unusedSimpArgs false
set_option maxRecDepth 20000
namespace Wn
open Go.RowKit
theorem nOf_le (lo hi : Int) : ∀ f : Ss, 0 ≤ nOf lo hi f ∧ nOf lo hi f ≤ (f.size : Int)
  | .nil => ⟨Int.le_refl _, Int.le_refl _⟩
  | .cons k n v a b x r => by
    obtain ⟨h1, h2⟩ := nOf_le lo hi x
    obtain ⟨h3, h4⟩ := nOf_le lo hi r
    simp only [nOf, Ss.size]
    split <;> split <;> omega
def sumN (lo hi : Int) (l : List (Int × List Sm)) : Int := (l.map fun p => nOf lo hi (Ss.ofL p.2)).sum
theorem sumN_cons (lo hi : Int) (p : Int × List Sm) (l : List (Int × List Sm)) : sumN lo hi (p :: l) = nOf lo hi (Ss.ofL p.2) + sumN lo hi l := by unfold sumN; rw [List.map_cons, List.sum_cons]
theorem sumN_app (lo hi : Int) (l m : List (Int × List Sm)) : sumN lo hi (l ++ m) = sumN lo hi l + sumN lo hi m := by unfold sumN; rw [List.map_append, List.sum_append]
theorem fold_sum : ∀ (l : List (Int × List Sm)) (g : W3), wGood g → l.foldl owStep g = (wrap64 (g.1 + sumN 3 3 l), wrap64 (g.2.1 + sumN 4 10 l), wrap64 (g.2.2 + sumN 2 2 l))
  | [], g, ⟨h1, h2, h3⟩ => by simp only [List.foldl_nil, sumN, List.map_nil, List.sum_nil, Int.add_zero, h1, h2, h3]
  | p :: l, g, h => by
    have e : owStep g p = wAdd g (Ss.ofL p.2) := wcF_eq _ _ h
    rw [List.foldl_cons, e, fold_sum l _ (wAdd_good _ _)]
    simp only [wAdd, w64_l, sumN_cons, Int.add_assoc]
theorem ofP_sum (l : List (Int × List Sm)) : ofP l = (wrap64 (sumN 3 3 l), wrap64 (sumN 4 10 l), wrap64 (sumN 2 2 l)) := by
  rw [← owP_eq]
  unfold owP
  rw [fold_sum l _ zGood]
  simp only [Int.zero_add]
/-- P6.1: more parts weigh as much as all of them together -/
theorem ofP_app (l m : List (Int × List Sm)) : ofP (l ++ m) = (wrap64 ((ofP l).1 + (ofP m).1), wrap64 ((ofP l).2.1 + (ofP m).2.1), wrap64 ((ofP l).2.2 + (ofP m).2.2)) := by
  simp only [ofP_sum, sumN_app, w64_l, w64_r]
/-- a part whose only simple is a not that has what another part has -/
def notP (p : Int × List Sm) : Int × List Sm := (0, [⟨11, [], [], 0, 0, Ss.ofL p.2⟩])
theorem nOf_not (lo hi : Int) (h : hi < 11) (p : Int × List Sm) : nOf lo hi (Ss.ofL (notP p).2) = nOf lo hi (Ss.ofL p.2) := by
  show nOf lo hi (Ss.cons 11 [] [] 0 0 (Ss.ofL p.2) .nil) = _
  simp only [nOf]
  rw [if_neg (by omega)]
  simp
theorem sumN_not (lo hi : Int) (h : hi < 11) : ∀ l : List (Int × List Sm), sumN lo hi (l.map notP) = sumN lo hi l
  | [] => rfl
  | p :: l => by rw [List.map_cons, sumN_cons, sumN_cons, sumN_not lo hi h l, nOf_not lo hi h]
theorem ofP_not (l : List (Int × List Sm)) : ofP (l.map notP) = ofP l := by
  simp only [ofP_sum, sumN_not 3 3 (by decide), sumN_not 4 10 (by decide), sumN_not 2 2 (by decide)]
theorem sumN_le (lo hi : Int) : ∀ l : List (Int × List Sm), 0 ≤ sumN lo hi l ∧ sumN lo hi l ≤ (((l.map fun p => (Ss.ofL p.2).size).sum : Nat) : Int)
  | [] => ⟨Int.le_refl _, Int.le_refl _⟩
  | p :: l => by
    obtain ⟨h1, h2⟩ := sumN_le lo hi l
    obtain ⟨h3, h4⟩ := nOf_le lo hi (Ss.ofL p.2)
    rw [sumN_cons, List.map_cons, List.sum_cons]
    omega
theorem w64_small {n : Int} (h0 : 0 ≤ n) (h1 : n ≤ 1000000) : wrap64 n = n := by unfold wrap64; omega
/-- P6.1: one part more weighs no less -/
theorem more_less (c : Cx) (p : Int × List Sm) (h : totC c + (Ss.ofL p.2).size ≤ 100000) : wless (ofC (c.1 ++ [p], c.2)) (ofC c) = false := by
  obtain ⟨l, q⟩ := c
  have ht : totC (l, q) = l.length + (l.map fun p => (Ss.ofL p.2).size).sum := rfl
  have a1 := sumN_le 3 3 l
  have a2 := sumN_le 4 10 l
  have a3 := sumN_le 2 2 l
  have b1 := nOf_le 3 3 (Ss.ofL p.2)
  have b2 := nOf_le 4 10 (Ss.ofL p.2)
  have b3 := nOf_le 2 2 (Ss.ofL p.2)
  have e1 : ∀ lo hi, sumN lo hi (l ++ [p]) = sumN lo hi l + nOf lo hi (Ss.ofL p.2) := fun lo hi => by rw [sumN_app, sumN_cons]; simp [sumN]
  rw [Bool.eq_false_iff, Ne, wless_iff]
  unfold ofC ofEnd
  simp only [ofP_sum, e1]
  rw [w64_small (n := sumN 3 3 l) (by omega) (by omega), w64_small (n := sumN 4 10 l) (by omega) (by omega), w64_small (n := sumN 2 2 l) (by omega) (by omega), w64_small (n := sumN 3 3 l + _) (by omega) (by omega), w64_small (n := sumN 4 10 l + _) (by omega) (by omega), w64_small (n := sumN 2 2 l + _) (by omega) (by omega)]
  split
  · simp only; omega
  · simp only
    rw [w64_small (n := sumN 2 2 l + 1) (by omega) (by omega), w64_small (n := sumN 2 2 l + nOf 2 2 (Ss.ofL p.2) + 1) (by omega) (by omega)]
    omega
end Wn
set_option linter.unusedVariables false
set_option linter.unusedSimpArgs false
set_option maxRecDepth 20000
namespace Go.Proofs.Ytbjhiimjillleaa
open Go.RowKit Go.Sort
/-- the frame when so many calls have answered and these variables are made -/
def frG (x1 x2 x3 : Value) (e1 e2 e3 d1 d2 d3 : Nat) (c : Nat) (b3 b4 b5 : Bool) (A B C : Nat) (a0 : Act) : Act :=
  pIf b5 d3 (.pointer (some ⟨C, 0, none⟩)) (pIf b4 d2 (.pointer (some ⟨B, 0, none⟩)) (pIf b3 d1 (.pointer (some ⟨A, 0, none⟩)) (pIf (decide (2 < c)) e3 x3 (pIf (decide (1 < c)) e2 x2 (pIf (decide (0 < c)) e1 x1 a0)))))
theorem frG_eval {x1 x2 x3 : Value} {e1 e2 e3 d1 d2 d3 c : Nat} {b3 b4 b5 : Bool} {A B C : Nat} {a0 : Act} {t : Nat} (h : t ≠ d1 ∧ t ≠ d2 ∧ t ≠ d3 ∧ t ≠ e1 ∧ t ≠ e2 ∧ t ≠ e3) : (frG x1 x2 x3 e1 e2 e3 d1 d2 d3 c b3 b4 b5 A B C a0).eval (.tmp t) = a0.eval (.tmp t) := by
  obtain ⟨h1, h2, h3, h4, h5, h6⟩ := h
  unfold frG
  rw [pIf_eval h3, pIf_eval h2, pIf_eval h1, pIf_eval h6, pIf_eval h5, pIf_eval h4]
def rdG (k1 k2 k3 i1 i2 i3 : Nat) (c : Nat) (b3 b4 b5 : Bool) : List Nat := (if c < 3 then [if c = 0 then k1 else if c = 1 then k2 else k3] else []) ++ ((if b3 then [] else [i1]) ++ ((if b4 then [] else [i2]) ++ (if b5 then [] else [i3])))
section
variable {P : Program} {ops : Array Oper} {Q : Exit → Act → World → Prop} {a0 : Act} {w1 : World} {x1 x2 x3 : Value} {z : Obj} {n0 k1 k2 k3 i1 i2 i3 e1 e2 e3 d1 d2 d3 u1 u2 u3 : Nat}
theorem weaveG (li : Nat → Bool → Bool → Bool → Array Bool) (hl1 : ∀ a b c, (li 0 a b c).setIfInBounds k1 true = li 1 a b c) (hl2 : ∀ a b c, (li 1 a b c).setIfInBounds k2 true = li 2 a b c) (hl3 : ∀ a b c, (li 2 a b c).setIfInBounds k3 true = li 3 a b c)
    (hm1 : ∀ n b c, (li n false b c).setIfInBounds i1 true = li n true b c) (hm2 : ∀ n b c, (li n b false c).setIfInBounds i2 true = li n b true c) (hm3 : ∀ n b c, (li n b c false).setIfInBounds i3 true = li n b c true)
    (hD : d1 ≠ d2 ∧ d1 ≠ d3 ∧ d2 ≠ d3 ∧ (d1 ≠ e1 ∧ d1 ≠ e2 ∧ d1 ≠ e3) ∧ (d2 ≠ e1 ∧ d2 ≠ e2 ∧ d2 ≠ e3) ∧ (d3 ≠ e1 ∧ d3 ≠ e2 ∧ d3 ≠ e3))
    (hu1 : u1 ≠ d1 ∧ u1 ≠ d2 ∧ u1 ≠ d3 ∧ u1 ≠ e1 ∧ u1 ≠ e2 ∧ u1 ≠ e3) (hu2 : u2 ≠ d1 ∧ u2 ≠ d2 ∧ u2 ≠ d3 ∧ u2 ≠ e1 ∧ u2 ≠ e2 ∧ u2 ≠ e3) (hu3 : u3 ≠ d1 ∧ u3 ≠ d2 ∧ u3 ≠ d3 ∧ u3 ≠ e1 ∧ u3 ≠ e2 ∧ u3 ≠ e3)
    (hR : ∀ c b3 b4 b5, c ≤ 3 → (c < 3 ∨ b3 = false ∨ b4 = false ∨ b5 = false) → Region.ready .any ops (li c b3 b4 b5) = rdG k1 k2 k3 i1 i2 i3 c b3 b4 b5)
    (hC1 : ∀ a w K, a.eval (.tmp u1) = a0.eval (.tmp u1) → Below w1.heap.size w1 w → (∀ w', Below w.heap.size w w' → K (a.put (some e1) x1) w') → StepW P ops Q k1 a w K)
    (hC2 : ∀ a w K, a.eval (.tmp u2) = a0.eval (.tmp u2) → Below w1.heap.size w1 w → (∀ w', Below w.heap.size w w' → K (a.put (some e2) x2) w') → StepW P ops Q k2 a w K)
    (hC3 : ∀ a w K, a.eval (.tmp u3) = a0.eval (.tmp u3) → Below w1.heap.size w1 w → (∀ w', Below w.heap.size w w' → K (a.put (some e3) x3) w') → StepW P ops Q k3 a w K)
    (hA : ∀ a w K, K (a.put (some d1) (.pointer (some ⟨w.heap.size, 0, none⟩))) (w.alloc z) → StepW P ops Q i1 a w K)
    (hB : ∀ a w K, K (a.put (some d2) (.pointer (some ⟨w.heap.size, 0, none⟩))) (w.alloc z) → StepW P ops Q i2 a w K)
    (hC : ∀ a w K, K (a.put (some d3) (.pointer (some ⟨w.heap.size, 0, none⟩))) (w.alloc z) → StepW P ops Q i3 a w K)
    (hE : ∀ A B C w, MdW w1 w z true true true A B C → wpAnyH P .any ops Q (fun W => Below w1.heap.size w1 W) n0 (li 3 true true true) (frG x1 x2 x3 e1 e2 e3 d1 d2 d3 3 true true true A B C a0) w) :
    ∀ (m c : Nat) (b3 b4 b5 : Bool) (A B C : Nat) (w : World), c ≤ 3 → m = (3 - c) + ((!b3).toNat + ((!b4).toNat + (!b5).toNat)) → MdW w1 w z b3 b4 b5 A B C →
      wpAnyH P .any ops Q (fun W => Below w1.heap.size w1 W) (n0 + m) (li c b3 b4 b5) (frG x1 x2 x3 e1 e2 e3 d1 d2 d3 c b3 b4 b5 A B C a0) w := by
  intro m
  induction m with
  | zero =>
    intro c b3 b4 b5 A B C w hc hm hd
    have h3 : c = 3 := by omega
    have e3 : b3 = true := by cases b3 <;> first | rfl | (exfalso; simp only [Bool.not_false, Bool.toNat_true] at hm; omega)
    have e4 : b4 = true := by cases b4 <;> first | rfl | (exfalso; simp only [Bool.not_false, Bool.toNat_true] at hm; omega)
    have e5 : b5 = true := by cases b5 <;> first | rfl | (exfalso; simp only [Bool.not_false, Bool.toNat_true] at hm; omega)
    subst h3 e3 e4 e5
    exact hE A B C w hd
  | succ m ih =>
    intro c b3 b4 b5 A B C w hc hm hd
    have hne : c < 3 ∨ b3 = false ∨ b4 = false ∨ b5 = false := by
      by_cases h : c < 3
      · exact .inl h
      · right
        cases b3 <;> cases b4 <;> cases b5 <;> first | exact .inl rfl | exact .inr (.inl rfl) | exact .inr (.inr rfl) | (exfalso; simp only [Bool.not_true, Bool.toNat_false] at hm; omega)
    refine wpAnyH_all (hR c b3 b4 b5 hc hne) ?_ ?_
    · unfold rdG
      rcases hne with h | h | h | h <;> simp [h]
    · intro i hi
      unfold rdG at hi
      simp only [List.mem_append] at hi
      rcases hi with hi | hi | hi | hi
      · by_cases h : c < 3
        · rw [if_pos h] at hi
          have hc3 : c = 0 ∨ c = 1 ∨ c = 2 := by omega
          rcases hc3 with rfl | rfl | rfl
          · obtain rfl : i = k1 := by simpa using hi
            refine StepW.op fun K' hK => hC1 _ _ _ (frG_eval hu1) hd.bel fun w' hb => hK _ _ ⟨(hd.below hb).bel, ?_⟩
            have := ih 1 b3 b4 b5 A B C w' (by omega) (by omega) (hd.below hb)
            have e : (frG x1 x2 x3 e1 e2 e3 d1 d2 d3 0 b3 b4 b5 A B C a0).put (some e1) x1 = frG x1 x2 x3 e1 e2 e3 d1 d2 d3 1 b3 b4 b5 A B C a0 := by
              unfold frG
              rw [pIf_put hD.2.2.2.2.2.1, pIf_put hD.2.2.2.2.1.1, pIf_put hD.2.2.2.1.1]
              rfl
            rw [e, hl1]
            exact this
          · obtain rfl : i = k2 := by simpa using hi
            refine StepW.op fun K' hK => hC2 _ _ _ (frG_eval hu2) hd.bel fun w' hb => hK _ _ ⟨(hd.below hb).bel, ?_⟩
            have := ih 2 b3 b4 b5 A B C w' (by omega) (by omega) (hd.below hb)
            have e : (frG x1 x2 x3 e1 e2 e3 d1 d2 d3 1 b3 b4 b5 A B C a0).put (some e2) x2 = frG x1 x2 x3 e1 e2 e3 d1 d2 d3 2 b3 b4 b5 A B C a0 := by
              unfold frG
              rw [pIf_put hD.2.2.2.2.2.2.1, pIf_put hD.2.2.2.2.1.2.1, pIf_put hD.2.2.2.1.2.1]
              rfl
            rw [e, hl2]
            exact this
          · obtain rfl : i = k3 := by simpa using hi
            refine StepW.op fun K' hK => hC3 _ _ _ (frG_eval hu3) hd.bel fun w' hb => hK _ _ ⟨(hd.below hb).bel, ?_⟩
            have := ih 3 b3 b4 b5 A B C w' (by omega) (by omega) (hd.below hb)
            have e : (frG x1 x2 x3 e1 e2 e3 d1 d2 d3 2 b3 b4 b5 A B C a0).put (some e3) x3 = frG x1 x2 x3 e1 e2 e3 d1 d2 d3 3 b3 b4 b5 A B C a0 := by
              unfold frG
              rw [pIf_put hD.2.2.2.2.2.2.2, pIf_put hD.2.2.2.2.1.2.2, pIf_put hD.2.2.2.1.2.2]
              rfl
            rw [e, hl3]
            exact this
        · rw [if_neg h] at hi; cases hi
      · cases b3
        · simp only [Bool.false_eq_true, if_false, List.mem_singleton] at hi
          subst hi
          refine StepW.op fun K' hK => hA _ _ _ (hK _ _ ⟨hd.alloc.bel, ?_⟩)
          have := ih c true b4 b5 w.heap.size B C _ hc (by simp at hm ⊢; omega) hd.a'
          have e : (frG x1 x2 x3 e1 e2 e3 d1 d2 d3 c false b4 b5 A B C a0).put (some d1) (.pointer (some ⟨w.heap.size, 0, none⟩)) = frG x1 x2 x3 e1 e2 e3 d1 d2 d3 c true b4 b5 w.heap.size B C a0 := by
            unfold frG
            rw [pIf_put hD.2.1.symm, pIf_put hD.1.symm]
            rfl
          rw [e, hm1]
          exact this
        · simp at hi
      · cases b4
        · simp only [Bool.false_eq_true, if_false, List.mem_singleton] at hi
          subst hi
          refine StepW.op fun K' hK => hB _ _ _ (hK _ _ ⟨hd.alloc.bel, ?_⟩)
          have := ih c b3 true b5 A w.heap.size C _ hc (by simp at hm ⊢; omega) hd.b'
          have e : (frG x1 x2 x3 e1 e2 e3 d1 d2 d3 c b3 false b5 A B C a0).put (some d2) (.pointer (some ⟨w.heap.size, 0, none⟩)) = frG x1 x2 x3 e1 e2 e3 d1 d2 d3 c b3 true b5 A w.heap.size C a0 := by
            unfold frG
            rw [pIf_put hD.2.2.1.symm]
            rfl
          rw [e, hm2]
          exact this
        · simp at hi
      · cases b5
        · simp only [Bool.false_eq_true, if_false, List.mem_singleton] at hi
          subst hi
          refine StepW.op fun K' hK => hC _ _ _ (hK _ _ ⟨hd.alloc.bel, ?_⟩)
          have := ih c b3 b4 true A B w.heap.size _ hc (by simp at hm ⊢; omega) hd.c'
          have e : (frG x1 x2 x3 e1 e2 e3 d1 d2 d3 c b3 b4 false A B C a0).put (some d3) (.pointer (some ⟨w.heap.size, 0, none⟩)) = frG x1 x2 x3 e1 e2 e3 d1 d2 d3 c b3 b4 true A B w.heap.size a0 := by
            unfold frG
            rfl
          rw [e, hm3]
          exact this
        · simp at hi
end
end Go.Proofs.Ytbjhiimjillleaa
set_option linter.unusedVariables false
set_option linter.unusedSimpArgs false
set_option maxRecDepth 20000
namespace Go.Proofs.Ytbjhiimjillleaa
open Go.RowKit Go.Sort
section
variable {P : Program} {ops : Array Oper} {Q : Exit → Act → World → Prop} {S : World → Prop} {n0 : Nat}
/-- R p q: so many of the first chain have come up, so many of the second -/
theorem chains (R : Nat → Nat → Act → World → Prop) (li : Nat → Nat → Array Bool) (M N : Nat) (f g : Nat → Nat)
    (hf : ∀ p q, p < M → q ≤ N → (li p q).setIfInBounds (f p) true = li (p + 1) q) (hg : ∀ p q, p ≤ M → q < N → (li p q).setIfInBounds (g q) true = li p (q + 1))
    (hR : ∀ p q, p ≤ M → q ≤ N → p < M ∨ q < N → Region.ready .any ops (li p q) ≠ [] ∧ ∀ i ∈ Region.ready .any ops (li p q), (p < M ∧ i = f p) ∨ (q < N ∧ i = g q))
    (hF : ∀ p q a w, p < M → q ≤ N → R p q a w → ∀ K, (∀ a' w', R (p + 1) q a' w' → K a' w') → StepW P ops Q (f p) a w K)
    (hG : ∀ p q a w, p ≤ M → q < N → R p q a w → ∀ K, (∀ a' w', R p (q + 1) a' w' → K a' w') → StepW P ops Q (g q) a w K)
    (hS : ∀ p q a w, R p q a w → S w)
    (hE : ∀ a w, R M N a w → wpAnyH P .any ops Q S n0 (li M N) a w) :
    ∀ (m p q : Nat) (a : Act) (w : World), p ≤ M → q ≤ N → m = (M - p) + (N - q) → R p q a w → wpAnyH P .any ops Q S (n0 + m) (li p q) a w := by
  intro m
  induction m with
  | zero =>
    intro p q a w hp hq hm hr
    obtain rfl : p = M := by omega
    obtain rfl : q = N := by omega
    exact hE a w hr
  | succ m ih =>
    intro p q a w hp hq hm hr
    obtain ⟨h1, h2⟩ := hR p q hp hq (by omega)
    refine wpAnyH_all rfl h1 fun i hi => ?_
    rcases h2 i hi with ⟨hlt, rfl⟩ | ⟨hlt, rfl⟩
    · refine StepW.op fun K' hK => hF p q a w hlt hq hr K' fun a' w' hr' => hK _ _ ⟨hS _ _ _ _ hr', ?_⟩
      rw [hf p q hlt hq]
      exact ih (p + 1) q a' w' (by omega) hq (by omega) hr'
    · refine StepW.op fun K' hK => hG p q a w hp hlt hr K' fun a' w' hr' => hK _ _ ⟨hS _ _ _ _ hr', ?_⟩
      rw [hg p q hp hlt]
      exact ih p (q + 1) a' w' hp (by omega) (by omega) hr'
end
end Go.Proofs.Ytbjhiimjillleaa
set_option linter.unusedVariables false
set_option linter.unusedSimpArgs false
set_option maxRecDepth 20000
namespace Go.Proofs.Ytbjhiimjillleaa
open Go.RowKit Go.Sort
theorem rdy_of {r : List Nat} {p : Nat → Prop} (l : List Nat) (e : r = l) (hne : l ≠ []) (h : ∀ i ∈ l, p i) : r ≠ [] ∧ ∀ i ∈ r, p i := by subst e; exact ⟨hne, h⟩
namespace RK
variable {α : Type} {K : RK α} {w' W : World} {base : Nat} {ok : Nat → Prop} {v v' : Value} {es fs : List (List Value)} {l m : List α}
theorem Own.cat (h : K.Own base ok W v es l) (hm : K.Row W (fun b => ok b ∧ v.ownBlock ≠ some b) fs m) (hown : w'.ownsRow base K.e K.sz v' (es ++ fs).length (es ++ fs).flatten) (hg : W.grownBy w' v.ownBlock) (hat : v'.ownBlock = v.ownBlock ∨ v'.ownBlock = some W.heap.size) : K.Own base ok w' v' (es ++ fs) (l ++ m) := by
  have hs : ∀ b, (ok b ∧ v.ownBlock ≠ some b) → b < W.heap.size → w'.heap[b]? = W.heap[b]? := fun b hb' hl => hg.block b hl (fun e => hb'.2 e.symm)
  have ho : ∀ b, (ok b ∧ v.ownBlock ≠ some b) → b < W.heap.size → (ok b ∧ v'.ownBlock ≠ some b) := fun b hb' hl => ⟨hb'.1, by
    rcases hat with e | e
    · rw [e]; exact hb'.2
    · rw [e]; intro e'; simp at e'; omega⟩
  exact ⟨hown, (h.row.same hs ho).app (hm.same hs ho)⟩
theorem Own.startB {e : TypeId} (he : e = K.e) (w : World) (hb : base ≤ w.heap.size) : K.Own base ok (w.alloc (.cells #[] e)) (.slice (some ⟨w.heap.size, 0, none⟩) 0 0) [] [] := by
  subst he
  exact ⟨⟨by simp, .inr ⟨w.heap.size, 0, _, rfl, hb, heap_alloc_new w _, Nat.le_refl _, by unfold maxLen; omega, by simp, by simp⟩⟩, trivial⟩
end RK
/-- what holds while the two lists are laid one behind the other: so many steps of it are done, and the variable is made or not -/
def CatR (K : Nat) (W2 : World) (a b : List (Int × List Wn.Sm)) (z : Obj) (a0 : Act) (p q : Nat) (f : Act) (w : World) : Prop :=
  ∃ (v1 v2 v3 cur : Value) (A : Nat) (es : List (List Value)) (l : List (Int × List Wn.Sm)),
    f = pIf (decide (0 < q)) 5 (.pointer (some ⟨A, 0, none⟩)) (pIf (decide (3 < p)) 28 (.agg #[v3, .string ⟨#[]⟩]) (pIf (decide (2 < p)) 27 v3 (pIf (decide (1 < p)) 24 v2 (pIf (decide (0 < p)) 21 v1 a0)))) ∧
    K = W2.heap.size ∧ Below K W2 w ∧ (0 < q → K ≤ A ∧ w.heap[A]? = some z) ∧ (0 < p → ptK.Own K (fun c => c < K) w cur es l ∧ (0 < q → cur.ownBlock ≠ some A)) ∧
    (p = 1 → cur = v1 ∧ l = []) ∧ (p = 2 → cur = v2 ∧ l = a) ∧ (3 ≤ p → cur = v3 ∧ l = a ++ b)
section
variable {Q : Exit → Act → World → Prop} {ops : Array Oper} {W2 : World} {a b : List (Int × List Wn.Sm)} {z : Obj} {a0 : Act} {K : Nat}
theorem CatR.alloc {p q : Nat} {f : Act} {w : World} (h : CatR K W2 a b z a0 p q f w) (hp : p ≤ 4) (hq : q < 1) : CatR K W2 a b z a0 p (q + 1) (f.put (some 5) (.pointer (some ⟨w.heap.size, 0, none⟩))) (w.alloc z) := by
  obtain ⟨v1, v2, v3, cur, A, es, l, rfl, hK, hB, hA, hO, h1, h2, h3⟩ := h
  have hq0 : q = 0 := by omega
  subst hq0
  refine ⟨v1, v2, v3, cur, w.heap.size, es, l, rfl, hK, hB.alloc (by rw [hK]; exact (hK ▸ hB).size) _, fun _ => ⟨by rw [hK]; exact (hK ▸ hB).size, heap_alloc_new w z⟩, fun hp => ⟨(hO hp).1.below ((Below.refl _ _).alloc (Nat.le_refl _) _), fun _ e => ?_⟩, h1, h2, h3⟩
  have := ((hO hp).1.own.lt _ e).2
  omega
theorem CatR.start {q : Nat} {f : Act} {w : World} (h : CatR K W2 a b z a0 0 q f w) (hq : q ≤ 1) : CatR K W2 a b z a0 1 q (f.put (some 21) (.slice (some ⟨w.heap.size, 0, none⟩) 0 0)) (w.alloc (.cells #[] 43)) := by
  obtain ⟨v1, v2, v3, cur, A, es, l, rfl, hK, hB, hA, hO, h1, h2, h3⟩ := h
  have hsz : K ≤ w.heap.size := by rw [hK]; exact (hK ▸ hB).size
  refine ⟨.slice (some ⟨w.heap.size, 0, none⟩) 0 0, v2, v3, .slice (some ⟨w.heap.size, 0, none⟩) 0 0, A, [], [], by rw [pIf_put (by decide)]; rfl, hK, hB.alloc hsz _, fun h => ⟨(hA h).1, block_alloc (hA h).2 _⟩, fun _ => ⟨RK.Own.startB (K := ptK) rfl w hsz, fun hq e => ?_⟩, fun _ => ⟨rfl, rfl⟩, fun h => by omega, fun h => by omega⟩
  simp only [Value.ownBlock, Option.some.injEq] at e
  have := lt_of_block (hA hq).2
  omega
theorem CatR.app1 {q : Nat} {f : Act} {w : World} {u : Value} (h : CatR K W2 a b z a0 1 q f w) (hu : ∀ W, Below K W2 W → ptK.P W (fun c => c < K) u a) (hla : a.length ≤ 1000) (hlb : b.length ≤ 1000) {o : Oper} (ho : ops[3]? = some o) (hgd : o.guard = none) (hop : o.op = .call { callee := .builtin .append, args := #[.tmp 21, .tmp 23], argTypes := #[ptK.t, ptK.t] }) (hdst : o.dst = some 24) (hx : a0.eval (.tmp 23) = u) (hsz : 30 < a0.tmps.size) {K' : Act → World → Prop}
    (hK' : ∀ f' w', CatR K W2 a b z a0 2 q f' w' → K' f' w') : StepW Try.prog ops Q 3 f w K' := by
  obtain ⟨v1, v2, v3, cur, A, es, l, rfl, hK, hB, hA, hO, h1, h2, h3⟩ := h
  obtain ⟨hO1, hO2⟩ := hO (by decide)
  obtain ⟨rfl, rfl⟩ := h1 rfl
  have hs : K ≤ w.heap.size := by rw [hK]; exact (hK ▸ hB).size
  have hel := hO1.length
  obtain ⟨fs, hsrc, hrow⟩ := RK.P.src (hu w hB)
  have hfl := hrow.length
  have hll : es.length + fs.length ≤ 1048576 := by
    rw [hel, hfl]
    simp only [List.length_nil] <;> omega
  refine ⟨o, ho, RK.step_append (K := ptK) hgd _ _ hop K cur u es fs ?_ ?_ hO1.own hsrc hll hs fun v' w' g1 g2 g3 => ?_⟩
  · rw [pIf_eval (by decide), pIf_eval (by decide), pIf_eval (by decide), pIf_eval (by decide)]
    show (a0.put (some 21) cur).eval (.tmp 21) = cur
    simp [Act.eval, Act.put, show 21 < a0.tmps.size by omega]
  · rw [pIf_eval (by decide), pIf_eval (by decide), pIf_eval (by decide), pIf_eval (by decide), pIf_eval (by decide)]; exact hx
  · rw [hdst]
    have hcat : ptK.Own K (fun c => c < K) w' v' (es ++ fs) ([] ++ a) := hO1.cat (hrow.mono (fun c hc _ => ⟨hc, fun e => by have := (hO1.own.lt c e).1; have : c < K := hc; omega⟩)) g1 g2 g3
    refine hK' _ _ ⟨cur, v', v3, v', A, es ++ fs, [] ++ a, ?_, hK, Below.grown hB g2 hs (fun c hc => (hO1.own.lt c hc).1), fun hq => ⟨(hA hq).1, (g2.block A (lt_of_block (hA hq).2) (fun e => hO2 hq e.symm)).trans (hA hq).2⟩, fun _ => ⟨hcat, fun hq e => ?_⟩, fun h => by omega, fun _ => ⟨rfl, rfl⟩, fun h => by omega⟩
    · rw [pIf_put (by decide)]; rfl
    · rcases g3 with g3 | g3
      · rw [g3] at e; exact hO2 hq e
      · rw [g3] at e
        simp only [Option.some.injEq] at e
        have := lt_of_block (hA hq).2
        omega
theorem CatR.app2 {q : Nat} {f : Act} {w : World} {u : Value} (h : CatR K W2 a b z a0 2 q f w) (hu : ∀ W, Below K W2 W → ptK.P W (fun c => c < K) u b) (hla : a.length ≤ 1000) (hlb : b.length ≤ 1000) {o : Oper} (ho : ops[6]? = some o) (hgd : o.guard = none) (hop : o.op = .call { callee := .builtin .append, args := #[.tmp 24, .tmp 26], argTypes := #[ptK.t, ptK.t] }) (hdst : o.dst = some 27) (hx : a0.eval (.tmp 26) = u) (hsz : 30 < a0.tmps.size) {K' : Act → World → Prop}
    (hK' : ∀ f' w', CatR K W2 a b z a0 3 q f' w' → K' f' w') : StepW Try.prog ops Q 6 f w K' := by
  obtain ⟨v1, v2, v3, cur, A, es, l, rfl, hK, hB, hA, hO, h1, h2, h3⟩ := h
  obtain ⟨hO1, hO2⟩ := hO (by decide)
  obtain ⟨rfl, hl⟩ := h2 rfl
  subst hl
  have hs : K ≤ w.heap.size := by rw [hK]; exact (hK ▸ hB).size
  have hel := hO1.length
  obtain ⟨fs, hsrc, hrow⟩ := RK.P.src (hu w hB)
  have hfl := hrow.length
  have hll : es.length + fs.length ≤ 1048576 := by
    rw [hel, hfl]
    omega
  refine ⟨o, ho, RK.step_append (K := ptK) hgd _ _ hop K cur u es fs ?_ ?_ hO1.own hsrc hll hs fun v' w' g1 g2 g3 => ?_⟩
  · rw [pIf_eval (by decide), pIf_eval (by decide), pIf_eval (by decide)]
    show ((a0.put (some 21) v1).put (some 24) cur).eval (.tmp 24) = cur
    simp [Act.eval, Act.put, show 24 < a0.tmps.size by omega]
  · rw [pIf_eval (by decide), pIf_eval (by decide), pIf_eval (by decide), pIf_eval (by decide), pIf_eval (by decide)]; exact hx
  · rw [hdst]
    have hcat : ptK.Own K (fun c => c < K) w' v' (es ++ fs) (l ++ b) := hO1.cat (hrow.mono (fun c hc _ => ⟨hc, fun e => by have := (hO1.own.lt c e).1; have : c < K := hc; omega⟩)) g1 g2 g3
    refine hK' _ _ ⟨v1, cur, v', v', A, es ++ fs, l ++ b, ?_, hK, Below.grown hB g2 hs (fun c hc => (hO1.own.lt c hc).1), fun hq => ⟨(hA hq).1, (g2.block A (lt_of_block (hA hq).2) (fun e => hO2 hq e.symm)).trans (hA hq).2⟩, fun _ => ⟨hcat, fun hq e => ?_⟩, fun h => by omega, fun h => by omega, fun _ => ⟨rfl, rfl⟩⟩
    · rw [pIf_put (by decide)]; rfl
    · rcases g3 with g3 | g3
      · rw [g3] at e; exact hO2 hq e
      · rw [g3] at e
        simp only [Option.some.injEq] at e
        have := lt_of_block (hA hq).2
        omega
theorem CatR.build {q : Nat} {f : Act} {w : World} (h : CatR K W2 a b z a0 3 q f w) (hsz : 30 < a0.tmps.size) {K' : Act → World → Prop} (hK' : ∀ f' w', CatR K W2 a b z a0 4 q f' w' → K' f' w') : ∃ ro rn rc, f.eval (.tmp 27) = .slice ro rn rc ∧ K' (f.put (some 28) (.agg #[.slice ro rn rc, .string ⟨#[]⟩])) w := by
  obtain ⟨v1, v2, v3, cur, A, es, l, rfl, hK, hB, hA, hO, h1, h2, h3⟩ := h
  obtain ⟨ro, rc, hform, _, _⟩ := own_shape (hO (by decide)).1.own
  obtain ⟨hc3, hl3⟩ := h3 (by decide)
  subst hc3
  subst hform
  refine ⟨ro, es.length, rc, ?_, hK' _ _ ⟨v1, v2, .slice ro es.length rc, .slice ro es.length rc, A, es, l, ?_, hK, hB, hA, fun _ => hO (by decide), fun h => by omega, fun h => by omega, fun _ => ⟨rfl, hl3⟩⟩⟩
  · rw [pIf_eval (by decide), pIf_eval (by decide)]
    show (((a0.put (some 21) v1).put (some 24) v2).put (some 27) (.slice ro es.length rc)).eval (.tmp 27) = .slice ro es.length rc
    simp [Act.eval, Act.put, show 27 < a0.tmps.size by omega]
  · rw [pIf_put (by decide)]; rfl
end
end Go.Proofs.Ytbjhiimjillleaa
set_option linter.unusedVariables false
set_option linter.unusedSimpArgs false
set_option maxRecDepth 20000
namespace Go.Proofs.Ytbjhiimjillleaa
open Go.RowKit Go.Sort
/-- what holds while a not is laid: so many steps of it are done, and the list is loaded or not -/
def NotR (wr : World) (so v : Value) (a0 : Act) (p q : Nat) (f : Act) (w : World) : Prop :=
  ∃ (B C : Nat), f = pIf (decide (0 < q)) 50 v (pIf (decide (2 < p)) 60 (.slice (some ⟨C, 0, none⟩) 1 1) (pIf (decide (1 < p)) 59 (.agg #[.int .i64 0, .slice (some ⟨B, 0, none⟩) 1 1]) (pIf (decide (0 < p)) 58 (.slice (some ⟨B, 0, none⟩) 1 1) a0))) ∧
    Below wr.heap.size wr w ∧ (0 < p → wr.heap.size ≤ B ∧ w.heap[B]? = some (.cells #[.int .i64 11, .string ⟨#[]⟩, .string ⟨#[]⟩, .int .i64 0, .int .i64 0, so] 45)) ∧
    (2 < p → wr.heap.size ≤ C ∧ B ≠ C ∧ w.heap[C]? = some (.cells #[.int .i64 0, .slice (some ⟨B, 0, none⟩) 1 1] 43))
section
variable {wr w : World} {so v : Value} {a0 f : Act} {p q : Nat}
theorem NotR.eval (h : NotR wr so v a0 p q f w) {t : Nat} (ht : t ≠ 50 ∧ t ≠ 58 ∧ t ≠ 59 ∧ t ≠ 60) : f.eval (.tmp t) = a0.eval (.tmp t) := by
  obtain ⟨B, C, rfl, _⟩ := h
  rw [pIf_eval ht.1, pIf_eval ht.2.2.2, pIf_eval ht.2.2.1, pIf_eval ht.2.1]
theorem NotR.bel (h : NotR wr so v a0 p q f w) : Below wr.heap.size wr w := by
  obtain ⟨B, C, _, hB, _⟩ := h
  exact hB
theorem NotR.start (wr : World) (so v : Value) (a0 : Act) {w : World} (hw : Below wr.heap.size wr w) : NotR wr so v a0 0 0 a0 w := ⟨0, 0, rfl, hw, fun h => by omega, fun h => by omega⟩
theorem NotR.s58 (h : NotR wr so v a0 0 q f w) : NotR wr so v a0 1 q (f.put (some 58) (.slice (some ⟨w.heap.size, 0, none⟩) 1 1)) (w.alloc (.cells #[.int .i64 11, .string ⟨#[]⟩, .string ⟨#[]⟩, .int .i64 0, .int .i64 0, so] 45)) := by
  obtain ⟨B, C, rfl, hB, _, _⟩ := h
  refine ⟨w.heap.size, C, ?_, hB.alloc hB.size _, fun _ => ⟨hB.size, heap_alloc_new w _⟩, fun h => by omega⟩
  rw [pIf_put (by decide)]; rfl
theorem NotR.s59 (h : NotR wr so v a0 1 q f w) (hsz : 70 < a0.tmps.size) : ∃ B : Nat, f.eval (.tmp 58) = .slice (some ⟨B, 0, none⟩) 1 1 ∧ NotR wr so v a0 2 q (f.put (some 59) (.agg #[.int .i64 0, .slice (some ⟨B, 0, none⟩) 1 1])) w := by
  obtain ⟨B, C, rfl, hB, h1, _⟩ := h
  refine ⟨B, ?_, B, C, ?_, hB, fun _ => h1 (by decide), fun h => by omega⟩
  · rw [pIf_eval (by decide)]
    show (a0.put (some 58) (.slice (some ⟨B, 0, none⟩) 1 1)).eval (.tmp 58) = _
    simp [Act.eval, Act.put, show 58 < a0.tmps.size by omega]
  · rw [pIf_put (by decide)]; rfl
theorem NotR.s60 (h : NotR wr so v a0 2 q f w) (hsz : 70 < a0.tmps.size) : ∃ B : Nat, f.eval (.tmp 59) = .agg #[.int .i64 0, .slice (some ⟨B, 0, none⟩) 1 1] ∧ NotR wr so v a0 3 q (f.put (some 60) (.slice (some ⟨w.heap.size, 0, none⟩) 1 1)) (w.alloc (.cells #[.int .i64 0, .slice (some ⟨B, 0, none⟩) 1 1] 43)) := by
  obtain ⟨B, C, rfl, hB, h1, _⟩ := h
  obtain ⟨g1, g2⟩ := h1 (by decide)
  refine ⟨B, ?_, B, w.heap.size, ?_, hB.alloc hB.size _, fun _ => ⟨g1, block_alloc g2 _⟩, fun _ => ⟨hB.size, by have := lt_of_block g2; omega, heap_alloc_new w _⟩⟩
  · rw [pIf_eval (by decide)]
    show ((a0.put (some 58) (.slice (some ⟨B, 0, none⟩) 1 1)).put (some 59) (.agg #[.int .i64 0, .slice (some ⟨B, 0, none⟩) 1 1])).eval (.tmp 59) = _
    simp [Act.eval, Act.put, show 59 < a0.tmps.size by omega]
  · rw [pIf_put (by decide)]; rfl
theorem NotR.ld (h : NotR wr so v a0 p 0 f w) : NotR wr so v a0 p 1 (f.put (some 50) v) w := by
  obtain ⟨B, C, rfl, hB, h1, h2⟩ := h
  exact ⟨B, C, rfl, hB, h1, h2⟩
theorem srcC {B C : Nat} (h : w.heap[C]? = some (.cells #[.int .i64 0, .slice (some ⟨B, 0, none⟩) 1 1] 43)) : ptK.Src w (.slice (some ⟨C, 0, none⟩) 1 1) [[.int .i64 0, .slice (some ⟨B, 0, none⟩) 1 1]] := by
  refine ⟨rfl, fun c hc => ?_, .inr ⟨⟨C, 0, none⟩, 1, rfl, fun j u hj => ?_⟩⟩
  · simp at hc
    rcases hc with rfl | rfl <;> rfl
  · rw [addr_add, cell_of_block h]
    simpa using hj
theorem NotR.app {ops : Array Oper} {Q : Exit → Act → World → Prop} {K' : Act → World → Prop} {base : Nat} {es : List (List Value)} {o : Oper} (h : NotR wr so v a0 3 1 f w) (hown : w.ownsRow base ptK.e ptK.sz v es.length es.flatten) (hlen : es.length ≤ 1000) (hbase : base ≤ w.heap.size)
    (ho : ops[12]? = some o) (hgd : o.guard = none) (hop : o.op = .call { callee := .builtin .append, args := #[.tmp 50, .tmp 60], argTypes := #[ptK.t, ptK.t] }) (hdst : o.dst = some 61) (hsz : 70 < a0.tmps.size)
    (hK' : ∀ B v' w', wr.heap.size ≤ B → w.heap[B]? = some (.cells #[.int .i64 11, .string ⟨#[]⟩, .string ⟨#[]⟩, .int .i64 0, .int .i64 0, so] 45) →
      w'.ownsRow base ptK.e ptK.sz v' (es ++ [[Value.int .i64 0, Value.slice (some ⟨B, 0, none⟩) 1 1]]).length (es ++ [[Value.int .i64 0, Value.slice (some ⟨B, 0, none⟩) 1 1]]).flatten → w.grownBy w' v.ownBlock → (v'.ownBlock = v.ownBlock ∨ v'.ownBlock = some w.heap.size) → K' (f.put (some 61) v') w') : StepW Try.prog ops Q 12 f w K' := by
  obtain ⟨B, C, rfl, hB, h1, h2⟩ := h
  obtain ⟨g1, g2⟩ := h1 (by decide)
  obtain ⟨_, _, g3⟩ := h2 (by decide)
  refine ⟨o, ho, RK.step_append (K := ptK) hgd _ _ hop base v (.slice (some ⟨C, 0, none⟩) 1 1) es [[Value.int .i64 0, Value.slice (some ⟨B, 0, none⟩) 1 1]] ?_ ?_ hown (srcC g3) (by simp; omega) hbase fun v' w' q1 q2 q3 => ?_⟩
  · show ((((a0.put (some 58) _).put (some 59) _).put (some 60) _).put (some 50) v).eval (.tmp 50) = v
    simp [Act.eval, Act.put, show 50 < a0.tmps.size by omega]
  · rw [pIf_eval (by decide)]
    show (((a0.put (some 58) _).put (some 59) _).put (some 60) (.slice (some ⟨C, 0, none⟩) 1 1)).eval (.tmp 60) = _
    simp [Act.eval, Act.put, show 60 < a0.tmps.size by omega]
  · rw [hdst]
    exact hK' B v' w' g1 g2 q1 q2 q3
/-- the not in memory -/
theorem not_R {B : Nat} {ok : Nat → Prop} {so : Value} {x : Int × List Wn.Sm} (h : w.heap[B]? = some (.cells #[.int .i64 11, .string ⟨#[]⟩, .string ⟨#[]⟩, .int .i64 0, .int .i64 0, so] 45)) (hB : ok B) (hs : smK.P w ok so x.2) : ptK.R w ok [.int .i64 0, .slice (some ⟨B, 0, none⟩) 1 1] (Wn.notP x) :=
  ⟨_, rfl, RK.P.mk (K := smK) (es := [[.int .i64 11, .string ⟨#[]⟩, .string ⟨#[]⟩, .int .i64 0, .int .i64 0, so]]) h ⟨⟨so, rfl, SsP.k.2 (by show smK.P w ok so (Wn.Ss.ofL x.2).toL; rw [Wn.Ss.toL_ofL]; exact hs)⟩, trivial⟩ rfl rfl (by simp [Wn.notP]) hB⟩
end
end Go.Proofs.Ytbjhiimjillleaa
set_option linter.unusedVariables false
set_option linter.unusedSimpArgs false
set_option maxRecDepth 20000
namespace Go.Proofs.Ytbjhiimjillleaa
open Go.ChangeShapes Go.WideShapes Go.RowKit Go.Deep
section
variable {H : Type} {enc : TypeId × Value → H} {w : World} {base : Nat} {spare : Nat → Bool} {held : Bool}
theorem bytes_pt : Try.prog.bytesOf 43 = 32 := by kernel_rfl
/-- the parts' slice: its length, out of what the reading weighs -/
theorem pts_len {fuel : Nat} {a : Option Addr} {n cap : Nat} {x : DataW H × List MemPlace} (h : DataW.trod enc Try.prog w base spare held fuel 29 [.slice a n cap] = some x) (hw : ∀ m ∈ x.1.weights Try.prog 29, m ≤ reachBytes) : n ≤ 1152921504606846976 := by
  rcases DataW.trod_slice Try.underlying29 h with ⟨h0, _⟩ | ⟨b, len, cap', elems, rest, m, _, h0, hx, _, _, _, hlen, _⟩
  · simp only [List.cons.injEq, Value.slice.injEq, and_true] at h0
    omega
  · simp only [List.cons.injEq, Value.slice.injEq, and_true] at h0
    have h1 := hw (((elems.map (·.1)).length + (rest.map (·.1)).length) * Try.prog.bytesOf 43) (by rw [hx]; simp [DataW.weights, Try.underlying29])
    rw [bytes_pt, List.length_map, List.length_map] at h1
    have h2 := reachBytes_lt
    omega
/-- a selector by value -/
theorem open_cx {r : Reach} {b0 : Nat} {v : Value} {d : DataW H} {p : List MemPlace} (hv : Value.okWide Try.prog w r b0 31 v) (h : DataW.Trod enc Try.prog w base spare held 31 v d p) :
    ∃ (c : Wn.Cx) (po : Option Addr) (pc : Nat), v = .agg #[.slice po c.1.length pc, .string (Wn.str c.2)] ∧ ptK.P w (fun _ => True) (.slice po c.1.length pc) c.1 ∧ ((∀ m ∈ d.weights Try.prog 31, m ≤ reachBytes) → c.1.length ≤ 1152921504606846976) := by
  obtain ⟨cs, rfl, _⟩ := okWide_struct Try.underlying31 hv
  obtain ⟨fuel, h⟩ := h
  obtain ⟨ys, n', hn', hy, hlen, hyl, hf⟩ := DataW.trod_struct Try.underlying31 h
  have h0 : DataW.trod enc Try.prog w base spare held n' 29 (((Value.agg cs).cells.toList.drop 0).take (Try.prog.cellsOf 29)) = ys[0]? := hf 0 _ rfl
  have h1 : DataW.trod enc Try.prog w base spare held n' 9 (((Value.agg cs).cells.toList.drop 1).take (Try.prog.cellsOf 9)) = ys[1]? := hf 1 _ rfl
  rw [cells_slp] at h0
  rw [cells_str] at h1
  have hcl : (Value.agg cs).cells.toList = cs.toList := by simp [Value.cells]
  rw [hcl] at h0 h1 hlen
  obtain ⟨l⟩ := cs
  match l, hlen.trans cells_cx with
  | [c0, c1], _ =>
    match ys, hyl with
    | [y0, y1], _ =>
      simp only [List.drop_zero, List.drop_succ_cons, List.take_succ_cons, List.take_zero, List.getElem?_cons_zero, List.getElem?_cons_succ] at h0 h1
      obtain ⟨u, pl, e0, hp⟩ := open_ptsF _ _ _ h0
      obtain ⟨s, e1, _, _⟩ := DataW.trod_string Try.underlying9 h1
      simp only [List.cons.injEq, and_true] at e0 e1
      subst e0 e1
      obtain ⟨po, pc, rfl, _, _⟩ := hp.form
      refine ⟨(pl, s.data.toList), po, pc, by rw [← str_of], hp, fun hw => pts_len h0 fun m hm => hw m ?_⟩
      have hd : d = .agg [y0.1, y1.1] := congrArg Prod.fst hy
      rw [hd]
      simp only [DataW.weights, Try.underlying31]
      exact DataW.weights_mem_each (j := 0) rfl rfl m hm
/-- a simple selector by value -/
theorem open_sm {r : Reach} {b0 : Nat} {v : Value} {d : DataW H} {p : List MemPlace} (hv : Value.okWide Try.prog w r b0 45 v) (h : DataW.Trod enc Try.prog w base spare held 45 v d p) :
    ∃ (x : Wn.Sm) (uo : Option Addr) (uc : Nat), v = smV x (.slice uo x.l.len uc) ∧ SsP w (fun _ => True) (.slice uo x.l.len uc) x.l := by
  obtain ⟨cs, rfl, _⟩ := okWide_struct Try.underlying45 hv
  obtain ⟨fuel, h⟩ := h
  have hcl : (Value.agg cs).cells.toList = cs.toList := by simp [Value.cells]
  rw [hcl] at h
  obtain ⟨x, u, hc, hu⟩ := open_smC h
  obtain ⟨uo, uc, rfl, _, _⟩ := hu.form
  refine ⟨x, uo, uc, ?_, hu⟩
  congr 1
  cases cs; simpa [smCells] using hc
end
end Go.Proofs.Ytbjhiimjillleaa
