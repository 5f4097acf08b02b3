/- The verifier's second writing of nest: what open, last, delim answer. The verifier's second writing of nest: what few and Small answer. The verifier's second writing of nest: what Same answers. -/
import Derived.Test.YtjlejiphpbaonaaGreatDoorGR
set_option linter.unusedVariables false
set_option linter.unusedSimpArgs false
set_option maxRecDepth 20000
namespace Wn
/-- the kind of the block that a token opens; 0: none -/
def openK (t : Tok) : Int := if kindOf t = 1 then 0 else kindOf t
/-- is a token the last one of a kind? -/
def lastOf (t : Tok) (k : Int) : Bool := decide (t = dlm (closeB k))
end Wn
namespace Go.Proofs.YtjlejiphpbaonaaGreatDoor
open Go.RowKit Go.Sort
theorem rdelim_any (x : ByteArray) (w : World) :
    Calls Tryz.prog 78 #[.string x] w fun e w' => e = .returned (.agg #[.int .i64 7, .string x, .int .i64 0]) ∧ Below w.heap.size w w' := by
  go_enter Tryz.func78, Tryz.ntmps78
  go_wp2
  exact bodyPost_ret (v := .agg #[.int .i64 7, .string x, .int .i64 0]) (by simp [results, Tryz.results78, go_sem]) rfl ⟨rfl, by repeat (first | exact Below.refl _ _ | refine Below.setCell ?_ (by simp) _ | refine Below.alloc ?_ (by simp) _)⟩
theorem openK_of {t : Wn.Tok} {c : Int} (h : Wn.openK t = c) : c = if t.1 = 2 then 5 else if t.1 = 7 ∧ t.2.2 = 0 then (if t.2.1 = [40] then 2 else if t.2.1 = [91] then 3 else if t.2.1 = [123] then 4 else 0) else 0 := by
  subst h
  obtain ⟨a, b, d⟩ := t
  unfold Wn.openK Wn.kindOf Wn.dlm
  simp only [Prod.mk.injEq]
  by_cases h2 : a = 2
  · simp [h2]
  · by_cases h7 : a = 7
    · by_cases h0 : d = 0
      · by_cases e1 : b = [40]
        · simp [h7, h0, e1]
        · by_cases e2 : b = [91]
          · simp [h7, h0, e2]
          · by_cases e3 : b = [123]
            · simp [h7, h0, e3]
            · simp [h7, h0, e1, e2, e3]
      · simp [h7, h0]
    · simp [h2, h7]
set_option maxHeartbeats 1000000 in
theorem ropen_any (t : Wn.Tok) (w : World) :
    Calls Tryz.prog 95 #[.agg #[.int .i64 t.1, .string (Wn.str t.2.1), .int .i64 t.2.2]] w fun e w' => e = .returned (.int .i64 (Wn.openK t)) ∧ Below w.heap.size w w' := by
  generalize hc : Wn.openK t = c
  have hc' := openK_of hc
  clear hc
  obtain ⟨tk, tx, tn⟩ := t
  dsimp only at *
  have hx := str_list tx
  generalize Wn.str tx = x at *
  subst hx
  have HC := Lib.hid hc'; clear hc'
  go_enter Tryz.func95, Tryz.ntmps95
  go_wp2
  all_goals
    go_ret
    refine ⟨ret_int ?_, (Below.refl _ _).alloc (Nat.le_refl _) _⟩
    rw [HC.out]
    simp_all
set_option maxHeartbeats 1000000 in
theorem rlast_any (t : Wn.Tok) (k : Int) (w : World) :
    Calls Tryz.prog 94 #[.agg #[.int .i64 t.1, .string (Wn.str t.2.1), .int .i64 t.2.2], .int .i64 k] w fun e w' => e = .returned (.bool (Wn.lastOf t k)) ∧ Below w.heap.size w w' := by
  have hc : Wn.lastOf t k = decide (t.1 = 7 ∧ t.2.1 = (if k = 3 then [93] else if k = 4 then [125] else [41]) ∧ t.2.2 = 0) := by unfold Wn.lastOf Wn.closeB; rw [decide_eq_decide]; exact tok_ext
  generalize Wn.lastOf t k = c at *
  obtain ⟨tk, tx, tn⟩ := t
  dsimp only at *
  have hx := str_list tx
  generalize Wn.str tx = x at *
  subst hx
  have HC := Lib.hid hc; clear hc
  go_enter Tryz.func94, Tryz.ntmps94
  go_wp2
  all_goals
    go_ret
    refine ⟨ret_bool ?_, (Below.refl _ _).alloc (Nat.le_refl _) _⟩
    rw [HC.out]
    first
      | (simp_all; done)
      | (rw [Bool.eq_iff_iff]; simp_all)
end Go.Proofs.YtjlejiphpbaonaaGreatDoor
set_option linter.unusedVariables false
set_option linter.unusedSimpArgs false
set_option maxRecDepth 20000
namespace Go.Proofs.YtjlejiphpbaonaaGreatDoor
open Go.RowKit Go.Sort
def Short100 (f : Wn.Fs) : Prop := f.all fun t => t.2.1.length ≤ 100
theorem all_drop {p : Wn.Tok → Prop} {f : Wn.Fs} {i : Nat} {k : Int} {t : Wn.Tok} {x : Wn.Fs} (h : f.drop i = .cons k t x (f.drop (i + 1))) (hs : (f.drop i).all p → f.all p) (ht : p t) (hx : x.all p) : (f.drop (i + 1)).all p → f.all p := fun hr => hs (by rw [h]; exact ⟨ht, hx, hr⟩)
def FewPost (f : Wn.Fs) (left : Int) (w : World) (e : Ending) (w' : World) : Prop := ∃ n : Int, e = .returned (.int .i64 n) ∧ -1 ≤ n ∧ n ≤ left ∧ (0 ≤ n → (f.size : Int) + n = left ∧ Short100 f) ∧ w = w'
def FewSaid (f : Wn.Fs) : Prop := ∀ (v : Value) (left deep : Int) (w : World), Vals w v f → 0 ≤ left → left ≤ 1000 → deep ≤ 1000 → -1000 ≤ deep → Calls Tryz.prog 29 #[v, .int .i64 left, .int .i64 deep] w (FewPost f left w)
set_option maxRecDepth 100000 in
set_option maxHeartbeats 1000000 in
theorem few_step (f : Wn.Fs) (IH : ∀ g : Wn.Fs, g.size < f.size → FewSaid g) : FewSaid f := by
  intro v left deep w hv h0 h1 hd1 hd2
  have HIH := Lib.hid IH; clear IH
  have HV := Lib.hid hv
  obtain ⟨ao, cap, rfl, c1, c2⟩ := hv.form
  unfold maxLen at c2
  clear hv
  by_cases hd : deep < 1
  · go_enter Tryz.func29, Tryz.ntmps29
    go_wp2_with fail
    go_ret
    exact ⟨-1, rfl, by omega, by omega, fun h => by omega, rfl⟩
  · have hd' : 1 ≤ deep := by omega
    clear hd
    have HD0 : Hid ((f.size : Int) - ((f.drop 0).size : Int) + left = left ∧ ((f.drop 0).all (fun t => t.2.1.length ≤ 100) → Short100 f)) := Lib.hid (by rw [Wn.Fs.drop_zero]; exact ⟨by omega, id⟩)
    go_enter Tryz.func29, Tryz.ntmps29
    go_wp2_with fail
    go_loop [1, 7] (fun v1 v7 => ∃ (i : Nat) (n : Int), i ≤ f.len ∧ v7 = .int .i64 (i : Int) ∧ v1 = .int .i64 n ∧ -1 ≤ n ∧ n ≤ left ∧ Hid (0 ≤ n → (f.size : Int) - ((f.drop i).size : Int) + n = left ∧ ((f.drop i).all (fun t => t.2.1.length ≤ 100) → Short100 f))) (fun _ v7 => f.len - (intOf v7).toNat)
    case atStart => exact ⟨0, left, by omega, rfl, rfl, by omega, by omega, Lib.hid (fun _ => HD0.out)⟩
    case round =>
      obtain ⟨i, n, hil, rfl, rfl, hn1, hn2, HE⟩ := hrel
      by_cases hlt : i < f.len
      · by_cases hn : 0 ≤ n
        · obtain ⟨k, t, x, hd⟩ := Wn.Fs.drop_cons hlt
          obtain ⟨b, o, rfl, j0, ⟨j1, j2, j3⟩, u, j4, hu⟩ := HV.out.at hd
          rw [show o + i * 5 + 1 + 1 = o + i * 5 + 2 by omega] at j2
          have hsz := Wn.Fs.size_drop hd
          have hE := HE.out hn
          have hsd : (f.drop i).size = x.size + (f.drop (i + 1)).size + 1 := by rw [hd]; rfl
          have hi1 : (i : Int) < (f.len : Int) := by omega
          have hys : (Wn.str t.2.1).size = t.2.1.length := Wn.str_size _
          have HYS := Lib.hid hys
          have hform : ∃ ao n c, u = .slice ao n c ∧ n = x.len := by obtain ⟨ao, cap, hv, _⟩ := hu.form; exact ⟨_, _, _, hv, rfl⟩
          obtain ⟨uo, un, uc, rfl, hun⟩ := hform
          have HUN := Lib.hid hun
          have HU := Lib.hid hu
          have HDr := Lib.hid hd
          have HEE := Lib.hid hE
          have HSD := Lib.hid hsd
          generalize Wn.str t.2.1 = y at *
          clear hd hE hu hys hun hsd j0 j1 j3
          by_cases hy : 100 < y.size
          · clear HEE HSD
            go_wp2_with fail
            go_ret
            exact ⟨-1, rfl, by omega, by omega, fun h => by omega, rfl⟩
          · have ht100 : t.2.1.length ≤ 100 := by rw [← HYS.out]; omega
            have HT := Lib.hid ht100
            clear ht100
            by_cases hn0 : 0 ≤ n - 1
            · have hn0' : 1 ≤ n := by omega
              by_cases hx : 0 < un
              · have QF := Lib.hid (HIH.out x hsz (.slice uo un uc) (n - 1) (deep - 1) w HU.out (by omega) (by omega) (by omega) (by omega))
                go_wp2_with fail
                refine QF.out.mono ?_
                rintro e w' ⟨n', rfl, hm1, hm2, hm3, rfl⟩
                have HM3 := Lib.hid hm3
                clear hm3 QF
                go_wp2_with fail
                refine ⟨⟨i + 1, n', by omega, by go_num, rfl, by omega, by omega, Lib.hid (fun h => ?_)⟩, by simp [intOf]; omega⟩
                obtain ⟨e1, e2⟩ := HM3.out h
                obtain ⟨e3, e4⟩ := HEE.out
                have e5 := HSD.out
                exact ⟨by omega, all_drop HDr.out e4 HT.out e2⟩
              · have hx0 : un = 0 := by omega
                have hxn : x = .nil := Wn.Fs.len_zero (by rw [← HUN.out]; exact hx0)
                have HXN := Lib.hid hxn
                clear hxn
                subst hx0
                clear HUN hx
                go_wp2_with fail
                refine ⟨⟨i + 1, n - 1, by omega, by go_num, rfl, by omega, by omega, Lib.hid (fun h => ?_)⟩, by simp [intOf]; omega⟩
                obtain ⟨e3, e4⟩ := HEE.out
                have e5 := HSD.out
                rw [HXN.out] at e5
                simp only [Wn.Fs.size] at e5
                exact ⟨by omega, all_drop HDr.out e4 HT.out (by rw [HXN.out]; trivial)⟩
            · have hnz : n = 0 := by omega
              subst hnz
              clear hn0 HEE HSD
              go_wp2_with fail
              exact ⟨⟨i + 1, -1, by omega, by go_num, rfl, by omega, by omega, Lib.hid (fun h => by omega)⟩, by simp [intOf]; omega⟩
        · have hn' : n < 0 := by omega
          have hnd : decide (0 ≤ n) = false := by simp; omega
          go_wp2_with fail
          go_ret
          exact ⟨n, rfl, hn1, hn2, fun h => by omega, rfl⟩
      · have HF : Hid (0 ≤ n → (f.size : Int) + n = left ∧ Short100 f) := Lib.hid (fun h => by
          obtain ⟨e3, e4⟩ := HE.out h
          rw [Wn.Fs.drop_len (by omega)] at e3 e4
          exact ⟨by simp only [Wn.Fs.size] at e3; omega, e4 trivial⟩)
        go_wp2_with fail
        go_ret
        exact ⟨n, rfl, hn1, hn2, HF.out, rfl⟩
theorem few_all : ∀ (n : Nat) (f : Wn.Fs), f.size < n → FewSaid f
  | 0, f, h => by omega
  | n + 1, f, h => few_step f fun g hg => few_all n g (by omega)
/-- Small answers yes or no; where it says yes there are so few values, of such texts -/
theorem rSmall_any (v : Value) (f : Wn.Fs) (most : Int) (w : World) (hv : Vals w v f) (h0 : 0 ≤ most) (h1 : most ≤ 1000) :
    Calls Tryz.prog 8 #[v, .int .i64 most] w fun e w' => ∃ c : Bool, e = .returned (.bool c) ∧ (c = true → (f.size : Int) ≤ most ∧ Short100 f) ∧ w = w' := by
  have Q := Lib.hid (few_all (f.size + 1) f (Nat.lt_succ_self _) v most 100 w hv h0 h1 (by omega) (by omega))
  clear hv
  go_enter Tryz.func8, Tryz.ntmps8
  go_wp2_with fail
  refine Q.out.mono ?_
  rintro e w' ⟨n, rfl, hm1, hm2, hm3, rfl⟩
  have HM3 := Lib.hid hm3
  clear hm3 Q
  go_wp2_with fail
  go_ret
  exact ⟨_, rfl, fun h => by
    have hn : 0 ≤ n := by simpa using h
    obtain ⟨e1, e2⟩ := HM3.out hn
    exact ⟨by omega, e2⟩, rfl⟩
end Go.Proofs.YtjlejiphpbaonaaGreatDoor
set_option linter.unusedVariables false
set_option linter.unusedSimpArgs false
set_option maxRecDepth 20000
namespace Go.Proofs.YtjlejiphpbaonaaGreatDoor
open Go.RowKit Go.Sort
def RSSaid (f : Wn.Fs) : Prop := ∀ (g : Wn.Fs) (v u : Value) (w : World), Vals w v f → Vals w u g → Calls Tryz.prog 14 #[v, u] w fun e w' => e = .returned (.bool (decide (f = g))) ∧ Below w.heap.size w w'
end Go.Proofs.YtjlejiphpbaonaaGreatDoor
