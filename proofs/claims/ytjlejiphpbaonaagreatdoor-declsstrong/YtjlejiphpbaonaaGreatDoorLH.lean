/- What is parsed is no larger than what it was parsed of. What the verifier's own small letters, names and custom names answer. The verifier's own: are declarations few and small; names as declarations have them. The verifier's own writing: how much stands ahead of blanks, what is made important, whether there is a sign. The verifier's second writing of nest: what May answers (where the text of that name is struck). The verifier's own: may declarations be. -/
import Derived.Test.YtjlejiphpbaonaaGreatDoorLC
import Derived.Test.YtjlejiphpbaonaaGreatDoorLA
import Derived.Test.YtjlejiphpbaonaaGreatDoorGY
import Derived.Test.YtjlejiphpbaonaaGreatDoorLB
import Derived.Test.YtjlejiphpbaonaaGreatDoorGL
import Derived.Test.YtjlejiphpbaonaaGreatDoorLE
import Derived.Test.YtjlejiphpbaonaaGreatDoorGS
import Derived.Test.YtjlejiphpbaonaaGreatDoorGU
import Derived.Test.YtjlejiphpbaonaaGreatDoorGV
import Derived.Test.YtjlejiphpbaonaaGreatDoorGT
import Derived.Test.YtjlejiphpbaonaaGreatDoorLG
set_option linter.unusedVariables false
set_option linter.unusedSimpArgs false
set_option maxRecDepth 20000
namespace Wn
theorem low_len7 (s : List UInt8) : (low s).length = s.length := by simp [low]
theorem proper_len (s : List UInt8) : (proper s).length = s.length := by
  unfold proper; split
  · rfl
  · exact low_len7 s
theorem cutF_fit {p : Tok → Prop} (g : Fs) (h : g.all p) : (cutF g).1.size ≤ g.size ∧ (cutF g).1.all p := by
  unfold cutF
  split
  · unfold initF
    exact ⟨Nat.le_trans (trim_size _) (Nat.le_trans (Fs.size_take _ _) (Nat.le_trans (trim_size _) (Fs.size_take _ _))), trim_all (all_takeF _ (trim_all (all_takeF _ h)))⟩
  · exact ⟨Nat.le_refl _, h⟩
theorem decl_fit {f : Fs} {d : Dl} {n : Nat} (h : declF (trimF f) = some d) (hs : f.all fun t => t.2.1.length ≤ n) : d.2.1.size ≤ f.size ∧ (d.2.1.all fun t => t.2.1.length ≤ n) ∧ d.1.length ≤ n := by
  have hz := trim_size f
  have ha := trim_all hs
  cases hf : trimF f with
  | nil => rw [hf] at h; cases h
  | cons k t x r =>
    rw [hf] at h hz ha
    have hr1 := trim_size r
    have hr2 := trim_all ha.2.2
    simp only [Fs.size] at hz
    rw [declF] at h
    split at h
    · cases hr : trimF r with
      | nil => rw [hr] at h; cases h
      | cons k2 t2 x2 r2 =>
        rw [hr] at h hr1 hr2
        dsimp only at h
        split at h
        · unfold valueF at h
          split at h
          · cases h
            obtain ⟨c1, c2⟩ := cutF_fit (trimF r2) (trim_all hr2.2.2)
            have := trim_size r2
            simp only [Fs.size] at hr1
            exact ⟨by dsimp only; omega, c2, by rw [proper_len]; exact ha.1⟩
          · cases h
        · cases h
    · cases h
theorem parse_mem {f : Fs} {d : Dl} {n : Nat} (hd : d ∈ parseD f) (hs : f.all fun t => t.2.1.length ≤ n) : isValF d.2.1 = true ∧ d.1 = proper d.1 ∧ d.2.1.size ≤ f.size ∧ (d.2.1.all fun t => t.2.1.length ≤ n) ∧ d.1.length ≤ n := by
  unfold parseD at hd
  obtain ⟨g, hg, h⟩ := List.mem_filterMap.1 hd
  obtain ⟨a1, a2⟩ := decl_parts h
  obtain ⟨b1, b2, b3⟩ := decl_fit h (cuts_allF hs g hg)
  exact ⟨a1, a2, Nat.le_trans b1 (cuts_size hg), b2, b3⟩
theorem anyF_at {p : Int → Tok → Bool} {f : Fs} {j : Nat} {k : Int} {t : Tok} {x r : Fs} (h : anyF p f = false) (hd : f.drop j = .cons k t x r) : p k t = false := by
  have := anyF_drop j h
  rw [hd] at this
  simp only [anyF, Bool.or_eq_false_iff] at this
  exact this.1
end Wn
set_option linter.unusedVariables false
set_option linter.unusedSimpArgs false
set_option maxRecDepth 20000
namespace Go.Proofs.YtjlejiphpbaonaaGreatDoor
open Go.RowKit Go.Sort
set_option maxRecDepth 100000 in
set_option maxHeartbeats 1000000 in
theorem rLow_w (s : List UInt8) (w : World) (hs : s.length ≤ 1048576) :
    Calls Tryz.prog 52 #[.string (Wn.str s)] w fun e w' => e = .returned (.string (Wn.str (Wn.low s))) ∧ Below w.heap.size w w' := by
  obtain ⟨C, W, hrun, hB, hW, hC⟩ := bytes_of s w
  have HB := Lib.hid hB
  have HW := Lib.hid hW
  have HLN := Lib.hid (Wn.lowTo_length (l := s))
  clear hB hW
  generalize hn : w.heap.size = n at *
  clear hn
  generalize Wn.str s = x at *
  go_enter Tryz.func52, Tryz.ntmps52
  go_wp2_with fail
  go_loopw [4] (fun v4 wr => ∃ i : Nat, i ≤ s.length ∧ v4 = .int .i64 (i : Int) ∧ Hid (BAt wr n (Wn.lowTo i s)) ∧ Hid (Below n w wr)) (fun v4 _ => s.length - (intOf v4).toNat)
  case atStart => exact ⟨0, Nat.zero_le _, rfl, Lib.hid (by rw [Wn.lowTo_zero]; exact HB.out), HW⟩
  case round =>
    clear hrun
    obtain ⟨i, hi, rfl, HBi, HWi⟩ := hrel
    by_cases hil : i < s.length
    · have hl' : i < (Wn.lowTo i s).length := by rw [HLN.out]; exact hil
      have k0 := HBi.out.cell hl'
      have f0 := HBi.out.frozen hl'
      rw [Wn.lowTo_at hil] at k0
      have hu8 := (s[i]).toNat_lt
      have hi1 : (i : Int) < (s.length : Int) := by omega
      have HSame : Hid (¬ (65 ≤ s[i].toNat ∧ s[i].toNat ≤ 90) → BAt wr n (Wn.lowTo (i + 1) s)) := Lib.hid (fun h => by rw [Wn.lowTo_same hil (Wn.lowB_no h)]; exact HBi.out)
      have HSet : Hid (65 ≤ s[i].toNat → s[i].toNat ≤ 90 → ∀ x : Int, x = (s[i].toNat : Int) + 32 → BAt (wr.setCell ⟨n, i, none⟩ (.int .u8 x)) n (Wn.lowTo (i + 1) s)) := Lib.hid (fun h1 h2 x hx => by rw [Wn.lowTo_succ hil]; exact HBi.out.set _ (by rw [Wn.lowB_yes h1 h2, hx]; rfl))
      clear hl' HBi HB
      generalize s[i].toNat = c at *
      by_cases h65 : 65 ≤ c
      · by_cases h90 : c ≤ 90
        · have h65' : (65 : Int) ≤ (c : Int) := by omega
          have h90' : (c : Int) ≤ 90 := by omega
          go_wp2_with fail
          exact ⟨⟨i + 1, by omega, by go_num, Lib.hid (HSet.out h65 h90 _ (by omega)), Lib.hid (HWi.out.setCell (p := ⟨n, i, none⟩) (Nat.le_refl _) _)⟩, by simp [intOf]; omega⟩
        · have h90' : ¬ (c : Int) ≤ 90 := by omega
          go_wp2_with fail
          exact ⟨⟨i + 1, by omega, by go_num, Lib.hid (HSame.out (fun h => h90 h.2)), HWi⟩, by simp [intOf]; omega⟩
      · have h65' : ¬ (65 : Int) ≤ (c : Int) := by omega
        go_wp2_with fail
        exact ⟨⟨i + 1, by omega, by go_num, Lib.hid (HSame.out (fun h => h65 h.1)), HWi⟩, by simp [intOf]; omega⟩
    · have hback := HBi.out.back C s.length (HLN.out i).symm
      have HE : Hid (Wn.lowTo i s = Wn.low s) := Lib.hid (Wn.lowTo_all (by omega))
      have hi1 : ¬ (i : Int) < (s.length : Int) := by omega
      go_wp2_with fail
      go_ret
      rw [← HE.out]
      exact ⟨rfl, HWi.out⟩
set_option maxHeartbeats 400000 in
theorem rName_w (s : List UInt8) (w : World) (hs : s.length ≤ 100000) :
    Calls Tryz.prog 40 #[.string (Wn.str s)] w fun e w' => e = .returned (.bool (Wn.may (1, s, 0))) ∧ Below w.heap.size w w' := by
  have QM : Hid (Calls Tryz.prog 70 #[.agg #[.int .i64 1, .string (Wn.str s), .int .i64 0]] w fun e w' => e = .returned (.bool (Wn.may (1, s, 0))) ∧ Below w.heap.size w w') :=
    Lib.hid (rMay (1, s, 0) w hs (by show _ ≤ (0 : Int); omega) (by show (0 : Int) ≤ _; omega))
  generalize Wn.str s = x at *
  generalize Wn.may (1, s, 0) = R at *
  go_enter Tryz.func40, Tryz.ntmps40
  go_wp2_with fail
  refine QM.out.mono ?_
  rintro e w1 ⟨rfl, b1⟩
  have HB1 := Lib.hid b1; clear b1
  go_wp2_with fail
  go_ret
  exact ⟨rfl, HB1.out⟩
set_option maxHeartbeats 400000 in
theorem rCustom_v (s : List UInt8) (w : World) (hx : s.length ≤ maxLen) : Calls Tryz.prog 20 #[.string (Wn.str s)] w fun e w' => e = .returned (.bool (Wn.custom s)) ∧ Below w.heap.size w w' := by
  unfold maxLen at hx
  have hsz := Wn.str_size s
  match s, hsz with
  | [], hsz =>
    generalize Wn.str [] = x at *
    have hz : x.size = 0 := hsz
    have h0 : ¬ (2 : Int) ≤ (x.size : Int) := by omega
    go_enter Tryz.func20, Tryz.ntmps20
    go_wp2_with fail
    go_ret
    exact ⟨rfl, Below.refl _ _⟩
  | [a], hsz =>
    have e : Wn.custom [a] = false := by simp [Wn.custom]
    rw [e]
    generalize Wn.str [a] = x at *
    have hz : x.size = 1 := hsz
    have h0 : ¬ (2 : Int) ≤ (x.size : Int) := by omega
    go_enter Tryz.func20, Tryz.ntmps20
    go_wp2_with fail
    go_ret
    exact ⟨rfl, Below.refl _ _⟩
  | a :: b :: l, hsz =>
    have e : Wn.custom (a :: b :: l) = ((a == 45) && (b == 45)) := by
      unfold Wn.custom; rw [Bool.eq_iff_iff]; simp
    rw [e]
    have g0 : ∀ h, (Wn.str (a :: b :: l))[0]'h = a := fun h => rfl
    have g1 : ∀ h, (Wn.str (a :: b :: l))[1]'h = b := fun h => rfl
    have hz : 2 ≤ (Wn.str (a :: b :: l)).size := by rw [hsz]; simp
    clear hsz
    generalize Wn.str (a :: b :: l) = x at *
    have h0 : (2 : Int) ≤ (x.size : Int) := by omega
    have h1 : (0 : Int) < (x.size : Int) := by omega
    have h2 : (1 : Int) < (x.size : Int) := by omega
    have h3 : 0 < x.size := by omega
    have h4 : 1 < x.size := by omega
    have e0 := g0 h3
    have e1 := g1 h4
    have HC : Hid (∀ c : UInt8, ((c.toNat : Int) == 45) = (c == 45)) := Lib.hid (fun c => by rw [Bool.eq_iff_iff]; simp [← UInt8.toNat_inj]; omega)
    rw [← HC.out a, ← HC.out b, ← e0, ← e1]
    clear g0 g1 e0 e1 hz hx
    go_enter Tryz.func20, Tryz.ntmps20
    go_wp2_with fail
    all_goals
      go_ret
      refine ⟨ret_bool ?_, Below.refl _ _⟩
      simp_all
end Go.Proofs.YtjlejiphpbaonaaGreatDoor
set_option linter.unusedVariables false
set_option linter.unusedSimpArgs false
set_option maxRecDepth 20000
namespace Go.Proofs.YtjlejiphpbaonaaGreatDoor
open Go.RowKit Go.Sort
def SmallD (most : Int) (d : Wn.Dl) : Prop := (d.2.1.size : Int) ≤ most ∧ Short100 d.2.1 ∧ d.1.length ≤ 100
def Small7Post (l : List Wn.Dl) (most : Int) (w : World) (e : Ending) (w' : World) : Prop := ∃ c : Bool, e = .returned (.bool c) ∧ (c = true → l.length ≤ 20 ∧ ∀ d ∈ l, SmallD most d) ∧ Below w.heap.size w w'
set_option maxRecDepth 100000 in
set_option maxHeartbeats 2000000 in
theorem rSmall7_v (l : List Wn.Dl) (v : Value) (most : Int) (w : World) (hv : dlK.P w (fun _ => True) v l) (h0 : 0 ≤ most) (h1 : most ≤ 1000) :
    Calls Tryz.prog 9 #[v, .int .i64 most] w (Small7Post l most w) := by
  have HV := Lib.hid hv
  obtain ⟨ao, cap, rfl, c1, c2⟩ := hv.form
  unfold maxLen at c2
  clear hv
  by_cases h20 : l.length ≤ 20
  case neg =>
    have h20' : ¬ (l.length : Int) ≤ 20 := by omega
    have hp : (0 : Int) < (l.length : Int) := by omega
    go_enter Tryz.func9, Tryz.ntmps9
    go_wp2_with fail
    go_loopw [5] (fun v5 wr => v5 = .int .i64 0 ∧ wr = w) (fun _ _ => 0)
    case atStart => exact ⟨rfl, rfl⟩
    case round =>
      obtain ⟨rfl, rfl⟩ := hrel
      go_wp2_with fail
      go_ret
      exact ⟨decide ((l.length : Int) ≤ 20), rfl, (fun h => absurd (of_decide_eq_true h) (by omega)), Below.refl _ _⟩
  have h20' : (l.length : Int) ≤ 20 := by omega
  have HA0 : Hid (∀ d ∈ l.take 0, SmallD most d) := Lib.hid (fun d hd => by simp at hd)
  go_enter Tryz.func9, Tryz.ntmps9
  go_wp2_with fail
  go_loopw [5] (fun v5 wr => ∃ i : Nat, i ≤ l.length ∧ v5 = .int .i64 (i : Int) ∧ Hid (∀ d ∈ l.take i, SmallD most d) ∧ Hid (Below w.heap.size w wr)) (fun v5 _ => l.length - (intOf v5).toNat)
  case atStart => exact ⟨0, Nat.zero_le _, rfl, HA0, Lib.hid (Below.refl _ _)⟩
  case round =>
    clear HA0
    obtain ⟨i, hi, rfl, HA, HB⟩ := hrel
    by_cases hil : i < l.length
    · have hiv : (i : Int) < (l.length : Int) := by omega
      obtain ⟨d, hd⟩ : ∃ d, l[i]? = some d := ⟨l[i], List.getElem?_eq_getElem hil⟩
      obtain ⟨b, o, cs, rfl, _, _, hRx, hLx⟩ := (HV.out.below HB.out).at hd
      obtain ⟨xu, rfl, hxu⟩ := hRx
      obtain ⟨xo, xc, rfl, _, _⟩ := hxu.form
      have x0 := hLx 0 _ rfl
      have x1 := hLx 1 _ rfl
      simp only [show dlK.sz = 3 from rfl, Nat.add_zero] at x0 x1
      have QS := Lib.hid (rSmall_any _ d.2.1 most wr hxu h0 h1)
      have hsz := Wn.str_size d.1
      have HTK : Hid (l.take (i + 1) = l.take i ++ [d]) := Lib.hid (by rw [List.take_add_one, hd]; rfl)
      clear hLx hxu hd
      generalize Wn.str d.1 = y at *
      go_wp2_with fail
      refine QS.out.mono ?_
      rintro e w1 ⟨c, rfl, hc, rfl⟩
      have HC := Lib.hid hc
      clear hc QS
      cases c
      · go_wp2_with fail
        go_ret
        exact ⟨false, rfl, (fun h => by cases h), HB.out⟩
      by_cases h100 : y.size ≤ 100
      · have h100' : ¬ (100 : Int) < (y.size : Int) := by omega
        have HA2 : Hid (∀ d ∈ l.take (i + 1), SmallD most d) := Lib.hid (fun d' hd' => by
          rw [HTK.out, List.mem_append] at hd'
          rcases hd' with hd' | hd'
          · exact HA.out d' hd'
          · simp at hd'
            subst hd'
            exact ⟨(HC.out rfl).1, (HC.out rfl).2, by omega⟩)
        clear HA HC HTK hsz h100
        go_wp2_with fail
        exact ⟨⟨i + 1, by omega, by go_num, HA2, HB⟩, by simp [intOf]; omega⟩
      · have h100' : (100 : Int) < (y.size : Int) := by omega
        clear hsz h100
        go_wp2_with fail
        go_ret
        exact ⟨false, rfl, (fun h => by cases h), HB.out⟩
    · have hiv : ¬ (i : Int) < (l.length : Int) := by omega
      have hke : l.take i = l := List.take_of_length_le (by omega)
      rw [hke] at HA
      clear hke
      go_wp2_with fail
      go_ret
      exact ⟨true, rfl, (fun _ => ⟨h20, HA.out⟩), HB.out⟩
set_option maxHeartbeats 400000 in
theorem rProper_v (s : List UInt8) (w : World) (hx : s.length ≤ 1048576) : Calls Tryz.prog 27 #[.string (Wn.str s)] w fun e w' => e = .returned (.string (Wn.str (Wn.proper s))) ∧ Below w.heap.size w w' := by
  have Q := Lib.hid (rCustom_v s w (by unfold maxLen; omega))
  have QL := Lib.hid (fun w => rLow_w s w hx)
  have HP : Hid (Wn.proper s = if Wn.custom s then s else Wn.low s) := Lib.hid rfl
  generalize Wn.proper s = p at *
  cases hc : Wn.custom s
  · have e : p = Wn.low s := by rw [HP.out, hc, if_neg (by decide)]
    subst e
    rw [hc] at Q
    clear HP hc
    generalize Wn.str (Wn.low s) = y at *
    generalize Wn.str s = x at *
    go_enter Tryz.func27, Tryz.ntmps27
    go_wp2_with fail
    refine Q.out.mono ?_
    rintro e w1 ⟨rfl, b1⟩
    have HB := Lib.hid b1; clear b1
    go_wp2_with fail
    refine (QL.out _).mono ?_
    rintro e w2 ⟨rfl, b2⟩
    have HB2 := Lib.hid (HB.out.trans (b2.mono HB.out.size)); clear b2
    go_wp2_with fail
    go_ret
    exact ⟨rfl, HB2.out⟩
  · have e : p = s := by rw [HP.out, hc, if_pos rfl]
    subst e
    rw [hc] at Q
    clear HP hc QL
    generalize Wn.str p = x at *
    go_enter Tryz.func27, Tryz.ntmps27
    go_wp2_with fail
    refine Q.out.mono ?_
    rintro e w1 ⟨rfl, b1⟩
    have HB := Lib.hid b1; clear b1
    go_wp2_with fail
    go_ret
    exact ⟨rfl, HB.out⟩
end Go.Proofs.YtjlejiphpbaonaaGreatDoor
set_option linter.unusedVariables false
set_option linter.unusedSimpArgs false
set_option maxRecDepth 20000
namespace Wn
def strongI (f : Fs) : Int := match strongR f with
  | some m => (m : Int)
  | none => -1
theorem strongI_eq (f : Fs) : strongI f = if lastIs strongV f && lastIs (signV [33]) (rtrim (initF f)) then ((rtrim (initF (rtrim (initF f)))).len : Int) else -1 := by
  unfold strongI strongR
  split <;> rename_i h <;> split at h <;> simp_all
end Wn
namespace Go.Proofs.YtjlejiphpbaonaaGreatDoor
open Go.RowKit Go.Sort
set_option maxRecDepth 100000 in
set_option maxHeartbeats 1000000 in
theorem rbefore_v (v : Value) (f : Wn.Fs) (n : Nat) (m : Int) (w : World) (hv : Vals w v f) (hn : n ≤ f.len) (hf : f.len ≤ 1000000) (hm : m = (n : Int)) :
    Calls Tryz.prog 86 #[v, .int .i64 m] w fun e w' => e = .returned (.int .i64 ((Wn.rtrim (f.take n)).len : Int)) ∧ Below w.heap.size w w' := by
  subst hm
  have HV := Lib.hid hv
  obtain ⟨ao, cap, rfl, c1, c2⟩ := hv.form
  unfold maxLen at c2
  clear hv
  have HR0 : Hid ((Wn.rtrim (f.take n)).len = (Wn.rtrim (f.take n)).len) := Lib.hid rfl
  generalize hR : (Wn.rtrim (f.take n)).len = R at *
  have HR1 := Lib.hid hR
  clear hR HR0
  go_enter Tryz.func86, Tryz.ntmps86
  go_wp2_with fail
  go_loopw [1] (fun v1 wr => ∃ i : Nat, i ≤ f.len ∧ v1 = .int .i64 (i : Int) ∧ Hid ((Wn.rtrim (f.take i)).len = R) ∧ Hid (Below w.heap.size w wr)) (fun v1 _ => (intOf v1).toNat)
  case atStart => exact ⟨n, hn, rfl, HR1, Lib.hid (Below.refl _ _)⟩
  case round =>
    clear HR1
    obtain ⟨i, hi, rfl, HR, HB⟩ := hrel
    cases i with
    | zero =>
      have HE : Hid (R = 0) := Lib.hid (by rw [← HR.out, Wn.Fs.take_zero]; rfl)
      go_wp2_with fail
      go_ret
      exact ⟨by rw [HE.out]; rfl, HB.out⟩
    | succ j =>
      have hjl : j < f.len := by omega
      have hj0 : (0 : Int) < ((j + 1 : Nat) : Int) := by omega
      have hj1 : ((j + 1 : Nat) : Int) - 1 = (j : Int) := by omega
      have hjv : (j : Int) < (f.len : Int) := by omega
      obtain ⟨k, t, x, hd⟩ := Wn.Fs.drop_cons hjl
      obtain ⟨b, o, rfl, j0, ⟨j1, j2, j3⟩, u, j4, hu⟩ := (HV.out.below HB.out).at hd
      rw [show o + j * 5 + 1 + 1 = o + j * 5 + 2 by omega] at j2
      rw [show o + j * 5 + 1 + 2 = o + j * 5 + 3 by omega] at j3
      obtain ⟨uo, uc, rfl, _, _⟩ := hu.form
      have HST : Hid ((Wn.rtrim (f.take (j + 1))) = if Wn.blankV k t then Wn.rtrim (f.take j) else f.take (j + 1)) := Lib.hid (Wn.rtrim_step hd)
      have QB := Lib.hid (fun w => rBlank_v k t (.slice uo x.len uc) w ⟨_, _, _, rfl⟩)
      have HLN : Hid ((f.take (j + 1)).len = j + 1) := Lib.hid (by rw [Wn.Fs.take_len, Nat.min_eq_left (by omega)])
      clear hd hu
      generalize hbl : Wn.blankV k t = bl at *
      clear hbl
      generalize Wn.str t.2.1 = y at *
      generalize t.1 = tk at *
      generalize t.2.2 = tn at *
      go_wp2_with fail
      refine (QB.out _).mono ?_
      rintro e w5 ⟨rfl, b5⟩
      have HB5 := Lib.hid (HB.out.trans (b5.mono HB.out.size))
      clear b5 HB QB j0 j1 j2 j3 j4
      cases bl
      · have HE : Hid (((j + 1 : Nat) : Int) = (R : Int)) := Lib.hid (by
          rw [← HR.out, HST.out, if_neg (by decide), HLN.out])
        go_wp2_with fail
        go_ret
        exact ⟨by rw [← HE.out]; rfl, HB5.out⟩
      · have HE : Hid ((Wn.rtrim (f.take j)).len = R) := Lib.hid (by rw [← HR.out, HST.out, if_pos rfl])
        go_wp2_with fail
        exact ⟨⟨j, by omega, by go_num, HE, HB5⟩, by first | (simp [intOf]; done) | (simp [intOf]; omega)⟩
set_option maxRecDepth 100000 in
set_option maxHeartbeats 1000000 in
theorem rsigns_v (v : Value) (f : Wn.Fs) (s : List UInt8) (w : World) (hv : Vals w v f) :
    Calls Tryz.prog 41 #[v, .string (Wn.str s)] w fun e w' => e = .returned (.bool (Wn.anyF (Wn.signV s) f)) ∧ Below w.heap.size w w' := by
  have HV := Lib.hid hv
  obtain ⟨ao, cap, rfl, c1, c2⟩ := hv.form
  unfold maxLen at c2
  clear hv
  have HR0 : Hid (Wn.anyF (Wn.signV s) f = Wn.anyF (Wn.signV s) (f.drop 0)) := Lib.hid (by rw [Wn.Fs.drop_zero])
  generalize Wn.anyF (Wn.signV s) f = R at *
  have QS := Lib.hid (fun k t u w hu => rSign_v s k t u w hu)
  generalize hz : Wn.str s = z at *
  clear hz
  go_enter Tryz.func41, Tryz.ntmps41
  go_wp2_with fail
  go_loopw [5] (fun v5 wr => ∃ i : Nat, i ≤ f.len ∧ v5 = .int .i64 (i : Int) ∧ Hid (R = Wn.anyF (Wn.signV s) (f.drop i)) ∧ Hid (Below w.heap.size w wr)) (fun v5 _ => f.len - (intOf v5).toNat)
  case atStart => exact ⟨0, Nat.zero_le _, rfl, HR0, Lib.hid (Below.refl _ _)⟩
  case round =>
    clear HR0
    obtain ⟨i, hi, rfl, HR, HB⟩ := hrel
    by_cases hil : i < f.len
    · have hiv : (i : Int) < (f.len : Int) := by omega
      obtain ⟨k, t, x, hd⟩ := Wn.Fs.drop_cons hil
      obtain ⟨b, o, rfl, j0, ⟨j1, j2, j3⟩, u, j4, hu⟩ := (HV.out.below HB.out).at hd
      rw [show o + i * 5 + 1 + 1 = o + i * 5 + 2 by omega] at j2
      rw [show o + i * 5 + 1 + 2 = o + i * 5 + 3 by omega] at j3
      obtain ⟨uo, uc, rfl, _, _⟩ := hu.form
      have HR2 : Hid (R = (Wn.signV s k t || Wn.anyF (Wn.signV s) (f.drop (i + 1)))) := Lib.hid (by rw [HR.out, hd]; rfl)
      have QC := Lib.hid (fun w => QS.out k t (.slice uo x.len uc) w ⟨_, _, _, rfl⟩)
      clear hd hu HR
      generalize Wn.str t.2.1 = y at *
      generalize hpk : Wn.signV s k t = q at *
      clear hpk
      go_wp2_with fail
      refine (QC.out _).mono ?_
      rintro e w5 ⟨rfl, b5⟩
      have HB5 : Hid (Below w.heap.size w w5) := Lib.hid (HB.out.trans (b5.mono HB.out.size))
      clear b5 QC HB
      cases q
      · have HE : Hid (R = Wn.anyF (Wn.signV s) (f.drop (i + 1))) := Lib.hid (by rw [HR2.out]; rfl)
        go_wp2_with fail
        exact ⟨⟨i + 1, by omega, by go_num, HE, HB5⟩, by simp [intOf]; omega⟩
      · have HE : Hid (R = true) := Lib.hid (by rw [HR2.out]; rfl)
        go_wp2_with fail
        go_ret
        exact ⟨ret_bool HE.out.symm, HB5.out⟩
    · have HE : Hid (R = false) := Lib.hid (by rw [HR.out, Wn.Fs.drop_len (by omega)]; rfl)
      have hiv : ¬ (i : Int) < (f.len : Int) := by omega
      go_wp2_with fail
      go_ret
      exact ⟨ret_bool HE.out.symm, HB.out⟩
set_option maxRecDepth 100000 in
set_option maxHeartbeats 2000000 in
theorem rstrong_v (v : Value) (f : Wn.Fs) (w : World) (hv : Vals w v f) (hf : f.size ≤ 1000000) (hs : f.all fun t => t.2.1.length ≤ 1048576) :
    Calls Tryz.prog 64 #[v] w fun e w' => e = .returned (.int .i64 (Wn.strongI f)) ∧ Below w.heap.size w w' := by
  have HV := Lib.hid hv
  obtain ⟨ao, cap, rfl, c1, c2⟩ := hv.form
  unfold maxLen at c2
  by_cases h0 : f.len = 0
  · have e : Wn.strongI f = -1 := by rw [Wn.Fs.len_zero h0]; rfl
    rw [e]
    rw [h0] at HV ⊢
    clear hv hf hs e c1 h0
    go_enter Tryz.func64, Tryz.ntmps64
    go_wp2_with fail
    go_ret
    exact ⟨rfl, Below.refl _ _⟩
  obtain ⟨n, hn⟩ : ∃ n, f.len = n + 1 := ⟨f.len - 1, by omega⟩
  obtain ⟨k, t, x, hd⟩ := Wn.Fs.drop_cons (f := f) (i := n) (by omega)
  have hsl : t.2.1.length ≤ 1048576 := Wn.all_at hs hd
  have hlast : Wn.lastIs Wn.strongV f = Wn.strongV k t := by
    have := Wn.lastIs_at (p := Wn.strongV) hd
    rw [Wn.Fs.take_all f (by omega)] at this
    exact this
  have hin : Wn.initF f = f.take n := by unfold Wn.initF; rw [hn]; rfl
  have hfl : f.len ≤ 1000000 := by have := Wn.Fs.len_le_size f; omega
  have hSI := Wn.strongI_eq f
  rw [hlast, hin] at hSI
  have eA := Wn.rtrim_take (f.take n)
  have hAl : (Wn.rtrim (f.take n)).len ≤ n := by have := (Wn.rtrim_len (f.take n)).1; rw [Wn.Fs.take_len] at this; omega
  rw [Wn.take_take, Nat.min_eq_left hAl] at eA
  have QB := Lib.hid (fun (j : Nat) (hj : j ≤ f.len) (W : World) (hW : Below w.heap.size w W) => rbefore_v _ f j (j : Int) W (hv.below hW) hj hfl rfl)
  obtain ⟨b, o, rfl, j0, ⟨j1, j2, j3⟩, u, j4, hu⟩ := hv.at hd
  rw [show o + n * 5 + 1 + 1 = o + n * 5 + 2 by omega] at j2
  rw [show o + n * 5 + 1 + 2 = o + n * 5 + 3 by omega] at j3
  obtain ⟨uo, uc, rfl, _, _⟩ := hu.form
  have QN := Lib.hid (fun w => rNamed_v k t (.slice uo x.len uc) w ⟨_, _, _, rfl⟩)
  have QL := Lib.hid (fun w => rLow_w t.2.1 w hsl)
  clear hv hd hu hlast hin hs
  have HSI := Lib.hid hSI
  have HEA := Lib.hid eA
  clear hSI eA
  have HST : Hid (Wn.strongV k t = (Wn.idv k t && decide (Wn.low t.2.1 = Wn.importantB))) := Lib.hid rfl
  generalize Wn.strongI f = S at *
  generalize Wn.strongV k t = st at *
  rw [hn] at c1 HV QB ⊢
  have hnv : ((n + 1 : Nat) : Int) - 1 = (n : Int) := by omega
  have hni : (n : Int) < ((n + 1 : Nat) : Int) := by omega
  have hbl : b < w.heap.size := World.block_lt_of_cell? _ _ j0
  generalize hlow : Wn.low t.2.1 = L at *
  clear hlow
  generalize Wn.str t.2.1 = y at *
  generalize Wn.idv k t = q at *
  go_enter Tryz.func64, Tryz.ntmps64
  go_wp2_with fail
  refine (QN.out _).mono ?_
  rintro e w1 ⟨rfl, b1⟩
  have HB1 := Lib.hid b1
  have k2 := (b1.cell (p := ⟨b, o + n * 5 + 2, none⟩) hbl).trans j2
  clear b1 j0 j1 j2 j3 j4 hbl QN
  cases q
  · have HE : Hid (S = -1) := Lib.hid (by rw [HSI.out, HST.out]; rfl)
    go_wp2_with fail
    go_ret
    exact ⟨by rw [HE.out]; rfl, HB1.out⟩
  go_wp2_with fail
  refine (QL.out _).mono ?_
  rintro e w2 ⟨rfl, b2⟩
  have HB2 := Lib.hid (HB1.out.trans (b2.mono HB1.out.size))
  have HL := Lib.hid (str_list L)
  clear b2 HB1 k2 QL
  generalize Wn.str L = z at *
  by_cases hl : L = Wn.importantB
  case neg =>
    have hz : (z.toList == [105, 109, 112, 111, 114, 116, 97, 110, 116]) = false := by rw [HL.out, beq_eq_false_iff_ne]; exact hl
    have HE : Hid (S = -1) := Lib.hid (by rw [HSI.out, HST.out, decide_eq_false hl]; rfl)
    go_wp2_with fail
    go_ret
    exact ⟨by rw [HE.out]; rfl, HB2.out⟩
  have hz : (z.toList == [105, 109, 112, 111, 114, 116, 97, 110, 116]) = true := by rw [HL.out, beq_iff_eq]; exact hl
  have HS2 : Hid (S = if Wn.lastIs (Wn.signV [33]) (Wn.rtrim (f.take n)) then ((Wn.rtrim (Wn.initF (Wn.rtrim (f.take n)))).len : Int) else -1) := Lib.hid (by rw [HSI.out, HST.out, decide_eq_true hl]; rfl)
  clear HSI HST hl HL
  go_wp2_with fail
  refine (QB.out n (by omega) _ HB2.out).mono ?_
  rintro e w3 ⟨rfl, b3⟩
  have HB3 := Lib.hid (HB2.out.trans (b3.mono HB2.out.size))
  clear b3 HB2
  generalize hA : Wn.rtrim (f.take n) = A at *
  cases hm : A.len with
  | zero =>
    have HE : Hid (S = -1) := Lib.hid (by rw [HS2.out, Wn.Fs.len_zero hm]; rfl)
    go_wp2_with fail
    go_ret
    exact ⟨by rw [HE.out]; rfl, HB3.out⟩
  | succ m =>
    rw [hm] at hAl HEA
    obtain ⟨k2, t2, x2, hd2⟩ := Wn.Fs.drop_cons (f := f) (i := m) (by omega)
    have hl2 : Wn.lastIs (Wn.signV [33]) A = Wn.signV [33] k2 t2 := by rw [HEA.out]; exact Wn.lastIs_at hd2
    have hi2 : Wn.initF A = f.take m := by unfold Wn.initF; rw [hm, HEA.out, Wn.take_take]; congr 1; omega
    obtain ⟨b', o', he, j0, ⟨j1, j2, j3⟩, u2, j4, hu2⟩ := (ValsP.below HV.out HB3.out).at hd2
    cases he
    rw [show o + m * 5 + 1 + 1 = o + m * 5 + 2 by omega] at j2
    rw [show o + m * 5 + 1 + 2 = o + m * 5 + 3 by omega] at j3
    obtain ⟨uo2, uc2, rfl, _, _⟩ := hu2.form
    have QD := Lib.hid (fun w => rSign_v [33] k2 t2 (.slice uo2 x2.len uc2) w ⟨_, _, _, rfl⟩)
    have HP : Hid (Wn.str [33] = ⟨#[33]⟩) := Lib.hid rfl
    rw [HP.out] at QD
    have HS3 : Hid (S = if Wn.signV [33] k2 t2 then ((Wn.rtrim (f.take m)).len : Int) else -1) := Lib.hid (by rw [HS2.out, hl2, hi2])
    have hnv2 : ((m + 1 : Nat) : Int) - 1 = (m : Int) := by omega
    have hni2 : (m : Int) < ((n + 1 : Nat) : Int) := by omega
    clear hd2 hu2 hl2 hi2 HS2 HP HEA
    generalize Wn.signV [33] k2 t2 = q2 at *
    generalize Wn.str t2.2.1 = y2 at *
    go_wp2_with fail
    refine (QD.out _).mono ?_
    rintro e w4 ⟨rfl, b4⟩
    have HB4 := Lib.hid (HB3.out.trans (b4.mono HB3.out.size))
    clear b4 HB3 QD j0 j1 j2 j3 j4
    cases q2
    · have HE : Hid (S = -1) := Lib.hid (by rw [HS3.out]; rfl)
      go_wp2_with fail
      go_ret
      exact ⟨by rw [HE.out]; rfl, HB4.out⟩
    have HE : Hid (S = ((Wn.rtrim (f.take m)).len : Int)) := Lib.hid (by rw [HS3.out]; rfl)
    go_wp2_with fail
    refine (QB.out m (by omega) _ HB4.out).mono ?_
    rintro e w5 ⟨rfl, b5⟩
    have HB5 := Lib.hid (HB4.out.trans (b5.mono HB4.out.size))
    clear b5 HB4
    go_wp2_with fail
    go_ret
    exact ⟨by rw [HE.out]; rfl, HB5.out⟩
end Go.Proofs.YtjlejiphpbaonaaGreatDoor
set_option linter.unusedVariables false
set_option linter.unusedSimpArgs false
set_option maxRecDepth 20000
namespace Go.Proofs.YtjlejiphpbaonaaGreatDoor
open Go.RowKit Go.Sort
theorem rFlat_anyD (v : Value) (f : Wn.Fs) (w : World) (hv : Vals w v f) (hl : (Wn.flat f).length ≤ 1000000) : Calls Tryz.prog 51 #[v] w (FlatPost w (Wn.flat f)) := rFlat_all (f.size + 1) f (Nat.lt_succ_self _) v w hv hl
set_option maxRecDepth 100000 in
set_option maxHeartbeats 1000000 in
theorem rMayFD (v : Value) (f : Wn.Fs) (w : World) (hv : Vals w v f) (hl : (Wn.flat f).length < 1000000) (hf : ∀ t ∈ Wn.flat f, ShortTok t) :
    Calls Tryz.prog 43 #[v] w fun e w' => e = .returned (.bool (Wn.mayF f)) ∧ Below w.heap.size w w' := by
  have hR : Wn.mayF f = ((Wn.flat f).all Wn.may && decide (Wn.parse (Wn.flat f) 60 = some f)) := rfl
  generalize Wn.mayF f = R at *
  have HV := Lib.hid hv; clear hv
  have QF := Lib.hid (rFlat_anyD v f w HV.out (by omega))
  have QA := Lib.hid (fun v w hl => rMays v (Wn.flat f) _ w rfl hl hf)
  have QP := Lib.hid (fun v w hT => rParse_any v (Wn.flat f) 60 w hT hl)
  have HR := Lib.hid hR
  clear hl hf hR
  generalize hall : (Wn.flat f).all Wn.may = al at *
  clear hall
  go_enter Tryz.func43, Tryz.ntmps43
  go_wp2_with fail
  refine QF.out.mono ?_
  rintro e w1 ⟨r, rfl, hown, b1⟩
  have HW1 := Lib.hid (Toks.ofRow hown)
  have HB1 := Lib.hid b1
  clear hown b1 QF
  go_wp2_with fail
  refine (QA.out _ _ HW1.out).mono ?_
  rintro e w2 ⟨rfl, b2⟩
  have HW2 := Lib.hid (HW1.out.below b2)
  have HB2 := Lib.hid (HB1.out.trans (b2.mono HB1.out.size))
  clear b2 QA
  cases al
  · go_wp2_with fail
    go_ret
    exact ⟨ret_bool (by rw [HR.out]; simp), HB2.out⟩
  · go_wp2_with fail
    refine (QP.out _ _ HW2.out).mono ?_
    rintro e w3 ⟨b3, hpost⟩
    rw [if_neg (by omega)] at hpost
    have HB3 := Lib.hid (HB2.out.trans (b3.mono HB2.out.size))
    rw [show (60 : Int).toNat = 60 from rfl] at hpost
    clear b3 QP
    cases hp : Wn.parse (Wn.flat f) 60 with
    | none =>
      rw [hp] at hpost
      dsimp only at hpost
      subst hpost
      have HR2 : Hid (R = false) := Lib.hid (by rw [HR.out, hp]; simp)
      clear hp
      go_wp2_with fail
      go_ret
      exact ⟨ret_bool HR2.out.symm, HB3.out⟩
    | some f' =>
      rw [hp] at hpost
      dsimp only at hpost
      obtain ⟨r', rfl, hv'⟩ := hpost
      have HV' := Lib.hid hv'.any
      have HR2 : Hid (R = decide (f' = f)) := Lib.hid (by rw [HR.out, hp]; simp)
      clear hp hv'
      go_wp2_with fail
      refine (rSameFD _ _ f' f _ HV'.out (HV.out.below HB3.out)).mono ?_
      rintro e w4 ⟨rfl, b4⟩
      have HB4 := Lib.hid (HB3.out.trans (b4.mono HB3.out.size))
      clear b4
      go_wp2_with fail
      go_ret
      exact ⟨ret_bool HR2.out.symm, HB4.out⟩
end Go.Proofs.YtjlejiphpbaonaaGreatDoor
set_option linter.unusedVariables false
set_option linter.unusedSimpArgs false
set_option maxRecDepth 20000
namespace Wn
theorem isVal_ends {g : Fs} {k : Int} {t : Tok} {x r : Fs} {k2 : Int} {t2 : Tok} {x2 : Fs} (h0 : g = .cons k t x r) (h1 : g.drop (g.len - 1) = .cons k2 t2 x2 .nil) : isValF g = (!blankV k t && (!blankV k2 t2 && (!anyF (signV [33]) g && (!anyF (signV [59]) g && decide (depth g ≤ 56))))) := by
  have hl : 0 < g.len := by rw [h0]; simp [Fs.len]
  have hne : g ≠ .nil := by rw [h0]; simp
  obtain ⟨a, k', t', x', e⟩ := snoc_of hne
  have e1 := (last_snoc (fun _ _ => true) a k' t' x').1
  rw [← e, h1] at e1
  injection e1 with q1 q2 q3 _
  subst q1 q2 q3
  unfold isValF
  rw [anyF_end, decide_eq_true hl, Bool.true_and]
  by_cases hb : blankV k t = true
  · have : (trimF g).len ≠ g.len := by
      intro h
      have h2 := trim_of h
      have h3 := (trim_firstlast h2).1 k t x r h0
      rw [hb] at h3; cases h3
    rw [decide_eq_false this, hb]; rfl
  · by_cases hb2 : blankV k2 t2 = true
    · have : (trimF g).len ≠ g.len := by
        intro h
        have h2 := trim_of h
        have h3 := (trim_firstlast h2).2 a k2 t2 x2 e
        rw [hb2] at h3; cases h3
      rw [decide_eq_false this, hb2]; simp
    · have : trimF g = g := by
        refine trim_ends (fun a1 b1 c1 d1 hh => ?_) (fun a1 b1 c1 d1 hh => ?_)
        · rw [h0] at hh
          injection hh with z1 z2 _ _
          subst z1 z2
          simpa using hb
        · rw [e] at hh
          obtain ⟨_, rfl, rfl, _⟩ := app_snoc_inj hh
          simpa using hb2
      rw [this, decide_eq_true rfl]
      have hb' : blankV k t = false := by simpa using hb
      have hb2' : blankV k2 t2 = false := by simpa using hb2
      rw [hb', hb2']
      cases anyF (signV [33]) g <;> cases anyF (signV [59]) g <;> simp
end Wn
namespace Go.Proofs.YtjlejiphpbaonaaGreatDoor
open Go.RowKit Go.Sort
/-- a cell in a world that has grown, the verifier's -/
theorem _root_.Eq.keepB {W w' : World} {a : Addr} {v : Value} (h : W.cell? a = some v) (b : Below W.heap.size W w') : w'.cell? a = some v := by
  rw [b.cell (block_lt_of_cell h)]; exact h
/-- declarations whose checks stay in bounds, the verifier's -/
def RFit (d : Wn.Dl) : Prop := d.1.length ≤ 100000 ∧ d.2.1.size ≤ 1000000 ∧ (Wn.flat d.2.1).length < 1000000 ∧ ∀ t ∈ Wn.flat d.2.1, ShortTok t
set_option maxRecDepth 100000 in
set_option maxHeartbeats 8000000 in
theorem rMay7_v (l : List Wn.Dl) (v : Value) (w : World) (hv : dlK.P w (fun _ => True) v l) (hd : ∀ d ∈ l, RFit d) :
    Calls Tryz.prog 18 #[v] w fun e w' => e = .returned (.bool (Wn.mayD l)) ∧ Below w.heap.size w w' := by
  have HV := Lib.hid hv
  obtain ⟨ao, cap, rfl, c1, c2⟩ := hv.form
  unfold maxLen at c2
  have HD := Lib.hid hd
  clear hv hd
  have HR0 : Hid (Wn.mayD l = (l.drop 0).all Wn.mayOne) := Lib.hid rfl
  generalize Wn.mayD l = R at *
  go_enter Tryz.func18, Tryz.ntmps18
  go_wp2_with fail
  go_loopw [3] (fun v3 wr => ∃ i : Nat, i ≤ l.length ∧ v3 = .int .i64 (i : Int) ∧ Hid (R = (l.drop i).all Wn.mayOne) ∧ Hid (Below w.heap.size w wr)) (fun v3 _ => l.length - (intOf v3).toNat)
  case atStart => exact ⟨0, Nat.zero_le _, rfl, HR0, Lib.hid (Below.refl _ _)⟩
  case round =>
    clear HR0
    obtain ⟨i, hi, rfl, HR, HB⟩ := hrel
    by_cases hil : i < l.length
    case neg =>
      have HE : Hid (R = true) := Lib.hid (by rw [HR.out, List.drop_of_length_le (by omega)]; rfl)
      have hiv : ¬ (i : Int) < (l.length : Int) := by omega
      go_wp2_with fail
      go_ret
      exact ⟨ret_bool HE.out.symm, HB.out⟩
    have hiv : (i : Int) < (l.length : Int) := by omega
    have hx : l[i]? = some l[i] := List.getElem?_eq_getElem hil
    have hdx : l.drop i = l[i] :: l.drop (i + 1) := List.drop_eq_getElem_cons hil
    have hmem : l[i] ∈ l := List.getElem_mem hil
    generalize l[i] = d at *
    obtain ⟨b, o, cs, rfl, _, _, hRx, hLx⟩ := (HV.out.below HB.out).at hx
    obtain ⟨xu, rfl, hxu⟩ := hRx
    obtain ⟨xo, xc, rfl, l1, l2⟩ := hxu.form
    have x0 := hLx 0 _ rfl
    have x1 := hLx 1 _ rfl
    have x2 := hLx 2 _ rfl
    simp only [show dlK.sz = 3 from rfl, Nat.add_zero] at x0 x1 x2
    obtain ⟨q1, q2, q3, q4⟩ := HD.out d hmem
    obtain ⟨nm, f, bb⟩ := d
    dsimp only at *
    have HM : Hid (R = ((Wn.may (1, nm, 0) && (decide (nm = Wn.proper nm) && (Wn.isValF f && Wn.mayF f))) && (l.drop (i + 1)).all Wn.mayOne)) := Lib.hid (by
      rw [HR.out, hdx, List.all_cons]
      congr 1
      unfold Wn.mayOne; simp [Bool.and_assoc])
    have hal : Below wr.heap.size wr (wr.alloc (.cells #[.string (Wn.str nm), .slice xo f.len xc, .bool bb] 44)) := (Below.refl _ _).alloc (Nat.le_refl _) _
    have hN0 := heap_alloc_new wr (.cells #[.string (Wn.str nm), .slice xo f.len xc, .bool bb] 44)
    have hxu0 := ValsP.below hxu hal
    have hfl : f.len ≤ 1000000 := by have := Wn.Fs.len_le_size f; omega
    have hs1 := str_list nm
    have hs2 := str_list (Wn.proper nm)
    have hE : ((Wn.str (Wn.proper nm)).toList == (Wn.str nm).toList) = decide (nm = Wn.proper nm) := by rw [hs1, hs2, Bool.eq_iff_iff, beq_iff_eq, decide_eq_true_eq]; exact eq_comm
    clear hs1 hs2 hx hdx hmem hLx hxu HR
    go_wp2_with fail
    generalize wr.alloc (.cells #[.string (Wn.str nm), .slice xo f.len xc, .bool bb] 44) = W at *
    have HBW := Lib.hid (HB.out.trans (hal.mono HB.out.size))
    have y0 := cell_regrown (cell_of_block (o := 0) hN0 : W.cell? ⟨wr.heap.size, 0, Option.none⟩ = some (.string (Wn.str nm)))
    have y1 := cell_regrown (cell_of_block (o := 1) hN0 : W.cell? ⟨wr.heap.size, 1, Option.none⟩ = some (.slice xo f.len xc))
    have HNB := Lib.hid hN0
    have C1 : Hid (∀ d os, Calls Tryz.prog 40 #[.string (Wn.str nm)] (grow (redrawn W d) os) fun e w'' => e = .returned (.bool (Wn.may (1, nm, 0))) ∧ ∃ p : Regrown, w'' = grow (redrawn W p.d) p.os) := Lib.hid (fun d os => Calls.regrown_of (rName_w nm _ q1))
    have C2 : Hid (∀ d os, Calls Tryz.prog 27 #[.string (Wn.str nm)] (grow (redrawn W d) os) fun e w'' => e = .returned (.string (Wn.str (Wn.proper nm))) ∧ ∃ p : Regrown, w'' = grow (redrawn W p.d) p.os) := Lib.hid (fun d os => Calls.regrown_of (rProper_v nm _ (by omega)))
    have HXU := Lib.hid hxu0
    clear hal hN0 x0 x1 x2 HB
    cases f with
    | nil =>
      have HE : Hid (R = false) := Lib.hid (by rw [HM.out]; simp [Wn.isValF, Wn.Fs.len])
      have hg0 : (Wn.Fs.nil).len = 0 := rfl
      rw [hg0] at y1 ⊢
      clear hg0 hxu0 HXU
      generalize Wn.may (1, nm, 0) = r1 at *
      generalize decide (nm = Wn.proper nm) = r2 at *
      generalize Wn.str (Wn.proper nm) = z at *
      generalize Wn.str nm = y at *
      cases r1
      · (refine wp_region_quiet_below (by kernel_rfl) (by kernel_rfl) ?_); (repeat (first | go_big_quiet_skip | quiet_step (first | with_reducible exact C1.out _ _ | with_reducible exact C2.out _ _))); (refine wpQuiet_nil ?_); intro _ hw'; obtain ⟨⟨dq, osq⟩, hw''⟩ := hw'; subst hw''
        go_wp2_with fail
        go_ret
        exact ⟨ret_bool HE.out.symm, HBW.out.trans ((below_regrown W dq osq).mono HBW.out.size)⟩
      cases r2
      · (refine wp_region_quiet_below (by kernel_rfl) (by kernel_rfl) ?_); (repeat (first | go_big_quiet_skip | quiet_step (first | with_reducible exact C1.out _ _ | with_reducible exact C2.out _ _))); (refine wpQuiet_nil ?_); intro _ hw'; obtain ⟨⟨dq, osq⟩, hw''⟩ := hw'; subst hw''
        go_wp2_with fail
        go_ret
        exact ⟨ret_bool HE.out.symm, HBW.out.trans ((below_regrown W dq osq).mono HBW.out.size)⟩
      · (refine wp_region_quiet_below (by kernel_rfl) (by kernel_rfl) ?_); (repeat (first | go_big_quiet_skip | quiet_step (first | with_reducible exact C1.out _ _ | with_reducible exact C2.out _ _))); (refine wpQuiet_nil ?_); intro _ hw'; obtain ⟨⟨dq, osq⟩, hw''⟩ := hw'; subst hw''
        go_wp2_with fail
        go_ret
        exact ⟨ret_bool HE.out.symm, HBW.out.trans ((below_regrown W dq osq).mono HBW.out.size)⟩
    | cons k t x r =>
      have hgl : (Wn.Fs.cons k t x r).len = r.len + 1 := rfl
      obtain ⟨k2, t2, x2, hlast⟩ := Wn.Fs.drop_cons (f := Wn.Fs.cons k t x r) (i := r.len) (by rw [hgl]; omega)
      rw [Wn.Fs.drop_len (f := Wn.Fs.cons k t x r) (i := r.len + 1) (Nat.le_refl _)] at hlast
      have hiv2 := Wn.isVal_ends (g := Wn.Fs.cons k t x r) rfl (by rw [hgl, Nat.add_sub_cancel]; exact hlast)
      obtain ⟨b1, o1, rfl, j0, ⟨j1, j2, j3⟩, u1, j4, hu1⟩ := hxu0.at (i := 0) (Wn.Fs.drop_zero _)
      obtain ⟨b', o', he, g0, ⟨g1, g2, g3⟩, u2, g4, hu2⟩ := hxu0.at (i := r.len) hlast
      cases he
      obtain ⟨uo1, uc1, rfl, _, _⟩ := hu1.form
      obtain ⟨uo2, uc2, rfl, _, _⟩ := hu2.form
      simp only [Nat.zero_mul, Nat.add_zero] at j0 j1 j2 j3 j4
      rw [show o1 + 1 + 1 = o1 + 2 by omega] at j2
      rw [show o1 + 1 + 2 = o1 + 3 by omega] at j3
      rw [show o1 + r.len * 5 + 1 + 1 = o1 + r.len * 5 + 2 by omega] at g2
      rw [show o1 + r.len * 5 + 1 + 2 = o1 + r.len * 5 + 3 by omega] at g3
      have C3 : Hid (∀ d os, Calls Tryz.prog 26 #[.agg #[.int .i64 k, .int .i64 t.1, .string (Wn.str t.2.1), .int .i64 t.2.2, .slice uo1 x.len uc1]] (grow (redrawn W d) os) fun e w'' => e = .returned (.bool (Wn.blankV k t)) ∧ ∃ p : Regrown, w'' = grow (redrawn W p.d) p.os) := Lib.hid (fun d os => Calls.regrown_of (rBlank_v k t _ _ ⟨_, _, _, rfl⟩))
      have C4 : Hid (∀ d os, Calls Tryz.prog 26 #[.agg #[.int .i64 k2, .int .i64 t2.1, .string (Wn.str t2.2.1), .int .i64 t2.2.2, .slice uo2 x2.len uc2]] (grow (redrawn W d) os) fun e w'' => e = .returned (.bool (Wn.blankV k2 t2)) ∧ ∃ p : Regrown, w'' = grow (redrawn W p.d) p.os) := Lib.hid (fun d os => Calls.regrown_of (rBlank_v k2 t2 _ _ ⟨_, _, _, rfl⟩))
      have QS := Lib.hid (fun s (w2 : World) (h : Below W.heap.size W w2) => rsigns_v _ (Wn.Fs.cons k t x r) s w2 (ValsP.below hxu0 h))
      have QD := Lib.hid (fun (w2 : World) (h : Below W.heap.size W w2) => rDepth_all ((Wn.Fs.cons k t x r).size + 1) _ (Nat.lt_succ_self _) q2 _ w2 (ValsP.below hxu0 h))
      have QM := Lib.hid (fun (w2 : World) (h : Below W.heap.size W w2) => rMayFD _ (Wn.Fs.cons k t x r) w2 (ValsP.below hxu0 h) q3 q4)
      have HM2 : Hid (R = ((Wn.may (1, nm, 0) && (decide (nm = Wn.proper nm) && ((!Wn.blankV k t && (!Wn.blankV k2 t2 && (!Wn.anyF (Wn.signV [33]) (.cons k t x r) && (!Wn.anyF (Wn.signV [59]) (.cons k t x r) && decide (Wn.depth (.cons k t x r) ≤ 56))))) && Wn.mayF (.cons k t x r)))) && (l.drop (i + 1)).all Wn.mayOne)) := Lib.hid (by rw [HM.out, hiv2])
      have m0 := cell_regrown j0
      have m1 := cell_regrown j1
      have m2 := cell_regrown j2
      have m3 := cell_regrown j3
      have m4 := cell_regrown j4
      have n0 := cell_regrown g0
      have n1 := cell_regrown g1
      have n2 := cell_regrown g2
      have n3 := cell_regrown g3
      have n4 := cell_regrown g4
      have hrl : r.len ≤ 1000000 := by rw [hgl] at hfl; omega
      rw [hgl] at y1 QS QD QM ⊢
      have hi0 : (0 : Int) < ((r.len + 1 : Nat) : Int) := by omega
      have hi1 : ((r.len + 1 : Nat) : Int) - 1 = (r.len : Int) := by omega
      have hi2 : (r.len : Int) < ((r.len + 1 : Nat) : Int) := by omega
      have hi3 : (0 : Int) ≤ (r.len : Int) := by omega
      have hi4 : ((r.len : Int)).toNat = r.len := rfl
      have hi5 : IntKind.i64.wrap (r.len : Int) = (r.len : Int) := by rw [IntKind.wrap_i64]; omega
      have hi6 : (((r.len + 1 : Nat) : Int) == 0) = false := by rw [beq_eq_false_iff_ne]; omega
      have hi7 : (((r.len : Int) + 1) == 0) = false := by rw [beq_eq_false_iff_ne]; omega
      have hi8 : (r.len : Int) < (r.len : Int) + 1 := by omega
      clear hgl hlast hiv2 hxu0 HXU hu1 hu2 j0 j1 j2 j3 j4 g0 g1 g2 g3 g4 HM q1 q2 q3 q4 hfl
      generalize Wn.may (1, nm, 0) = r1 at *
      generalize decide (nm = Wn.proper nm) = r2 at *
      generalize Wn.blankV k t = r3 at *
      generalize Wn.blankV k2 t2 = r4 at *
      generalize Wn.str (Wn.proper nm) = z at *
      generalize Wn.str nm = y at *
      generalize Wn.str t.2.1 = s1 at *
      generalize Wn.str t2.2.1 = s2 at *
      cases r1
      · have HE : Hid (R = false) := Lib.hid (by rw [HM2.out]; rfl)
        (refine wp_region_quiet_below (by kernel_rfl) (by kernel_rfl) ?_); (repeat (first | go_big_quiet_skip | quiet_step (first | with_reducible exact C1.out _ _ | with_reducible exact C2.out _ _ | with_reducible exact C3.out _ _ | with_reducible exact C4.out _ _))); (refine wpQuiet_nil ?_); intro _ hw'; obtain ⟨⟨dq, osq⟩, hw''⟩ := hw'; subst hw''
        go_wp2_with fail
        go_ret
        exact ⟨ret_bool HE.out.symm, HBW.out.trans ((below_regrown W dq osq).mono HBW.out.size)⟩
      cases r2
      · have HE : Hid (R = false) := Lib.hid (by rw [HM2.out]; rfl)
        (refine wp_region_quiet_below (by kernel_rfl) (by kernel_rfl) ?_); (repeat (first | go_big_quiet_skip | quiet_step (first | with_reducible exact C1.out _ _ | with_reducible exact C2.out _ _ | with_reducible exact C3.out _ _ | with_reducible exact C4.out _ _))); (refine wpQuiet_nil ?_); intro _ hw'; obtain ⟨⟨dq, osq⟩, hw''⟩ := hw'; subst hw''
        go_wp2_with fail
        go_ret
        exact ⟨ret_bool HE.out.symm, HBW.out.trans ((below_regrown W dq osq).mono HBW.out.size)⟩
      cases r3
      case true =>
        have HE : Hid (R = false) := Lib.hid (by rw [HM2.out]; rfl)
        (refine wp_region_quiet_below (by kernel_rfl) (by kernel_rfl) ?_); (repeat (first | go_big_quiet_skip | quiet_step (first | with_reducible exact C1.out _ _ | with_reducible exact C2.out _ _ | with_reducible exact C3.out _ _ | with_reducible exact C4.out _ _))); (refine wpQuiet_nil ?_); intro _ hw'; obtain ⟨⟨dq, osq⟩, hw''⟩ := hw'; subst hw''
        go_wp2_with fail
        go_ret
        exact ⟨ret_bool HE.out.symm, HBW.out.trans ((below_regrown W dq osq).mono HBW.out.size)⟩
      cases r4
      case true =>
        have HE : Hid (R = false) := Lib.hid (by rw [HM2.out]; rfl)
        (refine wp_region_quiet_below (by kernel_rfl) (by kernel_rfl) ?_); (repeat (first | go_big_quiet_skip | quiet_step (first | with_reducible exact C1.out _ _ | with_reducible exact C2.out _ _ | with_reducible exact C3.out _ _ | with_reducible exact C4.out _ _))); (refine wpQuiet_nil ?_); intro _ hw'; obtain ⟨⟨dq, osq⟩, hw''⟩ := hw'; subst hw''
        go_wp2_with fail
        go_ret
        exact ⟨ret_bool HE.out.symm, HBW.out.trans ((below_regrown W dq osq).mono HBW.out.size)⟩
      (refine wp_region_quiet_below (by kernel_rfl) (by kernel_rfl) ?_); (repeat (first | go_big_quiet_skip | quiet_step (first | with_reducible exact C1.out _ _ | with_reducible exact C2.out _ _ | with_reducible exact C3.out _ _ | with_reducible exact C4.out _ _))); (refine wpQuiet_nil ?_); intro _ hw'; obtain ⟨⟨dq, osq⟩, hw''⟩ := hw'; subst hw''
      have HW2 := Lib.hid (below_regrown W dq osq)
      have z1 := y1 dq osq
      have HB2 := Lib.hid (HBW.out.trans ((below_regrown W dq osq).mono HBW.out.size))
      obtain ⟨W2, hW2⟩ : ∃ W2, W2 = grow (redrawn W dq) osq := ⟨_, rfl⟩
      rw [← hW2] at HW2 z1 HB2
      simp only []
      rw [← hW2]
      clear hW2 C1 C2 C3 C4 m0 m1 m2 m3 m4 n0 n1 n2 n3 n4 y0 y1 HBW HNB
      have QS1 := Lib.hid (QS.out [33])
      have QS2 := Lib.hid (QS.out [59])
      rw [show Wn.str [33] = (⟨#[33]⟩ : ByteArray) from rfl] at QS1
      rw [show Wn.str [59] = (⟨#[59]⟩ : ByteArray) from rfl] at QS2
      clear QS
      generalize Wn.anyF (Wn.signV [33]) (.cons k t x r) = a1 at *
      generalize Wn.anyF (Wn.signV [59]) (.cons k t x r) = a2 at *
      generalize Wn.depth (.cons k t x r) = dp at *
      generalize Wn.mayF (.cons k t x r) = mf at *
      go_wp2_with fail
      refine (QS1.out _ HW2.out).mono ?_
      rintro e w3 ⟨rfl, b3⟩
      have z3 := z1.keepB b3
      have HB3 := Lib.hid (HB2.out.trans (b3.mono HB2.out.size))
      have HW3 := Lib.hid (HW2.out.trans (b3.mono HW2.out.size))
      clear b3 z1 QS1 HB2 HW2
      cases a1
      case true =>
        have HE : Hid (R = false) := Lib.hid (by rw [HM2.out]; simp)
        go_wp2_with fail
        go_ret
        exact ⟨ret_bool HE.out.symm, HB3.out⟩
      go_wp2_with fail
      refine (QS2.out _ HW3.out).mono ?_
      rintro e w4 ⟨rfl, b4⟩
      have z4 := z3.keepB b4
      have HB4 := Lib.hid (HB3.out.trans (b4.mono HB3.out.size))
      have HW4 := Lib.hid (HW3.out.trans (b4.mono HW3.out.size))
      clear b4 z3 QS2 HB3 HW3
      cases a2
      case true =>
        have HE : Hid (R = false) := Lib.hid (by rw [HM2.out]; simp)
        go_wp2_with fail
        go_ret
        exact ⟨ret_bool HE.out.symm, HB4.out⟩
      go_wp2_with fail
      refine (QD.out _ HW4.out).mono ?_
      rintro e w5 ⟨rfl, rfl⟩
      by_cases hdp : dp ≤ 56
      case neg =>
        have hdv : (56 : Int) < (dp : Int) := by omega
        have HE : Hid (R = false) := Lib.hid (by rw [HM2.out]; simp [hdp])
        go_wp2_with fail
        go_ret
        exact ⟨ret_bool HE.out.symm, HB4.out⟩
      have hdv : ¬ (56 : Int) < (dp : Int) := by omega
      go_wp2_with fail
      refine (QM.out _ HW4.out).mono ?_
      rintro e w6 ⟨rfl, b6⟩
      have HB6 := Lib.hid (HB4.out.trans (b6.mono HB4.out.size))
      clear b6 z4 QD QM HB4 HW4
      cases mf
      case false =>
        have HE : Hid (R = false) := Lib.hid (by rw [HM2.out]; simp)
        go_wp2_with fail
        go_ret
        exact ⟨ret_bool HE.out.symm, HB6.out⟩
      have HE : Hid (R = (l.drop (i + 1)).all Wn.mayOne) := Lib.hid (by rw [HM2.out]; simp [hdp])
      go_wp2_with fail
      exact ⟨⟨i + 1, by omega, by go_num, HE, HB6⟩, by simp [intOf]; omega⟩
end Go.Proofs.YtjlejiphpbaonaaGreatDoor
