/- What the verifier's second writing of nest parses. What May of the verifier's second writing of nest answers. -/
import Derived.Test.YtjmocdoimiomdaaGreatDoorRntXM
import Derived.Test.YtjmocdoimiomdaaGreatDoorGP
import Derived.Test.YtjmocdoimiomdaaGreatDoorGT
import Derived.Test.YtjmocdoimiomdaaGreatDoorGS
import Derived.Test.YtjmocdoimiomdaaGreatDoorGL
set_option linter.unusedVariables false
set_option linter.unusedSimpArgs false
set_option maxRecDepth 20000
namespace Go.Proofs.YtjmocdoimiomdaaGreatDoor
open Go.RowKit Go.Sort
theorem until_all (l : List Wn.Tok) (hl : l.length ≤ 1000000) : ∀ N : Nat, GSaid l N
  | 0 => fun _ _ _ _ _ _ _ _ _ _ h => by omega
  | N + 1 => until_step l hl N (until_all l hl N)
set_option maxHeartbeats 400000 in
theorem rParse_arg (v : Value) (l : List Wn.Tok) (deep : Int) (w : World) (h : deep < 1 ∨ 60 < deep) :
    Calls Tryz.prog 26 #[v, .int .i64 deep] w (ParsePost w l deep) := by
  have HH := Lib.hid h
  by_cases h1 : deep < 1
  · clear h
    go_enter Tryz.func26, Tryz.ntmps26
    go_wp2_with fail
    go_ret2
    exact ⟨Below.refl _ _, by rw [if_pos HH.out]; rfl⟩
  · have h2 : 60 < deep := by omega
    clear h
    go_enter Tryz.func26, Tryz.ntmps26
    go_wp2_with fail
    go_ret2
    exact ⟨Below.refl _ _, by rw [if_pos HH.out]; rfl⟩
set_option maxRecDepth 100000 in
set_option maxHeartbeats 400000 in
theorem rParse_in (v : Value) (l : List Wn.Tok) (deep : Int) (w : World) (h1 : 1 ≤ deep) (h2 : deep ≤ 60) (hT : Toks w v l) (hl : l.length < 1000000) :
    Calls Tryz.prog 26 #[v, .int .i64 deep] w (ParsePost w l deep) := by
  have HH : Hid (¬ (deep < 1 ∨ 60 < deep)) := Lib.hid (by omega)
  have QU := Lib.hid (until_all l (by omega) (l.length + 1) 0 deep.toNat 0 v w 0 deep (.inl rfl) (by omega) (by omega) (by omega) hT rfl (by omega))
  rw [List.drop_zero] at QU
  generalize hres : Wn.valsL 0 deep.toNat l = res at QU
  have HRes := Lib.hid hres
  have hd1 : ¬ deep < 1 := by omega
  have hd2 : ¬ 60 < deep := by omega
  clear hres hT hl
  generalize l.length = n at QU
  go_enter Tryz.func26, Tryz.ntmps26
  go_wp2_with fail
  refine QU.out.mono ?_
  clear QU
  cases res with
  | none =>
    rintro e w1 ⟨b1, ao, c, d, to, rfl⟩
    have HB := Lib.hid b1
    clear b1
    go_wp2_with fail
    go_ret2
    exact ⟨HB.out.alloc HB.out.size _, by rw [if_neg HH.out, parse_valsL, HRes.out]; rfl⟩
  | some p =>
    rintro e w1 ⟨b1, r, rfl, hv⟩
    have HB := Lib.hid b1
    have HV := Lib.hid hv
    have hform : ∃ ao n c, r = .slice ao n c := by obtain ⟨ao, cap, hv, _⟩ := hv.form; exact ⟨_, _, _, hv⟩
    obtain ⟨ro, rn, rc, rfl⟩ := hform
    clear b1 hv
    go_wp2_with fail
    go_ret2
    exact ⟨HB.out.alloc HB.out.size _, by rw [if_neg HH.out, parse_valsL, HRes.out]; exact ⟨_, rfl, HV.out.below ((Below.refl _ _).alloc (Nat.le_refl _) _)⟩⟩
theorem rParse_any (v : Value) (l : List Wn.Tok) (deep : Int) (w : World) (hT : Toks w v l) (hl : l.length < 1000000) :
    Calls Tryz.prog 26 #[v, .int .i64 deep] w (ParsePost w l deep) := by
  by_cases h : deep < 1 ∨ 60 < deep
  · exact rParse_arg v l deep w h
  · exact rParse_in v l deep w (by omega) (by omega) hT hl
end Go.Proofs.YtjmocdoimiomdaaGreatDoor
set_option linter.unusedVariables false
set_option linter.unusedSimpArgs false
set_option maxRecDepth 20000
namespace Go.Proofs.YtjmocdoimiomdaaGreatDoor
open Go.RowKit Go.Sort
theorem rFlat_any (v : Value) (f : Wn.Fs) (w : World) (hv : Vals w v f) (hl : (Wn.flat f).length ≤ 1000000) : Calls Tryz.prog 38 #[v] w (FlatPost w (Wn.flat f)) := rFlat_all (f.size + 1) f (Nat.lt_succ_self _) v w hv hl
set_option maxRecDepth 100000 in
set_option maxHeartbeats 1000000 in
theorem rMayF (v : Value) (f : Wn.Fs) (w : World) (hv : Vals w v f) (hl : (Wn.flat f).length < 1000000) (hf : ∀ t ∈ Wn.flat f, ShortTok t) :
    Calls Tryz.prog 22 #[v] w fun e w' => e = .returned (.bool (Wn.mayF f)) ∧ Below w.heap.size w w' := by
  have hR : Wn.mayF f = ((Wn.flat f).all Wn.may && decide (Wn.parse (Wn.flat f) 60 = some f)) := rfl
  generalize Wn.mayF f = R at *
  have HV := Lib.hid hv; clear hv
  have QF := Lib.hid (rFlat_any v f w HV.out (by omega))
  have QA := Lib.hid (fun v w hl => rMays v (Wn.flat f) _ w rfl hl hf)
  have QP := Lib.hid (fun v w hT => rParse_any v (Wn.flat f) 60 w hT hl)
  have HR := Lib.hid hR
  clear hl hf hR
  generalize hall : (Wn.flat f).all Wn.may = al at *
  clear hall
  go_enter Tryz.func22, Tryz.ntmps22
  go_wp2_with fail
  refine QF.out.mono ?_
  rintro e w1 ⟨r, rfl, hown, b1⟩
  have HW1 := Lib.hid (Toks.ofRow hown)
  have HB1 := Lib.hid b1
  clear hown b1 QF
  go_wp2_with fail
  refine (QA.out _ _ HW1.out).mono ?_
  rintro e w2 ⟨rfl, b2⟩
  have HW2 := Lib.hid (HW1.out.below b2)
  have HB2 := Lib.hid (HB1.out.trans (b2.mono HB1.out.size))
  clear b2 QA
  cases al
  · go_wp2_with fail
    go_ret
    exact ⟨ret_bool (by rw [HR.out]; simp), HB2.out⟩
  · go_wp2_with fail
    refine (QP.out _ _ HW2.out).mono ?_
    rintro e w3 ⟨b3, hpost⟩
    rw [if_neg (by omega)] at hpost
    have HB3 := Lib.hid (HB2.out.trans (b3.mono HB2.out.size))
    rw [show (60 : Int).toNat = 60 from rfl] at hpost
    clear b3 QP
    cases hp : Wn.parse (Wn.flat f) 60 with
    | none =>
      rw [hp] at hpost
      dsimp only at hpost
      subst hpost
      have HR2 : Hid (R = false) := Lib.hid (by rw [HR.out, hp]; simp)
      clear hp
      go_wp2_with fail
      go_ret
      exact ⟨ret_bool HR2.out.symm, HB3.out⟩
    | some f' =>
      rw [hp] at hpost
      dsimp only at hpost
      obtain ⟨r', rfl, hv'⟩ := hpost
      have HV' := Lib.hid hv'.any
      have HR2 : Hid (R = decide (f' = f)) := Lib.hid (by rw [HR.out, hp]; simp)
      clear hp hv'
      go_wp2_with fail
      refine (rSameF _ _ f' f _ HV'.out (HV.out.below HB3.out)).mono ?_
      rintro e w4 ⟨rfl, b4⟩
      have HB4 := Lib.hid (HB3.out.trans (b4.mono HB3.out.size))
      clear b4
      go_wp2_with fail
      go_ret
      exact ⟨ret_bool HR2.out.symm, HB4.out⟩
end Go.Proofs.YtjmocdoimiomdaaGreatDoor
