/- What the verifier's second writing of nest parses. What May of the verifier's second writing of nest answers. -/
import Derived.Test.YtncknaagbafhhaaGreatDoorRntXM
import Derived.Test.YtncknaagbafhhaaGreatDoorGP
import Derived.Test.YtncknaagbafhhaaGreatDoorGT
import Derived.Test.YtncknaagbafhhaaGreatDoorGS
import Derived.Test.YtncknaagbafhhaaGreatDoorGL
set_option linter.unusedVariables false
set_option linter.unusedSimpArgs false
set_option maxRecDepth 20000
namespace Go.Proofs.YtncknaagbafhhaaGreatDoor
open Go.RowKit Go.Sort
theorem until_all (l : List Wn.Tok) (hl : l.length ≤ 1000000) : ∀ N : Nat, GSaid l N
  | 0 => fun _ _ _ _ _ _ _ _ _ _ h => by omega
  | N + 1 => until_step l hl N (until_all l hl N)
set_option maxHeartbeats 400000 in
theorem rParse_arg (v : Value) (l : List Wn.Tok) (deep : Int) (w : World) (h : deep < 1 ∨ 60 < deep) :
    Calls Tryz.prog 47 #[v, .int .i64 deep] w (ParsePost w l deep) := by
  have HH := Lib.hid h
  by_cases h1 : deep < 1
  · clear h
    go_enter Tryz.func47, Tryz.ntmps47
    go_wp2_with fail
    go_ret2
    exact ⟨Below.refl _ _, by rw [if_pos HH.out]; rfl⟩
  · have h2 : 60 < deep := by omega
    clear h
    go_enter Tryz.func47, Tryz.ntmps47
    go_wp2_with fail
    go_ret2
    exact ⟨Below.refl _ _, by rw [if_pos HH.out]; rfl⟩
set_option maxRecDepth 100000 in
set_option maxHeartbeats 400000 in
theorem rParse_in (v : Value) (l : List Wn.Tok) (deep : Int) (w : World) (h1 : 1 ≤ deep) (h2 : deep ≤ 60) (hT : Toks w v l) (hl : l.length < 1000000) :
    Calls Tryz.prog 47 #[v, .int .i64 deep] w (ParsePost w l deep) := by
  have HH : Hid (¬ (deep < 1 ∨ 60 < deep)) := Lib.hid (by omega)
  have QU := Lib.hid (until_all l (by omega) (l.length + 1) 0 deep.toNat 0 v w 0 deep (.inl rfl) (by omega) (by omega) (by omega) hT rfl (by omega))
  rw [List.drop_zero] at QU
  generalize hres : Wn.valsL 0 deep.toNat l = res at QU
  have HRes := Lib.hid hres
  have hd1 : ¬ deep < 1 := by omega
  have hd2 : ¬ 60 < deep := by omega
  clear hres hT hl
  generalize l.length = n at QU
  go_enter Tryz.func47, Tryz.ntmps47
  go_wp2_with fail
  refine QU.out.mono ?_
  clear QU
  cases res with
  | none =>
    rintro e w1 ⟨b1, ao, c, d, to, rfl⟩
    have HB := Lib.hid b1
    clear b1
    go_wp2_with fail
    go_ret2
    exact ⟨HB.out.alloc HB.out.size _, by rw [if_neg HH.out, parse_valsL, HRes.out]; rfl⟩
  | some p =>
    rintro e w1 ⟨b1, r, rfl, hv⟩
    have HB := Lib.hid b1
    have HV := Lib.hid hv
    have hform : ∃ ao n c, r = .slice ao n c := by obtain ⟨ao, cap, hv, _⟩ := hv.form; exact ⟨_, _, _, hv⟩
    obtain ⟨ro, rn, rc, rfl⟩ := hform
    clear b1 hv
    go_wp2_with fail
    go_ret2
    exact ⟨HB.out.alloc HB.out.size _, by rw [if_neg HH.out, parse_valsL, HRes.out]; exact ⟨_, rfl, HV.out.below ((Below.refl _ _).alloc (Nat.le_refl _) _)⟩⟩
theorem rParse_any (v : Value) (l : List Wn.Tok) (deep : Int) (w : World) (hT : Toks w v l) (hl : l.length < 1000000) :
    Calls Tryz.prog 47 #[v, .int .i64 deep] w (ParsePost w l deep) := by
  by_cases h : deep < 1 ∨ 60 < deep
  · exact rParse_arg v l deep w h
  · exact rParse_in v l deep w (by omega) (by omega) hT hl
end Go.Proofs.YtncknaagbafhhaaGreatDoor
set_option linter.unusedVariables false
set_option linter.unusedSimpArgs false
set_option maxRecDepth 20000
namespace Go.Proofs.YtncknaagbafhhaaGreatDoor
open Go.RowKit Go.Sort
end Go.Proofs.YtncknaagbafhhaaGreatDoor
