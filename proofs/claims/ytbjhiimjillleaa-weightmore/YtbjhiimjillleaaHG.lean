/- What the reader's compound answers. What the reader's pseudoElement and combinator answer. What the reader's complexSelector answers. What the reader's complexSelector answers: the walk. -/
import Derived.Test.YtbjhiimjillleaaHE
set_option linter.unusedVariables false
set_option linter.unusedSimpArgs false
set_option maxRecDepth 20000
namespace Wn
theorem comp_none {n : Nat} {first : Bool} {f : Fs} (h : simpR first f = none) : compR n first f = none := by rw [compR, h]
theorem comp_end {n : Nat} {first : Bool} {f : Fs} (h : simpR first f = some none) : compR n first f = some ([], f) := by rw [compR, h]
theorem comp_zero {first : Bool} {f : Fs} {p : Sm × Fs} (h : simpR first f = some (some p)) : compR 0 first f = none := by rw [compR, h]
theorem comp_more {n : Nat} {first : Bool} {f : Fs} {p : Sm × Fs} (h : simpR first f = some (some p)) : compR (n + 1) first f = (compR n false p.2).map fun q => (p.1 :: q.1, q.2) := by rw [compR, h]
end Wn
namespace Go.Proofs.Ytbjhiimjillleaa
open Go.RowKit Go.Sort
theorem own_shape {w : World} {base : Nat} {e : TypeId} {size : Nat} {v : Value} {n : Nat} {xs : List Value} (h : w.ownsRow base e size v n xs) : ∃ ao cap, v = .slice ao n cap ∧ n ≤ cap ∧ cap ≤ maxLen := by
  rcases h.2 with ⟨hv, hn⟩ | ⟨g, cap, cur, hv, _, _, h1, h2, _⟩
  · exact ⟨none, 0, by rw [hv, hn], by omega, by unfold maxLen; omega⟩
  · exact ⟨_, cap, hv, h1, h2⟩
end Go.Proofs.Ytbjhiimjillleaa
set_option linter.unusedVariables false
set_option linter.unusedSimpArgs false
set_option maxRecDepth 20000
namespace Wn
def pseudoT (r : Fs) : Option (List UInt8 × Fs) := match tokF 1 r with
  | none => none
  | some p => if isPseudo p.1.2.1 then some (p.1.2.1, p.2) else none
theorem pseudoR_two (f : Fs) : pseudoR f = match (signF [58] f).bind (fun r => signF [58] r) with
    | none => some ([], f)
    | some r => pseudoT r := by
  unfold pseudoR
  cases signF [58] f with
  | none => rfl
  | some r =>
    simp only [Option.bind_some]
    cases signF [58] r <;> rfl
end Wn
namespace Go.Proofs.Ytbjhiimjillleaa
open Go.RowKit Go.Sort
end Go.Proofs.Ytbjhiimjillleaa
set_option linter.unusedVariables false
set_option linter.unusedSimpArgs false
set_option maxRecDepth 20000
namespace Wn
theorem cplx_part {n : Nat} {c : Int} {f : Fs} (h : partR f = none) : cplxR (n + 1) c f = none := by rw [cplxR, h]
theorem cplx_pseudo {n : Nat} {c : Int} {f : Fs} {l : List Sm} {ps : List UInt8} {r : Fs} (h : partR f = some ((l, ps), r)) (hp : ps ≠ []) : cplxR (n + 1) c f = some (([(c, l)], ps), r) := by
  rw [cplxR, h]; simp only; rw [if_pos hp]
theorem cplx_comb {n : Nat} {c : Int} {f : Fs} {l : List Sm} {r : Fs} (h : partR f = some ((l, []), r)) (hc : combR r = none) : cplxR (n + 1) c f = none := by
  rw [cplxR, h]; simp only; rw [if_neg (by simp), hc]
theorem cplx_end {n : Nat} {c : Int} {f : Fs} {l : List Sm} {r r' : Fs} (h : partR f = some ((l, []), r)) (hc : combR r = some (0, r')) : cplxR (n + 1) c f = some (([(c, l)], []), r') := by
  rw [cplxR, h]; simp only; rw [if_neg (by simp), hc]; rfl
theorem cplx_more {n : Nat} {c k : Int} {f : Fs} {l : List Sm} {r r' : Fs} (h : partR f = some ((l, []), r)) (hc : combR r = some (k, r')) (hk : k ≠ 0) : cplxR (n + 1) c f = (cplxR n k r').map fun q => (((c, l) :: q.1.1, q.1.2), q.2) := by
  rw [cplxR, h]; simp only; rw [if_neg (by simp), hc]; simp only; rw [if_neg hk]
theorem part_comp {f : Fs} (h : compR 8 true f = none) : partR f = none := by unfold partR; rw [h]
theorem part_ps {f : Fs} {l : List Sm} {r : Fs} (h : compR 8 true f = some (l, r)) (hp : pseudoR r = none) : partR f = none := by unfold partR; rw [h]; simp only; rw [hp]
theorem part_empty {f : Fs} {r r' : Fs} (h : compR 8 true f = some ([], r)) (hp : pseudoR r = some ([], r')) : partR f = none := by unfold partR; rw [h]; simp only; rw [hp]; simp
theorem part_some {f : Fs} {l : List Sm} {ps : List UInt8} {r r' : Fs} (h : compR 8 true f = some (l, r)) (hp : pseudoR r = some (ps, r')) (hne : ¬ (l = [] ∧ ps = [])) : partR f = some ((l, ps), r') := by unfold partR; rw [h]; simp only; rw [hp]; simp only; rw [if_neg hne]
end Wn
namespace Go.Proofs.Ytbjhiimjillleaa
open Go.RowKit Go.Sort
section
variable {g n : Nat} {w W W' : World} {v v' : Value} {ps : List UInt8} {es : List (List Value)} {parts : List (Int × List Wn.Sm)} {f f' : Wn.Fs}
end
def ptCells (c : Int) (u : Value) : List Value := [.int .i64 c, u]
def cxLen (b : Nat) (w : World) : Nat := match w.cell? ⟨b, 0, none⟩ with | some (.slice _ n _) => n | _ => 0
theorem cxLen_at {w : World} {b n cap : Nat} {ao : Option Addr} {x : Value} (h : w.heap[b]? = some (.cells #[.slice ao n cap, x] 31)) : cxLen b w = n := by
  unfold cxLen; rw [cell_of_block (o := 0) h]; rfl
end Go.Proofs.Ytbjhiimjillleaa
set_option linter.unusedVariables false
set_option linter.unusedSimpArgs false
set_option maxRecDepth 20000
namespace Go.Proofs.Ytbjhiimjillleaa
open Go.RowKit Go.Sort
/-- what is asked of the parts so far, and what is to come -/
def Asks (RES : Option (Wn.Cx × Wn.Fs)) (parts : List (Int × List Wn.Sm)) (comb : Int) (f : Wn.Fs) : Prop := RES = (Wn.cplxR (16 - parts.length) comb f).map fun q => ((parts ++ q.1.1, q.1.2), q.2)
theorem Asks.none {RES : Option (Wn.Cx × Wn.Fs)} {parts : List (Int × List Wn.Sm)} {comb : Int} {f : Wn.Fs} (h : Asks RES parts comb f) (hp : Wn.partR f = Option.none) : RES = Option.none := by
  unfold Asks at h; rw [h]
  cases hk : 16 - parts.length with
  | zero => rfl
  | succ k => rw [Wn.cplx_part hp]; rfl
theorem Asks.full {RES : Option (Wn.Cx × Wn.Fs)} {parts : List (Int × List Wn.Sm)} {comb : Int} {f : Wn.Fs} (h : Asks RES parts comb f) (hp : 16 ≤ parts.length) : RES = Option.none := by
  unfold Asks at h; rw [h, show 16 - parts.length = 0 by omega]; rfl
theorem Asks.pseudo {RES : Option (Wn.Cx × Wn.Fs)} {parts : List (Int × List Wn.Sm)} {comb : Int} {f : Wn.Fs} (h : Asks RES parts comb f) {l : List Wn.Sm} {ps : List UInt8} {r : Wn.Fs} (hl : parts.length < 16) (hp : Wn.partR f = some ((l, ps), r)) (hne : ps ≠ []) : RES = some ((parts ++ [(comb, l)], ps), r) := by
  unfold Asks at h; rw [h, show 16 - parts.length = (15 - parts.length) + 1 by omega, Wn.cplx_pseudo hp hne]; rfl
theorem Asks.comb {RES : Option (Wn.Cx × Wn.Fs)} {parts : List (Int × List Wn.Sm)} {comb : Int} {f : Wn.Fs} (h : Asks RES parts comb f) {l : List Wn.Sm} {r : Wn.Fs} (hl : parts.length < 16) (hp : Wn.partR f = some ((l, []), r)) (hc : Wn.combR r = Option.none) : RES = Option.none := by
  unfold Asks at h; rw [h, show 16 - parts.length = (15 - parts.length) + 1 by omega, Wn.cplx_comb hp hc]; rfl
theorem Asks.ends {RES : Option (Wn.Cx × Wn.Fs)} {parts : List (Int × List Wn.Sm)} {comb : Int} {f : Wn.Fs} (h : Asks RES parts comb f) {l : List Wn.Sm} {r r' : Wn.Fs} (hl : parts.length < 16) (hp : Wn.partR f = some ((l, []), r)) (hc : Wn.combR r = some (0, r')) : RES = some ((parts ++ [(comb, l)], []), r') := by
  unfold Asks at h; rw [h, show 16 - parts.length = (15 - parts.length) + 1 by omega, Wn.cplx_end hp hc]; rfl
theorem Asks.more {RES : Option (Wn.Cx × Wn.Fs)} {parts : List (Int × List Wn.Sm)} {comb k : Int} {f : Wn.Fs} (h : Asks RES parts comb f) {l : List Wn.Sm} {r r' : Wn.Fs} (hl : parts.length < 16) (hp : Wn.partR f = some ((l, []), r)) (hc : Wn.combR r = some (k, r')) (hk : k ≠ 0) : Asks RES (parts ++ [(comb, l)]) k r' := by
  unfold Asks at *; rw [h, show 16 - parts.length = (15 - parts.length) + 1 by omega, Wn.cplx_more hp hc hk, show 16 - (parts ++ [(comb, l)]).length = 15 - parts.length by simp only [List.length_append, List.length_singleton]; omega]
  cases Wn.cplxR (15 - parts.length) k r' with
  | none => rfl
  | some q => simp
end Go.Proofs.Ytbjhiimjillleaa
