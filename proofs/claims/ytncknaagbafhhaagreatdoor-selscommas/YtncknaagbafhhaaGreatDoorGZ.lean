/- The values that the fixed calls of the third layer's laws are about. What the fixed calls of the third layer's laws answer: true. -/
import Derived.Test.YtncknaagbafhhaaGreatDoorGY
import Derived.Test.YtncknaagbafhhaaGreatDoorGX
import Derived.Test.YtncknaagbafhhaaGreatDoorGS
set_option linter.unusedVariables false
set_option linter.unusedSimpArgs false
set_option maxRecDepth 20000
namespace Wn
def sA : List UInt8 := [32, 97, 44, 40, 98, 44, 99, 41, 32]
def sB : List UInt8 := [97, 32, 98, 32, 32, 99]
def sC : List UInt8 := List.replicate 61 40
def fIn : Fs := .cons 1 (1, [98], 0) .nil (.cons 1 (7, [44], 0) .nil (.cons 1 (1, [99], 0) .nil .nil))
def fV1 : Fs := .cons 1 (1, [97], 0) .nil .nil
def fV2 : Fs := .cons 2 (0, [], 0) fIn .nil
def fV : Fs := .cons 1 (1, [97], 0) .nil (.cons 1 (7, [44], 0) .nil fV2)
def fVr : Fs := .cons 1 (8, [10], 0) .nil (.cons 1 (1, [97], 0) .nil (.cons 1 (7, [44], 0) .nil (.cons 2 (0, [], 0) fIn (.cons 1 (8, [10], 0) .nil .nil))))
def fX : Fs := .cons 1 (1, [97], 0) .nil (.cons 1 (8, [10], 0) .nil (.cons 1 (1, [98], 0) .nil (.cons 1 (8, [10], 0) .nil (.cons 1 (1, [99], 0) .nil .nil))))
set_option maxRecDepth 100000
end Wn
namespace Go.Proofs.YtncknaagbafhhaaGreatDoor
end Go.Proofs.YtncknaagbafhhaaGreatDoor
set_option linter.unusedVariables false
set_option linter.unusedSimpArgs false
set_option maxRecDepth 20000
namespace Go.Proofs.YtncknaagbafhhaaGreatDoor
open Go.RowKit Go.Sort
theorem At_list (s0 : List UInt8) (v : Value) (f : Wn.Fs) (w : World) (hv : Vals w v f) (hf : f.size ≤ 100000) :
    Calls Tryz.prog 58 #[v, .string (Wn.str s0)] w fun e w' => ∃ r, e = .returned r ∧ ListP w' (fun b => w.heap.size ≤ b) r (Wn.cuts (Wn.signV s0) f) ∧ Below w.heap.size w w' :=
  (At_any s0 v f w hv hf).mono fun _ _ ⟨r, _, he, ho, hc, hb⟩ => ⟨r, he, ListP.ofRow ho hc (fun _ h => h), hb⟩
end Go.Proofs.YtncknaagbafhhaaGreatDoor
