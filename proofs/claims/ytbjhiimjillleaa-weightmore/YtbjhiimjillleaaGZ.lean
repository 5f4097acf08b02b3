/- The values that the fixed calls of the third layer's laws are about. What the fixed calls of the third layer's laws answer: true. -/
import Derived.Test.YtbjhiimjillleaaGY
import Derived.Test.YtbjhiimjillleaaGX
import Derived.Test.YtbjhiimjillleaaGS
set_option linter.unusedVariables false
set_option linter.unusedSimpArgs false
set_option maxRecDepth 20000
namespace Wn
def sA : List UInt8 := [32, 97, 44, 40, 98, 44, 99, 41, 32]
def sB : List UInt8 := [97, 32, 98, 32, 32, 99]
def sC : List UInt8 := List.replicate 61 40
def fIn : Fs := .cons 1 (1, [98], 0) .nil (.cons 1 (7, [44], 0) .nil (.cons 1 (1, [99], 0) .nil .nil))
def fV1 : Fs := .cons 1 (1, [97], 0) .nil .nil
def fV2 : Fs := .cons 2 (0, [], 0) fIn .nil
def fV : Fs := .cons 1 (1, [97], 0) .nil (.cons 1 (7, [44], 0) .nil fV2)
def fVr : Fs := .cons 1 (8, [10], 0) .nil (.cons 1 (1, [97], 0) .nil (.cons 1 (7, [44], 0) .nil (.cons 2 (0, [], 0) fIn (.cons 1 (8, [10], 0) .nil .nil))))
def fX : Fs := .cons 1 (1, [97], 0) .nil (.cons 1 (8, [10], 0) .nil (.cons 1 (1, [98], 0) .nil (.cons 1 (8, [10], 0) .nil (.cons 1 (1, [99], 0) .nil .nil))))
set_option maxRecDepth 100000
theorem read_sA : (readF sA).map trimF = some fV := by decide +kernel
theorem read_sB : (readF sB).map trimF = some fX := by decide +kernel
theorem read_sC : readF sC = none := by decide +kernel
theorem cuts_fV : cuts (signV [44]) fV = [fV1, fV2] := by decide +kernel
theorem join_fV : joinF [44] [fV1, fV2] = fV := by decide +kernel
theorem text_fV : textF fV = [97, 44, 40, 98, 44, 99, 41] := by decide +kernel
theorem flat_fV : flat fV = [(1, [97], 0), (7, [44], 0), (7, [40], 0), (1, [98], 0), (7, [44], 0), (1, [99], 0), (7, [41], 0)] := by decide +kernel
theorem size_fV : fV.size ≤ 100 ∧ fX.size ≤ 100 ∧ sizes [fV1, fV2] ≤ 100 := by decide +kernel
end Wn
namespace Go.Proofs.Ytbjhiimjillleaa
theorem words_fV : (words Wn.fV).length = 1 := by decide +kernel
theorem words_fX : (words Wn.fX).length = 3 := by decide +kernel
end Go.Proofs.Ytbjhiimjillleaa
set_option linter.unusedVariables false
set_option linter.unusedSimpArgs false
set_option maxRecDepth 20000
namespace Go.Proofs.Ytbjhiimjillleaa
open Go.RowKit Go.Sort
end Go.Proofs.Ytbjhiimjillleaa
