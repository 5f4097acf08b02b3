/-
  NARROWER THAN 'FOR EVERY INPUT', by the rows' own cells (each row's printed sentence says how): ToksTell: laid · ToksBack: laid · ToksBlanks: laid · ToksBoth: laid · ToksParts: laid · ToksTwo: laid · NestTells: loops, laid · NestBack: laid · NestBoth: laid · NestWraps: loops, laid · NestApart: loops, laid.
  DERIVED. THE GIVEN ROWS OF THIS SEAT. 11 by the template 'for every input the law returns true; each argument reads behind the call as it read before'; 0 by the template 'total and deterministic' (their statements: YtnkdppbpcinjhaaDoorTotals.lean).
  GIVEN WITH THE SEED: the statements are not yours to turn. If you find one false, say at which input.
  Laid BY PROGRAM, IN A SANDBOX (cutbox-rows.mjs): the forced cells as the released guide's own fill.sh prints them over the translation cf01e71966bb8a6f… (all of the seat's roots in one cut). By AI agents, Wed Nov 11 2026. No macro, syntax, notation, axiom, sorry.
-/
import Derived.Test.YtnkdppbpcinjhaaDoorChecked
import GoSem.Claim
import GoSem.ClaimJoined
import GoSem.ClaimMapViews
import Derived.JoinedTies
import Derived.KernelRfl
namespace Go.Proofs.YtnkdppbpcinjhaaDoor
/- THE CELL 'sum', in the pinned program and in every row, IS THE sha256 OF THE DUMP (.gsa) THAT YtnkdppbpcinjhaaDoorProg.lean LOADS. Nothing in Lean hashes anything: it is a label: what it is worth is what the hold of that sum in a sandbox is worth. -/
noncomputable def Tryd.pinned : Pinned := { name := "ytnkdppbpcinjhaadoor", sum := "cf01e71966bb8a6ff80fac1ab7bfabcbc9f4b95a73088d33d47a7ecbcbd1ca48", checked := Tryd.checked }
namespace Rows
def none {H : Type} : Left H := { results := [], args := [] }

/- WHAT THE LISTED PACKAGE-LEVEL VARIABLES READ AS WHEN THE CALL BEGINS. Each datum BY PROGRAM (the guide's laid-datum.mjs) off the statement by which the dump's own 'gosem.cut.vars' lays the variable. In a bare row this is a premise. The card (YtnkdppbpcinjhaaDoorCards.lean) ties it to the program's text. -/
def laid_math_bits_deBruijn32tab {H : Type} : DataW H := .agg [.lit (.int .u8 0), .lit (.int .u8 1), .lit (.int .u8 28), .lit (.int .u8 2), .lit (.int .u8 29), .lit (.int .u8 14), .lit (.int .u8 24), .lit (.int .u8 3), .lit (.int .u8 30), .lit (.int .u8 22), .lit (.int .u8 20), .lit (.int .u8 15), .lit (.int .u8 25), .lit (.int .u8 17), .lit (.int .u8 4), .lit (.int .u8 8), .lit (.int .u8 31), .lit (.int .u8 27), .lit (.int .u8 13), .lit (.int .u8 23), .lit (.int .u8 21), .lit (.int .u8 19), .lit (.int .u8 16), .lit (.int .u8 7), .lit (.int .u8 26), .lit (.int .u8 12), .lit (.int .u8 18), .lit (.int .u8 6), .lit (.int .u8 11), .lit (.int .u8 5), .lit (.int .u8 10), .lit (.int .u8 9)]
def laid_math_bits_deBruijn64tab {H : Type} : DataW H := .agg [.lit (.int .u8 0), .lit (.int .u8 1), .lit (.int .u8 56), .lit (.int .u8 2), .lit (.int .u8 57), .lit (.int .u8 49), .lit (.int .u8 28), .lit (.int .u8 3), .lit (.int .u8 61), .lit (.int .u8 58), .lit (.int .u8 42), .lit (.int .u8 50), .lit (.int .u8 38), .lit (.int .u8 29), .lit (.int .u8 17), .lit (.int .u8 4), .lit (.int .u8 62), .lit (.int .u8 47), .lit (.int .u8 59), .lit (.int .u8 36), .lit (.int .u8 45), .lit (.int .u8 43), .lit (.int .u8 51), .lit (.int .u8 22), .lit (.int .u8 53), .lit (.int .u8 39), .lit (.int .u8 33), .lit (.int .u8 30), .lit (.int .u8 24), .lit (.int .u8 18), .lit (.int .u8 12), .lit (.int .u8 5), .lit (.int .u8 63), .lit (.int .u8 55), .lit (.int .u8 48), .lit (.int .u8 27), .lit (.int .u8 60), .lit (.int .u8 41), .lit (.int .u8 37), .lit (.int .u8 16), .lit (.int .u8 46), .lit (.int .u8 35), .lit (.int .u8 44), .lit (.int .u8 21), .lit (.int .u8 52), .lit (.int .u8 32), .lit (.int .u8 23), .lit (.int .u8 11), .lit (.int .u8 54), .lit (.int .u8 26), .lit (.int .u8 40), .lit (.int .u8 15), .lit (.int .u8 34), .lit (.int .u8 20), .lit (.int .u8 31), .lit (.int .u8 10), .lit (.int .u8 25), .lit (.int .u8 14), .lit (.int .u8 19), .lit (.int .u8 9), .lit (.int .u8 13), .lit (.int .u8 8), .lit (.int .u8 7), .lit (.int .u8 6)]
def laid_internal_strconv_uint64pow10 {H : Type} : DataW H := .agg [.lit (.int .u64 1), .lit (.int .u64 10), .lit (.int .u64 100), .lit (.int .u64 1000), .lit (.int .u64 10000), .lit (.int .u64 100000), .lit (.int .u64 1000000), .lit (.int .u64 10000000), .lit (.int .u64 100000000), .lit (.int .u64 1000000000), .lit (.int .u64 10000000000), .lit (.int .u64 100000000000), .lit (.int .u64 1000000000000), .lit (.int .u64 10000000000000), .lit (.int .u64 100000000000000), .lit (.int .u64 1000000000000000), .lit (.int .u64 10000000000000000), .lit (.int .u64 100000000000000000), .lit (.int .u64 1000000000000000000), .lit (.int .u64 10000000000000000000)]

/-- 'winnowinglaw01.ToksTell': WHATEVER THE INPUT: true; the input reads as it did. -/
def toksTellSpec : ChangeSpec := { name := "toksTell", fn := fun _ => fun
  | [d1, d2, d3] => { results := [.lit (.bool true)], args := [d1, d2, d3] }
  | _ => none }
def toksTellRow : OpenClaim := { program := "ytnkdppbpcinjhaadoor", sum := "cf01e71966bb8a6ff80fac1ab7bfabcbc9f4b95a73088d33d47a7ecbcbd1ca48", func := "winnowing/winnowinglaw01.ToksTell", spec := "toksTell", inPlace := ["internal/abi.NoEscape"], recurses := true, named := ["internal/strconv.uint64pow10", "math/bits.deBruijn32tab", "math/bits.deBruijn64tab"], apart := false, laid := [("math/bits.deBruijn32tab", laid_math_bits_deBruijn32tab), ("math/bits.deBruijn64tab", laid_math_bits_deBruijn64tab), ("internal/strconv.uint64pow10", laid_internal_strconv_uint64pow10)] }
def ToksTellSaid : Prop := toksTellRow.holds Tryd.pinned (OpenSpec.ofChange toksTellSpec)

/-- ITS FALSE NEIGHBOUR: 'it returns false'. Refute it at one input. -/
def toksTellWrong : ChangeSpec := { name := "toksTell", fn := fun _ => fun
  | [d1, d2, d3] => { results := [.lit (.bool false)], args := [d1, d2, d3] }
  | _ => none }
def ToksTellWrongFalsely : Prop := toksTellRow.holds Tryd.pinned (OpenSpec.ofChange toksTellWrong)

/-- 'winnowinglaw01.ToksBack': WHATEVER THE INPUT: true; the input reads as it did. -/
def toksBackSpec : ChangeSpec := { name := "toksBack", fn := fun _ => fun
  | [d1, d2] => { results := [.lit (.bool true)], args := [d1, d2] }
  | _ => none }
def toksBackRow : OpenClaim := { program := "ytnkdppbpcinjhaadoor", sum := "cf01e71966bb8a6ff80fac1ab7bfabcbc9f4b95a73088d33d47a7ecbcbd1ca48", func := "winnowing/winnowinglaw01.ToksBack", spec := "toksBack", inPlace := ["internal/abi.NoEscape"], named := ["internal/strconv.uint64pow10", "math/bits.deBruijn32tab", "math/bits.deBruijn64tab"], apart := false, laid := [("math/bits.deBruijn32tab", laid_math_bits_deBruijn32tab), ("math/bits.deBruijn64tab", laid_math_bits_deBruijn64tab), ("internal/strconv.uint64pow10", laid_internal_strconv_uint64pow10)] }
def ToksBackSaid : Prop := toksBackRow.holds Tryd.pinned (OpenSpec.ofChange toksBackSpec)

/-- ITS FALSE NEIGHBOUR: 'it returns false'. Refute it at one input. -/
def toksBackWrong : ChangeSpec := { name := "toksBack", fn := fun _ => fun
  | [d1, d2] => { results := [.lit (.bool false)], args := [d1, d2] }
  | _ => none }
def ToksBackWrongFalsely : Prop := toksBackRow.holds Tryd.pinned (OpenSpec.ofChange toksBackWrong)

/-- 'winnowinglaw01.ToksBlanks': WHATEVER THE INPUT: true; the input reads as it did. -/
def toksBlanksSpec : ChangeSpec := { name := "toksBlanks", fn := fun _ => fun
  | [d1, d2] => { results := [.lit (.bool true)], args := [d1, d2] }
  | _ => none }
def toksBlanksRow : OpenClaim := { program := "ytnkdppbpcinjhaadoor", sum := "cf01e71966bb8a6ff80fac1ab7bfabcbc9f4b95a73088d33d47a7ecbcbd1ca48", func := "winnowing/winnowinglaw01.ToksBlanks", spec := "toksBlanks", inPlace := ["internal/abi.NoEscape"], recurses := true, named := ["internal/strconv.uint64pow10", "math/bits.deBruijn32tab", "math/bits.deBruijn64tab"], apart := false, laid := [("math/bits.deBruijn32tab", laid_math_bits_deBruijn32tab), ("math/bits.deBruijn64tab", laid_math_bits_deBruijn64tab), ("internal/strconv.uint64pow10", laid_internal_strconv_uint64pow10)] }
def ToksBlanksSaid : Prop := toksBlanksRow.holds Tryd.pinned (OpenSpec.ofChange toksBlanksSpec)

/-- ITS FALSE NEIGHBOUR: 'it returns false'. Refute it at one input. -/
def toksBlanksWrong : ChangeSpec := { name := "toksBlanks", fn := fun _ => fun
  | [d1, d2] => { results := [.lit (.bool false)], args := [d1, d2] }
  | _ => none }
def ToksBlanksWrongFalsely : Prop := toksBlanksRow.holds Tryd.pinned (OpenSpec.ofChange toksBlanksWrong)

/-- 'winnowinglaw01.ToksBoth': WHATEVER THE INPUT: true; the input reads as it did. -/
def toksBothSpec : ChangeSpec := { name := "toksBoth", fn := fun _ => fun
  | [d1, d2] => { results := [.lit (.bool true)], args := [d1, d2] }
  | _ => none }
def toksBothRow : OpenClaim := { program := "ytnkdppbpcinjhaadoor", sum := "cf01e71966bb8a6ff80fac1ab7bfabcbc9f4b95a73088d33d47a7ecbcbd1ca48", func := "winnowing/winnowinglaw01.ToksBoth", spec := "toksBoth", inPlace := ["internal/abi.NoEscape"], named := ["internal/strconv.uint64pow10", "math/bits.deBruijn32tab", "math/bits.deBruijn64tab"], apart := false, laid := [("math/bits.deBruijn32tab", laid_math_bits_deBruijn32tab), ("math/bits.deBruijn64tab", laid_math_bits_deBruijn64tab), ("internal/strconv.uint64pow10", laid_internal_strconv_uint64pow10)] }
def ToksBothSaid : Prop := toksBothRow.holds Tryd.pinned (OpenSpec.ofChange toksBothSpec)

/-- ITS FALSE NEIGHBOUR: 'it returns false'. Refute it at one input. -/
def toksBothWrong : ChangeSpec := { name := "toksBoth", fn := fun _ => fun
  | [d1, d2] => { results := [.lit (.bool false)], args := [d1, d2] }
  | _ => none }
def ToksBothWrongFalsely : Prop := toksBothRow.holds Tryd.pinned (OpenSpec.ofChange toksBothWrong)

/-- 'winnowinglaw01.ToksParts': WHATEVER THE INPUT: true; the input reads as it did. -/
def toksPartsSpec : ChangeSpec := { name := "toksParts", fn := fun _ => fun
  | [d] => { results := [.lit (.bool true)], args := [d] }
  | _ => none }
def toksPartsRow : OpenClaim := { program := "ytnkdppbpcinjhaadoor", sum := "cf01e71966bb8a6ff80fac1ab7bfabcbc9f4b95a73088d33d47a7ecbcbd1ca48", func := "winnowing/winnowinglaw01.ToksParts", spec := "toksParts", inPlace := ["internal/abi.NoEscape"], named := ["internal/strconv.uint64pow10", "math/bits.deBruijn32tab", "math/bits.deBruijn64tab"], apart := false, laid := [("math/bits.deBruijn32tab", laid_math_bits_deBruijn32tab), ("math/bits.deBruijn64tab", laid_math_bits_deBruijn64tab), ("internal/strconv.uint64pow10", laid_internal_strconv_uint64pow10)] }
def ToksPartsSaid : Prop := toksPartsRow.holds Tryd.pinned (OpenSpec.ofChange toksPartsSpec)

/-- ITS FALSE NEIGHBOUR: 'it returns false'. Refute it at one input. -/
def toksPartsWrong : ChangeSpec := { name := "toksParts", fn := fun _ => fun
  | [d] => { results := [.lit (.bool false)], args := [d] }
  | _ => none }
def ToksPartsWrongFalsely : Prop := toksPartsRow.holds Tryd.pinned (OpenSpec.ofChange toksPartsWrong)

/-- 'winnowinglaw01.ToksTwo': WHATEVER THE INPUT: true; the input reads as it did. -/
def toksTwoSpec : ChangeSpec := { name := "toksTwo", fn := fun _ => fun
  | [d1, d2, d3] => { results := [.lit (.bool true)], args := [d1, d2, d3] }
  | _ => none }
def toksTwoRow : OpenClaim := { program := "ytnkdppbpcinjhaadoor", sum := "cf01e71966bb8a6ff80fac1ab7bfabcbc9f4b95a73088d33d47a7ecbcbd1ca48", func := "winnowing/winnowinglaw01.ToksTwo", spec := "toksTwo", inPlace := ["internal/abi.NoEscape"], named := ["internal/strconv.uint64pow10", "math/bits.deBruijn32tab", "math/bits.deBruijn64tab"], apart := false, laid := [("math/bits.deBruijn32tab", laid_math_bits_deBruijn32tab), ("math/bits.deBruijn64tab", laid_math_bits_deBruijn64tab), ("internal/strconv.uint64pow10", laid_internal_strconv_uint64pow10)] }
def ToksTwoSaid : Prop := toksTwoRow.holds Tryd.pinned (OpenSpec.ofChange toksTwoSpec)

/-- ITS FALSE NEIGHBOUR: 'it returns false'. Refute it at one input. -/
def toksTwoWrong : ChangeSpec := { name := "toksTwo", fn := fun _ => fun
  | [d1, d2, d3] => { results := [.lit (.bool false)], args := [d1, d2, d3] }
  | _ => none }
def ToksTwoWrongFalsely : Prop := toksTwoRow.holds Tryd.pinned (OpenSpec.ofChange toksTwoWrong)

/-- 'winnowinglaw02.NestTells': WHATEVER THE INPUT: true; the input reads as it did. -/
def nestTellsSpec : ChangeSpec := { name := "nestTells", fn := fun _ => fun
  | [d1, d2, d3] => { results := [.lit (.bool true)], args := [d1, d2, d3] }
  | _ => none }
def nestTellsRow : OpenClaim := { program := "ytnkdppbpcinjhaadoor", sum := "cf01e71966bb8a6ff80fac1ab7bfabcbc9f4b95a73088d33d47a7ecbcbd1ca48", func := "winnowing/winnowinglaw02.NestTells", spec := "nestTells", unfollowed := true, recurses := true, named := ["internal/strconv.uint64pow10", "math/bits.deBruijn32tab", "math/bits.deBruijn64tab"], loops := true, apart := false, laid := [("math/bits.deBruijn32tab", laid_math_bits_deBruijn32tab), ("math/bits.deBruijn64tab", laid_math_bits_deBruijn64tab), ("internal/strconv.uint64pow10", laid_internal_strconv_uint64pow10)] }
def NestTellsSaid : Prop := nestTellsRow.holds Tryd.pinned (OpenSpec.ofChange nestTellsSpec)

/-- ITS FALSE NEIGHBOUR: 'it returns false'. Refute it at one input. -/
def nestTellsWrong : ChangeSpec := { name := "nestTells", fn := fun _ => fun
  | [d1, d2, d3] => { results := [.lit (.bool false)], args := [d1, d2, d3] }
  | _ => none }
def NestTellsWrongFalsely : Prop := nestTellsRow.holds Tryd.pinned (OpenSpec.ofChange nestTellsWrong)

/-- 'winnowinglaw02.NestBack': WHATEVER THE INPUT: true; the input reads as it did. -/
def nestBackSpec : ChangeSpec := { name := "nestBack", fn := fun _ => fun
  | [d] => { results := [.lit (.bool true)], args := [d] }
  | _ => none }
def nestBackRow : OpenClaim := { program := "ytnkdppbpcinjhaadoor", sum := "cf01e71966bb8a6ff80fac1ab7bfabcbc9f4b95a73088d33d47a7ecbcbd1ca48", func := "winnowing/winnowinglaw02.NestBack", spec := "nestBack", unfollowed := true, recurses := true, named := ["internal/strconv.uint64pow10", "math/bits.deBruijn32tab", "math/bits.deBruijn64tab"], apart := false, laid := [("math/bits.deBruijn32tab", laid_math_bits_deBruijn32tab), ("math/bits.deBruijn64tab", laid_math_bits_deBruijn64tab), ("internal/strconv.uint64pow10", laid_internal_strconv_uint64pow10)] }
def NestBackSaid : Prop := nestBackRow.holds Tryd.pinned (OpenSpec.ofChange nestBackSpec)

/-- ITS FALSE NEIGHBOUR: 'it returns false'. Refute it at one input. -/
def nestBackWrong : ChangeSpec := { name := "nestBack", fn := fun _ => fun
  | [d] => { results := [.lit (.bool false)], args := [d] }
  | _ => none }
def NestBackWrongFalsely : Prop := nestBackRow.holds Tryd.pinned (OpenSpec.ofChange nestBackWrong)

/-- 'winnowinglaw02.NestBoth': WHATEVER THE INPUT: true; the input reads as it did. -/
def nestBothSpec : ChangeSpec := { name := "nestBoth", fn := fun _ => fun
  | [d1, d2] => { results := [.lit (.bool true)], args := [d1, d2] }
  | _ => none }
def nestBothRow : OpenClaim := { program := "ytnkdppbpcinjhaadoor", sum := "cf01e71966bb8a6ff80fac1ab7bfabcbc9f4b95a73088d33d47a7ecbcbd1ca48", func := "winnowing/winnowinglaw02.NestBoth", spec := "nestBoth", unfollowed := true, recurses := true, named := ["internal/strconv.uint64pow10", "math/bits.deBruijn32tab", "math/bits.deBruijn64tab"], apart := false, laid := [("math/bits.deBruijn32tab", laid_math_bits_deBruijn32tab), ("math/bits.deBruijn64tab", laid_math_bits_deBruijn64tab), ("internal/strconv.uint64pow10", laid_internal_strconv_uint64pow10)] }
def NestBothSaid : Prop := nestBothRow.holds Tryd.pinned (OpenSpec.ofChange nestBothSpec)

/-- ITS FALSE NEIGHBOUR: 'it returns false'. Refute it at one input. -/
def nestBothWrong : ChangeSpec := { name := "nestBoth", fn := fun _ => fun
  | [d1, d2] => { results := [.lit (.bool false)], args := [d1, d2] }
  | _ => none }
def NestBothWrongFalsely : Prop := nestBothRow.holds Tryd.pinned (OpenSpec.ofChange nestBothWrong)

/-- 'winnowinglaw02.NestWraps': WHATEVER THE INPUT: true; the input reads as it did. -/
def nestWrapsSpec : ChangeSpec := { name := "nestWraps", fn := fun _ => fun
  | [d1, d2] => { results := [.lit (.bool true)], args := [d1, d2] }
  | _ => none }
def nestWrapsRow : OpenClaim := { program := "ytnkdppbpcinjhaadoor", sum := "cf01e71966bb8a6ff80fac1ab7bfabcbc9f4b95a73088d33d47a7ecbcbd1ca48", func := "winnowing/winnowinglaw02.NestWraps", spec := "nestWraps", unfollowed := true, recurses := true, named := ["internal/strconv.uint64pow10", "math/bits.deBruijn32tab", "math/bits.deBruijn64tab"], loops := true, apart := false, laid := [("math/bits.deBruijn32tab", laid_math_bits_deBruijn32tab), ("math/bits.deBruijn64tab", laid_math_bits_deBruijn64tab), ("internal/strconv.uint64pow10", laid_internal_strconv_uint64pow10)] }
def NestWrapsSaid : Prop := nestWrapsRow.holds Tryd.pinned (OpenSpec.ofChange nestWrapsSpec)

/-- ITS FALSE NEIGHBOUR: 'it returns false'. Refute it at one input. -/
def nestWrapsWrong : ChangeSpec := { name := "nestWraps", fn := fun _ => fun
  | [d1, d2] => { results := [.lit (.bool false)], args := [d1, d2] }
  | _ => none }
def NestWrapsWrongFalsely : Prop := nestWrapsRow.holds Tryd.pinned (OpenSpec.ofChange nestWrapsWrong)

/-- 'winnowinglaw02.NestApart': WHATEVER THE INPUT: true; the input reads as it did. -/
def nestApartSpec : ChangeSpec := { name := "nestApart", fn := fun _ => fun
  | [d1, d2] => { results := [.lit (.bool true)], args := [d1, d2] }
  | _ => none }
def nestApartRow : OpenClaim := { program := "ytnkdppbpcinjhaadoor", sum := "cf01e71966bb8a6ff80fac1ab7bfabcbc9f4b95a73088d33d47a7ecbcbd1ca48", func := "winnowing/winnowinglaw02.NestApart", spec := "nestApart", unfollowed := true, recurses := true, named := ["internal/strconv.uint64pow10", "math/bits.deBruijn32tab", "math/bits.deBruijn64tab"], loops := true, apart := false, laid := [("math/bits.deBruijn32tab", laid_math_bits_deBruijn32tab), ("math/bits.deBruijn64tab", laid_math_bits_deBruijn64tab), ("internal/strconv.uint64pow10", laid_internal_strconv_uint64pow10)] }
def NestApartSaid : Prop := nestApartRow.holds Tryd.pinned (OpenSpec.ofChange nestApartSpec)

/-- ITS FALSE NEIGHBOUR: 'it returns false'. Refute it at one input. -/
def nestApartWrong : ChangeSpec := { name := "nestApart", fn := fun _ => fun
  | [d1, d2] => { results := [.lit (.bool false)], args := [d1, d2] }
  | _ => none }
def NestApartWrongFalsely : Prop := nestApartRow.holds Tryd.pinned (OpenSpec.ofChange nestApartWrong)

/- THE SECOND FORM. 'bulk': how many values and letters a reading holds, each counted each time it is reached (what is shared counts as often as it is met; a slice's spare places count too). A statement '..UptoSaid' is the law's where the arguments, and the package variables that the reading takes, are together of bulk at most 1048576: NARROWER than '..Said'. Prove '..Said' where nothing that the law and all that it calls make is longer than what came in: it says more and counts as full. Else prove '..UptoSaid'. A law counts once. -/
mutual
def uptoBulk {H : Type} : DataW H → Nat
  | .lit (.string bytes) => bytes.length + 1
  | .lit _ => 1
  | .nil => 1
  | .ptr d => uptoBulk d + 1
  | .slice elems spare => uptoBulkAll elems + uptoBulkAll spare + 1
  | .agg parts => uptoBulkAll parts + 1
  | .iface _ d => uptoBulk d + 1
  | .map entries => uptoBulkEntries entries + 1
  | .held _ => 1
def uptoBulkAll {H : Type} : List (DataW H) → Nat
  | [] => 0
  | d :: r => uptoBulk d + uptoBulkAll r
def uptoBulkEntries {H : Type} : List (Lit × DataW H) → Nat
  | [] => 0
  | x :: r => uptoBulkEntry x + uptoBulkEntries r
def uptoBulkEntry {H : Type} : Lit × DataW H → Nat
  | (.string bytes, d) => bytes.length + uptoBulk d + 1
  | (_, d) => uptoBulk d + 1
 end
def uptoSmall : (H : Type) → List (DataW H) → Bool := fun _ ds => decide (uptoBulkAll ds ≤ 1048576)
def OpenSpec.upto (s : _root_.Go.ChangeSpec) : _root_.Go.OpenSpec := { _root_.Go.OpenSpec.ofChange s with cond := some uptoSmall }

/-- 'winnowinglaw01.ToksTell', WHERE WHAT IT READS IS OF BULK AT MOST 1048576: true; the input reads as it did. -/
def toksTellUptoRow : OpenClaim := { program := "ytnkdppbpcinjhaadoor", sum := "cf01e71966bb8a6ff80fac1ab7bfabcbc9f4b95a73088d33d47a7ecbcbd1ca48", func := "winnowing/winnowinglaw01.ToksTell", spec := "toksTell", inPlace := ["internal/abi.NoEscape"], recurses := true, named := ["internal/strconv.uint64pow10", "math/bits.deBruijn32tab", "math/bits.deBruijn64tab"], apart := false, laid := [("math/bits.deBruijn32tab", laid_math_bits_deBruijn32tab), ("math/bits.deBruijn64tab", laid_math_bits_deBruijn64tab), ("internal/strconv.uint64pow10", laid_internal_strconv_uint64pow10)], narrowed := true }
def ToksTellUptoSaid : Prop := toksTellUptoRow.holds Tryd.pinned (OpenSpec.upto toksTellSpec)

/-- 'winnowinglaw01.ToksBack', WHERE WHAT IT READS IS OF BULK AT MOST 1048576: true; the input reads as it did. -/
def toksBackUptoRow : OpenClaim := { program := "ytnkdppbpcinjhaadoor", sum := "cf01e71966bb8a6ff80fac1ab7bfabcbc9f4b95a73088d33d47a7ecbcbd1ca48", func := "winnowing/winnowinglaw01.ToksBack", spec := "toksBack", inPlace := ["internal/abi.NoEscape"], named := ["internal/strconv.uint64pow10", "math/bits.deBruijn32tab", "math/bits.deBruijn64tab"], apart := false, laid := [("math/bits.deBruijn32tab", laid_math_bits_deBruijn32tab), ("math/bits.deBruijn64tab", laid_math_bits_deBruijn64tab), ("internal/strconv.uint64pow10", laid_internal_strconv_uint64pow10)], narrowed := true }
def ToksBackUptoSaid : Prop := toksBackUptoRow.holds Tryd.pinned (OpenSpec.upto toksBackSpec)

/-- 'winnowinglaw01.ToksBlanks', WHERE WHAT IT READS IS OF BULK AT MOST 1048576: true; the input reads as it did. -/
def toksBlanksUptoRow : OpenClaim := { program := "ytnkdppbpcinjhaadoor", sum := "cf01e71966bb8a6ff80fac1ab7bfabcbc9f4b95a73088d33d47a7ecbcbd1ca48", func := "winnowing/winnowinglaw01.ToksBlanks", spec := "toksBlanks", inPlace := ["internal/abi.NoEscape"], recurses := true, named := ["internal/strconv.uint64pow10", "math/bits.deBruijn32tab", "math/bits.deBruijn64tab"], apart := false, laid := [("math/bits.deBruijn32tab", laid_math_bits_deBruijn32tab), ("math/bits.deBruijn64tab", laid_math_bits_deBruijn64tab), ("internal/strconv.uint64pow10", laid_internal_strconv_uint64pow10)], narrowed := true }
def ToksBlanksUptoSaid : Prop := toksBlanksUptoRow.holds Tryd.pinned (OpenSpec.upto toksBlanksSpec)

/-- 'winnowinglaw01.ToksBoth', WHERE WHAT IT READS IS OF BULK AT MOST 1048576: true; the input reads as it did. -/
def toksBothUptoRow : OpenClaim := { program := "ytnkdppbpcinjhaadoor", sum := "cf01e71966bb8a6ff80fac1ab7bfabcbc9f4b95a73088d33d47a7ecbcbd1ca48", func := "winnowing/winnowinglaw01.ToksBoth", spec := "toksBoth", inPlace := ["internal/abi.NoEscape"], named := ["internal/strconv.uint64pow10", "math/bits.deBruijn32tab", "math/bits.deBruijn64tab"], apart := false, laid := [("math/bits.deBruijn32tab", laid_math_bits_deBruijn32tab), ("math/bits.deBruijn64tab", laid_math_bits_deBruijn64tab), ("internal/strconv.uint64pow10", laid_internal_strconv_uint64pow10)], narrowed := true }
def ToksBothUptoSaid : Prop := toksBothUptoRow.holds Tryd.pinned (OpenSpec.upto toksBothSpec)

/-- 'winnowinglaw01.ToksParts', WHERE WHAT IT READS IS OF BULK AT MOST 1048576: true; the input reads as it did. -/
def toksPartsUptoRow : OpenClaim := { program := "ytnkdppbpcinjhaadoor", sum := "cf01e71966bb8a6ff80fac1ab7bfabcbc9f4b95a73088d33d47a7ecbcbd1ca48", func := "winnowing/winnowinglaw01.ToksParts", spec := "toksParts", inPlace := ["internal/abi.NoEscape"], named := ["internal/strconv.uint64pow10", "math/bits.deBruijn32tab", "math/bits.deBruijn64tab"], apart := false, laid := [("math/bits.deBruijn32tab", laid_math_bits_deBruijn32tab), ("math/bits.deBruijn64tab", laid_math_bits_deBruijn64tab), ("internal/strconv.uint64pow10", laid_internal_strconv_uint64pow10)], narrowed := true }
def ToksPartsUptoSaid : Prop := toksPartsUptoRow.holds Tryd.pinned (OpenSpec.upto toksPartsSpec)

/-- 'winnowinglaw01.ToksTwo', WHERE WHAT IT READS IS OF BULK AT MOST 1048576: true; the input reads as it did. -/
def toksTwoUptoRow : OpenClaim := { program := "ytnkdppbpcinjhaadoor", sum := "cf01e71966bb8a6ff80fac1ab7bfabcbc9f4b95a73088d33d47a7ecbcbd1ca48", func := "winnowing/winnowinglaw01.ToksTwo", spec := "toksTwo", inPlace := ["internal/abi.NoEscape"], named := ["internal/strconv.uint64pow10", "math/bits.deBruijn32tab", "math/bits.deBruijn64tab"], apart := false, laid := [("math/bits.deBruijn32tab", laid_math_bits_deBruijn32tab), ("math/bits.deBruijn64tab", laid_math_bits_deBruijn64tab), ("internal/strconv.uint64pow10", laid_internal_strconv_uint64pow10)], narrowed := true }
def ToksTwoUptoSaid : Prop := toksTwoUptoRow.holds Tryd.pinned (OpenSpec.upto toksTwoSpec)

/-- 'winnowinglaw02.NestTells', WHERE WHAT IT READS IS OF BULK AT MOST 1048576: true; the input reads as it did. -/
def nestTellsUptoRow : OpenClaim := { program := "ytnkdppbpcinjhaadoor", sum := "cf01e71966bb8a6ff80fac1ab7bfabcbc9f4b95a73088d33d47a7ecbcbd1ca48", func := "winnowing/winnowinglaw02.NestTells", spec := "nestTells", unfollowed := true, recurses := true, named := ["internal/strconv.uint64pow10", "math/bits.deBruijn32tab", "math/bits.deBruijn64tab"], loops := true, apart := false, laid := [("math/bits.deBruijn32tab", laid_math_bits_deBruijn32tab), ("math/bits.deBruijn64tab", laid_math_bits_deBruijn64tab), ("internal/strconv.uint64pow10", laid_internal_strconv_uint64pow10)], narrowed := true }
def NestTellsUptoSaid : Prop := nestTellsUptoRow.holds Tryd.pinned (OpenSpec.upto nestTellsSpec)

/-- 'winnowinglaw02.NestBack', WHERE WHAT IT READS IS OF BULK AT MOST 1048576: true; the input reads as it did. -/
def nestBackUptoRow : OpenClaim := { program := "ytnkdppbpcinjhaadoor", sum := "cf01e71966bb8a6ff80fac1ab7bfabcbc9f4b95a73088d33d47a7ecbcbd1ca48", func := "winnowing/winnowinglaw02.NestBack", spec := "nestBack", unfollowed := true, recurses := true, named := ["internal/strconv.uint64pow10", "math/bits.deBruijn32tab", "math/bits.deBruijn64tab"], apart := false, laid := [("math/bits.deBruijn32tab", laid_math_bits_deBruijn32tab), ("math/bits.deBruijn64tab", laid_math_bits_deBruijn64tab), ("internal/strconv.uint64pow10", laid_internal_strconv_uint64pow10)], narrowed := true }
def NestBackUptoSaid : Prop := nestBackUptoRow.holds Tryd.pinned (OpenSpec.upto nestBackSpec)

/-- 'winnowinglaw02.NestBoth', WHERE WHAT IT READS IS OF BULK AT MOST 1048576: true; the input reads as it did. -/
def nestBothUptoRow : OpenClaim := { program := "ytnkdppbpcinjhaadoor", sum := "cf01e71966bb8a6ff80fac1ab7bfabcbc9f4b95a73088d33d47a7ecbcbd1ca48", func := "winnowing/winnowinglaw02.NestBoth", spec := "nestBoth", unfollowed := true, recurses := true, named := ["internal/strconv.uint64pow10", "math/bits.deBruijn32tab", "math/bits.deBruijn64tab"], apart := false, laid := [("math/bits.deBruijn32tab", laid_math_bits_deBruijn32tab), ("math/bits.deBruijn64tab", laid_math_bits_deBruijn64tab), ("internal/strconv.uint64pow10", laid_internal_strconv_uint64pow10)], narrowed := true }
def NestBothUptoSaid : Prop := nestBothUptoRow.holds Tryd.pinned (OpenSpec.upto nestBothSpec)

/-- 'winnowinglaw02.NestWraps', WHERE WHAT IT READS IS OF BULK AT MOST 1048576: true; the input reads as it did. -/
def nestWrapsUptoRow : OpenClaim := { program := "ytnkdppbpcinjhaadoor", sum := "cf01e71966bb8a6ff80fac1ab7bfabcbc9f4b95a73088d33d47a7ecbcbd1ca48", func := "winnowing/winnowinglaw02.NestWraps", spec := "nestWraps", unfollowed := true, recurses := true, named := ["internal/strconv.uint64pow10", "math/bits.deBruijn32tab", "math/bits.deBruijn64tab"], loops := true, apart := false, laid := [("math/bits.deBruijn32tab", laid_math_bits_deBruijn32tab), ("math/bits.deBruijn64tab", laid_math_bits_deBruijn64tab), ("internal/strconv.uint64pow10", laid_internal_strconv_uint64pow10)], narrowed := true }
def NestWrapsUptoSaid : Prop := nestWrapsUptoRow.holds Tryd.pinned (OpenSpec.upto nestWrapsSpec)

/-- 'winnowinglaw02.NestApart', WHERE WHAT IT READS IS OF BULK AT MOST 1048576: true; the input reads as it did. -/
def nestApartUptoRow : OpenClaim := { program := "ytnkdppbpcinjhaadoor", sum := "cf01e71966bb8a6ff80fac1ab7bfabcbc9f4b95a73088d33d47a7ecbcbd1ca48", func := "winnowing/winnowinglaw02.NestApart", spec := "nestApart", unfollowed := true, recurses := true, named := ["internal/strconv.uint64pow10", "math/bits.deBruijn32tab", "math/bits.deBruijn64tab"], loops := true, apart := false, laid := [("math/bits.deBruijn32tab", laid_math_bits_deBruijn32tab), ("math/bits.deBruijn64tab", laid_math_bits_deBruijn64tab), ("internal/strconv.uint64pow10", laid_internal_strconv_uint64pow10)], narrowed := true }
def NestApartUptoSaid : Prop := nestApartUptoRow.holds Tryd.pinned (OpenSpec.upto nestApartSpec)

end Rows
end Go.Proofs.YtnkdppbpcinjhaaDoor
