/- What toks.One answers: a token's text. Condition: the table of powers of ten is the library's own; the token's number is an int. What toks.One answers, whatever the token. What a strings.Builder of a call's own does: WriteString behind the bytes that it has. -/
import Derived.Test.YtnkhfggngdnjbaaGD
import Derived.Test.YtnkhfggngdnjbaaGA
import Derived.Deep.RegionHeld3
import Derived.Lib.AppendIntMem
import Derived.Lib.SmallJoins
import Derived.Laws.Externs
import Derived.Lib.Builder
import Derived.Lib.AppendStr
import Derived.Lib.UnsafeStr
set_option maxRecDepth 20000
namespace Go.Proofs.Ytnkhfggngdnjbaa
open Go.RowKit
/-- the world's table of powers of ten is the library's -/
def Tab (w : World) : Prop := Lib.TabIs Try.prog w "internal/strconv.uint64pow10" .u64 Lib.pow10Tab
theorem Tab.below {w w' : World} (h : Tab w) (hb : Below w.heap.size w w') : Tab w' := Lib.tabBelow_of_tabIs h w' hb
theorem ret_str {a b : ByteArray} (h : a = b) : Ending.returned (.string a) = .returned (.string b) := by rw [h]
/-- a token's value, its text as a Go string -/
theorem tokV_str (t : Wn.Tok) : tokV t = .agg #[.int .i64 t.1, .string (Wn.str t.2.1), .int .i64 t.2.2] := rfl
theorem str_list (l : List UInt8) : (Wn.str l).toList = l := by
  rw [Lib.toList_data]; rfl
end Go.Proofs.Ytnkhfggngdnjbaa
set_option maxRecDepth 20000
namespace Go.Proofs.Ytnkhfggngdnjbaa
open Go.RowKit
theorem one_pre (l : List UInt8) (c : UInt8) : Wn.str (c :: l) = ⟨#[c]⟩ ++ Wn.str l := (Wn.str_append [c] l).symm
theorem one_suf (l : List UInt8) (c : UInt8) : Wn.str (l ++ [c]) = Wn.str l ++ ⟨#[c]⟩ := (Wn.str_append l [c]).symm
end Go.Proofs.Ytnkhfggngdnjbaa
set_option maxRecDepth 20000
namespace Go.Proofs.Ytnkhfggngdnjbaa
open Go.RowKit
theorem info_byte : (Try.prog.info? 5).map (fun i => (i.zero, i.size, i.bytes)) = some (some (.int .u8 0), 1, 1) := by kernel_rfl
end Go.Proofs.Ytnkhfggngdnjbaa
