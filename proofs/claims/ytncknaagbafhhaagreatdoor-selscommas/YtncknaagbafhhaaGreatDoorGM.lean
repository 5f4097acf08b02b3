/- The verifier's second writing: are a text's tokens these two? The verifier's second writing: the text of tokens. -/
import Derived.Test.YtncknaagbafhhaaGreatDoorGL
import Derived.Lib.QuietBelow
set_option maxRecDepth 20000
namespace Go.Proofs.YtncknaagbafhhaaGreatDoor
open Go.RowKit
end Go.Proofs.YtncknaagbafhhaaGreatDoor
set_option maxRecDepth 20000
namespace Go.Proofs.YtncknaagbafhhaaGreatDoor
open Go.RowKit Go.Sort
def ShortTok (t : Wn.Tok) : Prop := t.2.1.length ≤ 100000 ∧ -9223372036854775808 ≤ t.2.2 ∧ t.2.2 ≤ 9223372036854775807
theorem ShortTok.one {t : Wn.Tok} (h : ShortTok t) : (Wn.oneText t).length ≤ 100100 := by have := Wn.oneText_len t h.2.1 h.2.2; have := h.1; omega
end Go.Proofs.YtncknaagbafhhaaGreatDoor
