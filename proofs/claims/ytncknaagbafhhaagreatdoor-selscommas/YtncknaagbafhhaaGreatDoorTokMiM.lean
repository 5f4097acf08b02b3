/- Tokens with a comment behind each, and with other blanks in the place of blanks, are read as they were. Plain mathematics. -/
import Derived.Test.YtncknaagbafhhaaGreatDoorGH
set_option maxRecDepth 20000
namespace Wn
/-- the comment that stands behind each token -/
def cmtA : List UInt8 := [47, 42, 32, 105, 116, 39, 115, 32, 34, 120, 32, 42, 47]
def cmtB : List UInt8 := [47, 42, 42, 47]
def someBlanks : List UInt8 := [32, 9, 10, 12, 13, 10, 32, 32, 9, 32]
/-- a token's text, or blanks -/
def piece (n : Nat) (t : Tok) : List UInt8 := if t.1 = 8 then someBlanks.take (n + 1) else oneText t
def spreadA (l : List Tok) : List UInt8 := l.flatMap fun t => oneText t ++ cmtA
def spreadB (n : Nat) (l : List Tok) : List UInt8 := l.flatMap fun t => piece n t ++ cmtB
end Wn
