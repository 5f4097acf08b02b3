/- The token at the head of a text, and the tokens of a text: plain mathematics. -/
import Derived.Test.YtnkdppbpcinjhaaDoorTokA
set_option maxRecDepth 20000
namespace Wn
/-- a token: its kind, its text, its number -/
abbrev Tok := Int × List UInt8 × Int
def named (k : Int) (l : List UInt8) : Tok × Nat := ((k, (l.drop 1).take (runLen nameByte (l.drop 1)), 0), runLen nameByte (l.drop 1) + 1)
def numTok (neg : Bool) (d : Nat) (l : List UInt8) : Tok × Nat :=
  ((5, (l.drop d).take (unitLen (l.drop d)), if neg then - numVal 0 (l.drop 1) else numVal 0 l), d + unitLen (l.drop d))
def number (l : List UInt8) : Tok × Nat :=
  if hd l == 45 then numTok true (1 + runLen digit (l.drop 1)) l else numTok false (runLen digit l) l
def word (l : List UInt8) : Tok × Nat :=
  if hd (l.drop (runLen nameByte l)) == 40 then ((2, l.take (runLen nameByte l), 0), runLen nameByte l + 1) else ((1, l.take (runLen nameByte l), 0), runLen nameByte l)
/-- the token at the head of a text that is not empty and does not begin with a comment, and how many bytes it takes -/
def one (l : List UInt8) : Tok × Nat :=
  if blank l then ((8, [10], 0), runLen blank l)
  else match strLen l with
  | some k => ((6, (l.drop 1).take k, hd l), k + 2)
  | none =>
    if hd l == 35 && nameByte (l.drop 1) then named 4 l
    else if hd l == 64 && nameBegins (l.drop 1) then named 3 l
    else if numberBegins l then number l
    else if nameBegins l then word l
    else ((7, l.take 1, 0), 1)
end Wn
