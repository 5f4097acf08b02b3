/- The verifier's second writing: are a text's tokens these two? The verifier's second writing: the text of tokens. -/
import Derived.Test.YtbjhiimjillleaaGL
import Derived.Lib.QuietBelow
set_option maxRecDepth 20000
namespace Go.Proofs.Ytbjhiimjillleaa
open Go.RowKit
theorem str_ext {x y : ByteArray} {tt : List UInt8} (hx : tt = x.toList) (hy : tt = y.toList) : y = x := by
  apply ByteArray.ext
  apply Array.toList_inj.1
  rw [← ByteArray.toList_eq, ← ByteArray.toList_eq, ← hx, ← hy]
end Go.Proofs.Ytbjhiimjillleaa
set_option maxRecDepth 20000
namespace Go.Proofs.Ytbjhiimjillleaa
open Go.RowKit Go.Sort
theorem step_text {l : List Wn.Tok} {j : Nat} {p t : Wn.Tok} {acc : List UInt8} {R : Bool} (hp : l[j]? = some p) (ht : l[j + 1]? = some t) (hR : Wn.apart (Wn.oneText p ++ Wn.oneText t) p t = R) (h : acc ++ Wn.texts (Wn.ahead l (j + 1)) (l.drop (j + 1)) = Wn.text l) :
    (acc ++ (if R then [47, 42, 42, 47] else []) ++ Wn.oneText t) ++ Wn.texts (Wn.ahead l (j + 1 + 1)) (l.drop (j + 1 + 1)) = Wn.text l := by
  have hj : j + 1 < l.length := (List.getElem?_eq_some_iff.1 ht).1
  have e : l.drop (j + 1) = t :: l.drop (j + 1 + 1) := by
    rw [List.drop_eq_getElem_cons hj]; rw [List.getElem?_eq_getElem hj, Option.some.injEq] at ht; rw [ht]
  rw [← h, e, Wn.ahead_succ l j p hp, Wn.ahead_succ l (j + 1) t ht]
  simp [Wn.texts, hR]
theorem step_text0 {l : List Wn.Tok} {t : Wn.Tok} {acc : List UInt8} (ht : l[0]? = some t) (h : acc ++ Wn.texts (Wn.ahead l 0) (l.drop 0) = Wn.text l) :
    (acc ++ Wn.oneText t) ++ Wn.texts (Wn.ahead l (0 + 1)) (l.drop (0 + 1)) = Wn.text l := by
  have hj : 0 < l.length := (List.getElem?_eq_some_iff.1 ht).1
  have e : l.drop 0 = t :: l.drop (0 + 1) := by
    rw [List.drop_eq_getElem_cons hj]; rw [List.getElem?_eq_getElem hj, Option.some.injEq] at ht; rw [ht]
  rw [← h, e, Wn.ahead_succ l 0 t ht]
  simp [Wn.texts, Wn.ahead]
def ShortTok (t : Wn.Tok) : Prop := t.2.1.length ≤ 100000 ∧ -9223372036854775808 ≤ t.2.2 ∧ t.2.2 ≤ 9223372036854775807
theorem ShortTok.one {t : Wn.Tok} (h : ShortTok t) : (Wn.oneText t).length ≤ 100100 := by have := Wn.oneText_len t h.2.1 h.2.2; have := h.1; omega
end Go.Proofs.Ytbjhiimjillleaa
