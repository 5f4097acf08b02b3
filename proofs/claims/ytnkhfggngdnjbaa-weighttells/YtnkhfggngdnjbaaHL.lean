/- The values that the fixed calls of the fourth layer's laws are about. What lies in memory where the fixed calls of the fourth layer's laws have read. -/
import Derived.Test.YtnkhfggngdnjbaaHJ
import Derived.Test.YtnkhfggngdnjbaaGU
set_option linter.unusedVariables false
set_option linter.unusedSimpArgs false
set_option maxRecDepth 20000
namespace Wn
def tL : List UInt8 := [97, 32, 62, 32, 46, 98, 58, 104, 111, 118, 101, 114, 32, 44, 32, 35, 99, 58, 58, 98, 101, 102, 111, 114, 101]
def tN : List UInt8 := [45, 50, 110, 45, 49, 51]
def tM : List UInt8 := [68, 73, 86, 58, 110, 116, 104, 45, 99, 104, 105, 108, 100, 40, 32, 50, 110, 43, 49, 32, 41, 91, 120, 61, 39, 121, 32, 122, 39, 93, 58, 110, 111, 116, 40, 42, 41, 32, 126, 32, 58, 58, 97, 102, 116, 101, 114]
def tH : List UInt8 := [97, 32, 62]
def tI : List UInt8 := [97, 44, 32]
def tJ : List UInt8 := [97, 32, 98, 42]
def tK : List UInt8 := [97, 58, 110, 111, 116, 40, 58, 110, 111, 116, 40, 98, 41, 41]
def tO : List UInt8 := [97, 58, 58, 98, 101, 102, 111, 114, 101, 32, 98]
def lL : List Cx := [([(0, [sNam 2 [97]]), (2, [sNam 4 [98], sNam 7 [104, 111, 118, 101, 114]])], []), ([(0, [sNam 3 [99]])], [98, 101, 102, 111, 114, 101])]
def lM : List Cx := [([(0, [sNam 2 [100, 105, 118], ⟨8, [], [], 2, 1, .nil⟩, ⟨6, [120], [121, 32, 122], 0, 0, .nil⟩, ⟨11, [], [], 0, 0, (sBare 1).on .nil⟩]), (4, [])], [97, 102, 116, 101, 114])]
set_option maxRecDepth 100000
theorem read_tL : selsRead tL = some lL := by decide +kernel
theorem read_tM : selsRead tM = some lM := by decide +kernel
theorem read_tH : selsRead tH = none := by decide +kernel
theorem read_tI : selsRead tI = none := by decide +kernel
theorem read_tJ : selsRead tJ = none := by decide +kernel
theorem read_tK : selsRead tK = none := by decide +kernel
theorem read_tO : selsRead tO = none := by decide +kernel
theorem may_lL : maySels lL = true := by decide +kernel
theorem may_lM : maySels lM = true := by decide +kernel
theorem may_no : maySels [] = false := by decide +kernel
theorem lL_ne : lL ≠ lM := by decide +kernel
end Wn
set_option linter.unusedVariables false
set_option linter.unusedSimpArgs false
set_option maxRecDepth 20000
namespace Go.Proofs.Ytnkhfggngdnjbaa
open Go.RowKit Go.Sort
/-- a complex selector of a list -/
theorem cx_at {w : World} {ao : Option Addr} {n cap : Nat} {l : List Wn.Cx} (h : cxK.P w (fun _ => True) (.slice ao n cap) l) {i : Nat} {x : Wn.Cx} (hi : l[i]? = some x) :
    ∃ b o po pc, ao = some ⟨b, o, none⟩ ∧ ptK.P w (fun _ => True) (.slice po x.1.length pc) x.1 ∧ w.cell? ⟨b, o + i * 2, none⟩ = some (.slice po x.1.length pc) ∧ w.cell? ⟨b, o + i * 2 + 1, none⟩ = some (.string (Wn.str x.2)) := by
  obtain ⟨b, o, cs, rfl, _, _, hR, hL⟩ := h.at hi
  obtain ⟨u, rfl, hu⟩ := hR
  obtain ⟨po, pc, rfl, _, _⟩ := hu.form
  exact ⟨b, o, po, pc, rfl, hu, hL 0 _ rfl, hL 1 _ rfl⟩
theorem pt_at {w : World} {ao : Option Addr} {n cap : Nat} {l : List (Int × List Wn.Sm)} (h : ptK.P w (fun _ => True) (.slice ao n cap) l) {i : Nat} {x : Int × List Wn.Sm} (hi : l[i]? = some x) :
    ∃ b o po pc, ao = some ⟨b, o, none⟩ ∧ smK.P w (fun _ => True) (.slice po x.2.length pc) x.2 ∧ w.cell? ⟨b, o + i * 2, none⟩ = some (.int .i64 x.1) ∧ w.cell? ⟨b, o + i * 2 + 1, none⟩ = some (.slice po x.2.length pc) := by
  obtain ⟨b, o, cs, rfl, _, _, hR, hL⟩ := h.at hi
  obtain ⟨u, rfl, hu⟩ := hR
  obtain ⟨po, pc, rfl, _, _⟩ := hu.form
  exact ⟨b, o, po, pc, rfl, hu, hL 0 _ rfl, hL 1 _ rfl⟩
theorem sm_at {w : World} {ao : Option Addr} {n cap : Nat} {l : List Wn.Sm} (h : smK.P w (fun _ => True) (.slice ao n cap) l) {i : Nat} {x : Wn.Sm} (hi : l[i]? = some x) :
    ∃ b o po pc, ao = some ⟨b, o, none⟩ ∧ smK.P w (fun _ => True) (.slice po x.l.len pc) x.l.toL ∧ w.cell? ⟨b, o + i * 6, none⟩ = some (.int .i64 x.k) ∧ w.cell? ⟨b, o + i * 6 + 1, none⟩ = some (.string (Wn.str x.n)) ∧ w.cell? ⟨b, o + i * 6 + 2, none⟩ = some (.string (Wn.str x.v)) ∧ w.cell? ⟨b, o + i * 6 + 3, none⟩ = some (.int .i64 x.a) ∧ w.cell? ⟨b, o + i * 6 + 5, none⟩ = some (.slice po x.l.len pc) := by
  obtain ⟨b, o, cs, rfl, _, _, hR, hL⟩ := h.at hi
  obtain ⟨u, rfl, hu⟩ := hR
  obtain ⟨po, pc, rfl, _, _⟩ := hu.form
  exact ⟨b, o, po, pc, rfl, SsP.k.1 hu, hL 0 _ rfl, hL 1 _ rfl, hL 2 _ rfl, hL 3 _ rfl, hL 5 _ rfl⟩
end Go.Proofs.Ytnkhfggngdnjbaa
