/- The verifier's second writing of selectors: what plain, simples, Same answer. The values that the fixed calls of the fourth layer's laws are about. What lies in memory where the fixed calls of the fourth layer's laws have read. The verifier's second writing of selectors: what Same answers. -/
import Derived.Test.YtbjhiimjillleaaHI
import Derived.Test.YtbjhiimjillleaaGS
import Derived.Lib.QuietBelow
import Derived.Test.YtbjhiimjillleaaHJ
import Derived.Test.YtbjhiimjillleaaGU
import Derived.BigQuiet
set_option linter.unusedVariables false
set_option linter.unusedSimpArgs false
set_option maxRecDepth 20000
namespace Wn
theorem Ss.toL_get : ∀ {f : Ss} {i : Nat} {k : Int} {n v : List UInt8} {a b : Int} {x r : Ss}, f.drop i = .cons k n v a b x r → f.toL[i]? = some ⟨k, n, v, a, b, x⟩
  | .nil, 0, k, n, v, a, b, x, r, h => by simp [Ss.drop] at h
  | .nil, i + 1, k, n, v, a, b, x, r, h => by simp [Ss.drop] at h
  | .cons k' n' v' a' b' x' r', 0, k, n, v, a, b, x, r, h => by rw [Ss.drop_zero] at h; cases h; rfl
  | .cons k' n' v' a' b' x' r', i + 1, k, n, v, a, b, x, r, h => by rw [Ss.drop] at h; simpa [Ss.toL] using Ss.toL_get h
theorem Ss.drop_lt {f : Ss} {i : Nat} {k : Int} {n v : List UInt8} {a b : Int} {x r : Ss} (h : f.drop i = .cons k n v a b x r) : x.size < f.size := by
  induction f generalizing i with
  | nil => cases i <;> simp [Ss.drop] at h
  | cons k' n' v' a' b' x' r' ih1 ih2 =>
    cases i with
    | zero => rw [Ss.drop_zero] at h; cases h; simp only [Ss.size]; omega
    | succ i => rw [Ss.drop] at h; have := ih2 h; simp only [Ss.size]; omega
end Wn
namespace Go.Proofs.Ytbjhiimjillleaa
open Go.RowKit Go.Sort
theorem SsP.at {w : World} {ok : Nat → Prop} {ao : Option Addr} {n cap : Nat} {f : Wn.Ss} (h : SsP w ok (.slice ao n cap) f) {i : Nat} {k : Int} {nm v : List UInt8} {a b : Int} {x r : Wn.Ss} (hd : f.drop i = .cons k nm v a b x r) :
    ∃ g o u, ao = some ⟨g, o, none⟩ ∧ w.cell? ⟨g, o + i * 6, none⟩ = some (.int .i64 k) ∧ w.cell? ⟨g, o + i * 6 + 1, none⟩ = some (.string (Wn.str nm)) ∧ w.cell? ⟨g, o + i * 6 + 2, none⟩ = some (.string (Wn.str v)) ∧ w.cell? ⟨g, o + i * 6 + 3, none⟩ = some (.int .i64 a) ∧ w.cell? ⟨g, o + i * 6 + 4, none⟩ = some (.int .i64 b) ∧ w.cell? ⟨g, o + i * 6 + 5, none⟩ = some u ∧ SsP w ok u x := by
  obtain ⟨g, o, cs, rfl, _, _, hR, hL⟩ := (SsP.k.1 h).at (Wn.Ss.toL_get hd)
  obtain ⟨u, rfl, hu⟩ := hR
  exact ⟨g, o, u, rfl, hL 0 _ rfl, hL 1 _ rfl, hL 2 _ rfl, hL 3 _ rfl, hL 4 _ rfl, hL 5 _ rfl, hu⟩
end Go.Proofs.Ytbjhiimjillleaa
set_option linter.unusedVariables false
set_option linter.unusedSimpArgs false
set_option maxRecDepth 20000
namespace Wn
def tL : List UInt8 := [97, 32, 62, 32, 46, 98, 58, 104, 111, 118, 101, 114, 32, 44, 32, 35, 99, 58, 58, 98, 101, 102, 111, 114, 101]
def tN : List UInt8 := [45, 50, 110, 45, 49, 51]
def tM : List UInt8 := [68, 73, 86, 58, 110, 116, 104, 45, 99, 104, 105, 108, 100, 40, 32, 50, 110, 43, 49, 32, 41, 91, 120, 61, 39, 121, 32, 122, 39, 93, 58, 110, 111, 116, 40, 42, 41, 32, 126, 32, 58, 58, 97, 102, 116, 101, 114]
def tH : List UInt8 := [97, 32, 62]
def tI : List UInt8 := [97, 44, 32]
def tJ : List UInt8 := [97, 32, 98, 42]
def tK : List UInt8 := [97, 58, 110, 111, 116, 40, 58, 110, 111, 116, 40, 98, 41, 41]
def tO : List UInt8 := [97, 58, 58, 98, 101, 102, 111, 114, 101, 32, 98]
def lL : List Cx := [([(0, [sNam 2 [97]]), (2, [sNam 4 [98], sNam 7 [104, 111, 118, 101, 114]])], []), ([(0, [sNam 3 [99]])], [98, 101, 102, 111, 114, 101])]
def lM : List Cx := [([(0, [sNam 2 [100, 105, 118], ⟨8, [], [], 2, 1, .nil⟩, ⟨6, [120], [121, 32, 122], 0, 0, .nil⟩, ⟨11, [], [], 0, 0, (sBare 1).on .nil⟩]), (4, [])], [97, 102, 116, 101, 114])]
set_option maxRecDepth 100000
theorem read_tL : selsRead tL = some lL := by decide +kernel
theorem read_tM : selsRead tM = some lM := by decide +kernel
theorem read_tH : selsRead tH = none := by decide +kernel
theorem read_tI : selsRead tI = none := by decide +kernel
theorem read_tJ : selsRead tJ = none := by decide +kernel
theorem read_tK : selsRead tK = none := by decide +kernel
theorem read_tO : selsRead tO = none := by decide +kernel
theorem may_lL : maySels lL = true := by decide +kernel
theorem may_lM : maySels lM = true := by decide +kernel
theorem may_no : maySels [] = false := by decide +kernel
theorem lL_ne : lL ≠ lM := by decide +kernel
end Wn
set_option linter.unusedVariables false
set_option linter.unusedSimpArgs false
set_option maxRecDepth 20000
namespace Go.Proofs.Ytbjhiimjillleaa
open Go.RowKit Go.Sort
/-- a complex selector of a list -/
theorem cx_at {w : World} {ao : Option Addr} {n cap : Nat} {l : List Wn.Cx} (h : cxK.P w (fun _ => True) (.slice ao n cap) l) {i : Nat} {x : Wn.Cx} (hi : l[i]? = some x) :
    ∃ b o po pc, ao = some ⟨b, o, none⟩ ∧ ptK.P w (fun _ => True) (.slice po x.1.length pc) x.1 ∧ w.cell? ⟨b, o + i * 2, none⟩ = some (.slice po x.1.length pc) ∧ w.cell? ⟨b, o + i * 2 + 1, none⟩ = some (.string (Wn.str x.2)) := by
  obtain ⟨b, o, cs, rfl, _, _, hR, hL⟩ := h.at hi
  obtain ⟨u, rfl, hu⟩ := hR
  obtain ⟨po, pc, rfl, _, _⟩ := hu.form
  exact ⟨b, o, po, pc, rfl, hu, hL 0 _ rfl, hL 1 _ rfl⟩
theorem pt_at {w : World} {ao : Option Addr} {n cap : Nat} {l : List (Int × List Wn.Sm)} (h : ptK.P w (fun _ => True) (.slice ao n cap) l) {i : Nat} {x : Int × List Wn.Sm} (hi : l[i]? = some x) :
    ∃ b o po pc, ao = some ⟨b, o, none⟩ ∧ smK.P w (fun _ => True) (.slice po x.2.length pc) x.2 ∧ w.cell? ⟨b, o + i * 2, none⟩ = some (.int .i64 x.1) ∧ w.cell? ⟨b, o + i * 2 + 1, none⟩ = some (.slice po x.2.length pc) := by
  obtain ⟨b, o, cs, rfl, _, _, hR, hL⟩ := h.at hi
  obtain ⟨u, rfl, hu⟩ := hR
  obtain ⟨po, pc, rfl, _, _⟩ := hu.form
  exact ⟨b, o, po, pc, rfl, hu, hL 0 _ rfl, hL 1 _ rfl⟩
theorem sm_at {w : World} {ao : Option Addr} {n cap : Nat} {l : List Wn.Sm} (h : smK.P w (fun _ => True) (.slice ao n cap) l) {i : Nat} {x : Wn.Sm} (hi : l[i]? = some x) :
    ∃ b o po pc, ao = some ⟨b, o, none⟩ ∧ smK.P w (fun _ => True) (.slice po x.l.len pc) x.l.toL ∧ w.cell? ⟨b, o + i * 6, none⟩ = some (.int .i64 x.k) ∧ w.cell? ⟨b, o + i * 6 + 1, none⟩ = some (.string (Wn.str x.n)) ∧ w.cell? ⟨b, o + i * 6 + 2, none⟩ = some (.string (Wn.str x.v)) ∧ w.cell? ⟨b, o + i * 6 + 3, none⟩ = some (.int .i64 x.a) ∧ w.cell? ⟨b, o + i * 6 + 5, none⟩ = some (.slice po x.l.len pc) := by
  obtain ⟨b, o, cs, rfl, _, _, hR, hL⟩ := h.at hi
  obtain ⟨u, rfl, hu⟩ := hR
  obtain ⟨po, pc, rfl, _, _⟩ := hu.form
  exact ⟨b, o, po, pc, rfl, SsP.k.1 hu, hL 0 _ rfl, hL 1 _ rfl, hL 2 _ rfl, hL 3 _ rfl, hL 5 _ rfl⟩
end Go.Proofs.Ytbjhiimjillleaa
set_option linter.unusedVariables false
set_option linter.unusedSimpArgs false
set_option maxRecDepth 20000
namespace Wn
theorem drop_at {α : Type} {l : List α} {i : Nat} {x : α} (h : l[i]? = some x) : l.drop i = x :: l.drop (i + 1) := by
  obtain ⟨h1, rfl⟩ := List.getElem?_eq_some_iff.1 h
  exact List.drop_eq_getElem_cons h1
theorem get_lt {α : Type} {l : List α} {i : Nat} (h : i < l.length) : ∃ x, l[i]? = some x := ⟨_, List.getElem?_eq_getElem h⟩
end Wn
namespace Go.Proofs.Ytbjhiimjillleaa
open Go.RowKit Go.Sort
end Go.Proofs.Ytbjhiimjillleaa
