/- The reader of selectors in memory; what its small methods answer. What the reader's blanks, value, token, name answer. What the reader's token, value, name answer. What the reader's value and name answer. -/
import Derived.Test.YtbjhiimjillleaaHA
import Derived.Test.YtbjhiimjillleaaGW
import Derived.Test.YtbjhiimjillleaaGX
set_option linter.unusedVariables false
set_option linter.unusedSimpArgs false
set_option maxRecDepth 20000
namespace Go.Proofs.Ytbjhiimjillleaa
open Go.RowKit Go.Sort
/-- no text is too long -/
def Tl (f : Wn.Fs) : Prop := f.all fun t => t.2.1.length ≤ 1048576
theorem Tl.cons {k : Int} {t : Wn.Tok} {x r : Wn.Fs} (h : Tl (.cons k t x r)) : t.2.1.length ≤ 1048576 ∧ Tl x ∧ Tl r := h
theorem Tl.drop : ∀ {f : Wn.Fs} (i : Nat), Tl f → Tl (f.drop i)
  | f, 0, h => by rw [Wn.Fs.drop_zero]; exact h
  | .nil, i + 1, h => trivial
  | .cons k t x r, i + 1, h => by rw [Wn.Fs.drop]; exact Tl.drop i h.cons.2.2
theorem Tl.dropB : ∀ {f : Wn.Fs}, Tl f → Tl (Wn.dropB f)
  | .nil, h => trivial
  | .cons k t x r, h => by rw [Wn.dropB]; split; exact Tl.dropB h.cons.2.2; exact h
section
variable {w w' : World} {g n : Nat} {pl : Bool} {f : Wn.Fs}
end
def endB : Wn.Fs → Bool
  | .nil => true
  | .cons _ _ _ _ => false
def seesB (kind : Int) : Wn.Fs → Bool
  | .nil => false
  | .cons k _ _ _ => decide (k = kind)
end Go.Proofs.Ytbjhiimjillleaa
set_option linter.unusedVariables false
set_option linter.unusedSimpArgs false
set_option maxRecDepth 20000
namespace Go.Proofs.Ytbjhiimjillleaa
open Go.RowKit Go.Sort
def rdLen (g : Nat) (w : World) : Nat := match w.cell? ⟨g, 0, none⟩ with | some (.slice _ n _) => n | _ => 0
end Go.Proofs.Ytbjhiimjillleaa
set_option linter.unusedVariables false
set_option linter.unusedSimpArgs false
set_option maxRecDepth 20000
namespace Go.Proofs.Ytbjhiimjillleaa
open Go.RowKit Go.Sort
theorem Only.ends {w W W' : World} {g : Nat} (h : Only g w W) (hk : Kp (fun b => w.heap.size ≤ b) W W') : Only g w W' :=
  ⟨hk.os.trans h.os, hk.tape.trans h.tape, hk.output.trans h.output, Nat.le_trans h.size hk.size, fun k hl hne => (hk.block k (Nat.lt_of_lt_of_le hl h.size) (by show ¬ _ ≤ _; omega)).trans (h.block k hl hne)⟩
end Go.Proofs.Ytbjhiimjillleaa
set_option linter.unusedVariables false
set_option linter.unusedSimpArgs false
set_option maxRecDepth 20000
namespace Go.Proofs.Ytbjhiimjillleaa
open Go.RowKit Go.Sort
end Go.Proofs.Ytbjhiimjillleaa
