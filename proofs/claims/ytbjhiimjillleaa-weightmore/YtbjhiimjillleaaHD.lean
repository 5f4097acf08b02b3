/- What the reader's nth answers, and sels.nth. What sels.nth answers; lower. Rows of bytes; what lower answers, and the verifier's Low. -/
import Derived.Test.YtbjhiimjillleaaHC
import Derived.Deep.RegionWith
import Derived.BigQuiet
import Derived.IntWalk
import Derived.Test.YtbjhiimjillleaaHA
import Derived.Test.YtbjhiimjillleaaGP
import Derived.Test.YtbjhiimjillleaaGL
import Derived.Lib.ConvBytes
set_option linter.unusedVariables false
set_option linter.unusedSimpArgs false
set_option maxRecDepth 20000
namespace Go.Proofs.Ytbjhiimjillleaa
open Go.RowKit Go.Sort
theorem tokF_tl {f : Wn.Fs} {kind : Int} {t : Wn.Tok} {r : Wn.Fs} (h : Wn.tokF kind f = some (t, r)) (ht : Tl f) : t.2.1.length ≤ 1048576 ∧ Tl r := by
  cases f with
  | nil => cases h
  | cons k t' x r' =>
    simp only [Wn.tokF] at h
    split at h
    · simp only [Option.some.injEq, Prod.mk.injEq] at h; obtain ⟨rfl, rfl⟩ := h; exact ⟨ht.cons.1, ht.cons.2.2⟩
    · cases h
end Go.Proofs.Ytbjhiimjillleaa
set_option linter.unusedVariables false
set_option linter.unusedSimpArgs false
set_option maxRecDepth 20000
namespace Go.Proofs.Ytbjhiimjillleaa
open Go.RowKit Go.Sort
/-- block b is one number -/
def NumAt (w : World) (b : Nat) (x : Int) : Prop := w.heap[b]? = some (.cells #[.int .i64 x] 3)
theorem NumAt.cell {w : World} {b : Nat} {x : Int} (h : NumAt w b x) : w.cell? ⟨b, 0, none⟩ = some (.int .i64 x) := cell_of_block (o := 0) h
theorem NumAt.set {w : World} {b : Nat} {x y : Int} (h : NumAt w b x) : NumAt (w.setCell ⟨b, 0, none⟩ (.int .i64 y)) b y := by unfold NumAt at *; simp [World.setCell, Array.getElem?_modify, h]
theorem NumAt.other {w : World} {b : Nat} {x : Int} {a : Addr} (h : NumAt w b x) (ha : b ≠ a.block) (v : Value) : NumAt (w.setCell a v) b x := by unfold NumAt at *; rw [Below.heap_setCell _ _ _ _ ha]; exact h
def Two (A B : Nat) (p : Int × Int) (w : World) : Prop := NumAt w A p.1 ∧ NumAt w B p.2
end Go.Proofs.Ytbjhiimjillleaa
set_option linter.unusedVariables false
set_option linter.unusedSimpArgs false
set_option maxRecDepth 20000
namespace Wn
theorem lowB_yes {c : UInt8} (h1 : 65 ≤ c.toNat) (h2 : c.toNat ≤ 90) : (lowB c).toNat = c.toNat + 32 := by
  unfold lowB; rw [if_pos ⟨h1, h2⟩, UInt8.toNat_add]; simp; omega
theorem lowB_no {c : UInt8} (h : ¬ (65 ≤ c.toNat ∧ c.toNat ≤ 90)) : lowB c = c := by unfold lowB; rw [if_neg h]
/-- the first i in small letters -/
def lowTo (i : Nat) (l : List UInt8) : List UInt8 := low (l.take i) ++ l.drop i
theorem lowTo_zero (l : List UInt8) : lowTo 0 l = l := by simp [lowTo, low]
theorem lowTo_all {i : Nat} {l : List UInt8} (h : l.length ≤ i) : lowTo i l = low l := by unfold lowTo; rw [List.take_of_length_le h, List.drop_of_length_le h, List.append_nil]
theorem lowTo_length (i : Nat) (l : List UInt8) : (lowTo i l).length = l.length := by simp [lowTo, low]; omega
theorem lowTo_at {i : Nat} {l : List UInt8} (h : i < l.length) : (lowTo i l)[i]'(by rw [lowTo_length]; exact h) = l[i] := by
  unfold lowTo; rw [List.getElem_append_right (by simp [low]; omega)]; simp [low]; congr 1; omega
theorem lowTo_succ {i : Nat} {l : List UInt8} (h : i < l.length) : lowTo (i + 1) l = (lowTo i l).set i (lowB l[i]) := by
  unfold lowTo low
  rw [List.take_succ_eq_append_getElem h, List.map_append, List.drop_eq_getElem_cons h, List.set_append_right _ _ (by simp; omega)]
  simp
  rw [show i - min i l.length = 0 by omega, List.drop_eq_getElem_cons h]; rfl
theorem lowTo_same {i : Nat} {l : List UInt8} (h : i < l.length) (hc : lowB l[i] = l[i]) : lowTo (i + 1) l = lowTo i l := by
  rw [lowTo_succ h, hc]
  apply List.ext_getElem (by simp)
  intro j h1 h2
  rw [List.getElem_set]
  split
  · rename_i e; subst e; exact (lowTo_at h).symm
  · rfl
end Wn
namespace Go.Proofs.Ytbjhiimjillleaa
open Go.RowKit Go.Sort
/-- block n is a row of bytes, of which the first are l -/
def BAt (w : World) (n : Nat) (l : List UInt8) : Prop := ∃ cs : Array Value, w.heap[n]? = some (.cells cs 5 (cs.size, cs.size + 1)) ∧ l.length ≤ cs.size ∧ ∀ j (h : j < l.length), cs[j]? = some (.int .u8 (l[j].toNat : Int))
section
variable {w w' : World} {n : Nat} {l : List UInt8}
theorem BAt.lt (h : BAt w n l) : n < w.heap.size := by obtain ⟨cs, hb, _⟩ := h; exact lt_of_block hb
theorem BAt.cell (h : BAt w n l) {j : Nat} (hj : j < l.length) : w.cell? ⟨n, j, none⟩ = some (.int .u8 (l[j].toNat : Int)) := by
  obtain ⟨cs, hb, _, hc⟩ := h; rw [cell_of_block hb]; exact hc j hj
theorem BAt.frozen (h : BAt w n l) {j : Nat} (hj : j < l.length) : w.frozen? ⟨n, j, none⟩ = false := by
  obtain ⟨cs, hb, hl, _⟩ := h
  simp [World.frozen?, hb]; omega
theorem BAt.set (h : BAt w n l) {j : Nat} (c : UInt8) {x : Int} (hx : x = (c.toNat : Int)) : BAt (w.setCell ⟨n, j, none⟩ (.int .u8 x)) n (l.set j c) := by
  obtain ⟨cs, hb, hl, hc⟩ := h
  refine ⟨cs.setIfInBounds j (.int .u8 x), by simp [World.setCell, Array.getElem?_modify, hb], by simpa using hl, fun i hi => ?_⟩
  rw [List.length_set] at hi
  rw [Array.getElem?_setIfInBounds, List.getElem_set]
  by_cases e : j = i
  · subst e; simp [hx]; omega
  · rw [if_neg e, if_neg e]; exact hc i hi
theorem BAt.below (h : BAt w n l) (hb : Below w.heap.size w w') : BAt w' n l := by obtain ⟨cs, h1, h2⟩ := h; exact ⟨cs, block_lat hb h1, h2⟩
theorem BAt.back (h : BAt w n l) (cap N : Nat) (hN : N = l.length) : (convert 100 9 (.slice (some ⟨n, 0, none⟩) N cap)).run Try.prog w = .ok (.string (Wn.str l)) w := by
  subst hN
  exact run_convert_bytes_back (P := Try.prog) _ 100 9 5 ⟨n, 0, none⟩ cap l Try.underlying100 Try.underlying5 Try.underlying9 (fun j hj => by rw [addr_add, Nat.zero_add]; exact h.cell hj)
end
/-- a string's bytes in a row of their own -/
theorem bytes_of (s : List UInt8) (w : World) : ∃ C W, (convert 9 100 (.string (Wn.str s))).run Try.prog w = .ok (.slice (some ⟨w.heap.size, 0, none⟩) s.length C) W ∧ BAt W w.heap.size s ∧ Below w.heap.size w W ∧ s.length ≤ C := by
  refine ⟨_, _, (by rw [Lib.run_convert_string_bytes (P := Try.prog) w 9 100 5 (Wn.str s) Try.underlying9 Try.underlying100 Try.underlying5, Wn.str_size]), ?_, ?_, ?_⟩
  · refine ⟨_, Lib.bytesWorld_at_new w _ _, ?_, fun j hj => ?_⟩
    · unfold Lib.bytesCells; simp [Wn.str]
    · unfold Lib.bytesCells
      rw [Array.getElem?_append_left (by simpa [Wn.str] using hj)]
      simp [Wn.str, hj]
  · refine ⟨?_, ?_, ?_, ?_, fun k hk => Lib.bytesWorld_at_old w _ _ k hk⟩
    · simp [Lib.bytesWorld, World.freeze]; rfl
    · simp [Lib.bytesWorld, World.freeze]
    · simp [Lib.bytesWorld, World.freeze]; rfl
    · rw [Lib.bytesWorld_size]; omega
  · have := grownCap_ge w (Wn.str s).size 0 5; rw [Wn.str_size] at this; simpa [Wn.str_size] using this
end Go.Proofs.Ytbjhiimjillleaa
