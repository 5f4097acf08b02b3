/- What the reader's seesDelims and delims answer. What whole answers, whatever it is handed to read with. What the small functions on names and numbers answer. What number, plus and the reader's nth answer. -/
import Derived.Test.YtbjhiimjillleaaHB
import Derived.Test.YtbjhiimjillleaaGU
set_option linter.unusedVariables false
set_option linter.unusedSimpArgs false
set_option maxRecDepth 20000
namespace Wn
/-- do these delimiters come? -/
def seesD : List (List UInt8) → Fs → Bool
  | [], _ => true
  | _ :: _, .nil => false
  | s :: ds, .cons k t _ r => signV s k t && seesD ds r
theorem seesD_short : ∀ {ds : List (List UInt8)} {f : Fs}, f.len < ds.length → seesD ds f = false
  | [], _, h => by simp at h
  | _ :: _, .nil, _ => rfl
  | s :: ds, .cons k t x r, h => by rw [seesD, seesD_short (by simpa [Fs.len] using h), Bool.and_false]
theorem seesD_drop : ∀ {ds : List (List UInt8)} {f : Fs} {i : Nat} {s : List UInt8} {k : Int} {t : Tok} {x r : Fs}, ds[i]? = some s → f.drop i = .cons k t x r → seesD (ds.drop i) (f.drop i) = (signV s k t && seesD (ds.drop (i + 1)) (f.drop (i + 1))) := by
  intro ds f i s k t x r hs hf
  have hd : ds.drop i = s :: ds.drop (i + 1) := by
    obtain ⟨hl, rfl⟩ := List.getElem?_eq_some_iff.1 hs
    exact List.drop_eq_getElem_cons hl
  have hr : f.drop (i + 1) = r := by
    have := Fs.drop_drop f i 1
    rw [hf] at this
    rw [← this, Fs.drop, Fs.drop_zero]
  rw [hd, hf, seesD, hr]
theorem seesD_one (s : List UInt8) (f : Fs) : signF s f = if seesD [s] f then some (f.drop 1) else none := by
  cases f with
  | nil => rfl
  | cons k t x r => simp only [signF, seesD, Bool.and_true, Fs.drop, Fs.drop_zero]
theorem seesD_two (s u : List UInt8) (f : Fs) : ((signF s f).bind fun r => signF u r) = if seesD [s, u] f then some (f.drop 2) else none := by
  cases f with
  | nil => rfl
  | cons k t x r =>
    have e1 : signF s (.cons k t x r) = if signV s k t then some r else none := rfl
    have e2 : seesD [s, u] (.cons k t x r) = (signV s k t && seesD [u] r) := rfl
    rw [e1, e2, Fs.drop]
    by_cases h : signV s k t = true
    · rw [if_pos h, h, Option.bind_some, Bool.true_and, seesD_one]
    · have h' : signV s k t = false := by simpa using h
      rw [if_neg h, h']; rfl
end Wn
namespace Go.Proofs.Ytbjhiimjillleaa
open Go.RowKit Go.Sort
theorem cells2 (w : World) (s u : List UInt8) : ∀ i x, [s, u][i]? = some x → (w.alloc (.cells #[.string (Wn.str s), .string (Wn.str u)] 9)).cell? ⟨w.heap.size, i, none⟩ = some (.string (Wn.str x)) := by
  intro i x hi
  rw [cell_of_block (heap_alloc_new w _)]
  match i, hi with
  | 0, hi => simp at hi; subst hi; rfl
  | 1, hi => simp at hi; subst hi; rfl
  | i + 2, hi => simp at hi
end Go.Proofs.Ytbjhiimjillleaa
set_option linter.unusedVariables false
set_option linter.unusedSimpArgs false
set_option maxRecDepth 20000
namespace Go.Proofs.Ytbjhiimjillleaa
open Go.RowKit Go.Sort
/-- a function with a body is entered where it is called by its value -/
def Enters (K : Nat) : Prop := ∀ (args : Array Value) (w : World), (callFunc K args).run Try.prog w = .ok (.enter K args) w
theorem enters_of {K : Nat} {fn : Func} {c : Code} (hf : Try.prog.funcs[K]? = some fn) (hname : (fn.name == "runtime.NumGoroutine") = false) (hb : fn.body = some c) : Enters K := by
  intro args w
  have h1 : ¬ fn.name = "runtime.NumGoroutine" := by simpa using hname
  simp [callFunc, hf, h1, hb]
end Go.Proofs.Ytbjhiimjillleaa
set_option linter.unusedVariables false
set_option linter.unusedSimpArgs false
set_option maxRecDepth 20000
namespace Go.Proofs.Ytbjhiimjillleaa
open Go.RowKit Go.Sort
theorem str_extract (s : List UInt8) (p q : Nat) : (Wn.str s).extract p q = Wn.str ((s.drop p).take (q - p)) := by
  rw [Wn.extract_sfx]; unfold Wn.sfx Wn.str; simp
theorem cutN_take (s : List UInt8) : (s.take 2 == [110, 45]) = (Wn.cutN s).isSome := by
  match s with
  | [] => rfl
  | [a] => simp [Wn.cutN]
  | a :: b :: l => rw [Wn.cutN]; split <;> simp_all
theorem cutN_drop {s l : List UInt8} (h : Wn.cutN s = some l) : s.drop 2 = l ∧ 2 ≤ s.length := by
  match s with
  | [] => cases h
  | [a] => cases h
  | a :: b :: l' => rw [Wn.cutN] at h; split at h <;> simp_all
def CutPost (s : List UInt8) (w : World) (e : Ending) (w' : World) : Prop :=
  (∃ l, Wn.cutN s = some l ∧ e = .returned (.tuple #[.string (Wn.str l), .bool true]) ∧ w = w') ∨ (Wn.cutN s = none ∧ e = .returned (.tuple #[.string (Wn.str s), .bool false]) ∧ w = w')
end Go.Proofs.Ytbjhiimjillleaa
set_option linter.unusedVariables false
set_option linter.unusedSimpArgs false
set_option maxRecDepth 20000
namespace Wn
theorem decN_snoc (l : List UInt8) (c : UInt8) : decN (l ++ [c]) = decN l * 10 + ((c.toNat : Int) - 48) := by unfold decN; rw [List.foldl_append]; rfl
def bnd (i : Nat) : Int := if i = 0 then 0 else if i = 1 then 9 else if i = 2 then 99 else if i = 3 then 999 else 9999
theorem bnd_le (i : Nat) : bnd i ≤ 9999 := by unfold bnd; (repeat' split) <;> omega
theorem bnd_step {i : Nat} {N d : Int} (h : N ≤ bnd i) (hi : i < 4) (hd : d ≤ 9) : N * 10 + d ≤ bnd (i + 1) := by
  have : i = 0 ∨ i = 1 ∨ i = 2 ∨ i = 3 := by omega
  rcases this with rfl | rfl | rfl | rfl <;> (simp [bnd] at h ⊢; omega)
theorem take_snocB (s : ByteArray) (k : Nat) (h : k < s.size) : s.data.toList.take (k + 1) = s.data.toList.take k ++ [s[k]] := by
  rw [List.take_succ_eq_append_getElem (by simpa using h)]; rfl
end Wn
namespace Go.Proofs.Ytbjhiimjillleaa
open Go.RowKit Go.Sort
theorem num4_len {s : ByteArray} (h : ¬ (1 ≤ s.size ∧ s.size ≤ 4)) : Wn.num4 s.data.toList = none := by
  unfold Wn.num4; rw [if_neg]; intro h'; apply h; simp at h'; exact ⟨h'.1, h'.2.1⟩
end Go.Proofs.Ytbjhiimjillleaa
