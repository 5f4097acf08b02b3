/- The second reader's simple selectors, and an nth of three values, step by step. Plain mathematics. The verifier's colon. -/
import Derived.Test.YtbjhiimjillleaaJC
import Derived.Test.YtbjhiimjillleaaHN
import Derived.Test.YtbjhiimjillleaaHA
import Derived.BigRegion
set_option linter.unusedVariables false
set_option linter.unusedSimpArgs false
set_option maxRecDepth 20000
namespace Wn
theorem sign_tok {s : List UInt8} {f r : Fs} {kind : Int} (h : signF s f = some r) (hk : kind ≠ 7) : tokF kind f = none := by
  obtain ⟨x, rfl⟩ := sign_some h
  rw [tokF, if_neg]
  rintro ⟨_, h⟩; exact hk h.symm
theorem sign_valF {s : List UInt8} {f r : Fs} {kind : Int} (h : signF s f = some r) (hk : kind ≠ 1) : valF kind f = none := by
  obtain ⟨x, rfl⟩ := sign_some h
  rw [valF, if_neg (by omega)]
theorem tok_sign {s : List UInt8} {f : Fs} {kind : Int} {p : Tok × Fs} (h : tokF kind f = some p) (hk : kind ≠ 7) : signF s f = none := by
  cases hs : signF s f with
  | none => rfl
  | some r => rw [sign_tok hs hk] at h; cases h
theorem rs_tag {f : Fs} {p : Tok × Fs} (h : tokF 1 f = some p) : simpS true f = some (sNam 2 (low p.1.2.1), p.2) := by
  unfold simpS simpG elemF; rw [tok_sign h (by decide), h]; rfl
theorem rs_any {f r : Fs} (h : signF [42] f = some r) : simpS true f = some (sBare 1, r) := by
  unfold simpS simpG elemF; rw [h]; rfl
theorem rs_first {f : Fs} (h1 : tokF 1 f = none) (h2 : signF [42] f = none) : simpS true f = simpS false f := by
  unfold simpS simpG elemF; rw [h1, h2]; rfl
theorem rs_later (f : Fs) : simpS false f = match laterG inNot f with
    | some (some p) => some p
    | _ => none := by
  unfold simpS simpG; rw [if_neg (by decide)]; rfl
theorem rs_id {f : Fs} {p : Tok × Fs} (h : tokF 4 f = some p) : simpS false f = some (sNam 3 p.1.2.1, p.2) := by
  rw [rs_later]; unfold laterG; rw [h]
theorem rs_class {f r : Fs} (h4 : tokF 4 f = none) (h : signF [46] f = some r) : simpS false f = (tokF 1 r).map fun p => (sNam 4 p.1.2.1, p.2) := by
  rw [rs_later]; unfold laterG; rw [h4, h]; dsimp only; cases tokF 1 r <;> rfl
theorem rs_colon {f r : Fs} (h4 : tokF 4 f = none) (h46 : signF [46] f = none) (h : signF [58] f = some r) : simpS false f = colonG inNot r := by
  rw [rs_later]; unfold laterG; rw [h4, h46, sign_valF h (by decide), h]
  dsimp only
  cases h2 : signF [58] r with
  | none => dsimp only; cases colonG inNot r <;> rfl
  | some r' => unfold colonG; rw [sign_valF h2 (by decide), sign_tok h2 (by decide)]
theorem rs_attr {f : Fs} (h4 : tokF 4 f = none) (h46 : signF [46] f = none) (h58 : signF [58] f = none) : simpS false f = match valF 3 f with
    | some p => (attrF p.1.2).map fun x => (x, p.2)
    | none => none := by
  rw [rs_later]; unfold laterG; rw [h4, h46]
  dsimp only
  cases valF 3 f with
  | some p => dsimp only; cases attrF p.1.2 <;> rfl
  | none => dsimp only; rw [h58]
end Wn
set_option linter.unusedVariables false
set_option linter.unusedSimpArgs false
set_option maxRecDepth 20000
namespace Wn
theorem valF_next {kind : Int} {f r : Fs} {i : Nat} {p : Tok × Fs} (h : valF kind (f.drop i) = some (p, r)) : r = f.drop (i + 1) ∧ i < f.len := by
  cases hd : f.drop i with
  | nil => rw [hd] at h; cases h
  | cons k t x r' =>
    rw [hd, valF] at h
    split at h
    · cases h; exact drop_next hd
    · cases h
theorem size_drop : ∀ (f : Fs) (i : Nat), (f.drop i).size ≤ f.size
  | f, 0 => by rw [Fs.drop_zero]; exact Nat.le_refl _
  | .nil, i + 1 => Nat.le_refl _
  | .cons k t x r, i + 1 => by have := size_drop r i; simp only [Fs.drop, Fs.size]; omega
theorem valF_size {kind : Int} {f r : Fs} {i : Nat} {t : Tok} {x : Fs} (h : valF kind (f.drop i) = some ((t, x), r)) : x.size < f.size := by
  have hs := size_drop f i
  generalize f.drop i = g at *
  cases g with
  | nil => cases h
  | cons k t' x' r' =>
    rw [valF] at h
    split at h
    · cases h; simp only [Fs.size] at hs; omega
    · cases h
theorem cl_func {nt : Fs → Option Sm} {f r : Fs} {p : Tok × Fs} (h : valF 5 f = some (p, r)) : colonG nt f = (funcG nt p.1.2.1 p.2).map fun x => (x, r) := by
  unfold colonG; rw [h]
theorem cl_name {nt : Fs → Option Sm} {f r : Fs} {n : Tok} (h : valF 5 f = none) (h1 : tokF 1 f = some (n, r)) : colonG nt f = (stateW n.2.1).map fun x => (x, r) := by
  unfold colonG; rw [h, h1]
theorem cl_none {nt : Fs → Option Sm} {f : Fs} (h : valF 5 f = none) (h1 : tokF 1 f = none) : colonG nt f = none := by
  unfold colonG; rw [h, h1]
end Wn
namespace Go.Proofs.Ytbjhiimjillleaa
open Go.RowKit Go.Sort
/-- what is known of a reader since the world w: nothing else that there was has changed -/
structure CS (w W : World) (g : Nat) (rv : Value) (f : Wn.Fs) (j : Nat) (b : Bool) : Prop where
  old : ∃ i0 b0, R4 w g rv f i0 b0
  r : R4 W g rv f j b
  k : Kp (fun b => b = g) w W
section
variable {w W W' : World} {g : Nat} {rv : Value} {f : Wn.Fs} {j : Nat} {b : Bool}
theorem CS.start (h : R4 w g rv f j b) : CS w w g rv f j b := ⟨⟨j, b, h⟩, h, Kp.refl _ _⟩
theorem CS.go (h : CS w W g rv f j b) {j' : Nat} {b' : Bool} (hr : R4 W' g rv f j' b') (ho : Only g W W') : CS w W' g rv f j' b' := ⟨h.old, hr, h.k.trans (Only.kp ho)⟩
theorem CS.below (h : CS w W g rv f j b) (hb : Below W.heap.size W W') : CS w W' g rv f j b := ⟨h.old, h.r.below hb, h.k.trans (Below.kp hb)⟩
theorem CS.alloc (h : CS w W g rv f j b) (o : Obj) : CS w (W.alloc o) g rv f j b := h.below ((Below.refl _ _).alloc (Nat.le_refl _) _)
theorem CS.drew (h : CS w W g rv f j b) : CS w W.drew g rv f j b := h.below (Below.refl _ _).drew
theorem CS.new (h : CS w W g rv f j b) {B o : Nat} (hB : w.heap.size ≤ B) (u : Value) : CS w (W.setCell ⟨B, o, none⟩ u) g rv f j b := by
  obtain ⟨i0, b0, h0⟩ := h.old
  have hk := h.k.setCell (p := ⟨B, o, none⟩) (.inr hB) u
  have hlt := h0.lt
  exact ⟨h.old, R4.only h0 h.r (Kp.only hk) (Below.heap_setCell _ _ _ _ (by show g ≠ B; omega)), hk⟩
theorem CS.spoil (h : CS w W g rv f j b) (z : Bool) : CS w (W.setCell ⟨g, 2, none⟩ (.bool z)) g rv f j z := ⟨h.old, h.r.spoil z, h.k.setCell (.inl rfl) _⟩
theorem CS.spoilF (h : CS w W g rv f j false) (z : Bool) : CS w (W.setCell ⟨g, 2, none⟩ (.bool z)) g rv f j z := h.spoil z
theorem CS.spoilT (h : CS w W g rv f j true) (z : Bool) : CS w (W.setCell ⟨g, 2, none⟩ (.bool z)) g rv f j z := h.spoil z
theorem CS.move (h : CS w W g rv f j b) {j' : Nat} (hj : j' ≤ f.len) {z : Int} (hz : z = (j' : Int)) : CS w (W.setCell ⟨g, 1, none⟩ (.int .i64 z)) g rv f j' b := ⟨h.old, h.r.move hj hz, h.k.setCell (.inl rfl) _⟩
theorem CS.only (h : CS w W g rv f j b) : Only g w W := Kp.only h.k
end
/-- what a not answers -/
def Not4 (f : Wn.Fs) (w : World) (e : Ending) (w' : World) : Prop :=
  ∃ (y : Wn.Sm) (u : Value) (ok : Bool), e = .returned (.tuple #[.agg #[.int .i64 11, .string ⟨#[]⟩, .string ⟨#[]⟩, .int .i64 0, .int .i64 0, u], .bool ok]) ∧ SsP w' (fun b => w.heap.size ≤ b) u (y.on .nil) ∧ (if ok = true then Wn.inNot f = some y else Wn.inNot f = none) ∧ Below w.heap.size w w'
def Not4Said (n : Nat) : Prop := ∀ (v : Value) (f : Wn.Fs) (w : World), f.size < n → f.size ≤ 100000 → Vals w v f → Tl f → Calls Try.prog 60 #[v] w (Not4 f w)
/-- a simple selector was taken, or what comes is wrong -/
def Sim4 (rv : Value) (res : Option (Wn.Sm × Wn.Fs)) (g i : Nat) (f : Wn.Fs) (w : World) (e : Ending) (w' : World) : Prop :=
  ∃ (x : Wn.Sm) (u : Value), e = .returned (smV x u) ∧ SsP w' (fun b => w.heap.size ≤ b) u x.l ∧ Only g w w' ∧ ((∃ j, i ≤ j ∧ res = some (x, f.drop j) ∧ R4 w' g rv f j false) ∨ (res = none ∧ ∃ j, R4 w' g rv f j true))
theorem Sim4.bad {rv : Value} {res : Option (Wn.Sm × Wn.Fs)} {g i j : Nat} {f : Wn.Fs} {w w' : World} {e : Ending} {x : Wn.Sm} {u : Value} (h : CS w w' g rv f j true) (he : e = .returned (smV x u)) (hu : SsP w' (fun b => w.heap.size ≤ b) u x.l) (hr : res = none) : Sim4 rv res g i f w e w' := ⟨x, u, he, hu, h.only, .inr ⟨hr, j, h.r⟩⟩
theorem Sim4.good {rv : Value} {res : Option (Wn.Sm × Wn.Fs)} {g i j : Nat} {f : Wn.Fs} {w w' : World} {e : Ending} {x : Wn.Sm} {u : Value} (h : CS w w' g rv f j false) (hij : i ≤ j) (he : e = .returned (smV x u)) (hu : SsP w' (fun b => w.heap.size ≤ b) u x.l) (hr : res = some (x, f.drop j)) : Sim4 rv res g i f w e w' := ⟨x, u, he, hu, h.only, .inl ⟨j, hij, hr, h.r⟩⟩
theorem SsP.set {W : World} {N B o : Nat} {u : Value} {f : Wn.Ss} (h : SsP W (fun b => N ≤ b) u f) (hB : B < N) (z : Value) : SsP (W.setCell ⟨B, o, none⟩ z) (fun b => N ≤ b) u f := h.same (fun b hb _ => Below.heap_setCell _ _ _ _ (by have : N ≤ b := hb; show b ≠ B; omega)) (fun _ h _ => h)
theorem SsP.nil' {w : World} {ok : Nat → Prop} {n v : List UInt8} {k a b : Int} : SsP w ok (.slice none 0 0) (Wn.Sm.l ⟨k, n, v, a, b, .nil⟩) := SsP.nil w ok
end Go.Proofs.Ytbjhiimjillleaa
