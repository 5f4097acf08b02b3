/- Two chains of two operations each in one region that draws its order; and two single ones. -/
import Derived.Test.YtjlejiphpbaonaaGreatDoorLB
import Derived.Test.YtjlejiphpbaonaaGreatDoorGN
set_option maxRecDepth 20000
namespace Go.Proofs.YtjlejiphpbaonaaGreatDoor
open Go.RowKit Go.Sort
section
variable {P : Program} {ops : Array Oper} {Q : Exit → Act → World → Prop} {n0 : Nat}
def P2R (W0 : World) (d1 d2 e1 e2 : Nat) (X1 X2 Y1 Y2 : Value → World → Prop) (a0 : Act) (p q : Nat) (f : Act) (w : World) : Prop :=
  ∃ v1 v2 u1 u2 : Value, f = pIf (decide (1 < q)) e2 u2 (pIf (decide (0 < q)) e1 u1 (pIf (decide (1 < p)) d2 v2 (pIf (decide (0 < p)) d1 v1 a0))) ∧ Below W0.heap.size W0 w ∧ (0 < p → X1 v1 w) ∧ (1 < p → X2 v2 w) ∧ (0 < q → Y1 u1 w) ∧ (1 < q → Y2 u2 w)
theorem pIf_at {b : Bool} {d : Nat} {v : Value} {a : Act} (h : d < a.tmps.size) (hb : b = true) : (pIf b d v a).eval (.tmp d) = v := by
  subst hb
  unfold pIf
  simp only [if_true]
  simp [Act.eval, Act.put, h]
theorem pIf_size {b : Bool} {d : Nat} {v : Value} {a : Act} : (pIf b d v a).tmps.size = a.tmps.size := by
  cases b
  · rfl
  · simp [pIf, Act.put]
def Mono (X : Value → World → Prop) : Prop := ∀ v W W', X v W → Below W.heap.size W W' → X v W'
theorem pairs2 (W0 : World) (i1 i2 j1 j2 d1 d2 e1 e2 : Nat) (X1 X2 Y1 Y2 : Value → World → Prop) (a0 : Act) (li : Nat → Nat → Array Bool)
    (hd : d1 ≠ d2 ∧ d1 ≠ e1 ∧ d1 ≠ e2 ∧ d2 ≠ e1 ∧ d2 ≠ e2 ∧ e1 ≠ e2) (hz : d1 < a0.tmps.size ∧ e1 < a0.tmps.size)
    (hX : Mono X1 ∧ Mono X2 ∧ Mono Y1 ∧ Mono Y2)
    (hf : ∀ p q, p < 2 → q ≤ 2 → (li p q).setIfInBounds (if p = 0 then i1 else i2) true = li (p + 1) q) (hg : ∀ p q, p ≤ 2 → q < 2 → (li p q).setIfInBounds (if q = 0 then j1 else j2) true = li p (q + 1))
    (hR : ∀ p q, p ≤ 2 → q ≤ 2 → p < 2 ∨ q < 2 → Region.ready .any ops (li p q) ≠ [] ∧ ∀ i ∈ Region.ready .any ops (li p q), (p < 2 ∧ i = if p = 0 then i1 else i2) ∨ (q < 2 ∧ i = if q = 0 then j1 else j2))
    (s1 : ∀ f w K, (∀ t, t ≠ d1 → t ≠ d2 → t ≠ e1 → t ≠ e2 → f.eval (.tmp t) = a0.eval (.tmp t)) → Below W0.heap.size W0 w → (∀ v w', Below w.heap.size w w' → X1 v w' → K (f.put (some d1) v) w') → StepW P ops Q i1 f w K)
    (s2 : ∀ f w K v1, f.eval (.tmp d1) = v1 → X1 v1 w → Below W0.heap.size W0 w → (∀ v w', Below w.heap.size w w' → X2 v w' → K (f.put (some d2) v) w') → StepW P ops Q i2 f w K)
    (t1 : ∀ f w K, (∀ t, t ≠ d1 → t ≠ d2 → t ≠ e1 → t ≠ e2 → f.eval (.tmp t) = a0.eval (.tmp t)) → Below W0.heap.size W0 w → (∀ v w', Below w.heap.size w w' → Y1 v w' → K (f.put (some e1) v) w') → StepW P ops Q j1 f w K)
    (t2 : ∀ f w K u1, f.eval (.tmp e1) = u1 → Y1 u1 w → Below W0.heap.size W0 w → (∀ v w', Below w.heap.size w w' → Y2 v w' → K (f.put (some e2) v) w') → StepW P ops Q j2 f w K)
    (hE : ∀ v1 v2 u1 u2 w, Below W0.heap.size W0 w → X1 v1 w → X2 v2 w → Y1 u1 w → Y2 u2 w → wpAnyH P .any ops Q (fun W => Below W0.heap.size W0 W) n0 (li 2 2) ((((a0.put (some d1) v1).put (some d2) v2).put (some e1) u1).put (some e2) u2) w)
    (w : World) (hw : Below W0.heap.size W0 w) : wpAnyH P .any ops Q (fun W => Below W0.heap.size W0 W) (n0 + 4) (li 0 0) a0 w := by
  obtain ⟨n1, n2, n3, n4, n5, n6⟩ := hd
  obtain ⟨x1, x2, y1, y2⟩ := hX
  refine chains (M := 2) (N := 2) (n0 := n0) (P2R W0 d1 d2 e1 e2 X1 X2 Y1 Y2 a0) li (fun p => if p = 0 then i1 else i2) (fun q => if q = 0 then j1 else j2) hf hg hR ?hF ?hG ?hS ?hE 4 0 0 _ _ (by decide) (by decide) rfl ⟨undef, undef, undef, undef, rfl, hw, fun h => by omega, fun h => by omega, fun h => by omega, fun h => by omega⟩
  case hF =>
    rintro p q f w hp hq ⟨v1, v2, u1, u2, rfl, hb, h1, h2, h3, h4⟩ K hK
    have hp2 : p = 0 ∨ p = 1 := by omega
    rcases hp2 with rfl | rfl
    · refine s1 _ _ _ (fun t q1 q2 q3 q4 => by rw [pIf_eval q4, pIf_eval q3, pIf_eval q2, pIf_eval q1]) hb fun v w' hb' hx => hK _ _ ⟨v, v2, u1, u2, ?_, hb.trans (hb'.mono hb.size), fun _ => hx, fun h => by omega, fun h => y1 _ _ _ (h3 h) hb', fun h => y2 _ _ _ (h4 h) hb'⟩
      rw [pIf_put (Ne.symm n3), pIf_put (Ne.symm n2), pIf_put (Ne.symm n1)]
      rfl
    · refine s2 _ _ _ v1 (by rw [pIf_eval n3, pIf_eval n2, pIf_eval n1]; exact pIf_at hz.1 rfl) (h1 (by decide)) hb fun v w' hb' hx => hK _ _ ⟨v1, v, u1, u2, ?_, hb.trans (hb'.mono hb.size), fun h => x1 _ _ _ (h1 (by decide)) hb', fun _ => hx, fun h => y1 _ _ _ (h3 h) hb', fun h => y2 _ _ _ (h4 h) hb'⟩
      rw [pIf_put (Ne.symm n5), pIf_put (Ne.symm n4)]
      rfl
  case hG =>
    rintro p q f w hp hq ⟨v1, v2, u1, u2, rfl, hb, h1, h2, h3, h4⟩ K hK
    have hq2 : q = 0 ∨ q = 1 := by omega
    rcases hq2 with rfl | rfl
    · refine t1 _ _ _ (fun t q1 q2 q3 q4 => by rw [pIf_eval q4, pIf_eval q3, pIf_eval q2, pIf_eval q1]) hb fun v w' hb' hx => hK _ _ ⟨v1, v2, v, u2, ?_, hb.trans (hb'.mono hb.size), fun h => x1 _ _ _ (h1 h) hb', fun h => x2 _ _ _ (h2 h) hb', fun _ => hx, fun h => by omega⟩
      rw [pIf_put (Ne.symm n6)]
      rfl
    · refine t2 _ _ _ u1 (by rw [pIf_eval n6]; exact pIf_at (by rw [pIf_size, pIf_size]; exact hz.2) rfl) (h3 (by decide)) hb fun v w' hb' hx => hK _ _ ⟨v1, v2, u1, v, rfl, hb.trans (hb'.mono hb.size), fun h => x1 _ _ _ (h1 h) hb', fun h => x2 _ _ _ (h2 h) hb', fun h => y1 _ _ _ (h3 (by decide)) hb', fun _ => hx⟩
  case hS =>
    rintro p q a w ⟨_, _, _, _, _, hb, _⟩
    exact hb
  case hE =>
    rintro a w ⟨v1, v2, u1, u2, rfl, hb, h1, h2, h3, h4⟩
    exact hE v1 v2 u1 u2 w hb (h1 (by decide)) (h2 (by decide)) (h3 (by decide)) (h4 (by decide))
/-- two single operations -/
def P1R (W0 : World) (d1 e1 : Nat) (X1 Y1 : Value → World → Prop) (a0 : Act) (p q : Nat) (f : Act) (w : World) : Prop :=
  ∃ v1 u1 : Value, f = pIf (decide (0 < q)) e1 u1 (pIf (decide (0 < p)) d1 v1 a0) ∧ Below W0.heap.size W0 w ∧ (0 < p → X1 v1 w) ∧ (0 < q → Y1 u1 w)
theorem pairs1 (W0 : World) (i1 j1 d1 e1 : Nat) (X1 Y1 : Value → World → Prop) (a0 : Act) (li : Nat → Nat → Array Bool)
    (hd : d1 ≠ e1) (hX : Mono X1 ∧ Mono Y1)
    (hf : ∀ p q, p < 1 → q ≤ 1 → (li p q).setIfInBounds i1 true = li (p + 1) q) (hg : ∀ p q, p ≤ 1 → q < 1 → (li p q).setIfInBounds j1 true = li p (q + 1))
    (hR : ∀ p q, p ≤ 1 → q ≤ 1 → p < 1 ∨ q < 1 → Region.ready .any ops (li p q) ≠ [] ∧ ∀ i ∈ Region.ready .any ops (li p q), (p < 1 ∧ i = i1) ∨ (q < 1 ∧ i = j1))
    (s1 : ∀ f w K, (∀ t, t ≠ d1 → t ≠ e1 → f.eval (.tmp t) = a0.eval (.tmp t)) → Below W0.heap.size W0 w → (∀ v w', Below w.heap.size w w' → X1 v w' → K (f.put (some d1) v) w') → StepW P ops Q i1 f w K)
    (t1 : ∀ f w K, (∀ t, t ≠ d1 → t ≠ e1 → f.eval (.tmp t) = a0.eval (.tmp t)) → Below W0.heap.size W0 w → (∀ v w', Below w.heap.size w w' → Y1 v w' → K (f.put (some e1) v) w') → StepW P ops Q j1 f w K)
    (hE : ∀ v1 u1 w, Below W0.heap.size W0 w → X1 v1 w → Y1 u1 w → wpAnyH P .any ops Q (fun W => Below W0.heap.size W0 W) n0 (li 1 1) ((a0.put (some d1) v1).put (some e1) u1) w)
    (w : World) (hw : Below W0.heap.size W0 w) : wpAnyH P .any ops Q (fun W => Below W0.heap.size W0 W) (n0 + 2) (li 0 0) a0 w := by
  obtain ⟨x1, y1⟩ := hX
  refine chains (M := 1) (N := 1) (n0 := n0) (P1R W0 d1 e1 X1 Y1 a0) li (fun _ => i1) (fun _ => j1) hf hg hR ?hF ?hG ?hS ?hE 2 0 0 _ _ (by decide) (by decide) rfl ⟨undef, undef, rfl, hw, fun h => by omega, fun h => by omega⟩
  case hF =>
    rintro p q f w hp hq ⟨v1, u1, rfl, hb, h1, h3⟩ K hK
    obtain rfl : p = 0 := by omega
    refine s1 _ _ _ (fun t q1 q3 => by rw [pIf_eval q3, pIf_eval q1]) hb fun v w' hb' hx => hK _ _ ⟨v, u1, ?_, hb.trans (hb'.mono hb.size), fun _ => hx, fun h => y1 _ _ _ (h3 h) hb'⟩
    rw [pIf_put (Ne.symm hd)]
    rfl
  case hG =>
    rintro p q f w hp hq ⟨v1, u1, rfl, hb, h1, h3⟩ K hK
    obtain rfl : q = 0 := by omega
    exact t1 _ _ _ (fun t q1 q3 => by rw [pIf_eval q3, pIf_eval q1]) hb fun v w' hb' hx => hK _ _ ⟨v1, v, rfl, hb.trans (hb'.mono hb.size), fun h => x1 _ _ _ (h1 h) hb', fun _ => hx⟩
  case hS =>
    rintro p q a w ⟨_, _, _, hb, _⟩
    exact hb
  case hE =>
    rintro a w ⟨v1, u1, rfl, hb, h1, h3⟩
    exact hE v1 u1 w hb (h1 (by decide)) (h3 (by decide))
end
end Go.Proofs.YtjlejiphpbaonaaGreatDoor
