/- One part more, laid in a region that draws its order; two variables that are made; two calls in a chain beside two variables that are made. WeightMore: whatever the selectors, the law answers true, and nothing that was there has turned. Condition: the list is no longer than 2^60. WeightMore holds for every selector and every simple one: the call returns true, and each argument reads afterwards as it read before. -/
import Derived.Test.YtbjhiimjillleaaKU
import Derived.Test.YtbjhiimjillleaaKD
import Derived.Lib.QuietBelow
import Derived.Test.YtbjhiimjillleaaKE
import Derived.Test.YtbjhiimjillleaaKT
import Derived.Test.YtbjhiimjillleaaGG
import Derived.Test.YtbjhiimjillleaaGH
set_option linter.unusedVariables false
set_option linter.unusedSimpArgs false
set_option maxRecDepth 20000
namespace Go.Proofs.Ytbjhiimjillleaa
open Go.RowKit Go.Sort
/-- a part whose only simple selector was laid alone -/
theorem one_R {w : World} {B : Nat} {ok : Nat → Prop} {u : Value} {x : Wn.Sm} {n : Int} (h : w.heap[B]? = some (.cells #[.int .i64 x.k, .string (Wn.str x.n), .string (Wn.str x.v), .int .i64 x.a, .int .i64 x.b, u] 45)) (hB : ok B) (hs : SsP w ok u x.l) : ptK.R w ok [.int .i64 n, .slice (some ⟨B, 0, none⟩) 1 1] (n, [x]) :=
  ⟨_, rfl, RK.P.mk (K := smK) (es := [smCells x u]) h ⟨⟨u, rfl, hs⟩, trivial⟩ rfl rfl (by simp) hB⟩
/-- what holds while a list and one part more are laid: so many steps of the one are done, and of the other -/
def MoreR (K : Nat) (ok : Nat → Prop) (W2 : World) (a : List (Int × List Wn.Sm)) (xo : Obj) (a0 : Act) (p q : Nat) (f : Act) (w : World) : Prop :=
  ∃ (v1 v2 cur : Value) (B C : Nat) (es : List (List Value)) (l : List (Int × List Wn.Sm)),
    f = pIf (decide (2 < q)) 35 (.slice (some ⟨C, 0, none⟩) 1 1) (pIf (decide (1 < q)) 34 (.agg #[.int .i64 1, .slice (some ⟨B, 0, none⟩) 1 1]) (pIf (decide (0 < q)) 33 (.slice (some ⟨B, 0, none⟩) 1 1) (pIf (decide (1 < p)) 31 v2 (pIf (decide (0 < p)) 28 v1 a0)))) ∧
    K = W2.heap.size ∧ Below K W2 w ∧ (0 < q → K ≤ B ∧ w.heap[B]? = some xo) ∧ (2 < q → K ≤ C ∧ w.heap[C]? = some (.cells #[.int .i64 1, .slice (some ⟨B, 0, none⟩) 1 1] 43)) ∧
    (0 < p → ptK.Own K ok w cur es l ∧ (0 < q → cur.ownBlock ≠ some B) ∧ (2 < q → cur.ownBlock ≠ some C)) ∧
    (p = 1 → cur = v1 ∧ l = []) ∧ (p = 2 → cur = v2 ∧ l = a)
theorem srcC1 {w : World} {B C : Nat} (h : w.heap[C]? = some (.cells #[.int .i64 1, .slice (some ⟨B, 0, none⟩) 1 1] 43)) : ptK.Src w (.slice (some ⟨C, 0, none⟩) 1 1) [[.int .i64 1, .slice (some ⟨B, 0, none⟩) 1 1]] := by
  refine ⟨rfl, fun c hc => ?_, .inr ⟨⟨C, 0, none⟩, 1, rfl, fun j u hj => ?_⟩⟩
  · simp at hc
    rcases hc with rfl | rfl <;> rfl
  · rw [addr_add, cell_of_block h]
    simpa using hj
section
variable {Q : Exit → Act → World → Prop} {ops : Array Oper} {W2 : World} {a : List (Int × List Wn.Sm)} {xo : Obj} {a0 : Act} {K : Nat} {ok : Nat → Prop}
theorem MoreR.eval {p q : Nat} {f : Act} {w : World} (h : MoreR K ok W2 a xo a0 p q f w) {t : Nat} (ht : t ≠ 35 ∧ t ≠ 34 ∧ t ≠ 33 ∧ t ≠ 31 ∧ t ≠ 28) : f.eval (.tmp t) = a0.eval (.tmp t) := by
  obtain ⟨v1, v2, cur, B, C, es, l, rfl, _⟩ := h
  rw [pIf_eval ht.1, pIf_eval ht.2.1, pIf_eval ht.2.2.1, pIf_eval ht.2.2.2.1, pIf_eval ht.2.2.2.2]
theorem MoreR.bel {p q : Nat} {f : Act} {w : World} (h : MoreR K ok W2 a xo a0 p q f w) : Below K W2 w := by
  obtain ⟨_, _, _, _, _, _, _, _, _, hB, _⟩ := h
  exact hB
theorem MoreR.start {q : Nat} {f : Act} {w : World} (h : MoreR K ok W2 a xo a0 0 q f w) (hq : q ≤ 3) : MoreR K ok W2 a xo a0 1 q (f.put (some 28) (.slice (some ⟨w.heap.size, 0, none⟩) 0 0)) (w.alloc (.cells #[] 43)) := by
  obtain ⟨v1, v2, cur, B, C, es, l, rfl, hK, hB, hx, hc, hO, h1, h2⟩ := h
  have hsz : K ≤ w.heap.size := by rw [hK]; exact (hK ▸ hB).size
  refine ⟨.slice (some ⟨w.heap.size, 0, none⟩) 0 0, v2, .slice (some ⟨w.heap.size, 0, none⟩) 0 0, B, C, [], [], by rw [pIf_put (by decide), pIf_put (by decide), pIf_put (by decide)]; rfl, hK, hB.alloc hsz _, fun h => ⟨(hx h).1, block_alloc (hx h).2 _⟩, fun h => ⟨(hc h).1, block_alloc (hc h).2 _⟩, fun _ => ⟨RK.Own.startB (K := ptK) rfl w hsz, fun hq e => ?_, fun hq e => ?_⟩, fun _ => ⟨rfl, rfl⟩, fun h => by omega⟩
  · simp only [Value.ownBlock, Option.some.injEq] at e
    have := lt_of_block (hx hq).2
    omega
  · simp only [Value.ownBlock, Option.some.injEq] at e
    have := lt_of_block (hc hq).2
    omega
theorem MoreR.s33 {p : Nat} {f : Act} {w : World} (h : MoreR K ok W2 a xo a0 p 0 f w) : MoreR K ok W2 a xo a0 p 1 (f.put (some 33) (.slice (some ⟨w.heap.size, 0, none⟩) 1 1)) (w.alloc xo) := by
  obtain ⟨v1, v2, cur, B, C, es, l, rfl, hK, hB, hx, hc, hO, h1, h2⟩ := h
  have hsz : K ≤ w.heap.size := by rw [hK]; exact (hK ▸ hB).size
  refine ⟨v1, v2, cur, w.heap.size, C, es, l, rfl, hK, hB.alloc hsz _, fun _ => ⟨hsz, heap_alloc_new w xo⟩, fun h => by omega, fun hp => ⟨(hO hp).1.below ((Below.refl _ _).alloc (Nat.le_refl _) _), fun _ e => ?_, fun h => by omega⟩, h1, h2⟩
  have := ((hO hp).1.own.lt _ e).2
  omega
theorem MoreR.s34 {p : Nat} {f : Act} {w : World} (h : MoreR K ok W2 a xo a0 p 1 f w) (hsz : 40 < a0.tmps.size) : ∃ B : Nat, f.eval (.tmp 33) = .slice (some ⟨B, 0, none⟩) 1 1 ∧ MoreR K ok W2 a xo a0 p 2 (f.put (some 34) (.agg #[.int .i64 1, .slice (some ⟨B, 0, none⟩) 1 1])) w := by
  obtain ⟨v1, v2, cur, B, C, es, l, rfl, hK, hB, hx, hc, hO, h1, h2⟩ := h
  refine ⟨B, ?_, v1, v2, cur, B, C, es, l, rfl, hK, hB, fun _ => hx (by decide), fun h => by omega, fun hp => ⟨(hO hp).1, fun _ => (hO hp).2.1 (by decide), fun h => by omega⟩, h1, h2⟩
  rw [pIf_eval (by decide), pIf_eval (by decide)]
  show ((pIf (decide (1 < p)) 31 v2 (pIf (decide (0 < p)) 28 v1 a0)).put (some 33) (.slice (some ⟨B, 0, none⟩) 1 1)).eval (.tmp 33) = _
  cases decide (1 < p) <;> cases decide (0 < p) <;> simp [Act.eval, Act.put, pIf, show 33 < a0.tmps.size by omega]
theorem MoreR.s35 {p : Nat} {f : Act} {w : World} (h : MoreR K ok W2 a xo a0 p 2 f w) (hsz : 40 < a0.tmps.size) : ∃ B : Nat, f.eval (.tmp 34) = .agg #[.int .i64 1, .slice (some ⟨B, 0, none⟩) 1 1] ∧ MoreR K ok W2 a xo a0 p 3 (f.put (some 35) (.slice (some ⟨w.heap.size, 0, none⟩) 1 1)) (w.alloc (.cells #[.int .i64 1, .slice (some ⟨B, 0, none⟩) 1 1] 43)) := by
  obtain ⟨v1, v2, cur, B, C, es, l, rfl, hK, hB, hx, hc, hO, h1, h2⟩ := h
  have hsz' : K ≤ w.heap.size := by rw [hK]; exact (hK ▸ hB).size
  refine ⟨B, ?_, v1, v2, cur, B, w.heap.size, es, l, rfl, hK, hB.alloc hsz' _, fun _ => ⟨(hx (by decide)).1, block_alloc (hx (by decide)).2 _⟩, fun _ => ⟨hsz', heap_alloc_new w _⟩, fun hp => ⟨(hO hp).1.below ((Below.refl _ _).alloc (Nat.le_refl _) _), fun _ => (hO hp).2.1 (by decide), fun _ e => ?_⟩, h1, h2⟩
  · rw [pIf_eval (by decide)]
    show (((pIf (decide (1 < p)) 31 v2 (pIf (decide (0 < p)) 28 v1 a0)).put (some 33) (.slice (some ⟨B, 0, none⟩) 1 1)).put (some 34) (.agg #[.int .i64 1, .slice (some ⟨B, 0, none⟩) 1 1])).eval (.tmp 34) = _
    cases decide (1 < p) <;> cases decide (0 < p) <;> simp [Act.eval, Act.put, pIf, show 34 < a0.tmps.size by omega]
  · have := ((hO hp).1.own.lt _ e).2
    omega
theorem MoreR.app1 {q : Nat} {f : Act} {w : World} {u : Value} (h : MoreR K ok W2 a xo a0 1 q f w) (hu : ∀ W, Below K W2 W → ptK.P W (fun c => ok c ∧ c < K) u a) (hla : a.length ≤ 1000) {o : Oper} (ho : ops[3]? = some o) (hgd : o.guard = none) (hop : o.op = .call { callee := .builtin .append, args := #[.tmp 28, .tmp 30], argTypes := #[ptK.t, ptK.t] }) (hdst : o.dst = some 31) (hx : a0.eval (.tmp 30) = u) (hsz : 40 < a0.tmps.size) {K' : Act → World → Prop}
    (hK' : ∀ f' w', MoreR K ok W2 a xo a0 2 q f' w' → K' f' w') : StepW Try.prog ops Q 3 f w K' := by
  obtain ⟨v1, v2, cur, B, C, es, l, rfl, hK, hB, hxo, hc, hO, h1, h2⟩ := h
  obtain ⟨hO1, hO2, hO3⟩ := hO (by decide)
  obtain ⟨rfl, rfl⟩ := h1 rfl
  have hs : K ≤ w.heap.size := by rw [hK]; exact (hK ▸ hB).size
  have hel := hO1.length
  obtain ⟨fs, hsrc, hrow⟩ := RK.P.src (hu w hB)
  have hfl := hrow.length
  have hll : es.length + fs.length ≤ 1048576 := by
    rw [hel, hfl]
    simp only [List.length_nil] <;> omega
  refine ⟨o, ho, RK.step_append (K := ptK) hgd _ _ hop K cur u es fs ?_ ?_ hO1.own hsrc hll hs fun v' w' g1 g2 g3 => ?_⟩
  · rw [pIf_eval (by decide), pIf_eval (by decide), pIf_eval (by decide), pIf_eval (by decide)]
    show (a0.put (some 28) cur).eval (.tmp 28) = cur
    simp [Act.eval, Act.put, show 28 < a0.tmps.size by omega]
  · rw [pIf_eval (by decide), pIf_eval (by decide), pIf_eval (by decide), pIf_eval (by decide), pIf_eval (by decide)]; exact hx
  · rw [hdst]
    have hcat : ptK.Own K ok w' v' (es ++ fs) ([] ++ a) := hO1.cat (hrow.mono (fun c hc _ => ⟨hc.1, fun e => by have := (hO1.own.lt c e).1; have : c < K := hc.2; omega⟩)) g1 g2 g3
    have hb1 : ∀ D, v'.ownBlock = some D → cur.ownBlock ≠ some D → D < w.heap.size → False := fun D e hne hlt => by
      rcases g3 with g3 | g3
      · rw [g3] at e; exact hne e
      · rw [g3] at e
        simp only [Option.some.injEq] at e
        omega
    refine hK' _ _ ⟨cur, v', v', B, C, es ++ fs, [] ++ a, ?_, hK, Below.grown hB g2 hs (fun c hc => (hO1.own.lt c hc).1), fun hq => ⟨(hxo hq).1, (g2.block B (lt_of_block (hxo hq).2) (fun e => hO2 hq e.symm)).trans (hxo hq).2⟩, fun hq => ⟨(hc hq).1, (g2.block C (lt_of_block (hc hq).2) (fun e => hO3 hq e.symm)).trans (hc hq).2⟩, fun _ => ⟨hcat, fun hq e => hb1 B e (hO2 hq) (lt_of_block (hxo hq).2), fun hq e => hb1 C e (hO3 hq) (lt_of_block (hc hq).2)⟩, fun h => by omega, fun _ => ⟨rfl, rfl⟩⟩
    rw [pIf_put (by decide), pIf_put (by decide), pIf_put (by decide)]; rfl
theorem MoreR.app {f : Act} {w : World} {x : Wn.Sm} {ux : Value} (h : MoreR K ok W2 a (.cells #[.int .i64 x.k, .string (Wn.str x.n), .string (Wn.str x.v), .int .i64 x.a, .int .i64 x.b, ux] 45) a0 2 3 f w) (hok : ∀ c, K ≤ c → ok c) (hx : SsP w (fun c => ok c ∧ c < K) ux x.l) (hla : a.length ≤ 1000) {o : Oper} (ho : ops[8]? = some o) (hgd : o.guard = none) (hop : o.op = .call { callee := .builtin .append, args := #[.tmp 31, .tmp 35], argTypes := #[ptK.t, ptK.t] }) (hdst : o.dst = some 36) (hsz : 40 < a0.tmps.size) {K' : Act → World → Prop}
    (hK' : ∀ v1 v2 v3 v4 v5 v' w' es', ptK.Own K ok w' v' es' (a ++ [(1, [x])]) → Below K W2 w' → K' ((((((a0.put (some 28) v1).put (some 31) v2).put (some 33) v3).put (some 34) v4).put (some 35) v5).put (some 36) v') w') : StepW Try.prog ops Q 8 f w K' := by
  obtain ⟨v1, v2, cur, B, C, es, l, rfl, hK, hB, hxo, hc, hO, h1, h2⟩ := h
  obtain ⟨hO1, hO2, hO3⟩ := hO (by decide)
  obtain ⟨rfl, hl⟩ := h2 rfl
  subst hl
  have hO2 := hO2 (by decide)
  obtain ⟨hBK, hBx⟩ := hxo (by decide)
  obtain ⟨hCK, hCx⟩ := hc (by decide)
  have hs : K ≤ w.heap.size := by rw [hK]; exact (hK ▸ hB).size
  have hel := hO1.length
  have hcR : ptK.R w (fun b => ok b ∧ cur.ownBlock ≠ some b) [.int .i64 1, .slice (some ⟨B, 0, none⟩) 1 1] (1, [x]) := one_R hBx ⟨hok B hBK, hO2⟩ (hx.same (fun _ _ _ => rfl) (fun c hc _ => ⟨hc.1, fun e => by have := (hO1.own.lt c e).1; omega⟩))
  refine ⟨o, ho, RK.step_append (K := ptK) hgd _ _ hop K cur (.slice (some ⟨C, 0, none⟩) 1 1) es [[Value.int .i64 1, Value.slice (some ⟨B, 0, none⟩) 1 1]] ?_ ?_ hO1.own (srcC1 hCx) (by rw [hel]; simp; omega) hs fun v' w' g1 g2 g3 => ?_⟩
  · rw [pIf_eval (by decide), pIf_eval (by decide), pIf_eval (by decide)]
    show ((a0.put (some 28) v1).put (some 31) cur).eval (.tmp 31) = cur
    simp [Act.eval, Act.put, show 31 < a0.tmps.size by omega]
  · show (((((a0.put (some 28) v1).put (some 31) cur).put (some 33) _).put (some 34) _).put (some 35) (.slice (some ⟨C, 0, none⟩) 1 1)).eval (.tmp 35) = _
    simp [Act.eval, Act.put, show 35 < a0.tmps.size by omega]
  · rw [hdst]
    exact hK' v1 cur _ _ _ v' w' _ (hO1.next (Below.refl _ _) hcR g1 g2 g3) (Below.grown hB g2 hs (fun c hc => (hO1.own.lt c hc).1))
end
/-- two cells are stored -/
def st2 (W : World) (A : Nat) (u v : Value) : World := (W.setCell ⟨A, 0, none⟩ u).setCell ⟨A, 1, none⟩ v
theorem st2_below {w1 W : World} {N A : Nat} (h : Below N w1 W) (hA : N ≤ A) (u v : Value) : Below N w1 (st2 W A u v) := (h.setCell (p := ⟨A, 0, none⟩) hA _).setCell (p := ⟨A, 1, none⟩) hA _
theorem st2_same {W : World} {A : Nat} {a b u v : Value} {t : TypeId} (h : W.heap[A]? = some (.cells #[a, b] t)) : (st2 W A u v).heap[A]? = some (.cells #[u, v] t) := by simp [st2, World.setCell, Array.getElem?_modify, h]
theorem st2_other {W : World} {A B : Nat} {u v : Value} (h : A ≠ B) : (st2 W A u v).heap[B]? = W.heap[B]? := by
  unfold st2
  rw [Below.heap_setCell _ _ _ _ (Ne.symm h), Below.heap_setCell _ _ _ _ (Ne.symm h)]
/-- two variables that are made in a region -/
def TwoR (w1 : World) (z : Obj) (d1 d2 : Nat) (a0 : Act) (p q : Nat) (f : Act) (w : World) : Prop :=
  ∃ A B : Nat, f = pIf (decide (0 < q)) d2 (.pointer (some ⟨B, 0, none⟩)) (pIf (decide (0 < p)) d1 (.pointer (some ⟨A, 0, none⟩)) a0) ∧ MdW w1 w z (decide (0 < p)) (decide (0 < q)) false A B 0
theorem TwoR.a {w1 : World} {z : Obj} {d1 d2 q : Nat} {a0 f : Act} {w : World} (hd : d2 ≠ d1) (h : TwoR w1 z d1 d2 a0 0 q f w) : TwoR w1 z d1 d2 a0 1 q (f.put (some d1) (.pointer (some ⟨w.heap.size, 0, none⟩))) (w.alloc z) := by
  obtain ⟨A, B, rfl, hm⟩ := h
  refine ⟨w.heap.size, B, ?_, hm.a'⟩
  rw [pIf_put hd]; rfl
theorem TwoR.b {w1 : World} {z : Obj} {d1 d2 p : Nat} {a0 f : Act} {w : World} (h : TwoR w1 z d1 d2 a0 p 0 f w) : TwoR w1 z d1 d2 a0 p 1 (f.put (some d2) (.pointer (some ⟨w.heap.size, 0, none⟩))) (w.alloc z) := by
  obtain ⟨A, B, rfl, hm⟩ := h
  exact ⟨A, w.heap.size, rfl, hm.b'⟩
theorem TwoR.bel {w1 : World} {z : Obj} {d1 d2 p q : Nat} {a0 f : Act} {w : World} (h : TwoR w1 z d1 d2 a0 p q f w) : Below w1.heap.size w1 w := by
  obtain ⟨A, B, rfl, hm⟩ := h
  exact hm.bel
/-- the frame when so many of two calls have answered and these variables are made -/
def frH (x1 x2 : Value) (e1 e2 d1 d2 : Nat) (c : Nat) (b3 b4 : Bool) (A B : Nat) (a0 : Act) : Act :=
  pIf b4 d2 (.pointer (some ⟨B, 0, none⟩)) (pIf b3 d1 (.pointer (some ⟨A, 0, none⟩)) (pIf (decide (1 < c)) e2 x2 (pIf (decide (0 < c)) e1 x1 a0)))
theorem frH_eval {x1 x2 : Value} {e1 e2 d1 d2 c : Nat} {b3 b4 : Bool} {A B : Nat} {a0 : Act} {t : Nat} (h : t ≠ d1 ∧ t ≠ d2 ∧ t ≠ e1 ∧ t ≠ e2) : (frH x1 x2 e1 e2 d1 d2 c b3 b4 A B a0).eval (.tmp t) = a0.eval (.tmp t) := by
  obtain ⟨h1, h2, h3, h4⟩ := h
  unfold frH
  rw [pIf_eval h2, pIf_eval h1, pIf_eval h4, pIf_eval h3]
def rdH (k1 k2 i1 i2 : Nat) (c : Nat) (b3 b4 : Bool) : List Nat := (if c < 2 then [if c = 0 then k1 else k2] else []) ++ ((if b3 then [] else [i1]) ++ (if b4 then [] else [i2]))
section
variable {P : Program} {ops : Array Oper} {Q : Exit → Act → World → Prop} {a0 : Act} {w1 : World} {x1 x2 : Value} {z : Obj} {n0 k1 k2 i1 i2 e1 e2 d1 d2 u1 u2 : Nat}
theorem weaveH (li : Nat → Bool → Bool → Array Bool) (hl1 : ∀ a b, (li 0 a b).setIfInBounds k1 true = li 1 a b) (hl2 : ∀ a b, (li 1 a b).setIfInBounds k2 true = li 2 a b)
    (hm1 : ∀ n b, (li n false b).setIfInBounds i1 true = li n true b) (hm2 : ∀ n b, (li n b false).setIfInBounds i2 true = li n b true)
    (hD : d1 ≠ d2 ∧ (d1 ≠ e1 ∧ d1 ≠ e2) ∧ (d2 ≠ e1 ∧ d2 ≠ e2))
    (hu1 : u1 ≠ d1 ∧ u1 ≠ d2 ∧ u1 ≠ e1 ∧ u1 ≠ e2) (hu2 : u2 ≠ d1 ∧ u2 ≠ d2 ∧ u2 ≠ e1 ∧ u2 ≠ e2)
    (hR : ∀ c b3 b4, c ≤ 2 → (c < 2 ∨ b3 = false ∨ b4 = false) → Region.ready .any ops (li c b3 b4) = rdH k1 k2 i1 i2 c b3 b4)
    (hC1 : ∀ a w K, a.eval (.tmp u1) = a0.eval (.tmp u1) → Below w1.heap.size w1 w → (∀ w', Below w.heap.size w w' → K (a.put (some e1) x1) w') → StepW P ops Q k1 a w K)
    (hC2 : ∀ a w K, a.eval (.tmp u2) = a0.eval (.tmp u2) → Below w1.heap.size w1 w → (∀ w', Below w.heap.size w w' → K (a.put (some e2) x2) w') → StepW P ops Q k2 a w K)
    (hA : ∀ a w K, K (a.put (some d1) (.pointer (some ⟨w.heap.size, 0, none⟩))) (w.alloc z) → StepW P ops Q i1 a w K)
    (hB : ∀ a w K, K (a.put (some d2) (.pointer (some ⟨w.heap.size, 0, none⟩))) (w.alloc z) → StepW P ops Q i2 a w K)
    (hE : ∀ A B w, MdW w1 w z true true false A B 0 → wpAnyH P .any ops Q (fun W => Below w1.heap.size w1 W) n0 (li 2 true true) (frH x1 x2 e1 e2 d1 d2 2 true true A B a0) w) :
    ∀ (m c : Nat) (b3 b4 : Bool) (A B : Nat) (w : World), c ≤ 2 → m = (2 - c) + ((!b3).toNat + (!b4).toNat) → MdW w1 w z b3 b4 false A B 0 →
      wpAnyH P .any ops Q (fun W => Below w1.heap.size w1 W) (n0 + m) (li c b3 b4) (frH x1 x2 e1 e2 d1 d2 c b3 b4 A B a0) w := by
  intro m
  induction m with
  | zero =>
    intro c b3 b4 A B w hc hm hd
    have h3 : c = 2 := by omega
    have e3 : b3 = true := by cases b3 <;> first | rfl | (exfalso; simp only [Bool.not_false, Bool.toNat_true] at hm; omega)
    have e4 : b4 = true := by cases b4 <;> first | rfl | (exfalso; simp only [Bool.not_false, Bool.toNat_true] at hm; omega)
    subst h3 e3 e4
    exact hE A B w hd
  | succ m ih =>
    intro c b3 b4 A B w hc hm hd
    have hne : c < 2 ∨ b3 = false ∨ b4 = false := by
      by_cases h : c < 2
      · exact .inl h
      · right
        cases b3 <;> cases b4 <;> first | exact .inl rfl | exact .inr rfl | (exfalso; simp only [Bool.not_true, Bool.toNat_false] at hm; omega)
    refine wpAnyH_all (hR c b3 b4 hc hne) ?_ ?_
    · unfold rdH
      rcases hne with h | h | h <;> simp [h]
    · intro i hi
      unfold rdH at hi
      simp only [List.mem_append] at hi
      rcases hi with hi | hi | hi
      · by_cases h : c < 2
        · rw [if_pos h] at hi
          have hc3 : c = 0 ∨ c = 1 := by omega
          rcases hc3 with rfl | rfl
          · obtain rfl : i = k1 := by simpa using hi
            refine StepW.op fun K' hK => hC1 _ _ _ (frH_eval hu1) hd.bel fun w' hb => hK _ _ ⟨(hd.below hb).bel, ?_⟩
            have := ih 1 b3 b4 A B w' (by omega) (by omega) (hd.below hb)
            have e : (frH x1 x2 e1 e2 d1 d2 0 b3 b4 A B a0).put (some e1) x1 = frH x1 x2 e1 e2 d1 d2 1 b3 b4 A B a0 := by
              unfold frH
              rw [pIf_put hD.2.2.1, pIf_put hD.2.1.1]
              rfl
            rw [e, hl1]
            exact this
          · obtain rfl : i = k2 := by simpa using hi
            refine StepW.op fun K' hK => hC2 _ _ _ (frH_eval hu2) hd.bel fun w' hb => hK _ _ ⟨(hd.below hb).bel, ?_⟩
            have := ih 2 b3 b4 A B w' (by omega) (by omega) (hd.below hb)
            have e : (frH x1 x2 e1 e2 d1 d2 1 b3 b4 A B a0).put (some e2) x2 = frH x1 x2 e1 e2 d1 d2 2 b3 b4 A B a0 := by
              unfold frH
              rw [pIf_put hD.2.2.2, pIf_put hD.2.1.2]
              rfl
            rw [e, hl2]
            exact this
        · rw [if_neg h] at hi; cases hi
      · cases b3
        · simp only [Bool.false_eq_true, if_false, List.mem_singleton] at hi
          subst hi
          refine StepW.op fun K' hK => hA _ _ _ (hK _ _ ⟨hd.alloc.bel, ?_⟩)
          have := ih c true b4 w.heap.size B _ hc (by simp at hm ⊢; omega) hd.a'
          have e : (frH x1 x2 e1 e2 d1 d2 c false b4 A B a0).put (some d1) (.pointer (some ⟨w.heap.size, 0, none⟩)) = frH x1 x2 e1 e2 d1 d2 c true b4 w.heap.size B a0 := by
            unfold frH
            rw [pIf_put hD.1.symm]
            rfl
          rw [e, hm1]
          exact this
        · simp at hi
      · cases b4
        · simp only [Bool.false_eq_true, if_false, List.mem_singleton] at hi
          subst hi
          refine StepW.op fun K' hK => hB _ _ _ (hK _ _ ⟨hd.alloc.bel, ?_⟩)
          have := ih c b3 true A w.heap.size _ hc (by simp at hm ⊢; omega) hd.b'
          have e : (frH x1 x2 e1 e2 d1 d2 c b3 false A B a0).put (some d2) (.pointer (some ⟨w.heap.size, 0, none⟩)) = frH x1 x2 e1 e2 d1 d2 c b3 true A w.heap.size a0 := by
            unfold frH
            rfl
          rw [e, hm2]
          exact this
        · simp at hi
end
end Go.Proofs.Ytbjhiimjillleaa
set_option linter.unusedVariables false
set_option linter.unusedSimpArgs false
set_option maxRecDepth 20000
namespace Go.Proofs.Ytbjhiimjillleaa
open Go.RowKit Go.Sort
/-- the numbers of an int are those of 64 bits -/
theorem wrap_w64m (x : Int) : IntKind.i64.wrap x = wrap64 x := by
  unfold IntKind.wrap wrap64
  have h1 : (2 ^ IntKind.i64.bits : Int) = 18446744073709551616 := rfl
  have h2 : (2 ^ (IntKind.i64.bits - 1) : Int) = 9223372036854775808 := rfl
  have h3 : IntKind.i64.signed = true := rfl
  simp only [h1, h2, h3, Bool.true_and, decide_eq_true_eq, ge_iff_le]
  split <;> omega
theorem blocks2m (w : World) (a b : Obj) : ((w.alloc a).alloc b).heap[w.heap.size]? = some a ∧ ((w.alloc a).alloc b).heap[w.heap.size + 1]? = some b ∧ Below w.heap.size w ((w.alloc a).alloc b) := by
  have e1 : (w.alloc a).heap.size = w.heap.size + 1 := by simp
  refine ⟨block_alloc (heap_alloc_new w _) _, ?_, ((Below.refl _ _).alloc (Nat.le_refl _) _).alloc (by simp) _⟩
  have := heap_alloc_new (w.alloc a) b
  rw [e1] at this
  exact this
set_option maxRecDepth 100000 in
set_option maxHeartbeats 4000000 in
theorem lwMore_any (c : Wn.Cx) (x : Wn.Sm) (po uo : Option Addr) (pc uc : Nat) (w : World) (hc : ptK.P w (fun _ => True) (.slice po c.1.length pc) c.1) (hcl : c.1.length ≤ 1152921504606846976) (hx : SsP w (fun _ => True) (.slice uo x.l.len uc) x.l) :
    Calls Try.prog 7 #[.agg #[.slice po c.1.length pc, .string (Wn.str c.2)], .agg #[.int .i64 x.k, .string (Wn.str x.n), .string (Wn.str x.v), .int .i64 x.a, .int .i64 x.b, .slice uo x.l.len uc]] w fun e w' => e = .returned (.bool true) ∧ Below w.heap.size w w' := by
  obtain ⟨_, _, he, hc1, hc2⟩ := hc.form
  simp only [Value.slice.injEq, true_and] at he
  obtain ⟨rfl, rfl⟩ := he
  unfold maxLen at hc2
  have hx0 : SsP w (fun b => b < w.heap.size) (.slice uo x.l.len uc) x.l := hx.same (fun _ _ _ => rfl) (fun _ _ h => h)
  have hc0 : ptK.P w (fun b => b < w.heap.size) (.slice po c.1.length pc) c.1 := hc.old
  obtain ⟨hA, hB, hbel⟩ := blocks2m w (.cells #[.slice po c.1.length pc, .string (Wn.str c.2)] 31) (.cells #[.int .i64 x.k, .string (Wn.str x.n), .string (Wn.str x.v), .int .i64 x.a, .int .i64 x.b, .slice uo x.l.len uc] 45)
  have HC := Lib.hid (hc0.below hbel)
  have HX := Lib.hid (hx0.below hbel)
  have HBA := Lib.hid hA
  have HBB := Lib.hid hB
  have HW := Lib.hid hbel
  have HCL := Lib.hid hcl
  have hsz := HW.out.size
  clear hc hx hc0 hx0 hA hB hbel hcl
  generalize hul : x.l.len = ul at *
  have HUL := Lib.hid hul
  clear hul
  have QS : Hid (∀ W : World, ptK.P W (fun b => b < w.heap.size) (.slice po c.1.length pc) c.1 → SsP W (fun b => b < w.heap.size) (.slice uo ul uc) x.l → Calls Try.prog 9 #[.slice (some ⟨W.heap.size + 1 + 1, 0, none⟩) 2 2, .int .i64 100] (((W.alloc (.cells #[.int .i64 x.k, .string (Wn.str x.n), .string (Wn.str x.v), .int .i64 x.a, .int .i64 x.b, .slice uo ul uc] 45)).alloc (.cells #[.int .i64 0, .slice (some ⟨W.heap.size, 0, none⟩) 1 1] 43)).alloc (.cells #[.slice po c.1.length pc, .string (Wn.str c.2), .slice (some ⟨W.heap.size + 1, 0, none⟩) 1 1, .string ⟨#[]⟩] 31)) (S4Post [c, ([(0, [x])], [])] 100 (((W.alloc (.cells #[.int .i64 x.k, .string (Wn.str x.n), .string (Wn.str x.v), .int .i64 x.a, .int .i64 x.b, .slice uo ul uc] 45)).alloc (.cells #[.int .i64 0, .slice (some ⟨W.heap.size, 0, none⟩) 1 1] 43)).alloc (.cells #[.slice po c.1.length pc, .string (Wn.str c.2), .slice (some ⟨W.heap.size + 1, 0, none⟩) 1 1, .string ⟨#[]⟩] 31)))) := Lib.hid (fun W h1 h2 => by
    generalize hW1 : W.alloc (.cells #[.int .i64 x.k, .string (Wn.str x.n), .string (Wn.str x.v), .int .i64 x.a, .int .i64 x.b, .slice uo ul uc] 45) = W1
    have b1 : Below W.heap.size W W1 := by rw [← hW1]; exact (Below.refl _ _).alloc (Nat.le_refl _) _
    have s1 : W1.heap.size = W.heap.size + 1 := by rw [← hW1]; simp
    have x1 : W1.heap[W.heap.size]? = some (.cells #[.int .i64 x.k, .string (Wn.str x.n), .string (Wn.str x.v), .int .i64 x.a, .int .i64 x.b, .slice uo ul uc] 45) := by rw [← hW1]; exact heap_alloc_new W _
    generalize hW2 : W1.alloc (.cells #[.int .i64 0, .slice (some ⟨W.heap.size, 0, none⟩) 1 1] 43) = W2
    have b2 : Below W1.heap.size W1 W2 := by rw [← hW2]; exact (Below.refl _ _).alloc (Nat.le_refl _) _
    have s2 : W2.heap.size = W.heap.size + 1 + 1 := by rw [← hW2]; simp [s1]
    have x2 : W2.heap[W.heap.size + 1]? = some (.cells #[.int .i64 0, .slice (some ⟨W.heap.size, 0, none⟩) 1 1] 43) := by rw [← hW2, ← s1]; exact heap_alloc_new W1 _
    have b3 : Below W2.heap.size W2 (W2.alloc (.cells #[.slice po c.1.length pc, .string (Wn.str c.2), .slice (some ⟨W.heap.size + 1, 0, none⟩) 1 1, .string ⟨#[]⟩] 31)) := (Below.refl _ _).alloc (Nat.le_refl _) _
    have x3 := heap_alloc_new W2 (.cells #[.slice po c.1.length pc, .string (Wn.str c.2), .slice (some ⟨W.heap.size + 1, 0, none⟩) 1 1, .string ⟨#[]⟩] 31)
    generalize W2.alloc (.cells #[.slice po c.1.length pc, .string (Wn.str c.2), .slice (some ⟨W.heap.size + 1, 0, none⟩) 1 1, .string ⟨#[]⟩] 31) = W3 at *
    rw [s2] at x3
    have p1 : ptK.P W3 (fun _ => True) (.slice po c.1.length pc) c.1 := (((h1.below b1).below b2).below b3).mono (fun _ _ _ => trivial)
    have p2 : ptK.R W3 (fun _ => True) [.int .i64 0, .slice (some ⟨W.heap.size, 0, none⟩) 1 1] (0, [x]) := one_R (block_lat b3 (block_lat b2 x1)) trivial ((((h2.below b1).below b2).below b3).same (fun _ _ _ => rfl) (fun _ _ _ => trivial))
    have p3 : ptK.P W3 (fun _ => True) (.slice (some ⟨W.heap.size + 1, 0, none⟩) 1 1) [(0, [x])] := RK.P.mk (K := ptK) (es := [[.int .i64 0, .slice (some ⟨W.heap.size, 0, none⟩) 1 1]]) (block_lat b3 x2) ⟨p2, trivial⟩ rfl rfl (by simp) trivial
    exact small4_s _ [c, ([(0, [x])], [])] 100 _ (RK.P.mk (K := cxK) (es := [[.slice po c.1.length pc, .string (Wn.str c.2)], [.slice (some ⟨W.heap.size + 1, 0, none⟩) 1 1, .string ⟨#[]⟩]]) x3 ⟨⟨_, rfl, p1⟩, ⟨_, rfl, p3⟩, trivial⟩ rfl rfl (by simp) trivial) (by simp) (fun d hd => by
      simp only [List.mem_cons, List.not_mem_nil, or_false] at hd
      rcases hd with rfl | rfl
      · exact HCL.out
      · simp) (by decide) (by decide))
  generalize hyc : Wn.str c.2 = yc at *
  have HYC := Lib.hid hyc
  clear hyc
  generalize hxn : Wn.str x.n = xn at *
  have HXN := Lib.hid hxn
  clear hxn
  generalize hxv : Wn.str x.v = xv at *
  have HXV := Lib.hid hxv
  clear hxv
  go_enter Try.func7, Try.ntmps7
  go_wp2_with fail
  generalize (w.alloc (.cells #[.slice po c.1.length pc, .string yc] 31)).alloc (.cells #[.int .i64 x.k, .string xn, .string xv, .int .i64 x.a, .int .i64 x.b, .slice uo ul uc] 45) = W0 at *
  refine (fixed06 _).mono ?_
  rintro e w1 ⟨rfl, b1⟩
  have HC1 := Lib.hid (HC.out.below b1)
  have HX1 := Lib.hid (HX.out.below b1)
  have hA1 := block_lat b1 HBA.out
  have hB1 := block_lat b1 HBB.out
  have k0 := cell_of_block (o := 0) hA1
  have k1 := cell_of_block (o := 1) hA1
  have j0 := cell_of_block (o := 0) hB1
  have j1 := cell_of_block (o := 1) hB1
  have j2 := cell_of_block (o := 2) hB1
  have j3 := cell_of_block (o := 3) hB1
  have j4 := cell_of_block (o := 4) hB1
  have j5 := cell_of_block (o := 5) hB1
  simp only [List.getElem?_toArray, List.getElem?_cons_zero, List.getElem?_cons_succ] at k0 k1 j0 j1 j2 j3 j4 j5
  have HN := Lib.hid (And.intro hA1 hB1)
  have HW1 := Lib.hid (HW.out.trans (b1.mono hsz))
  clear b1 hA1 hB1 HC HX HBA HBB HW
  go_wp2_with fail
  refine (QS.out _ HC1.out HX1.out).mono ?_
  rintro e w2 ⟨r, rfl, hw2, hr⟩
  have HAl : Hid (Below w1.heap.size w1 w2) := Lib.hid (by
    rw [hw2]
    exact (((Below.refl _ _).alloc (Nat.le_refl _) _).alloc (by simp) _).alloc (by simp; omega) _)
  clear hw2
  have HW2 := Lib.hid (HW1.out.trans (HAl.out.mono HW1.out.size))
  cases r
  · go_wp2_with fail
    refine (fixed06 _).mono ?_
    rintro e w3 ⟨rfl, b3⟩
    go_wp2_with fail
    go_ret
    exact ⟨rfl, HW2.out.trans (b3.mono HW2.out.size)⟩
  have htot := (hr rfl).1
  have htt : Wn.totC c + (Wn.Ss.ofL [x]).size ≤ 200 ∧ c.1.length ≤ 1000 := by
    have e : Wn.totL [c, ([(0, [x])], [])] = 2 + (Wn.totC c + (Wn.totC ([(0, [x])], []) + 0)) := rfl
    have e2 : Wn.totC c = c.1.length + (c.1.map fun p => (Wn.Ss.ofL p.2).size).sum := rfl
    have e3 : Wn.totC ([((0 : Int), [x])], []) = 1 + ((Wn.Ss.ofL [x]).size + 0) := rfl
    omega
  obtain ⟨htt, hla⟩ := htt
  have HML := Lib.hid (Wn.more_less c (1, [x]) (by omega : Wn.totC c + (Wn.Ss.ofL [x]).size ≤ 100000))
  clear hr QS htot htt
  have HC2 := Lib.hid (HC1.out.below HAl.out)
  have HX2 := Lib.hid (HX1.out.below HAl.out)
  have hA2 := block_lat HAl.out HN.out.1
  have hB2 := block_lat HAl.out HN.out.2
  have HN2 := Lib.hid (And.intro hA2 hB2)
  clear HC1 HX1 HN HAl HW1 k0 k1 j0 j1 j2 j3 j4 j5
  have k0 := cell_of_block (o := 0) hA2
  have k1 := cell_of_block (o := 1) hA2
  simp only [List.getElem?_toArray, List.getElem?_cons_zero, List.getElem?_cons_succ] at k0 k1
  obtain ⟨⟨g0, g1, g2⟩, hg⟩ : ∃ g, Wn.ofC c = g := ⟨_, rfl⟩
  have HG := Lib.hid hg
  have Q0 : Hid (∀ W, Below w2.heap.size w2 W → Calls Try.prog 11 #[.agg #[.slice po c.1.length pc, .string yc]] W fun e w' => e = .returned (wV (g0, g1, g2)) ∧ Below W.heap.size W w') := Lib.hid (fun W h => by
    rw [← HYC.out, ← HG.out]
    exact wOf_v c po pc W ((HC2.out.below h).old))
  clear hA2 hB2 hg
  go_wp2_with fail
  refine (Q0.out _ (Below.refl _ _)).mono ?_
  rintro e w3 ⟨rfl, b3⟩
  have hA3 := block_lat b3 HN2.out.1
  have hB3 := block_lat b3 HN2.out.2
  have HC3 := Lib.hid (HC2.out.below b3)
  have HX3 := Lib.hid (HX2.out.below b3)
  have HN3 := Lib.hid (And.intro hA3 hB3)
  have HW3 := Lib.hid (HW2.out.trans (b3.mono HW2.out.size))
  have hl3 := lt_of_block hA3
  have hn3 : ¬ w.heap.size = w3.heap.size := by omega
  clear k0 k1 HC2 HX2 HN2 HW2 Q0 b3
  have k0 := cell_of_block (o := 0) hA3
  have k1 := cell_of_block (o := 1) hA3
  simp only [List.getElem?_toArray, List.getElem?_cons_zero, List.getElem?_cons_succ] at k0 k1
  clear hA3 hB3
  go_wp2_with fail
  have hsw := HW3.out.size
  have hD0 := heap_alloc_new w3 (.cells #[.int .i64 g0, .int .i64 g1, .int .i64 g2] 27)
  have hDB : Below w3.heap.size w3 (w3.alloc (.cells #[.int .i64 g0, .int .i64 g1, .int .i64 g2] 27)) := (Below.refl _ _).alloc (Nat.le_refl _) _
  have hDs : (w3.alloc (.cells #[.int .i64 g0, .int .i64 g1, .int .i64 g2] 27)).heap.size = w3.heap.size + 1 := by simp
  generalize w3.alloc (.cells #[.int .i64 g0, .int .i64 g1, .int .i64 g2] 27) = W4 at *
  have HC4 := Lib.hid (HC3.out.below hDB)
  have HX4 := Lib.hid (HX3.out.below hDB)
  have HN4 := Lib.hid (And.intro (block_lat hDB HN3.out.1) (block_lat hDB HN3.out.2))
  have HW4 := Lib.hid (HW3.out.trans (hDB.mono HW3.out.size))
  clear HC3 HX3 HN3 HW3 k0 k1 hl3 hn3 hDB
  generalize w3.heap.size = d5 at *
  generalize d5 + 1 = m6 at *
  have hM0 := heap_alloc_new W4 (.cells #[.slice po c.1.length pc, .string yc] 31)
  have hMB : Below W4.heap.size W4 (W4.alloc (.cells #[.slice po c.1.length pc, .string yc] 31)) := (Below.refl _ _).alloc (Nat.le_refl _) _
  have hMs : (W4.alloc (.cells #[.slice po c.1.length pc, .string yc] 31)).heap.size = W4.heap.size + 1 := by simp
  generalize W4.alloc (.cells #[.slice po c.1.length pc, .string yc] 31) = W5 at *
  rw [hDs] at hM0
  have HD4 := Lib.hid hD0
  have HM5 := Lib.hid hM0
  have HB5 := Lib.hid hMB
  have HDS := Lib.hid hDs
  have HMS := Lib.hid hMs
  have hml : d5 < W4.heap.size := lt_of_block hD0
  have HLT : Hid (w.heap.size ≤ d5 ∧ d5 < m6 ∧ W4.heap.size = m6 ∧ W5.heap.size = m6 + 1) := Lib.hid ⟨hsw, by omega, hDs, by omega⟩
  clear hD0 hDs hM0 hMB hMs hml hsw
  have HC5 := Lib.hid (HC4.out.below HB5.out)
  have HX5 := Lib.hid (HX4.out.below HB5.out)
  have HJ : Hid (∀ W, Below W4.heap.size W4 W → W.cell? ⟨w.heap.size, 0, none⟩ = some (.slice po c.1.length pc) ∧ W.cell? ⟨w.heap.size, 1, none⟩ = some (.string yc) ∧ W.cell? ⟨w.heap.size + 1, 0, none⟩ = some (.int .i64 x.k) ∧ W.cell? ⟨w.heap.size + 1, 1, none⟩ = some (.string xn) ∧ W.cell? ⟨w.heap.size + 1, 2, none⟩ = some (.string xv) ∧ W.cell? ⟨w.heap.size + 1, 3, none⟩ = some (.int .i64 x.a) ∧ W.cell? ⟨w.heap.size + 1, 4, none⟩ = some (.int .i64 x.b) ∧ W.cell? ⟨w.heap.size + 1, 5, none⟩ = some (.slice uo ul uc)) := Lib.hid (fun W h => by
    have h1 := block_lat h HN4.out.1
    have h2 := block_lat h HN4.out.2
    exact ⟨cell_of_block (o := 0) h1, cell_of_block (o := 1) h1, cell_of_block (o := 0) h2, cell_of_block (o := 1) h2, cell_of_block (o := 2) h2, cell_of_block (o := 3) h2, cell_of_block (o := 4) h2, cell_of_block (o := 5) h2⟩)
  refine wp_region_held_drew (S := fun W => Below W4.heap.size W4 W) (by kernel_rfl) HB5.out.drew ?_
  intro hS
  (refine wpAnyH_take (i := 1) (v := ?_) rfl (by kernel_rfl) (by kernel_rfl) (by kernel_rfl) (fun _ _ _ h => h) (Or.inl ⟨by kernel_rfl, ?hy⟩) (by assumption) ?_; (case hy => (intro W hSw; obtain ⟨x0, x1, x2, x3, x4, x5, x6, x7⟩ := HJ.out W hSw; go_simp; (try with_reducible rfl))); simp only [Act.put])
  (refine wpAnyH_take (i := 2) (v := ?_) rfl (by kernel_rfl) (by kernel_rfl) (by kernel_rfl) (fun _ _ _ h => h) (Or.inl ⟨by kernel_rfl, ?hy⟩) (by assumption) ?_; (case hy => (intro W hSw; obtain ⟨x0, x1, x2, x3, x4, x5, x6, x7⟩ := HJ.out W hSw; go_simp; (try with_reducible rfl))); simp only [Act.put])
  (refine wpAnyH_take (i := 4) (v := ?_) rfl (by kernel_rfl) (by kernel_rfl) (by kernel_rfl) (fun _ _ _ h => h) (Or.inl ⟨by kernel_rfl, ?hy⟩) (by assumption) ?_; (case hy => (intro W hSw; obtain ⟨x0, x1, x2, x3, x4, x5, x6, x7⟩ := HJ.out W hSw; go_simp; (try with_reducible rfl))); simp only [Act.put])
  refine chains (M := 2) (N := 3) (n0 := 3) (MoreR W5.heap.size (fun b => b ≠ m6) W5 c.1 (.cells #[.int .i64 x.k, .string xn, .string xv, .int .i64 x.a, .int .i64 x.b, .slice uo ul uc] 45) _) (fun p q => #[decide (0 < p), true, true, decide (1 < p), true, decide (0 < q), decide (1 < q), decide (2 < q), false, false, false]) (fun p => if p = 0 then 0 else 3) (fun q => 5 + q) ?hf ?hg ?hR ?hF ?hG (fun p q f W h => HB5.out.trans (h.bel.mono HB5.out.size)) ?hE 5 0 0 _ _ (by decide) (by decide) rfl ⟨undef, undef, undef, 0, 0, [], [], rfl, rfl, (Below.refl _ _).drew, fun h => by omega, fun h => by omega, fun h => by omega, fun h => by omega, fun h => by omega⟩
  case hf =>
    intro p q hp hq
    have hp4 : p = 0 ∨ p = 1 := by omega
    rcases hp4 with rfl | rfl <;> rfl
  case hg =>
    intro p q hp hq
    have hq4 : q = 0 ∨ q = 1 ∨ q = 2 := by omega
    rcases hq4 with rfl | rfl | rfl <;> rfl
  case hR =>
    intro p q hp hq h
    have hp4 : p = 0 ∨ p = 1 ∨ p = 2 := by omega
    have hq4 : q = 0 ∨ q = 1 ∨ q = 2 ∨ q = 3 := by omega
    rcases hp4 with rfl | rfl | rfl
    · rcases hq4 with rfl | rfl | rfl | rfl
      · exact rdy_of [0, 5] (by kernel_rfl) (by simp) (by simp)
      · exact rdy_of [0, 6] (by kernel_rfl) (by simp) (by simp)
      · exact rdy_of [0, 7] (by kernel_rfl) (by simp) (by simp)
      · exact rdy_of [0] (by kernel_rfl) (by simp) (by simp)
    · rcases hq4 with rfl | rfl | rfl | rfl
      · exact rdy_of [3, 5] (by kernel_rfl) (by simp) (by simp)
      · exact rdy_of [3, 6] (by kernel_rfl) (by simp) (by simp)
      · exact rdy_of [3, 7] (by kernel_rfl) (by simp) (by simp)
      · exact rdy_of [3] (by kernel_rfl) (by simp) (by simp)
    · rcases hq4 with rfl | rfl | rfl | rfl
      · exact rdy_of [5] (by kernel_rfl) (by simp) (by simp)
      · exact rdy_of [6] (by kernel_rfl) (by simp) (by simp)
      · exact rdy_of [7] (by kernel_rfl) (by simp) (by simp)
      · omega
  case hF =>
    intro p q f w' hp hq h K' hK'
    have hp4 : p = 0 ∨ p = 1 := by omega
    rcases hp4 with rfl | rfl
    · refine ⟨_, rfl, ?_⟩
      have hk := hK' _ _ (h.start hq)
      clear h
      go_simp
      exact hk
    · exact h.app1 (fun W hW => (HC5.out.below hW).mono (fun b hb _ => by have := HLT.out; exact ⟨by omega, by omega⟩)) hla rfl rfl rfl rfl rfl (by simp) hK'
  case hG =>
    intro p q f w' hp hq h K' hK'
    have hq4 : q = 0 ∨ q = 1 ∨ q = 2 := by omega
    rcases hq4 with rfl | rfl | rfl
    · refine ⟨_, rfl, ?_⟩
      have hk := hK' _ _ h.s33
      have he := h.eval (t := 32) (by decide)
      have he' : f.tmps[32]?.getD undef = .agg #[.int .i64 x.k, .string xn, .string xv, .int .i64 x.a, .int .i64 x.b, .slice uo ul uc] := by simpa [Act.eval] using he
      clear he h
      go_simp
      exact hk
    · obtain ⟨B, he, hn⟩ := h.s34 (by simp)
      refine ⟨_, rfl, ?_⟩
      have hk := hK' _ _ hn
      have he' : f.tmps[33]?.getD undef = .slice (some ⟨B, 0, none⟩) 1 1 := by simpa [Act.eval] using he
      clear he h hn
      go_simp
      exact hk
    · obtain ⟨B, he, hn⟩ := h.s35 (by simp)
      refine ⟨_, rfl, ?_⟩
      have hk := hK' _ _ hn
      have he' : f.tmps[34]?.getD undef = .agg #[Value.int .i64 1, Value.slice (some ⟨B, 0, none⟩) 1 1] := by simpa [Act.eval] using he
      clear he h hn
      go_simp
      exact hk
  case hE =>
    intro f w' h
    refine wpAnyH_all (rs := [8]) (by kernel_rfl) (by simp) (fun i hi => ?_)
    obtain rfl : i = 8 := by simpa using hi
    have hb8 := h.bel
    rw [← HXN.out, ← HXV.out] at h
    refine StepW.op fun K hK => h.app (fun c hc => by have := HLT.out; omega) ((HX5.out.below hb8).same (fun _ _ _ => rfl) (fun b hb _ => by have := HLT.out; exact ⟨by omega, by omega⟩)) hla rfl rfl rfl rfl (by simp) fun v1 v2 v3 v4 v5 v' w'' es' hOwn hBel => ?_
    have n1 : Below W4.heap.size W4 w'' := HB5.out.trans (hBel.mono HB5.out.size)
    refine hK _ _ ⟨n1, ?_⟩
    have hP : ptK.P w'' (fun b => b ≠ m6) v' (c.1 ++ [(1, [x])]) := RK.P.ofRow hOwn.own (hOwn.row.mono (fun b hb _ => hb.1)) (fun b hb _ => by have := HLT.out; omega)
    obtain ⟨no, nc, rfl, nv1, nv2⟩ := hP.form
    generalize hnl : (c.1 ++ [(1, [x])]).length = nl at *
    have HNL := Lib.hid hnl
    have HP := Lib.hid hP
    have HS0 := Lib.hid n1
    have HM0 := Lib.hid ((hBel.block m6 (by have := HLT.out; omega)).trans HM5.out)
    have hS := n1
    clear hK h hb8 hOwn hBel n1 hP hnl HJ HC5 HX5 HM5
    simp only [Act.put]
    have HJ : Hid (∀ W : World, Below W4.heap.size W4 W → True ∧ True ∧ True ∧ True) := Lib.hid (fun _ _ => ⟨trivial, trivial, trivial, trivial⟩)
    (refine wpAnyH_take (i := 9) (v := ?_) rfl (by kernel_rfl) (by kernel_rfl) (by kernel_rfl) (fun _ _ _ h => h) (Or.inl ⟨by kernel_rfl, ?hy⟩) (by assumption) ?_; (case hy => (intro W hSw; obtain ⟨x0, x1, x2, x3⟩ := HJ.out W hSw; go_simp; (try with_reducible rfl))); simp only [Act.put])
    have m0' := cell_of_block (o := 0) HM0.out
    have m1' := cell_of_block (o := 1) HM0.out
    have mf0 := frozen_blk HM0.out 0
    simp only [List.getElem?_toArray, List.getElem?_cons_zero, List.getElem?_cons_succ] at m0' m1'
    have hlM := lt_of_block HM0.out
    have hmk : W4.heap.size ≤ m6 := by have := HLT.out; omega
    have HS1 : Hid (Below W4.heap.size W4 (w''.setCell ⟨m6, 0, none⟩ (.slice no nl nc))) := Lib.hid (HS0.out.setCell (p := ⟨m6, 0, none⟩) hmk _)
    have HS2 : Hid ((w''.setCell ⟨m6, 0, none⟩ (.slice no nl nc)).heap[m6]? = some (.cells #[.slice no nl nc, .string yc] 31)) := Lib.hid (by have hh := HM0.out; simp [World.setCell, Array.getElem?_modify, hh])
    have HS3 : Hid (ptK.P (w''.setCell ⟨m6, 0, none⟩ (.slice no nl nc)) (fun _ => True) (.slice no nl nc) (c.1 ++ [(1, [x])])) := Lib.hid (HP.out.same (fun b hb _ => by rw [Below.heap_setCell _ _ _ _ hb]) (fun _ _ _ => trivial))
    refine wpAnyH_ready (rs := [10]) (by kernel_rfl) (by simp) ?_
    refine AllReadyH.cons rfl (fun K hK => ?_) AllReadyH.nil
    go_simp
    refine hK.out _ _ HS1.out ?_
    intro hz
    clear hz hK K m0' m1' mf0 hlM hmk HP HS0 HM0 hS HJ HB5
    change wpAnyH _ _ _ _ _ _ _ _ (w''.setCell ⟨m6, 0, none⟩ (.slice no nl nc))
    generalize (w''.setCell ⟨m6, 0, none⟩ (.slice no nl nc)) = W6 at *
    refine wpAnyH_done (by kernel_rfl) ?_ _
    have HC6 := Lib.hid (HC4.out.below HS1.out)
    have HN6 := Lib.hid (block_lat HS1.out HN4.out.1)
    have HD6 := Lib.hid (block_lat HS1.out HD4.out)
    have HW6 := Lib.hid (HW4.out.trans (HS1.out.mono HW4.out.size))
    clear HC4 HX4 HN4 HD4 HW4 HS1 HMS HDS
    have k0 := cell_of_block (o := 0) HN6.out
    have k1 := cell_of_block (o := 1) HN6.out
    simp only [List.getElem?_toArray, List.getElem?_cons_zero, List.getElem?_cons_succ] at k0 k1
    go_wp2_with fail
    have HJ : Hid (∀ W, Below W6.heap.size W6 W → W.cell? ⟨w.heap.size, 0, none⟩ = some (.slice po c.1.length pc) ∧ W.cell? ⟨w.heap.size, 1, none⟩ = some (.string yc) ∧ True ∧ True) := Lib.hid (fun W h => ⟨cell_latr h k0, cell_latr h k1, trivial, trivial⟩)
    clear k0 k1
    refine wp_region_held_drew (S := fun W => Below W6.heap.size W6 W) (by kernel_rfl) (Below.refl _ _).drew ?_
    intro hS
    (refine wpAnyH_take (i := 0) (v := ?_) rfl (by kernel_rfl) (by kernel_rfl) (by kernel_rfl) (fun _ _ _ h => h) (Or.inl ⟨by kernel_rfl, ?hy⟩) (by assumption) ?_; (case hy => (intro W hSw; obtain ⟨x0, x1, x2, x3⟩ := HJ.out W hSw; go_simp; (try with_reducible rfl))); simp only [Act.put])
    (refine wpAnyH_take (i := 1) (v := ?_) rfl (by kernel_rfl) (by kernel_rfl) (by kernel_rfl) (fun _ _ _ h => h) (Or.inl ⟨by kernel_rfl, ?hy⟩) (by assumption) ?_; (case hy => (intro W hSw; obtain ⟨x0, x1, x2, x3⟩ := HJ.out W hSw; go_simp; (try with_reducible rfl))); simp only [Act.put])
    refine chains (M := 1) (N := 1) (n0 := 2) (TwoR W6 (.cells #[.slice none 0 0, .string ⟨#[]⟩] 31) 7 8 _) (fun p q => #[true, true, decide (0 < p), decide (0 < q), false, false]) (fun _ => 2) (fun _ => 3) ?hf ?hg ?hR ?hF ?hG (fun p q f W h => h.bel) ?hE 2 0 0 _ _ (by decide) (by decide) rfl ⟨0, 0, rfl, ⟨hS, fun h => (by cases h), fun h => (by cases h), fun h => (by cases h), fun h => (by cases h), fun h => (by cases h), fun h => (by cases h)⟩⟩
    case hf =>
      intro p q hp hq
      obtain rfl : p = 0 := by omega
      rfl
    case hg =>
      intro p q hp hq
      obtain rfl : q = 0 := by omega
      rfl
    case hR =>
      intro p q hp hq h
      have hp2 : p = 0 ∨ p = 1 := by omega
      have hq2 : q = 0 ∨ q = 1 := by omega
      rcases hp2 with rfl | rfl
      · rcases hq2 with rfl | rfl
        · exact rdy_of [2, 3] (by kernel_rfl) (by simp) (by simp)
        · exact rdy_of [2] (by kernel_rfl) (by simp) (by simp)
      · rcases hq2 with rfl | rfl
        · exact rdy_of [3] (by kernel_rfl) (by simp) (by simp)
        · omega
    case hF =>
      intro p q f w' hp hq h K' hK'
      obtain rfl : p = 0 := by omega
      refine ⟨_, rfl, ?_⟩
      have hk := hK' _ _ (h.a (by decide))
      clear h
      go_simp
      exact hk
    case hG =>
      intro p q f w' hp hq h K' hK'
      obtain rfl : q = 0 := by omega
      refine ⟨_, rfl, ?_⟩
      have hk := hK' _ _ h.b
      clear h
      go_simp
      exact hk
    case hE =>
      intro f W7 h
      obtain ⟨A, B, rfl, hm⟩ := h
      obtain ⟨hAK, hAx⟩ := hm.a rfl
      obtain ⟨hBK, hBx⟩ := hm.b rfl
      have hab := hm.ab rfl rfl
      have HS : Hid (Below W6.heap.size W6 W7) := Lib.hid hm.bel
      have HA := Lib.hid hAx
      have HB := Lib.hid hBx
      clear hm hAx hBx hS
      simp only [pIf, Nat.lt_add_one, Nat.zero_lt_succ, Nat.reduceLT, decide_true, if_true, Act.put]
      (have hlA := lt_of_block HA.out; have a0 := cell_of_block (o := 0) HA.out; have a1 := cell_of_block (o := 1) HA.out; have f0 := frozen_blk HA.out 0; have f1 := frozen_blk HA.out 1; simp only [List.getElem?_toArray, List.getElem?_cons_zero, List.getElem?_cons_succ] at a0 a1; (refine wpAnyH_ready (rs := [4]) (by kernel_rfl) (by simp) ?_); (refine AllReadyH.cons rfl (fun K hK => ?_) AllReadyH.nil); go_simp; clear a0 a1 f0 f1 hlA; have HT := Lib.hid ((st2_below HS.out hAK (.slice po c.1.length pc) (.string yc))); (refine hK.out _ _ HT.out ?_); intro hz; clear hz hK K)
      have HA2 := Lib.hid (st2_same (u := .slice po c.1.length pc) (v := .string yc) HA.out)
      have HB2 := Lib.hid ((st2_other (u := .slice po c.1.length pc) (v := .string yc) (W := W7) hab).trans HB.out)
      change wpAnyH _ _ _ _ _ _ _ _ (st2 W7 A (.slice po c.1.length pc) (.string yc))
      generalize st2 W7 A (.slice po c.1.length pc) (.string yc) = W8 at *
      clear HA HB HS
      (have hlA := lt_of_block HB2.out; have a0 := cell_of_block (o := 0) HB2.out; have a1 := cell_of_block (o := 1) HB2.out; have f0 := frozen_blk HB2.out 0; have f1 := frozen_blk HB2.out 1; simp only [List.getElem?_toArray, List.getElem?_cons_zero, List.getElem?_cons_succ] at a0 a1; (refine wpAnyH_ready (rs := [5]) (by kernel_rfl) (by simp) ?_); (refine AllReadyH.cons rfl (fun K hK => ?_) AllReadyH.nil); go_simp; clear a0 a1 f0 f1 hlA; have HT := Lib.hid ((st2_below HT.out hBK (.slice po c.1.length pc) (.string yc))); (refine hK.out _ _ HT.out ?_); intro hz; clear hz hK K)
      have HA3 := Lib.hid ((st2_other (u := .slice po c.1.length pc) (v := .string yc) (W := W8) hab.symm).trans HA2.out)
      have HB3 := Lib.hid (st2_same (u := .slice po c.1.length pc) (v := .string yc) HB2.out)
      change wpAnyH _ _ _ _ _ _ _ _ (st2 W8 B (.slice po c.1.length pc) (.string yc))
      generalize st2 W8 B (.slice po c.1.length pc) (.string yc) = W9 at *
      clear HA2 HB2
      refine wpAnyH_done (by kernel_rfl) ?_ _
      have a1 := cell_of_block (o := 1) HA3.out
      have f1 := frozen_blk HA3.out 1
      have hlA := lt_of_block HA3.out
      have b1 := cell_of_block (o := 1) HB3.out
      have fb1 := frozen_blk HB3.out 1
      have hlB := lt_of_block HB3.out
      have hba : ¬ B = A := hab.symm
      simp only [List.getElem?_toArray, List.getElem?_cons_zero, List.getElem?_cons_succ] at a1 b1
      have HT2 : Hid (Below W6.heap.size W6 (W9.setCell ⟨A, 1, none⟩ (.string ⟨#[]⟩))) := Lib.hid (HT.out.setCell (p := ⟨A, 1, none⟩) hAK _)
      have HA4 : Hid ((W9.setCell ⟨A, 1, none⟩ (.string ⟨#[]⟩)).heap[A]? = some (.cells #[.slice po c.1.length pc, .string ⟨#[]⟩] 31)) := Lib.hid (by have hh := HA3.out; simp [World.setCell, Array.getElem?_modify, hh])
      have HB4 : Hid ((W9.setCell ⟨A, 1, none⟩ (.string ⟨#[]⟩)).heap[B]? = some (.cells #[.slice po c.1.length pc, .string yc] 31)) := Lib.hid ((Below.heap_setCell _ _ _ _ hba).trans HB3.out)
      go_wp2_with fail
      have HT3 : Hid (Below W6.heap.size W6 ((W9.setCell ⟨A, 1, none⟩ (.string ⟨#[]⟩)).setCell ⟨B, 1, none⟩ (.string ⟨#[97, 102, 116, 101, 114]⟩))) := Lib.hid (HT2.out.setCell (p := ⟨B, 1, none⟩) hBK _)
      have HA5 : Hid (((W9.setCell ⟨A, 1, none⟩ (.string ⟨#[]⟩)).setCell ⟨B, 1, none⟩ (.string ⟨#[97, 102, 116, 101, 114]⟩)).heap[A]? = some (.cells #[.slice po c.1.length pc, .string ⟨#[]⟩] 31)) := Lib.hid ((Below.heap_setCell _ _ _ _ hab).trans HA4.out)
      have HB5 : Hid (((W9.setCell ⟨A, 1, none⟩ (.string ⟨#[]⟩)).setCell ⟨B, 1, none⟩ (.string ⟨#[97, 102, 116, 101, 114]⟩)).heap[B]? = some (.cells #[.slice po c.1.length pc, .string ⟨#[97, 102, 116, 101, 114]⟩] 31)) := Lib.hid (by have hh := HB4.out; simp [World.setCell, Array.getElem?_modify] at hh ⊢; simp [hh])
      clear a1 f1 hlA b1 fb1 hlB HT HT2 HA3 HB3 HA4 HB4
      generalize (W9.setCell ⟨A, 1, none⟩ (.string ⟨#[]⟩)).setCell ⟨B, 1, none⟩ (.string ⟨#[97, 102, 116, 101, 114]⟩) = W11 at *
      have HC11 := Lib.hid (HC6.out.below HT3.out)
      have HP11 := Lib.hid (HS3.out.below HT3.out)
      have HM11 := Lib.hid (block_lat HT3.out HS2.out)
      have HD11 := Lib.hid (block_lat HT3.out HD6.out)
      have HW11 := Lib.hid (HW6.out.trans (HT3.out.mono HW6.out.size))
      clear HC6 HS3 HS2 HD6 HN6 HW6 HT3 hAK hBK hab hba
      have HJ : Hid (∀ W, Below W11.heap.size W11 W → W.cell? ⟨A, 0, none⟩ = some (.slice po c.1.length pc) ∧ W.cell? ⟨A, 1, none⟩ = some (.string ⟨#[]⟩) ∧ W.cell? ⟨B, 0, none⟩ = some (.slice po c.1.length pc) ∧ W.cell? ⟨B, 1, none⟩ = some (.string ⟨#[97, 102, 116, 101, 114]⟩)) := Lib.hid (fun W h => ⟨cell_of_block (o := 0) (block_lat h HA5.out), cell_of_block (o := 1) (block_lat h HA5.out), cell_of_block (o := 0) (block_lat h HB5.out), cell_of_block (o := 1) (block_lat h HB5.out)⟩)
      obtain ⟨⟨p0, p1, p2⟩, hp⟩ : ∃ g, Wn.ofP c.1 = g := ⟨_, rfl⟩
      obtain ⟨q2, hq2⟩ : ∃ q, wrap64 (p2 + 1) = q := ⟨_, rfl⟩
      have HQ := Lib.hid hq2
      have Q1 : Hid (∀ W, Below W11.heap.size W11 W → Calls Try.prog 11 #[.agg #[.slice po c.1.length pc, .string ⟨#[]⟩]] W fun e w' => e = .returned (wV (p0, p1, p2)) ∧ Below W.heap.size W w') := Lib.hid (fun W h => by
        have := wOf_v (c.1, []) po pc W ((HC11.out.below h).old)
        have e : Wn.ofC (c.1, []) = (p0, p1, p2) := hp
        rw [e] at this
        exact this)
      have Q2 : Hid (∀ W, Below W11.heap.size W11 W → Calls Try.prog 11 #[.agg #[.slice po c.1.length pc, .string ⟨#[97, 102, 116, 101, 114]⟩]] W fun e w' => e = .returned (wV (p0, p1, q2)) ∧ Below W.heap.size W w') := Lib.hid (fun W h => by
        have := wOf_v (c.1, [97, 102, 116, 101, 114]) po pc W ((HC11.out.below h).old)
        have e : Wn.ofC (c.1, [97, 102, 116, 101, 114]) = (p0, p1, q2) := by
          show Wn.ofEnd [97, 102, 116, 101, 114] (Wn.ofP c.1) = _
          rw [hp, ← hq2]
          rfl
        rw [e] at this
        exact this)
      clear hp hq2
      refine wp_region_held_drew (S := fun W => Below W11.heap.size W11 W) (by kernel_rfl) (Below.refl _ _).drew ?_
      intro hS
      (refine wpAnyH_take (i := 0) (v := ?_) rfl (by kernel_rfl) (by kernel_rfl) (by kernel_rfl) (fun _ _ _ h => h) (Or.inl ⟨by kernel_rfl, ?hy⟩) (by assumption) ?_; (case hy => (intro W hSw; obtain ⟨x0, x1, x2, x3⟩ := HJ.out W hSw; go_simp; (try with_reducible rfl))); simp only [Act.put])
      (refine wpAnyH_take (i := 2) (v := ?_) rfl (by kernel_rfl) (by kernel_rfl) (by kernel_rfl) (fun _ _ _ h => h) (Or.inl ⟨by kernel_rfl, ?hy⟩) (by assumption) ?_; (case hy => (intro W hSw; obtain ⟨x0, x1, x2, x3⟩ := HJ.out W hSw; go_simp; (try with_reducible rfl))); simp only [Act.put])
      refine weaveH (w1 := W11) (z := w3w (0, 0, 0)) (x1 := wV (p0, p1, p2)) (x2 := wV (p0, p1, q2)) (k1 := 1) (k2 := 3) (i1 := 4) (i2 := 5) (e1 := 43) (e2 := 45) (d1 := 9) (d2 := 10) (u1 := 42) (u2 := 44) (n0 := 2) (fun c b3 b4 => #[true, decide (0 < c), true, decide (1 < c), b3, b4, false, false]) (fun _ _ => rfl) (fun _ _ => rfl) (fun _ _ => rfl) (fun _ _ => rfl) (by decide) (by decide) (by decide) ?hR ?hC1 ?hC2 ?hA ?hB ?hE 4 0 false false 0 0 _ (by decide) rfl ⟨hS, fun h => (by cases h), fun h => (by cases h), fun h => (by cases h), fun h => (by cases h), fun h => (by cases h), fun h => (by cases h)⟩
      case hR =>
        intro c b3 b4 hc h
        have hc4 : c = 0 ∨ c = 1 ∨ c = 2 := by omega
        rcases hc4 with rfl | rfl | rfl <;> cases b3 <;> cases b4 <;> first | (simp at h; done) | (show Region.ready _ _ _ = _; kernel_rfl)
      case hA =>
        intro f W K h
        refine ⟨_, rfl, ?_⟩
        go_simp
        exact h
      case hB =>
        intro f W K h
        refine ⟨_, rfl, ?_⟩
        go_simp
        exact h
      case hC1 =>
        intro f W K he hb h
        refine ⟨_, rfl, ?_⟩
        have he' : f.tmps[42]?.getD undef = .agg #[.slice po c.1.length pc, .string ⟨#[]⟩] := by simpa [Act.eval] using he
        clear he
        go_simp
        refine (Q1.out _ hb).mono ?_
        rintro e w' ⟨rfl, b⟩
        exact h _ b
      case hC2 =>
        intro f W K he hb h
        refine ⟨_, rfl, ?_⟩
        have he' : f.tmps[44]?.getD undef = .agg #[.slice po c.1.length pc, .string ⟨#[97, 102, 116, 101, 114]⟩] := by simpa [Act.eval] using he
        clear he
        go_simp
        refine (Q2.out _ hb).mono ?_
        rintro e w' ⟨rfl, b⟩
        exact h _ b
      case hE =>
        intro X Y W12 hM
        clear hS HJ Q1 Q2
        simp only [frH, pIf, Nat.lt_add_one, Nat.reduceLT, decide_true, if_true, Act.put]
        obtain ⟨hbl, ha, hb, _, hab, _, _⟩ := hM
        obtain ⟨hNX, hX⟩ := ha rfl
        obtain ⟨hNY, hY⟩ := hb rfl
        have hab := hab rfl rfl
        have HS : Hid (Below W11.heap.size W11 W12) := Lib.hid hbl
        have HA := Lib.hid hX
        have HB := Lib.hid hY
        clear ha hb hX hY hbl
        (have hlA := lt_of_block HA.out; have a0 := cell_of_block (o := 0) HA.out; have a1 := cell_of_block (o := 1) HA.out; have a2 := cell_of_block (o := 2) HA.out; have f0 := frozen_blk HA.out 0; have f1 := frozen_blk HA.out 1; have f2 := frozen_blk HA.out 2; simp only [List.getElem?_toArray, List.getElem?_cons_zero, List.getElem?_cons_succ] at a0 a1 a2; (refine wpAnyH_ready (rs := [6]) (by kernel_rfl) (by simp) ?_); (refine AllReadyH.cons rfl (fun K hK => ?_) AllReadyH.nil); go_simp; clear a0 a1 a2 f0 f1 f2 hlA; have HT := Lib.hid ((st3_below HS.out hNX (p0, p1, p2))); (refine hK.out _ _ HT.out ?_); intro hz; clear hz hK K)
        have HA2 := Lib.hid (st3_same (y := (p0, p1, p2)) HA.out)
        have HB2 := Lib.hid ((st3_other (y := (p0, p1, p2)) (W := W12) hab).trans HB.out)
        change wpAnyH _ _ _ _ _ _ _ _ (st3 W12 X (p0, p1, p2))
        generalize st3 W12 X (p0, p1, p2) = W13 at *
        clear HA HB HS
        (have hlA := lt_of_block HB2.out; have a0 := cell_of_block (o := 0) HB2.out; have a1 := cell_of_block (o := 1) HB2.out; have a2 := cell_of_block (o := 2) HB2.out; have f0 := frozen_blk HB2.out 0; have f1 := frozen_blk HB2.out 1; have f2 := frozen_blk HB2.out 2; simp only [List.getElem?_toArray, List.getElem?_cons_zero, List.getElem?_cons_succ] at a0 a1 a2; (refine wpAnyH_ready (rs := [7]) (by kernel_rfl) (by simp) ?_); (refine AllReadyH.cons rfl (fun K hK => ?_) AllReadyH.nil); go_simp; clear a0 a1 a2 f0 f1 f2 hlA; have HT := Lib.hid ((st3_below HT.out hNY (p0, p1, q2))); (refine hK.out _ _ HT.out ?_); intro hz; clear hz hK K)
        have HXX := Lib.hid ((st3_other (y := (p0, p1, q2)) (W := W13) hab.symm).trans HA2.out)
        have HYY := Lib.hid (st3_same (y := (p0, p1, q2)) HB2.out)
        change wpAnyH _ _ _ _ _ _ _ _ (st3 W13 Y (p0, p1, q2))
        generalize st3 W13 Y (p0, p1, q2) = W14 at *
        clear HA2 HB2
        refine wpAnyH_done (by kernel_rfl) ?_ _
        have HP14 := Lib.hid (HP11.out.below HT.out)
        have HM14 := Lib.hid (block_lat HT.out HM11.out)
        have HD14 := Lib.hid (block_lat HT.out HD11.out)
        have HF := Lib.hid (HW11.out.trans (HT.out.mono HW11.out.size))
        clear HC11 HP11 HM11 HD11 HW11 HT HA5 HB5 hNX hNY hab
        go_wp2_with fail
        have x0 := cell_regrown (cell_of_block (o := 0) HXX.out : W14.cell? ⟨X, 0, Option.none⟩ = some (.int .i64 p0))
        have x1 := cell_regrown (cell_of_block (o := 1) HXX.out : W14.cell? ⟨X, 0 + 1, Option.none⟩ = some (.int .i64 p1))
        have x2 := cell_regrown (cell_of_block (o := 2) HXX.out : W14.cell? ⟨X, 0 + 2, Option.none⟩ = some (.int .i64 p2))
        have y0 := cell_regrown (cell_of_block (o := 0) HYY.out : W14.cell? ⟨Y, 0, Option.none⟩ = some (.int .i64 p0))
        have y1 := cell_regrown (cell_of_block (o := 1) HYY.out : W14.cell? ⟨Y, 0 + 1, Option.none⟩ = some (.int .i64 p1))
        have y2 := cell_regrown (cell_of_block (o := 2) HYY.out : W14.cell? ⟨Y, 0 + 2, Option.none⟩ = some (.int .i64 q2))
        have z0 := cell_regrown (cell_of_block (o := 0) HD14.out : W14.cell? ⟨d5, 0, Option.none⟩ = some (.int .i64 g0))
        have z1 := cell_regrown (cell_of_block (o := 1) HD14.out : W14.cell? ⟨d5, 1, Option.none⟩ = some (.int .i64 g1))
        have z2 := cell_regrown (cell_of_block (o := 2) HD14.out : W14.cell? ⟨d5, 2, Option.none⟩ = some (.int .i64 g2))
        have m0 := cell_regrown (cell_of_block (o := 0) HM14.out : W14.cell? ⟨m6, 0, Option.none⟩ = some (.slice no nl nc))
        have m1 := cell_regrown (cell_of_block (o := 1) HM14.out : W14.cell? ⟨m6, 1, Option.none⟩ = some (.string yc))
        have e2 : IntKind.i64.wrap (p2 + 1) = q2 := (wrap_w64m _).trans HQ.out
        obtain ⟨⟨h0, h1, h2⟩, hh⟩ : ∃ g, Wn.ofC (c.1 ++ [(1, [x])], c.2) = g := ⟨_, rfl⟩
        have C1 : Hid (∀ d os, Calls Try.prog 11 #[.agg #[.slice no nl nc, .string yc]] (grow (redrawn W14 d) os) fun e w'' => e = .returned (wV (h0, h1, h2)) ∧ ∃ p : Regrown, w'' = grow (redrawn W14 p.d) p.os) := Lib.hid (fun d os => by
          have h := (HP14.out.below (below_regrown W14 d os)).old
          rw [← HNL.out] at h
          have := wOf_v (c.1 ++ [(1, [x])], c.2) no nc _ h
          dsimp only at this
          rw [HNL.out, HYC.out, hh] at this
          exact Calls.regrown_of this)
        have C2 : Hid (∀ d os, Calls Try.prog 13 #[wV (h0, h1, h2), wV (g0, g1, g2)] (grow (redrawn W14 d) os) fun e w'' => e = .returned (.bool false) ∧ ∃ p : Regrown, w'' = grow (redrawn W14 p.d) p.os) := Lib.hid (fun d os => by
          have := less_v (h0, h1, h2) (g0, g1, g2) (grow (redrawn W14 d) os)
          have e := HML.out
          rw [hh, HG.out] at e
          rw [e] at this
          exact Calls.regrown_of this)
        clear hh HXX HYY HD14 HM14 HP14 HML HG HQ HNL HLT HUL HXN HXV HYC HCL
        (refine wp_region_quiet_below (by kernel_rfl) (by kernel_rfl) ?_); (repeat (first | go_big_quiet_skip | quiet_step (first | with_reducible exact C1.out _ _ | with_reducible exact C2.out _ _))); (refine wpQuiet_nil ?_); intro _ hw'; obtain ⟨⟨dq, osq⟩, hw''⟩ := hw'; subst hw''
        go_wp2_with fail
        go_ret
        exact ⟨rfl, HF.out.trans ((below_regrown W14 _ _).mono HF.out.size)⟩
end Go.Proofs.Ytbjhiimjillleaa
set_option maxRecDepth 20000
namespace Go.Proofs.Ytbjhiimjillleaa.WMore
open Go.ChangeShapes Go.WideShapes Go.ChangeAt Go.RowKit
open Go.ChangeMaps (open_string shut_string)
noncomputable def laidWorld (os : Os) : World := World.holding Try.prog os ⟨#[], #[], []⟩
theorem contract (H : Type) (enc : TypeId × Value → H) (W : World) (base : Nat) (args : Array Value) (ds gs : List (DataW H)) (before : List MemPlace)
    (hval : ∀ (j : Nat) t v, Try.f7.params[j]? = some t → args[j]? = some v → Value.okWide Try.prog W .any base t v)
    (hW : DataW.Whole enc Try.prog Try.f7.params.toList Rows.weightMoreSpec.vars false W args.toList ds gs before) (_hL : laidMetH Try.prog Rows.weightMoreRow.laid W)
    (hz : (DataW.weightsEach Try.prog (Try.f7.params.toList ++ (OpenSpec.ofChange Rows.weightMoreSpec).bare.plain.varTypes Try.prog) (ds ++ gs)).all (fun x => decide (x ≤ reachBytes)) = true) :
    Calls Try.prog 7 args W fun e W' => ∃ v, e = .returned v ∧ Rows.weightMoreSpec.post enc Try.prog Try.f7 false true false false W args v W' := by
  have hW' := hW
  obtain ⟨p, q, hA0, hV, rfl, hfz, hnd⟩ := hW
  have hA : DataW.TrodAll enc Try.prog W 0 (fun _ => true) true Try.f7.params.toList args.toList ds p := hA0
  rw [Try.params7] at hA hval hz
  obtain ⟨v0, vs0, d0, ds0, p0, q0, hargs, rfl, rfl, h0, r0⟩ := trodAll_cons hA
  obtain ⟨v1, vs1, d1, ds1, p1, q1, rfl, rfl, rfl, h1, r1⟩ := trodAll_cons r0
  obtain ⟨rfl, rfl, rfl⟩ := trodAll_nil r1
  obtain rfl : args = #[v0, v1] := by cases args; simp_all
  obtain ⟨rfl, rfl⟩ := trodVars_none hV
  obtain ⟨c0, po0, pc0, hv0, hp0, hb0⟩ := open_cx (hval 0 31 v0 rfl rfl) h0
  have hb0 := hb0 fun m hm => of_decide_eq_true (List.all_eq_true.1 hz m (DataW.weights_mem_each (j := 0) rfl rfl m hm))
  subst hv0
  obtain ⟨x1, uo1, uc1, hv1, hp1⟩ := open_sm (hval 1 45 v1 rfl rfl) h1
  subst hv1
  clear hA0 hz
  simp only [List.append_nil] at hW'
  have hlt : ∀ x ∈ (p0 ++ p1), x.block < W.heap.size := fun x hx => hW'.lt x hx
  refine (lwMore_any c0 x1 po0 uo1 pc0 uc1 W hp0 hb0 hp1).mono fun e W' ⟨he, hb⟩ => ?_
  subst he
  exact ⟨_, rfl, post_of_below (pa := (p0 ++ (p1 ++ []))) (pv := []) hW' (fun _ _ _ => trodAll_cons_mk (shut_bool Try.underlying4 _) trodAll_mk0)
    (fun sp hsp => (trodAll_cons_mk (again (t := 31) (by kernel_rfl) (by decide) h0 hb (fun x hx => hlt x (by simp [hx])) (fun x hx => hsp x (by simp [hx])))
      (trodAll_cons_mk (again (t := 45) (by kernel_rfl) (by decide) h1 hb (fun x hx => hlt x (by simp [hx])) (fun x hx => hsp x (by simp [hx])))
      trodAll_mk0))) (fun _ _ => rfl) (by simp) hb
    (ok_one (by kernel_rfl) rfl (okWide_bool_mk Try.underlying4 _))⟩
theorem laid_met (os : Os) : laidMet Try.prog Rows.weightMoreRow.laid ((laidWorld os).forCall (fun _ _ => 0) ⟨#[], #[.agg #[.slice none 0 0, .string ⟨#[]⟩], .agg #[.int .i64 0, .string ⟨#[]⟩, .string ⟨#[]⟩, .int .i64 0, .int .i64 0, .slice none 0 0]], []⟩).memory :=
  laidMet_of_run' 8 (by kernel_rfl) (by kernel_rfl)
theorem reads (os : Os) {H : Type} (enc : TypeId × Value → H) : ∃ places, DataW.whole enc Try.prog ((laidWorld os).forCall (fun _ _ => 0) ⟨#[], #[.agg #[.slice none 0 0, .string ⟨#[]⟩], .agg #[.int .i64 0, .string ⟨#[]⟩, .string ⟨#[]⟩, .int .i64 0, .int .i64 0, .slice none 0 0]], []⟩).memory Try.f7.params.toList Rows.weightMoreSpec.vars false #[Value.agg #[.slice none 0 0, .string ⟨#[]⟩], Value.agg #[.int .i64 0, .string ⟨#[]⟩, .string ⟨#[]⟩, .int .i64 0, .int .i64 0, .slice none 0 0]].toList 8 = some ([.agg [.nil, .lit (.string [])], .agg [.lit (.int .i64 0), .lit (.string []), .lit (.string []), .lit (.int .i64 0), .lit (.int .i64 0), .nil]], [], places) :=
  ⟨[], by kernel_rfl⟩
set_option maxRecDepth 100000 in
theorem lifted (os : Os) (started : os.Started) (H : Type) (enc : TypeId × Value → H) (F : Stop.Interp) :
    ReturnsInHanded {} Try.checked os 7 .any ((OpenSpec.ofChange Rows.weightMoreSpec).preRow enc Try.prog Try.f7 Rows.weightMoreRow.domain false Rows.weightMoreRow.laid) (((OpenSpec.ofChange Rows.weightMoreSpec).at F).post enc Try.prog Try.f7 false true false false) := by
  obtain ⟨places, hx⟩ := reads os enc
  refine returnsInHanded_of_row (C := Try.checked) (s := OpenSpec.ofChange Rows.weightMoreSpec) own started (by kernel_rfl) Try.func7
    (witness_row_at (enc := enc) (C := Try.checked) false (laidWorld os) #[.agg #[.slice none 0 0, .string ⟨#[]⟩], .agg #[.int .i64 0, .string ⟨#[]⟩, .string ⟨#[]⟩, .int .i64 0, .int .i64 0, .slice none 0 0]] rfl (by kernel_rfl) (by kernel_rfl) (by kernel_rfl)
      (OpenSpec.preRow_of_cond 8 hx (by kernel_rfl) (fun k hk => by cases hk) (by kernel_rfl) (laid_met os))) ?_
  intro W base args ds gs before hval hW _ _ hz hL _ _
  exact contract H enc W base args ds gs before hval hW hL hz
theorem said : Rows.WeightMoreSaid :=
  OpenClaim.holds_of_cond 7 Try.f7 rfl rfl rfl rfl rfl rfl rfl ⟨rfl, rfl, rfl, rfl, rfl⟩ rfl rfl rfl rfl rfl (by kernel_rfl) Try.func7 (by kernel_rfl)
    (of_decide_eq_true (by kernel_rfl)) (by unfold Func.isWrapper; first | (rw [if_pos (by decide +kernel)]; kernel_rfl) | (rw [if_neg (by decide +kernel)]; exact ⟨rfl, rfl⟩))
    (fun os started H enc _ F => by rw [OpenClaim.pre_eq_preRow]; exact lifted os started H enc F)
end Go.Proofs.Ytbjhiimjillleaa.WMore
namespace Go.Proofs.Ytbjhiimjillleaa
open Go
theorem weightMore_holds : Rows.WeightMoreSaid := WMore.said
end Go.Proofs.Ytbjhiimjillleaa
