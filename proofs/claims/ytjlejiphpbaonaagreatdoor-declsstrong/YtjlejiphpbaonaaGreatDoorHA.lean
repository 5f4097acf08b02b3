/- Slices of records in memory, of any kind: what they read as, and rows of one's own. What changes no block but some. Slices of records that were just laid. Selectors, as the document has them: plain mathematics. -/
import Derived.Test.YtjlejiphpbaonaaGreatDoorGR
import Derived.Maps.AppendAt
import Derived.Test.YtjlejiphpbaonaaGreatDoorGY
set_option linter.unusedVariables false
set_option linter.unusedSimpArgs false
set_option maxRecDepth 20000
namespace Go.Proofs.YtjlejiphpbaonaaGreatDoor
open Go.RowKit Go.Sort
/-- all blocks that there were are as they were, but for some -/
structure Kp (S : Nat → Prop) (w w' : World) : Prop where
  os : w'.os = w.os
  tape : w'.tape = w.tape
  output : w'.output = w.output
  size : w.heap.size ≤ w'.heap.size
  block : ∀ k, k < w.heap.size → ¬ S k → w'.heap[k]? = w.heap[k]?
section
variable {S : Nat → Prop} {w w' w2 : World}
theorem Kp.refl (S : Nat → Prop) (w : World) : Kp S w w := ⟨rfl, rfl, rfl, Nat.le_refl _, fun _ _ _ => rfl⟩
theorem Kp.trans (h : Kp S w w') (k : Kp S w' w2) : Kp S w w2 :=
  ⟨k.os.trans h.os, k.tape.trans h.tape, k.output.trans h.output, Nat.le_trans h.size k.size, fun i hi hb => (k.block i (Nat.lt_of_lt_of_le hi h.size) hb).trans (h.block i hi hb)⟩
theorem Kp.mono {S' : Nat → Prop} (h : Kp S w w') (hs : ∀ b, S b → S' b) : Kp S' w w' := ⟨h.os, h.tape, h.output, h.size, fun k hk hn => h.block k hk (fun hb => hn (hs k hb))⟩
/-- blocks that are new do not count -/
theorem Kp.andThen {S' : Nat → Prop} (h : Kp S w w') (k : Kp S' w' w2) (hs : ∀ b, b < w.heap.size → S' b → S b) : Kp S w w2 :=
  ⟨k.os.trans h.os, k.tape.trans h.tape, k.output.trans h.output, Nat.le_trans h.size k.size, fun i hi hb => (k.block i (Nat.lt_of_lt_of_le hi h.size) (fun hb' => hb (hs i hi hb'))).trans (h.block i hi hb)⟩
theorem Kp.drew (h : Kp S w w') : Kp S w w'.drew := ⟨h.os, h.tape, h.output, h.size, h.block⟩
theorem Kp.drewN (h : Kp S w w') (n : Nat) : Kp S w (w'.drewN n) := h.trans ⟨rfl, rfl, rfl, Nat.le_refl _, fun _ _ _ => rfl⟩
theorem Kp.alloc (h : Kp S w w') (o : Obj) : Kp S w (w'.alloc o) := h.trans ⟨rfl, rfl, rfl, by simp, fun k hk _ => Below.heap_alloc _ _ _ hk⟩
theorem Kp.setCell (h : Kp S w w') {p : Addr} (hp : S p.block ∨ w.heap.size ≤ p.block) (u : Value) : Kp S w (w'.setCell p u) :=
  ⟨h.os, h.tape, h.output, Nat.le_trans h.size (by simp [World.setCell]), fun k hk hn => (Below.heap_setCell _ _ _ _ (by rintro rfl; rcases hp with hp | hp; exact hn hp; omega)).trans (h.block k hk hn)⟩
theorem Kp.setN {N b o : Nat} (h : Kp (fun b => N ≤ b) w w') (hb : N ≤ b) (u : Value) : Kp (fun b => N ≤ b) w (w'.setCell ⟨b, o, none⟩ u) := h.setCell (.inl hb) u
theorem Only.kp {g : Nat} (h : Only g w w') : Kp (fun b => b = g) w w' := ⟨h.os, h.tape, h.output, h.size, h.block⟩
theorem Kp.only {g : Nat} (h : Kp (fun b => b = g) w w') : Only g w w' := ⟨h.os, h.tape, h.output, h.size, h.block⟩
theorem Below.kp (h : Below w.heap.size w w') : Kp S w w' := ⟨h.os, h.tape, h.output, h.size, fun k hk _ => h.block k hk⟩
theorem Kp.below {B : Nat} (h : Kp S w w') (hB : B ≤ w.heap.size) (hs : ∀ b, S b → B ≤ b) : Below B w w' := ⟨h.os, h.tape, h.output, h.size, fun k hk => h.block k (Nat.lt_of_lt_of_le hk hB) (fun hb => by have := hs k hb; omega)⟩
theorem Kp.cell (h : Kp S w w') {a : Addr} {u : Value} (hc : w.cell? a = some u) (hs : ¬ S a.block) : w'.cell? a = some u :=
  (World.cell?_of_block (h.block a.block (World.block_lt_of_cell? _ _ hc) hs)).trans hc
theorem Kp.grown (h : Kp S w w') {row : Option Nat} (hg : w'.grownBy w2 row) (hs : ∀ r, row = some r → r < w.heap.size → S r) : Kp S w w2 :=
  ⟨hg.os.trans h.os, hg.tape.trans h.tape, hg.output.trans h.output, Nat.le_trans h.size hg.size, fun k hk hn => (hg.block k (Nat.lt_of_lt_of_le hk h.size) (fun e => hn (hs k e.symm hk))).trans (h.block k hk hn)⟩
end
/-- cells that lie from a place on -/
def Lie (w : World) (b o : Nat) (cs : List Value) : Prop := ∀ j c, cs[j]? = some c → w.cell? ⟨b, o + j, none⟩ = some c
theorem Lie.block {w w' : World} {b o : Nat} {cs : List Value} (h : Lie w b o cs) (hb : w'.heap[b]? = w.heap[b]?) : Lie w' b o cs := fun j c hj => (World.cell?_of_block (a := ⟨b, o + j, none⟩) hb).trans (h j c hj)
/-- how records of a kind lie in cells, and their types -/
structure RK (α : Type) where
  e : TypeId
  t : TypeId
  sz : Nat
  z : Value
  bytes : Nat
  under : Tryz.prog.underlying t = some (.slice e)
  info : (Tryz.prog.info? e).map (fun i => (i.zero, i.size, i.bytes)) = some (some z, sz, bytes)
  zsz : z.cells.size = sz
  pos : 0 < sz
  few : bytes ≤ 1024
  R : World → (Nat → Prop) → List Value → α → Prop
  len : ∀ {w ok cs x}, R w ok cs x → cs.length = sz
  one : ∀ {w ok cs x}, R w ok cs x → ∀ c ∈ cs, c.oneCell' = true
  same : ∀ {w w' : World} {ok ok' : Nat → Prop} {cs x}, (∀ b, ok b → b < w.heap.size → w'.heap[b]? = w.heap[b]?) → (∀ b, ok b → b < w.heap.size → ok' b) → R w ok cs x → R w' ok' cs x
namespace RK
variable {α : Type} (K : RK α)
/-- a slice that reads as records -/
def P (w : World) (ok : Nat → Prop) (v : Value) (l : List α) : Prop :=
  ∃ ao cap, v = .slice ao l.length cap ∧ l.length ≤ cap ∧ cap ≤ maxLen ∧ (ao = none → cap = 0) ∧
    (l ≠ [] → ∃ b o, ao = some ⟨b, o, none⟩ ∧ ok b ∧ b < w.heap.size ∧ ∀ i x, l[i]? = some x → ∃ cs, K.R w ok cs x ∧ Lie w b (o + i * K.sz) cs)
/-- rows of cells that read as records -/
def Row (w : World) (ok : Nat → Prop) : List (List Value) → List α → Prop
  | [], [] => True
  | c :: cs, x :: l => K.R w ok c x ∧ Row w ok cs l
  | _, _ => False
variable {K} {w w' : World} {ok ok' : Nat → Prop} {v : Value} {l : List α} {es : List (List Value)} {base : Nat}
theorem P.nil (w : World) (ok : Nat → Prop) : K.P w ok (.slice none 0 0) [] := ⟨none, 0, rfl, Nat.le_refl _, by unfold maxLen; omega, fun _ => rfl, fun h => absurd rfl h⟩
theorem P.same (h : K.P w ok v l) (hs : ∀ b, ok b → b < w.heap.size → w'.heap[b]? = w.heap[b]?) (hok : ∀ b, ok b → b < w.heap.size → ok' b) : K.P w' ok' v l := by
  obtain ⟨ao, cap, hv, h1, h2, h3, h4⟩ := h
  refine ⟨ao, cap, hv, h1, h2, h3, fun hl => ?_⟩
  obtain ⟨b, o, ha, hb, hlt, hx⟩ := h4 hl
  have hblk := hs b hb hlt
  refine ⟨b, o, ha, hok b hb hlt, ?_, fun i x hi => ?_⟩
  · rcases Nat.lt_or_ge b w'.heap.size with h | h
    · exact h
    · rw [Array.getElem?_eq_none h, Array.getElem?_eq_getElem hlt] at hblk; cases hblk
  · obtain ⟨cs, hr, hlie⟩ := hx i x hi
    exact ⟨cs, K.same hs hok hr, hlie.block hblk⟩
theorem P.below (h : K.P w ok v l) (hb : Below w.heap.size w w') : K.P w' ok v l := h.same (fun b _ hl => hb.block b hl) (fun _ h _ => h)
theorem P.mono (h : K.P w ok v l) (hok : ∀ b, ok b → b < w.heap.size → ok' b) : K.P w ok' v l := h.same (fun _ _ _ => rfl) hok
theorem P.any (h : K.P w ok v l) : K.P w (fun _ => True) v l := h.mono (fun _ _ _ => trivial)
theorem P.old (h : K.P w ok v l) : K.P w (fun b => b < w.heap.size) v l := h.mono (fun _ _ h => h)
theorem P.kp {S : Nat → Prop} (h : K.P w ok v l) (hk : Kp S w w') (hs : ∀ b, ok b → ¬ S b) : K.P w' ok v l := h.same (fun b hb hl => hk.block b hl (hs b hb)) (fun _ h _ => h)
theorem P.form (h : K.P w ok v l) : ∃ ao cap, v = .slice ao l.length cap ∧ l.length ≤ cap ∧ cap ≤ maxLen := by
  obtain ⟨ao, cap, hv, h1, h2, _⟩ := h
  exact ⟨ao, cap, hv, h1, h2⟩
theorem P.nilCap {ao : Option Addr} {n cap : Nat} (h : K.P w ok (.slice ao n cap) l) : ao = none → cap = 0 := by
  obtain ⟨ao', cap', hv, _, _, h3, _⟩ := h
  simp only [Value.slice.injEq] at hv
  obtain ⟨rfl, _, rfl⟩ := hv
  exact h3
theorem P.at {ao : Option Addr} {n cap : Nat} (h : K.P w ok (.slice ao n cap) l) {i : Nat} {x : α} (hi : l[i]? = some x) :
    ∃ b o cs, ao = some ⟨b, o, none⟩ ∧ ok b ∧ b < w.heap.size ∧ K.R w ok cs x ∧ Lie w b (o + i * K.sz) cs := by
  obtain ⟨ao', cap', hv, _, _, _, h4⟩ := h
  simp only [Value.slice.injEq] at hv
  obtain ⟨rfl, _, rfl⟩ := hv
  obtain ⟨b, o, ha, hb, hlt, hx⟩ := h4 (by rintro rfl; simp at hi)
  obtain ⟨cs, hr, hlie⟩ := hx i x hi
  exact ⟨b, o, cs, ha, hb, hlt, hr, hlie⟩
theorem P.place {ao : Option Addr} {n cap : Nat} (h : K.P w ok (.slice ao n cap) l) (hl : l ≠ []) : ∃ b o, ao = some ⟨b, o, none⟩ := by
  obtain ⟨ao', cap', hv, _, _, _, h4⟩ := h
  simp only [Value.slice.injEq] at hv
  obtain ⟨rfl, _, rfl⟩ := hv
  obtain ⟨b, o, ha, _⟩ := h4 hl
  exact ⟨b, o, ha⟩
theorem Row.same (hs : ∀ b, ok b → b < w.heap.size → w'.heap[b]? = w.heap[b]?) (hok : ∀ b, ok b → b < w.heap.size → ok' b) : ∀ {es : List (List Value)} {l : List α}, K.Row w ok es l → K.Row w' ok' es l
  | [], [], _ => trivial
  | c :: cs, x :: l, ⟨h1, h2⟩ => ⟨K.same hs hok h1, Row.same hs hok h2⟩
theorem Row.mono (hr : K.Row w ok es l) (hok : ∀ b, ok b → b < w.heap.size → ok' b) : K.Row w ok' es l := hr.same (fun _ _ _ => rfl) hok
theorem Row.length : ∀ {es : List (List Value)} {l : List α}, K.Row w ok es l → es.length = l.length
  | [], [], _ => rfl
  | c :: cs, x :: l, ⟨_, h2⟩ => by rw [List.length_cons, List.length_cons, Row.length h2]
theorem Row.app : ∀ {es fs : List (List Value)} {l m : List α}, K.Row w ok es l → K.Row w ok fs m → K.Row w ok (es ++ fs) (l ++ m)
  | [], _, [], _, _, h => h
  | c :: cs, fs, x :: l, m, ⟨h1, h2⟩, h => ⟨h1, Row.app h2 h⟩
theorem Row.snoc {c : List Value} {x : α} (hr : K.Row w ok es l) (hc : K.R w ok c x) : K.Row w ok (es ++ [c]) (l ++ [x]) := hr.app ⟨hc, trivial⟩
theorem Row.flat : ∀ {es : List (List Value)} {l : List α}, K.Row w ok es l → es.flatten.length = es.length * K.sz
  | [], [], _ => by simp
  | c :: cs, x :: l, ⟨h1, h2⟩ => by rw [List.flatten_cons, List.length_append, Row.flat h2, K.len h1, List.length_cons, Nat.add_mul, Nat.one_mul, Nat.add_comm]
theorem Row.ones : ∀ {es : List (List Value)} {l : List α}, K.Row w ok es l → ∀ c ∈ es.flatten, c.oneCell' = true
  | [], [], _ => by simp
  | c :: cs, x :: l, ⟨h1, h2⟩ => fun y hy => by
    rw [List.flatten_cons, List.mem_append] at hy
    rcases hy with hy | hy
    · exact K.one h1 y hy
    · exact Row.ones h2 y hy
theorem Row.get : ∀ {es : List (List Value)} {l : List α} {i : Nat} {x : α}, K.Row w ok es l → l[i]? = some x → ∃ c, es[i]? = some c ∧ K.R w ok c x
  | [], [], i, x, _, h => by simp at h
  | c :: cs, y :: l, 0, x, ⟨h1, _⟩, h => by simp at h; subst h; exact ⟨c, rfl, h1⟩
  | c :: cs, y :: l, i + 1, x, ⟨_, h2⟩, h => by simpa using Row.get h2 (by simpa using h)
/-- where the cells of record i lie among all -/
theorem Row.cellAt : ∀ {es : List (List Value)} {l : List α} {i j : Nat} {c : List Value} {u : Value}, K.Row w ok es l → es[i]? = some c → c[j]? = some u → es.flatten[i * K.sz + j]? = some u
  | [], [], i, j, c, u, _, h, _ => by simp at h
  | e :: cs, y :: l, 0, j, c, u, ⟨h1, _⟩, h, hj => by
    simp at h; subst h
    rw [List.flatten_cons, Nat.zero_mul, Nat.zero_add, List.getElem?_append_left (List.getElem?_eq_some_iff.1 hj).1]; exact hj
  | e :: cs, y :: l, i + 1, j, c, u, ⟨h1, h2⟩, h, hj => by
    rw [List.flatten_cons, List.getElem?_append_right (by rw [K.len h1, Nat.add_mul]; omega)]
    have := Row.cellAt h2 (by simpa using h) hj
    rw [show (i + 1) * K.sz + j - e.length = i * K.sz + j by rw [K.len h1, Nat.add_mul]; omega]; exact this
theorem P.ofCells {b o cap : Nat} (hr : K.Row w ok es l) (hlen : l.length ≤ cap) (hcap : cap ≤ maxLen) (hb : ok b) (hlt : b < w.heap.size) (hc : ∀ j u, es.flatten[j]? = some u → w.cell? ⟨b, o + j, none⟩ = some u) : K.P w ok (.slice (some ⟨b, o, none⟩) l.length cap) l := by
  refine ⟨_, cap, rfl, hlen, hcap, fun h => (by cases h), fun _ => ⟨b, o, rfl, hb, hlt, fun i x hi => ?_⟩⟩
  obtain ⟨c, hci, hrc⟩ := hr.get hi
  exact ⟨c, hrc, fun j u hj => by rw [Nat.add_assoc]; exact hc _ u (hr.cellAt hci hj)⟩
theorem P.ofRow (h : w.ownsRow base K.e K.sz v es.length es.flatten) (hr : K.Row w ok es l) (hok : ∀ b, base ≤ b → v.ownBlock = some b → ok b) : K.P w ok v l := by
  have hl := hr.length
  rcases h.2 with ⟨hv, hn⟩ | ⟨g, cap, cur, hv, hg, hh, hn, hcap, hsz, htake⟩
  · rw [hn] at hl
    have : l = [] := List.length_eq_zero_iff.1 hl.symm
    subst this
    rw [hv]; exact P.nil w ok
  · rw [hv, hl]
    refine P.ofCells hr (by omega) hcap (hok g hg (by rw [hv]; rfl)) (lt_of_block hh) fun j u hj => ?_
    rw [← htake, List.getElem?_take] at hj
    split at hj
    · rw [Nat.zero_add]; simp [World.cell?, hh]; simpa using hj
    · cases hj
/-- the slice u is nil, or its cells are those of es -/
def Src (K : RK α) (w : World) (u : Value) (es : List (List Value)) : Prop :=
  es.flatten.length = es.length * K.sz ∧ (∀ c ∈ es.flatten, c.oneCell' = true) ∧ ((u = .slice none 0 0 ∧ es = []) ∨ ∃ ad cap, u = .slice (some ad) es.length cap ∧ ∀ j c, es.flatten[j]? = some c → w.cell? (ad.add j) = some c)
theorem Lie.row {b o : Nat} : ∀ {l : List α}, (∀ i x, l[i]? = some x → ∃ cs, K.R w ok cs x ∧ Lie w b (o + i * K.sz) cs) → ∃ es, K.Row w ok es l ∧ ∀ j c, es.flatten[j]? = some c → w.cell? ⟨b, o + j, none⟩ = some c
  | [], _ => ⟨[], trivial, fun j c h => by simp at h⟩
  | x :: l, h => by
    obtain ⟨cs, hr, hl⟩ := h 0 x rfl
    obtain ⟨es, hrow, hc⟩ := Lie.row (o := o + K.sz) (l := l) (fun i y hy => by
      obtain ⟨cs', hr', hl'⟩ := h (i + 1) y (by simpa using hy)
      exact ⟨cs', hr', by rw [show o + K.sz + i * K.sz = o + (i + 1) * K.sz by rw [Nat.add_mul]; omega]; exact hl'⟩)
    refine ⟨cs :: es, ⟨hr, hrow⟩, fun j c hj => ?_⟩
    rw [List.flatten_cons] at hj
    by_cases hlt : j < cs.length
    · rw [List.getElem?_append_left hlt] at hj
      have := hl j c hj
      rwa [Nat.zero_mul, Nat.add_zero] at this
    · rw [List.getElem?_append_right (by omega)] at hj
      have := hc _ c hj
      rw [show o + K.sz + (j - cs.length) = o + j by rw [K.len hr] at *; omega] at this; exact this
theorem P.src (h : K.P w ok v l) : ∃ es, K.Src w v es ∧ K.Row w ok es l := by
  obtain ⟨ao, cap, rfl, h1, h2, h3, h4⟩ := h
  by_cases hl : l = []
  · subst hl
    refine ⟨[], ⟨by simp, by simp, ?_⟩, trivial⟩
    cases ao with
    | none => exact .inl ⟨by rw [h3 rfl]; rfl, rfl⟩
    | some ad => exact .inr ⟨ad, cap, rfl, fun j c h => by simp at h⟩
  · obtain ⟨b, o, ha, _, _, hx⟩ := h4 hl
    obtain ⟨es, hr, hc⟩ := Lie.row hx
    refine ⟨es, ⟨hr.flat, hr.ones, .inr ⟨⟨b, o, none⟩, cap, by rw [ha, hr.length], fun j c hj => ?_⟩⟩, hr⟩
    rw [addr_add]; exact hc j c hj
theorem Src.later (h : K.Src w v es) {B : Nat} (hB : w.heap.size ≤ B) (hb : Below B w w') : K.Src w' v es := by
  refine ⟨h.1, h.2.1, ?_⟩
  rcases h.2.2 with h | ⟨ad, cap, hv, h⟩
  · exact .inl h
  · refine .inr ⟨ad, cap, hv, fun j c hj => ?_⟩
    have := h j c hj
    rw [hb.cell (Nat.lt_of_lt_of_le (World.block_lt_of_cell? w _ this) hB)]
    exact this
/-- one record that was just laid in a block of its own -/
theorem Src.one {n : Nat} {c : List Value} {x : α} {W : World} (hn : n = w.heap.size) (hc : K.R W ok c x) : K.Src (w.alloc (.cells c.toArray K.e)) (.slice (some ⟨n, 0, none⟩) 1 1) [c] := by
  subst hn
  refine ⟨by simp [K.len hc], fun y hy => K.one hc y (by simpa using hy), .inr ⟨_, 1, rfl, fun j u hj => ?_⟩⟩
  rw [addr_add, cell_of_block (heap_alloc_new w _)]
  simpa using hj
section
variable {ops : Array Oper} {rest : List Oper} {o : Oper} {a : Act} {Q : Exit → Act → World → Prop} {u : Value} {fs : List (List Value)}
/-- append to a row of one's own -/
theorem append (hgd : o.guard = none) (s x : Operand) (ho : o.op = .call { callee := .builtin .append, args := #[s, x], argTypes := #[K.t, K.t] })
    (hs : a.eval s = v) (hx : a.eval x = u) (hown : w.ownsRow base K.e K.sz v es.length es.flatten) (hU : K.Src w u fs) (hlen : es.length + fs.length ≤ 1048576) (hbase : base ≤ w.heap.size)
    (h : ∀ v' w', w'.ownsRow base K.e K.sz v' (es ++ fs).length (es ++ fs).flatten → w.grownBy w' v.ownBlock → (v'.ownBlock = v.ownBlock ∨ v'.ownBlock = some w.heap.size) → wpList Tryz.prog ops Q rest (a.put o.dst v') w') : wpList Tryz.prog ops Q (o :: rest) a w := by
  obtain ⟨i0, hi, hz0, hz1, hz2⟩ := info_parts K.info
  obtain ⟨hl, h1c, hU⟩ := hU
  rcases hU with ⟨rfl, rfl⟩ | ⟨ad, cap, rfl, h3⟩
  · refine wpList_append_own_none hgd s x _ ho base K.e i0 K.sz K.under hi v _ _ hs hown hx (h v w ?_ ⟨rfl, rfl, rfl, Nat.le_refl _, fun _ _ _ => rfl⟩ (.inl rfl))
    rw [List.append_nil]; exact hown
  · have hb : (es.length + fs.length) * K.bytes ≤ 140737488355328 := Nat.le_trans (Nat.mul_le_mul hlen K.few) (by decide)
    refine wpList_append_own_at (P := Tryz.prog) w hgd s x _ ho base K.e i0 K.z K.sz K.bytes K.under hi hz0 hz1 hz2 K.zsz K.pos v _ _ hs hown ad fs.length cap fs.flatten hx hl h3 h1c (by unfold maxLen; omega) hb hbase ?_
    intro v' w' h1 h2 _ h4
    refine h v' w' ?_ h2 h4
    rw [List.length_append, List.flatten_append]; exact h1
end
/-- records of one's own: a row, and what lies beside it -/
structure Own (K : RK α) (base : Nat) (ok : Nat → Prop) (W : World) (v : Value) (es : List (List Value)) (l : List α) : Prop where
  own : W.ownsRow base K.e K.sz v es.length es.flatten
  row : K.Row W (fun b => ok b ∧ v.ownBlock ≠ some b) es l
theorem Own.start (K : RK α) (base : Nat) (ok : Nat → Prop) (W : World) : K.Own base ok W (.slice none 0 0) [] [] := ⟨World.ownsRow_nil _ _ _ _, trivial⟩
theorem Own.length (h : K.Own base ok w v es l) : es.length = l.length := h.row.length
theorem Own.p (h : K.Own base ok w v es l) (hok : ∀ b, base ≤ b → ok b) : K.P w ok v l := P.ofRow h.own (h.row.mono (fun b hb _ => hb.1)) (fun b hb _ => hok b hb)
theorem _root_.Go.Proofs.YtjlejiphpbaonaaGreatDoor.ownsRow_kept {w w' : World} {base : Nat} {e : TypeId} {size : Nat} {v : Value} {n : Nat} {xs : List Value} (h : w.ownsRow base e size v n xs) (hk : ∀ b, v.ownBlock = some b → b < w.heap.size → w'.heap[b]? = w.heap[b]?) : w'.ownsRow base e size v n xs := by
  refine ⟨h.1, ?_⟩
  rcases h.2 with h' | ⟨g, cap, cur, hv, hb, hh, rest⟩
  · exact .inl h'
  · exact .inr ⟨g, cap, cur, hv, hb, (hk g (by rw [hv]; rfl) (lt_of_block hh)).trans hh, rest⟩
theorem Own.kp {S : Nat → Prop} (h : K.Own base ok w v es l) (hk : Kp S w w') (hs : ∀ b, v.ownBlock = some b → ¬ S b) (hs2 : ∀ b, ok b → v.ownBlock ≠ some b → ¬ S b) : K.Own base ok w' v es l :=
  ⟨ownsRow_kept h.own (fun b hb hl => hk.block b hl (hs b hb)), h.row.same (fun b hb hl => hk.block b hl (hs2 b hb.1 hb.2)) (fun _ h _ => h)⟩
theorem Own.below (h : K.Own base ok w v es l) (hb : Below w.heap.size w w') : K.Own base ok w' v es l := h.kp (S := fun _ => False) (Below.kp hb) (fun _ _ h => h) (fun _ _ _ h => h)
theorem Own.mono (h : K.Own base ok w v es l) (hok : ∀ b, ok b → b < w.heap.size → v.ownBlock ≠ some b → ok' b) : K.Own base ok' w v es l := ⟨h.own, h.row.mono (fun b hb hl => ⟨hok b hb.1 hl hb.2, hb.2⟩)⟩
/-- one record more -/
theorem Own.next {W1 : World} {v' : Value} {c : List Value} {x : α} (h : K.Own base ok w v es l) (hb : Below w.heap.size w W1) (hc : K.R w (fun b => ok b ∧ v.ownBlock ≠ some b) c x)
    (hown : w'.ownsRow base K.e K.sz v' (es ++ [c]).length (es ++ [c]).flatten) (hg : W1.grownBy w' v.ownBlock) (hat : v'.ownBlock = v.ownBlock ∨ v'.ownBlock = some W1.heap.size) : K.Own base ok w' v' (es ++ [c]) (l ++ [x]) := by
  have hs : ∀ b, (ok b ∧ v.ownBlock ≠ some b) → b < w.heap.size → w'.heap[b]? = w.heap[b]? := fun b hb' hl => (hg.block b (Nat.lt_of_lt_of_le hl hb.size) (fun e => hb'.2 e.symm)).trans (hb.block b hl)
  have ho : ∀ b, (ok b ∧ v.ownBlock ≠ some b) → b < w.heap.size → (ok b ∧ v'.ownBlock ≠ some b) := fun b hb' hl => ⟨hb'.1, by
    rcases hat with e | e
    · rw [e]; exact hb'.2
    · rw [e]; intro e'; have := hb.size; simp at e'; omega⟩
  exact ⟨hown, (h.row.same hs ho).snoc (K.same hs ho hc)⟩
end RK
end Go.Proofs.YtjlejiphpbaonaaGreatDoor
set_option linter.unusedVariables false
set_option linter.unusedSimpArgs false
set_option maxRecDepth 20000
namespace Go.Proofs.YtjlejiphpbaonaaGreatDoor
open Go.RowKit Go.Sort
namespace RK
variable {α : Type} {K : RK α} {w w' : World} {ok : Nat → Prop}
/-- a block whose cells are those of records -/
theorem P.mk {b : Nat} {cs : Array Value} {e : TypeId} {es : List (List Value)} {l : List α} {n : Nat} (h : w.heap[b]? = some (.cells cs e)) (hr : K.Row w ok es l) (he : es.flatten = cs.toList) (hn : n = l.length) (hm : l.length ≤ 1048576) (hb : ok b) : K.P w ok (.slice (some ⟨b, 0, none⟩) n n) l := by
  subst hn
  refine P.ofCells hr (Nat.le_refl _) (by unfold maxLen; omega) hb (lt_of_block h) fun j u hj => ?_
  rw [Nat.zero_add, cell_of_block h, ← Array.getElem?_toList, ← he]; exact hj
theorem P.sub {b o n cap : Nat} {l : List α} (h : K.P w ok (.slice (some ⟨b, o, none⟩) n cap) l) (i j : Nat) (hij : i ≤ j) (hj : j ≤ n) : K.P w ok (.slice (some ⟨b, o + i * K.sz, none⟩) (j - i) (cap - i)) ((l.take j).drop i) := by
  obtain ⟨ao', cap', hv, h1, h2, _, h4⟩ := h
  simp only [Value.slice.injEq] at hv
  obtain ⟨rfl, rfl, rfl⟩ := hv
  refine ⟨_, _, by rw [List.length_drop, List.length_take, Nat.min_eq_left hj], by rw [List.length_drop, List.length_take]; omega, by omega, fun h => (by cases h), fun hne => ?_⟩
  obtain ⟨b', o', ha, hb, hlt, hx⟩ := h4 (by rintro rfl; simp at hne)
  simp only [Option.some.injEq, Addr.mk.injEq, and_true] at ha
  obtain ⟨rfl, rfl⟩ := ha
  refine ⟨_, _, rfl, hb, hlt, fun k x hk => ?_⟩
  rw [List.getElem?_drop, List.getElem?_take] at hk
  split at hk
  · obtain ⟨cs, hr, hl⟩ := hx _ x hk
    exact ⟨cs, hr, by rw [show o + i * K.sz + k * K.sz = o + (i + k) * K.sz by rw [Nat.add_mul]; omega]; exact hl⟩
  · cases hk
/-- append to a row of one's own, behind a guard -/
theorem append_g {ops : Array Oper} {rest : List Oper} {o : Oper} {a : Act} {Q : Exit → Act → World → Prop} (hw : Region.wanted o (yielded ops a.tmps) = true) (s x : Operand)
    (ho : o.op = .call { callee := .builtin .append, args := #[s, x], argTypes := #[K.t, K.t] })
    (base : Nat) (v u : Value) (es fs : List (List Value)) (hs : a.eval s = v) (hx : a.eval x = u) (hown : w.ownsRow base K.e K.sz v es.length es.flatten) (hU : K.Src w u fs)
    (hlen : es.length + fs.length ≤ 1048576) (hbase : base ≤ w.heap.size)
    (h : ∀ v' w', w'.ownsRow base K.e K.sz v' (es ++ fs).length (es ++ fs).flatten → w.grownBy w' v.ownBlock → wpList Tryz.prog ops Q rest (a.put o.dst v') w') : wpList Tryz.prog ops Q (o :: rest) a w := by
  rw [wpList, if_pos hw]
  refine .inl ?_
  obtain ⟨i0, hi, hz0, hz1, hz2⟩ := info_parts K.info
  obtain ⟨hl, h1c, hU⟩ := hU
  rcases hU with ⟨rfl, rfl⟩ | ⟨ad, cap, rfl, h3⟩
  · have hrun := run_append_owned_none (P := Tryz.prog) (w := w) base K.t o.type K.e i0 K.sz K.under hi v _ _ hown
    have hk := h v w (by rw [List.append_nil]; exact hown) ⟨rfl, rfl, rfl, Nat.le_refl _, fun _ _ _ => rfl⟩
    unfold Oper.wp
    simp [execOp, ho, resolve, invoke, builtin, hs, hx, hrun, Result.andThen]
    exact hk
  · have hb : (es.length + fs.length) * K.bytes ≤ 140737488355328 := Nat.le_trans (Nat.mul_le_mul hlen K.few) (by decide)
    obtain ⟨v', w', hr, h2, h3', _, _⟩ := run_append_own_at (P := Tryz.prog) w base K.t o.type K.e i0 K.z K.sz K.bytes K.under hi hz0 hz1 hz2 K.zsz K.pos v _ _ hown ad fs.length cap fs.flatten hl h3 h1c (by unfold maxLen; omega) hb hbase
    have hk := h v' w' (by rw [List.length_append, List.flatten_append]; exact h2) h3'
    unfold Oper.wp
    simp [execOp, ho, resolve, invoke, builtin, hs, hx, hr, Result.andThen]
    exact hk
end RK
end Go.Proofs.YtjlejiphpbaonaaGreatDoor
set_option linter.unusedVariables false
set_option linter.unusedSimpArgs false
set_option maxRecDepth 20000
namespace Wn
/-- simple selectors: none; or one (its kind, name, value, two numbers, those in it), and those behind it -/
inductive Ss where
  | nil : Ss
  | cons (k : Int) (n v : List UInt8) (a b : Int) (kids rest : Ss) : Ss
  deriving DecidableEq
namespace Ss
def len : Ss → Nat
  | .nil => 0
  | .cons _ _ _ _ _ _ r => r.len + 1
def drop : Nat → Ss → Ss
  | 0, f => f
  | _ + 1, .nil => .nil
  | n + 1, .cons _ _ _ _ _ _ r => r.drop n
def app : Ss → Ss → Ss
  | .nil, g => g
  | .cons k n v a b x r, g => .cons k n v a b x (r.app g)
def size : Ss → Nat
  | .nil => 0
  | .cons _ _ _ _ _ x r => x.size + r.size + 1
theorem app_nil : ∀ f : Ss, f.app .nil = f
  | .nil => rfl
  | .cons k n v a b x r => by rw [app, app_nil r]
theorem app_assoc : ∀ f g h : Ss, (f.app g).app h = f.app (g.app h)
  | .nil, _, _ => rfl
  | .cons k n v a b x r, g, h => by rw [app, app, app, app_assoc r g h]
theorem len_app : ∀ f g : Ss, (f.app g).len = f.len + g.len
  | .nil, g => by simp [app, len]
  | .cons k n v a b x r, g => by rw [app, len, len, len_app r g]; omega
theorem len_zero {f : Ss} (h : f.len = 0) : f = .nil := by cases f with | nil => rfl | cons => simp [len] at h
theorem len_le_size : ∀ f : Ss, f.len ≤ f.size
  | .nil => Nat.le_refl _
  | .cons _ _ _ _ _ x r => by have := len_le_size r; simp only [len, size]; omega
theorem drop_zero (f : Ss) : f.drop 0 = f := by cases f <;> rfl
theorem drop_cons {f : Ss} {i : Nat} (h : i < f.len) : ∃ k n v a b x, f.drop i = .cons k n v a b x (f.drop (i + 1)) := by
  induction f generalizing i with
  | nil => simp [len] at h
  | cons k n v a b x r ih1 ih2 =>
    cases i with
    | zero => exact ⟨k, n, v, a, b, x, by rw [drop_zero, drop, drop_zero]⟩
    | succ i => obtain ⟨k', n', v', a', b', x', e⟩ := ih2 (i := i) (by simpa [len] using h); exact ⟨k', n', v', a', b', x', by rw [drop, e, drop]⟩
theorem drop_len {f : Ss} {i : Nat} (h : f.len ≤ i) : f.drop i = .nil := by
  induction f generalizing i with
  | nil => cases i <;> rfl
  | cons k n v a b x r ih1 ih2 =>
    cases i with
    | zero => simp [len] at h
    | succ i => rw [drop]; exact ih2 (by simpa [len] using h)
theorem len_drop (f : Ss) (i : Nat) : (f.drop i).len = f.len - i := by
  induction f generalizing i with
  | nil => cases i <;> simp [drop, len]
  | cons k n v a b x r ih1 ih2 =>
    cases i with
    | zero => rfl
    | succ i => rw [drop, ih2, len]; omega
theorem drop_drop : ∀ (f : Ss) (i j : Nat), (f.drop i).drop j = f.drop (i + j)
  | f, 0, j => by rw [drop_zero, Nat.zero_add]
  | .nil, i + 1, j => by simp [drop]; cases j <;> rfl
  | .cons k n v a b x r, i + 1, j => by rw [drop, drop_drop r i j, show i + 1 + j = (i + j) + 1 by omega, drop]
theorem size_app : ∀ f g : Ss, (f.app g).size = f.size + g.size
  | .nil, g => by simp [app, size]
  | .cons k n v a b x r, g => by simp only [app, size]; rw [size_app r g]; omega
end Ss
/-- one simple selector -/
structure Sm where
  k : Int
  n : List UInt8
  v : List UInt8
  a : Int
  b : Int
  l : Ss
  deriving DecidableEq
def Sm.on (x : Sm) (r : Ss) : Ss := .cons x.k x.n x.v x.a x.b x.l r
/-- a complex selector: its parts (a combinator, simple selectors), its pseudo-element -/
abbrev Cx := List (Int × List Sm) × List UInt8
/-- a token of a kind, at the front -/
def tokF (kind : Int) : Fs → Option (Tok × Fs)
  | .nil => none
  | .cons k t _ r => if k = 1 ∧ t.1 = kind then some (t, r) else none
/-- a delimiter at the front -/
def signF (s : List UInt8) : Fs → Option Fs
  | .nil => none
  | .cons k t _ r => if signV s k t then some r else none
/-- a value of a kind, at the front -/
def valF (kind : Int) : Fs → Option ((Tok × Fs) × Fs)
  | .nil => none
  | .cons k t x r => if k = kind then some ((t, x), r) else none
/-- all values, but the blanks around them -/
def wholeF {α : Type} (p : Fs → Option (α × Fs)) (f : Fs) : Option α :=
  match p (dropB f) with
  | some (x, r) => if dropB r = .nil then some x else none
  | none => none
def decN (s : List UInt8) : Int := s.foldl (fun n c => n * 10 + ((c.toNat : Int) - 48)) 0
def digB (c : UInt8) : Bool := decide (48 ≤ c.toNat) && decide (c.toNat ≤ 57)
/-- the number that 1 to 4 digits are -/
def num4 (s : List UInt8) : Option Int := if 1 ≤ s.length ∧ s.length ≤ 4 ∧ s.all digB = true then some (decN s) else none
def nthW (n : List UInt8) : Option (Int × Int) :=
  if n = [111, 100, 100] then some (2, 1) else if n = [101, 118, 101, 110] then some (2, 0) else if n = [110] then some (1, 0) else none
def plusR (f : Fs) : Option (Int × Fs) :=
  match signF [43] f with
  | none => some (0, f)
  | some r => match tokF 5 r with
    | none => none
    | some (t, r') => if t.2.1 = [] ∧ 0 ≤ t.2.2 then some (t.2.2, r') else none
def cutN : List UInt8 → Option (List UInt8)
  | a :: b :: l => if a = 110 ∧ b = 45 then some l else none
  | _ => none
def nthC (n : List UInt8) : Option Int := match cutN n with
  | none => none
  | some l => num4 l
def nthT (t : Tok) (r : Fs) : Option ((Int × Int) × Fs) :=
  if t.2.1 = [] then some ((0, t.2.2), r)
  else if t.2.1 = [110] then (plusR r).map fun p => ((t.2.2, p.1), p.2)
  else (nthC t.2.1).map fun n => ((t.2.2, -n), r)
def nthR (f : Fs) : Option ((Int × Int) × Fs) :=
  match tokF 5 f with
  | some p => nthT p.1 p.2
  | none => match tokF 1 f with
    | none => none
    | some p => (nthW p.1.2.1).map fun q => (q, p.2)
def few (n : Int) : Bool := decide (-9999 ≤ n) && decide (n ≤ 9999)
def nthF (f : Fs) : Option (Int × Int) :=
  match wholeF nthR f with
  | none => none
  | some p => if few p.1 && few p.2 then some p else none
def lowB (c : UInt8) : UInt8 := if 65 ≤ c.toNat ∧ c.toNat ≤ 90 then c + 32 else c
def low (s : List UInt8) : List UInt8 := s.map lowB
def sBare (k : Int) : Sm := ⟨k, [], [], 0, 0, .nil⟩
def sNam (k : Int) (n : List UInt8) : Sm := ⟨k, n, [], 0, 0, .nil⟩
/-- what may stand only at the front of a compound selector -/
def elemF (f : Fs) : Option (Sm × Fs) :=
  match signF [42] f with
  | some r => some (sBare 1, r)
  | none => (tokF 1 f).map fun p => (sNam 2 (low p.1.2.1), p.2)
def attrV (f : Fs) : Option (List UInt8 × Fs) :=
  match tokF 6 f with
  | some p => some (p.1.2.1, p.2)
  | none => (tokF 1 f).map fun p => (p.1.2.1, p.2)
def attrR (f : Fs) : Option (Sm × Fs) :=
  match tokF 1 f with
  | none => none
  | some p => match signF [61] (dropB p.2) with
    | none => some (sNam 5 p.1.2.1, dropB p.2)
    | some r => (attrV (dropB r)).map fun q => (⟨6, p.1.2.1, q.1, 0, 0, .nil⟩, q.2)
def attrF (f : Fs) : Option Sm := wholeF attrR f
def isState (n : List UInt8) : Bool := decide (n = [104, 111, 118, 101, 114]) || decide (n = [102, 111, 99, 117, 115]) || decide (n = [97, 99, 116, 105, 118, 101]) || decide (n = [99, 104, 101, 99, 107, 101, 100])
def isPseudo (n : List UInt8) : Bool := decide (n = [98, 101, 102, 111, 114, 101]) || decide (n = [97, 102, 116, 101, 114])
/-- what a name behind a colon is -/
def stateW (n : List UInt8) : Option Sm :=
  if n = [114, 111, 111, 116] then some (sBare 9) else if n = [101, 109, 112, 116, 121] then some (sBare 10)
  else if n = [102, 105, 114, 115, 116, 45, 99, 104, 105, 108, 100] then some ⟨8, [], [], 0, 1, .nil⟩
  else if isState n then some (sNam 7 n) else none
/-- what a function behind a colon is; nt: what the values of a not are -/
def funcG (nt : Fs → Option Sm) (n : List UInt8) (x : Fs) : Option Sm :=
  if n = [110, 116, 104, 45, 99, 104, 105, 108, 100] then (nthF x).map fun p => ⟨8, [], [], p.1, p.2, .nil⟩
  else if n = [110, 111, 116] then (nt x).map fun y => ⟨11, [], [], 0, 0, y.on .nil⟩ else none
def colonG (nt : Fs → Option Sm) (f : Fs) : Option (Sm × Fs) :=
  match valF 5 f with
  | some p => (funcG nt p.1.1.2.1 p.1.2).map fun x => (x, p.2)
  | none => match tokF 1 f with
    | none => none
    | some p => (stateW p.1.2.1).map fun x => (x, p.2)
/-- one simple selector, not at the front: none: it is wrong; some none: there is none -/
def laterG (nt : Fs → Option Sm) (f : Fs) : Option (Option (Sm × Fs)) :=
  match tokF 4 f with
  | some p => some (some (sNam 3 p.1.2.1, p.2))
  | none => match signF [46] f with
    | some r => (tokF 1 r).map fun p => some (sNam 4 p.1.2.1, p.2)
    | none => match valF 3 f with
      | some p => (attrF p.1.2).map fun x => some (x, p.2)
      | none => match signF [58] f with
        | none => some none
        | some r => match signF [58] r with
          | some _ => some none
          | none => (colonG nt r).map some
def simpG (nt : Fs → Option Sm) (first : Bool) (f : Fs) : Option (Option (Sm × Fs)) :=
  if first then match elemF f with
    | some p => some (some p)
    | none => laterG nt f
  else laterG nt f
/-- no not within a not -/
def notNo (_ : Fs) : Option Sm := none
def notR (f : Fs) : Option (Sm × Fs) := match simpG notNo true f with
  | some (some p) => some p
  | _ => none
def inNot (f : Fs) : Option Sm := wholeF notR f
def ntOf (plain : Bool) : Fs → Option Sm := if plain then notNo else inNot
def simpR (first : Bool) (f : Fs) : Option (Option (Sm × Fs)) := simpG inNot first f
/-- simple selectors as far as there are any, at most so many -/
def compR : Nat → Bool → Fs → Option (List Sm × Fs)
  | n, first, f => match simpR first f with
    | none => none
    | some none => some ([], f)
    | some (some p) => match n with
      | 0 => none
      | n + 1 => (compR n false p.2).map fun q => (p.1 :: q.1, q.2)
def pseudoR (f : Fs) : Option (List UInt8 × Fs) :=
  match signF [58] f with
  | none => some ([], f)
  | some r => match signF [58] r with
    | none => some ([], f)
    | some r' => match tokF 1 r' with
      | none => none
      | some p => if isPseudo p.1.2.1 then some (p.1.2.1, p.2) else none
def combS (g : Fs) : Option (Int × Fs) :=
  match signF [62] g with
  | some r => some (2, r)
  | none => match signF [43] g with
    | some r => some (3, r)
    | none => match signF [126] g with
      | some r => some (4, r)
      | none => none
def combR (f : Fs) : Option (Int × Fs) :=
  if dropB f = .nil then some (0, .nil)
  else match combS (dropB f) with
    | some p => some (p.1, dropB p.2)
    | none => if (dropB f).len < f.len then some (1, dropB f) else none
def partR (f : Fs) : Option ((List Sm × List UInt8) × Fs) :=
  match compR 8 true f with
  | none => none
  | some p => match pseudoR p.2 with
    | none => none
    | some q => if p.1 = [] ∧ q.1 = [] then none else some ((p.1, q.1), q.2)
/-- a complex selector of at most so many parts -/
def cplxR : Nat → Int → Fs → Option (Cx × Fs)
  | 0, _, _ => none
  | n + 1, comb, f => match partR f with
    | none => none
    | some p => if p.1.2 ≠ [] then some (([(comb, p.1.1)], p.1.2), p.2)
      else match combR p.2 with
        | none => none
        | some q => if q.1 = 0 then some (([(comb, p.1.1)], []), q.2)
          else (cplxR n q.1 q.2).map fun c => (((comb, p.1.1) :: c.1.1, c.1.2), c.2)
def cplxF (f : Fs) : Option Cx := wholeF (cplxR 16 0) f
def allF {α : Type} (p : Fs → Option α) : List Fs → Option (List α)
  | [] => some []
  | f :: l => match p f with
    | none => none
    | some x => (allF p l).map fun y => x :: y
/-- a selector list -/
def selsF (f : Fs) : Option (List Cx) := if (cuts (signV [44]) f).length ≤ 32 then allF cplxF (cuts (signV [44]) f) else none
def selsRead (s : List UInt8) : Option (List Cx) := match readF s with
  | none => none
  | some f => selsF (trimF f)
/-- may a simple selector be that is no not? -/
def mayPlain (x : Sm) : Bool :=
  if x.k = 1 ∨ x.k = 9 ∨ x.k = 10 then decide (x = sBare x.k)
  else if x.k = 2 then may (1, x.n, 0) && decide (low x.n = x.n) && decide (x = sNam 2 x.n)
  else if x.k = 3 then may (4, x.n, 0) && decide (x = sNam 3 x.n)
  else if x.k = 4 ∨ x.k = 5 then may (1, x.n, 0) && decide (x = sNam x.k x.n)
  else if x.k = 6 then may (1, x.n, 0) && (may (6, x.v, 34) || may (6, x.v, 39)) && decide (x = ⟨6, x.n, x.v, 0, 0, .nil⟩)
  else if x.k = 7 then isState x.n && decide (x = sNam 7 x.n)
  else if x.k = 8 then few x.a && few x.b && decide (x = ⟨8, [], [], x.a, x.b, .nil⟩)
  else false
def Ss.toL : Ss → List Sm
  | .nil => []
  | .cons k n v a b x r => ⟨k, n, v, a, b, x⟩ :: r.toL
def Ss.ofL : List Sm → Ss
  | [] => .nil
  | x :: l => x.on (Ss.ofL l)
theorem Ss.toL_ofL : ∀ l : List Sm, (Ss.ofL l).toL = l
  | [] => rfl
  | x :: l => by rw [Ss.ofL, Sm.on, Ss.toL, Ss.toL_ofL l]
theorem Ss.ofL_toL : ∀ f : Ss, Ss.ofL f.toL = f
  | .nil => rfl
  | .cons k n v a b x r => by rw [Ss.toL, Ss.ofL, Sm.on, Ss.ofL_toL r]
theorem Ss.toL_length : ∀ f : Ss, f.toL.length = f.len
  | .nil => rfl
  | .cons k n v a b x r => by rw [Ss.toL, List.length_cons, Ss.toL_length r, Ss.len]
theorem Ss.toL_inj {f g : Ss} : f.toL = g.toL ↔ f = g := ⟨fun h => by rw [← Ss.ofL_toL f, h, Ss.ofL_toL], fun h => by rw [h]⟩
/-- may a simple selector be? -/
def maySm (x : Sm) : Bool := match x.l.toL with
  | [y] => if x.k = 11 then mayPlain y && decide (x = ⟨11, [], [], 0, 0, y.on .nil⟩) else mayPlain x
  | _ => mayPlain x
def mayLater (x : Sm) : Bool := decide (x.k ≠ 1) && decide (x.k ≠ 2) && maySm x
def mayPart (l : List Sm) (empty : Bool) : Bool := match l with
  | [] => empty
  | x :: r => decide (r.length + 1 ≤ 8) && maySm x && r.all mayLater
def mayParts (ps : Bool) : Bool → List (Int × List Sm) → Bool
  | _, [] => true
  | first, p :: l => (if first then decide (p.1 = 0) else decide (1 ≤ p.1 ∧ p.1 ≤ 4)) && mayPart p.2 (decide (l = []) && ps) && mayParts ps false l
def mayCx (c : Cx) : Bool := decide (1 ≤ c.1.length) && decide (c.1.length ≤ 16) && (decide (c.2 = []) || isPseudo c.2) && mayParts (decide (c.2 ≠ [])) true c.1
def maySels (l : List Cx) : Bool := decide (1 ≤ l.length) && decide (l.length ≤ 32) && l.all mayCx
end Wn
