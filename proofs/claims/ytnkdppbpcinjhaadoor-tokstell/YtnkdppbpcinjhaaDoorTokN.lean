/- What toks.All answers: the tokens of its text, in a row of its own. -/
import Derived.Test.YtnkdppbpcinjhaaDoorTokL
import Derived.Test.YtnkdppbpcinjhaaDoorTokM
set_option maxRecDepth 20000
namespace Go.Proofs.YtnkdppbpcinjhaaDoor
open Go.RowKit
/-- the cells of a token, and of tokens one behind the other -/
def tokCells (t : Wn.Tok) : List Value := [.int .i64 t.1, .string ⟨t.2.1.toArray⟩, .int .i64 t.2.2]
def toksCells (l : List Wn.Tok) : List Value := l.flatMap tokCells
theorem toksCells_snoc (l : List Wn.Tok) (t : Wn.Tok) : toksCells (l ++ [t]) = toksCells l ++ tokCells t := by simp [toksCells]
/-- w' is w, but for block b, and what is new; w' has the row v of the tokens l, which is none of w's blocks -/
theorem Only.grown {b : Nat} {w w' : World} (h : Only b w w') : w.grownBy w' (some b) := ⟨h.os, h.tape, h.output, h.size, fun k hk hn => h.block k hk (fun e => hn (by rw [e]))⟩
theorem lt_of_block {w : World} {b : Nat} {o : Obj} (h : w.heap[b]? = some o) : b < w.heap.size := (Array.getElem?_eq_some_iff.1 h).1
theorem Only.below {b : Nat} {w0 w w' : World} (hb : Below b w0 w) (h : Only b w w') (hs : b ≤ w.heap.size) : Below b w0 w' :=
  hb.trans ⟨h.os, h.tape, h.output, h.size, fun k hk => h.block k (by omega) (by omega)⟩
theorem ScanAt.grown {w w' : World} {b : Nat} {s : ByteArray} {p : Nat} {row : Option Nat} (h : ScanAt w b s p) (hg : w.grownBy w' row) (hr : row ≠ some b) : ScanAt w' b s p := by
  have hl := h.lt
  unfold ScanAt at *
  rw [hg.block b hl (fun e => hr e.symm), h]
/-- the place of the scanner in block b -/
def posOf (b : Nat) (w : World) : Nat := (intOf ((w.cell? ⟨b, 1, none⟩).getD (.int .i64 0))).toNat
theorem posOf_at {w : World} {b : Nat} {s : ByteArray} {p : Nat} (h : ScanAt w b s p) : posOf b w = p := by
  unfold posOf; rw [h.cell1]; simp [intOf]
theorem cell_of_block {W : World} {k o : Nat} {c : Array Value} {e : TypeId} {fz : Nat × Nat} (h : W.heap[k]? = some (.cells c e fz)) : W.cell? ⟨k, o, none⟩ = c[o]? := by
  simp [World.cell?, h]
theorem addr_add (k o j : Nat) : (⟨k, o, none⟩ : Addr).add j = ⟨k, o + j, none⟩ := by
  unfold Addr.add; split <;> simp_all
theorem cell_three_new (w : World) (x y z : Value) (e : TypeId) (k : Nat) (hk : k = w.heap.size) (j : Nat) (u : Value) (h : [x, y, z][j]? = some u) : (w.alloc (.cells #[x, y, z] e)).cell? ((⟨k, 0, none⟩ : Addr).add j) = some u := by
  subst hk
  rw [addr_add, cell_of_block (heap_alloc_new w _), ← h]
  simp
theorem ownsRow_base {w : World} {base base' : Nat} {e : TypeId} {size : Nat} {v : Value} {n : Nat} {xs : List Value} (h : w.ownsRow base e size v n xs) (hb : base' ≤ base) : w.ownsRow base' e size v n xs := by
  obtain ⟨h1, h2⟩ := h
  refine ⟨h1, ?_⟩
  rcases h2 with h2 | ⟨g, cap, cur, hv, hg, r⟩
  · exact .inl h2
  · exact .inr ⟨g, cap, cur, hv, by omega, r⟩
theorem info_tok : (Tryd.prog.info? 24).map (fun i => (i.zero, i.size, i.bytes)) = some (some (.agg #[.int .i64 0, .string ⟨#[]⟩, .int .i64 0]), 3, 32) := by kernel_rfl
set_option maxRecDepth 100000 in
set_option maxHeartbeats 2000000 in
theorem All_any (s : ByteArray) (w : World) (hs : s.size ≤ 1099511627776) :
    Calls Tryd.prog 17 #[.string s] w fun e w' => ∃ v, e = .returned v ∧ w'.ownsRow w.heap.size 24 3 v (Wn.lex s.data.toList).length (toksCells (Wn.lex s.data.toList)) ∧ Below w.heap.size w w' := by
  have hs' : s.size ≤ 4611686018427387000 := by omega
  obtain ⟨i0, hi, hz0, hz1, hz2⟩ := info_parts info_tok
  generalize hL : Wn.lex s.data.toList = L
  have HL : Hid (Wn.lex (Wn.sfx s 0) = L) := Lib.hid (by rw [← hL]; rfl)
  clear hL
  go_enter Tryd.func17, Tryd.ntmps17
  go_wp2_with (go_at_call 39; (with_reducible refine (newScanner_any s _).mono ?_); rintro e w' ⟨rfl, rfl⟩)
  have hb0 : Below w.heap.size w (w.alloc (Obj.cells #[Value.string s, Value.int IntKind.i64 0] 88)) := (Below.refl _ _).alloc (Nat.le_refl _) _
  have hc0 : ScanAt (w.alloc (Obj.cells #[Value.string s, Value.int IntKind.i64 0] 88)) w.heap.size s 0 := heap_alloc_new w _
  have hz0' : (w.alloc (Obj.cells #[Value.string s, Value.int IntKind.i64 0] 88)).heap.size = w.heap.size + 1 := by simp
  have HB0 := Lib.hid hb0; clear hb0
  have HC0 := Lib.hid hc0; clear hc0
  have HZ0 := Lib.hid hz0'; clear hz0'
  go_loopw [3] (fun v wr => ∃ (p : Nat) (acc : List Wn.Tok), p ≤ s.size ∧ acc.length ≤ p ∧ w.heap.size + 1 ≤ wr.heap.size ∧ Hid (ScanAt wr w.heap.size s p) ∧ Hid (wr.ownsRow (w.heap.size + 1) 24 3 v acc.length (toksCells acc)) ∧ Hid (Below w.heap.size w wr) ∧ Hid (acc ++ Wn.lex (Wn.sfx s p) = L)) (fun _ wr => s.size + 1 - posOf w.heap.size wr)
  case atStart => exact ⟨0, [], by omega, by simp, by rw [HZ0.out]; omega, HC0, Lib.hid (World.ownsRow_nil _ _ _ _), HB0, Lib.hid (by simpa using HL.out)⟩
  case round =>
    obtain ⟨p, acc, hp, hacc, hsz, HS, HW, HB, HA⟩ := hrel
    have hq := Wn.skip_le (Wn.sfx s p)
    rw [Wn.sfx_length] at hq
    generalize hqq : p + Wn.skip (Wn.sfx s p) = q at *
    have hq2 : q ≤ s.size := by omega
    have hpq : p ≤ q := by omega
    have HQ := Lib.hid hqq
    by_cases hlt : q < s.size
    · have hne : (Wn.sfx s p).drop (Wn.skip (Wn.sfx s p)) ≠ [] := by
        rw [Wn.sfx_drop, hqq, Wn.sfx_in s q hlt]; simp
      have hcons := Wn.lex_cons hne
      have hpos := Wn.one_pos hne
      rw [Wn.sfx_drop, hqq] at hcons hpos
      rw [Wn.sfx_length] at hpos
      rw [Wn.sfx_drop] at hcons
      obtain ⟨hp1, hp2⟩ := hpos
      have HCO := Lib.hid hcons
      generalize hone : Wn.one (Wn.sfx s q) = ot at *
      obtain ⟨⟨tk, tt, tn⟩, n⟩ := ot
      have HON := Lib.hid hone
      clear hne hcons hone hqq hq
      dsimp only at hp1 hp2 HCO
      go_wp2_with (first
        | (go_at_call 40; (refine (next_any w.heap.size s p q _ hs' HS.out hp HQ.out hlt).mono ?_); rw [HON.out]; rintro e w1 ⟨rfl, hm1, hm2⟩; dsimp only [tokV] at *; (have hs1 := hm2.size); (have HW1 : Hid (w1.ownsRow (w.heap.size + 1) 24 3 _ acc.length (toksCells acc)) := Lib.hid (HW.out.kept hm2.grown (Or.inr (fun e => by have := (HW.out.lt _ e).1; omega)))); (have HB1 : Hid (Below w.heap.size w w1) := Lib.hid (Only.below HB.out hm2 (by omega))); have HS1 := Lib.hid hm1; clear hm1 hm2)
        | (at_builtin; refine wpList_append_own _ rfl _ _ 22 rfl (w.heap.size + 1) 24 i0 (.agg #[.int .i64 0, .string ⟨#[]⟩, .int .i64 0]) 3 32 Tryd.underlying22 hi hz0 hz1 hz2 rfl (by decide) _ acc.length (toksCells acc) rfl ((HW1.out.alloc _).alloc _) ⟨w1.heap.size + 1, 0, none⟩ 1 1 [.int .i64 tk, .string ⟨tt.toArray⟩, .int .i64 tn] rfl rfl (cell_three_new _ _ _ _ _ _ (by simp)) (fun x hx => by simp at hx; rcases hx with rfl | rfl | rfl <;> rfl) (by unfold maxLen; omega) (by omega) (by simp; omega) ?_; intro v' w3 hown' hgrow3 hnil3; (have hs3 := hgrow3.size); (have HZ : Hid (v' = v' ∧ w3.ownsRow (w.heap.size + 1) 24 3 v' (acc.length + 1) (toksCells acc ++ [.int .i64 tk, .string ⟨tt.toArray⟩, .int .i64 tn]) ∧ ScanAt w3 w.heap.size s (q + n) ∧ Below w.heap.size w w3) := Lib.hid ⟨rfl, hown', (((HS1.out.alloc _).alloc _).grown hgrow3 (fun e => by have := (HW1.out.lt _ e).1; omega)), Below.grown ((HB1.out.alloc (by omega) _).alloc (by simp; omega) _) hgrow3 (by simp; omega) (fun j hj => by have := (HW1.out.lt _ hj).1; omega)⟩); clear hown' hgrow3 hnil3))
      refine ⟨⟨q + n, acc ++ [(tk, tt, tn)], by omega, by simp; omega, by simp at hs3; omega, Lib.hid HZ.out.2.2.1, Lib.hid ?_, Lib.hid HZ.out.2.2.2, Lib.hid ?_⟩, ?_⟩
      · rw [List.length_append, toksCells_snoc]; exact HZ.out.2.1
      · rw [← HA.out, HCO.out]; simp
      · rw [posOf_at HZ.out.2.2.1, posOf_at HS.out]; have := HQ.out; omega
    · have hqs : q = s.size := by omega
      go_wp2_with (go_at_call 40; (refine (next_end w.heap.size s p q _ hs' HS.out hp HQ.out hqs).mono ?_); rintro e w1 ⟨rfl, hm1, hm2⟩)
      have hsz1 := hm2.size
      have hne : Wn.lex (Wn.sfx s p) = [] := by
        apply Wn.lex_end
        rw [Wn.sfx_drop, hqq, Wn.sfx_out s q (by omega)]
      have hk := HW.out.kept hm2.grown (Or.inr (fun e => by have := (HW.out.lt _ e).1; omega))
      have hacc : acc = L := by rw [← HA.out, hne]; simp
      go_ret
      refine ⟨_, rfl, ?_, ?_⟩
      · rw [hacc] at hk
        exact ownsRow_base (hk.alloc _) (by omega)
      · exact (Only.below HB.out hm2 (by omega)).alloc (by omega) _
end Go.Proofs.YtnkdppbpcinjhaaDoor
