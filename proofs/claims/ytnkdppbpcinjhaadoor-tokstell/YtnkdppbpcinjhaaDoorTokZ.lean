/- Arguments of a row that are tokens: what the reading of a row's argument says of the memory. -/
import Derived.Test.YtnkdppbpcinjhaaDoorTokMg
import Derived.Carry
import Derived.WideKeyArgs
import Derived.ChangeSame
import Derived.Lib.SmallJoins
set_option maxRecDepth 20000
namespace Go.Proofs.YtnkdppbpcinjhaaDoor
open Go.ChangeShapes Go.WideShapes Go.RowKit Go.Deep
section
variable {H : Type} {enc : TypeId × Value → H} {w : World} {base : Nat} {spare : Nat → Bool} {held : Bool}
/-- numbers as Go has them -/
def Nums (t : Wn.Tok) : Prop := -9223372036854775808 ≤ t.2.2 ∧ t.2.2 ≤ 9223372036854775807
theorem cells_tok : Tryd.prog.cellsOf 24 = 3 := by kernel_rfl
/-- three cells that read as a token -/
theorem open_cells {n : Nat} {cs : List Value} {x : DataW H × List MemPlace} (h : DataW.trod enc Tryd.prog w base spare held n 24 cs = some x) :
    ∃ t : Wn.Tok, cs = [.int .i64 t.1, .string (Wn.str t.2.1), .int .i64 t.2.2] ∧ Nums t ∧ t.2.1.length ≤ maxLen ∧ x.2 = [] := by
  obtain ⟨ys, n', hn', hy, hlen, hyl, hf⟩ := DataW.trod_struct Tryd.underlying24 h
  have h0 := hf 0 _ rfl
  have h1 := hf 1 _ rfl
  have h2 := hf 2 _ rfl
  rw [show Tryd.prog.cellsOf _ = 1 by kernel_rfl] at h0 h1 h2
  match cs, hlen.trans cells_tok with
  | [c0, c1, c2], _ =>
    match ys, hyl with
    | [y0, y1, y2], _ =>
      obtain ⟨a, ha, hx0, _⟩ := DataW.trod_int (k := .i64) Tryd.underlying3 h0
      obtain ⟨s, hs, hx1, hsz⟩ := DataW.trod_string Tryd.underlying9 h1
      obtain ⟨c, hc, hx2, hwf⟩ := DataW.trod_int (k := .i64) Tryd.underlying3 h2
      simp at ha hs hc hx0 hx1 hx2
      refine ⟨(a, s.data.toList, c), ?_, bounds_i64 hwf, ?_, ?_⟩
      · rw [ha, hs, hc]; rfl
      · simpa using hsz
      · rw [hy, hx0, hx1, hx2]; rfl
theorem spot_none {a : Addr} {v : Value} (h : w.cell? a = some v) : a = ⟨a.block, a.off, none⟩ := by
  obtain ⟨b, o, sp⟩ := a
  cases sp with
  | none => rfl
  | some k =>
    unfold World.cell? at h
    dsimp only at h
    split at h
    · simp at h
    · cases h
/-- a slice of tokens -/
theorem open_toks {r : Reach} {b0 : Nat} {v : Value} {d : DataW H} {p : List MemPlace} (hv : Value.okWide Tryd.prog w r b0 22 v) (h : DataW.Trod enc Tryd.prog w base spare held 22 v d p) :
    ∃ l : List Wn.Tok, Toks w v l ∧ (∀ t ∈ l, Nums t ∧ t.2.1.length ≤ maxLen) := by
  obtain ⟨a0, len0, cap0, rfl⟩ := okWide_slice Tryd.underlying22 hv
  obtain ⟨fuel, h⟩ := h
  rcases open_slice Tryd.underlying22 h with ⟨h0, _⟩ | ⟨a, len, cap, m, n, D, Pl, hcs, hb, hl, hm, hmm, _, hx⟩
  · simp [Value.cells] at h0
    obtain ⟨rfl, rfl, rfl⟩ := h0
    exact ⟨[], Toks.nil w, by simp⟩
  · simp [Value.cells] at hcs
    obtain ⟨rfl, rfl, rfl⟩ := hcs
    have hlm : len0 ≤ m := by rw [hmm]; split <;> omega
    have hT : ∀ i, ∃ t : Wn.Tok, i < len0 → (Nums t ∧ t.2.1.length ≤ maxLen) ∧ (∃ b off, a = ⟨b, off, none⟩ ∧ TokIn w b (off + i * 3) t) := by
      intro i
      by_cases hi : i < len0
      · obtain ⟨cs', hc, ht⟩ := hx i (by omega)
        obtain ⟨t, hcs, hn, hz, _⟩ := open_cells ht
        rw [cells_tok] at hc
        obtain ⟨_, _, hat⟩ := World.cells?_some hc
        rw [hcs] at hat
        have h0 := hat 0 (by omega)
        have h1 := hat 1 (by omega)
        have h2 := hat 2 (by omega)
        have hsp : a = ⟨a.block, a.off, none⟩ := by
          -- the first cell of the first token
          obtain ⟨cs0, hc0, ht0⟩ := hx 0 (by omega)
          obtain ⟨t0, hcs0, _⟩ := open_cells ht0
          rw [cells_tok] at hc0
          obtain ⟨_, _, hat0⟩ := World.cells?_some hc0
          rw [hcs0] at hat0
          have := hat0 0 (by omega)
          exact spot_none (v := .int .i64 t0.1) (by simpa [Addr.add] using this)
        refine ⟨t, fun _ => ⟨⟨hn, hz⟩, a.block, a.off, hsp, ?_⟩⟩
        rw [hsp] at h0 h1 h2
        rw [add_plain, add_plain] at h0 h1 h2
        exact ⟨by simpa using h0, by simpa using h1, by simpa using h2⟩
      · exact ⟨(0, [], 0), fun h => absurd h hi⟩
    obtain ⟨T, hT⟩ := Classical.axiomOfChoice hT
    have hlen : ((List.range len0).map T).length = len0 := by simp
    have hget : ∀ i t, ((List.range len0).map T)[i]? = some t → i < len0 ∧ T i = t := by
      intro i t h
      have hi : i < len0 := by have := (List.getElem?_eq_some_iff.1 h).1; simpa using this
      refine ⟨hi, ?_⟩
      simpa [List.getElem?_eq_getElem, hi] using h
    refine ⟨(List.range len0).map T, ⟨some a, cap0, by rw [hlen], by rw [hlen]; exact hl, hm, fun i t ht => ?_⟩, fun t ht => ?_⟩
    · obtain ⟨hi, rfl⟩ := hget i t ht
      obtain ⟨_, b, off, ha, hin⟩ := hT i hi
      exact ⟨b, off, by rw [ha], hin⟩
    · obtain ⟨i, hg⟩ := List.getElem?_of_mem ht
      obtain ⟨hi, rfl⟩ := hget i t hg
      exact (hT i hi).1
theorem open_nil {v : Value} {d : DataW H} {p : List MemPlace} (h : DataW.Trod enc Tryd.prog w base spare held 22 v d p) (n c : Nat) (hv : v = .slice none n c) : c = 0 := by
  obtain ⟨fuel, h⟩ := h
  subst hv
  rcases open_slice Tryd.underlying22 h with ⟨h0, _⟩ | ⟨a, len, cap, m, n, D, Pl, hcs, _⟩
  · simp [Value.cells] at h0; exact h0.2
  · simp [Value.cells] at hcs
/-- a token by value -/
theorem open_tok {r : Reach} {b0 : Nat} {v : Value} {d : DataW H} {p : List MemPlace} (hv : Value.okWide Tryd.prog w r b0 24 v) (h : DataW.Trod enc Tryd.prog w base spare held 24 v d p) :
    ∃ t : Wn.Tok, v = .agg #[.int .i64 t.1, .string (Wn.str t.2.1), .int .i64 t.2.2] ∧ Nums t ∧ t.2.1.length ≤ maxLen := by
  obtain ⟨cs, rfl, _⟩ := okWide_struct Tryd.underlying24 hv
  obtain ⟨fuel, h⟩ := h
  obtain ⟨t, hcs, h1, h2, _⟩ := open_cells h
  refine ⟨t, ?_, h1, h2⟩
  congr 1
  cases cs; simpa [Value.cells] using hcs
end
section
variable {H : Type} {enc : TypeId × Value → H}
theorem laidOut : laidOutB Tryd.prog = true := by kernel_rfl
/-- an argument reads afterwards as it read before -/
theorem again {t : TypeId} (hr : Tryd.prog.readableRec t = true) (hrow : t < Tryd.prog.types.size) {W W' : World} {v : Value} {d : DataW H} {ps : List MemPlace}
    (h : DataW.Trod enc Tryd.prog W 0 (fun _ => true) true t v d ps) (hb : Below W.heap.size W W') (hlt : ∀ x ∈ ps, x.block < W.heap.size) {sp : Nat → Bool} (hsp : ∀ p ∈ ps, sp p.block = true) :
    DataW.Trod enc Tryd.prog W' 0 sp true t v d ps :=
  WideElems.Trod_stays laidOut hr hrow h (fun x hx => hb.same (hlt x hx)) hsp
end
end Go.Proofs.YtnkdppbpcinjhaaDoor
