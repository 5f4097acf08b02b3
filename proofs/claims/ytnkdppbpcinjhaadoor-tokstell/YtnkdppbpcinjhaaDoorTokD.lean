/- What the lexer's own methods do: its place moves on, its text stays, all else stays. -/
import Derived.Test.YtnkdppbpcinjhaaDoorTokC
import Derived.StillTailTactics
import Derived.Deep.RegionWith
set_option maxRecDepth 20000
namespace Go.Proofs.YtnkdppbpcinjhaaDoor
open Go.RowKit
/-- block b is the scanner of the text s at the place p -/
def ScanAt (w : World) (b : Nat) (s : ByteArray) (p : Nat) : Prop := w.heap[b]? = some (.cells #[.string s, .int .i64 p] 88)
/-- all blocks that were there, but for block b, are as they were -/
structure Only (b : Nat) (w w' : World) : Prop where
  os : w'.os = w.os
  tape : w'.tape = w.tape
  output : w'.output = w.output
  size : w.heap.size ≤ w'.heap.size
  block : ∀ k, k < w.heap.size → k ≠ b → w'.heap[k]? = w.heap[k]?
theorem Only.refl (b : Nat) (w : World) : Only b w w := ⟨rfl, rfl, rfl, Nat.le_refl _, fun _ _ _ => rfl⟩
theorem Only.trans {b : Nat} {x y z : World} (h : Only b x y) (k : Only b y z) : Only b x z :=
  ⟨k.os.trans h.os, k.tape.trans h.tape, k.output.trans h.output, Nat.le_trans h.size k.size, fun i hi hb => (k.block i (Nat.lt_of_lt_of_le hi h.size) hb).trans (h.block i hi hb)⟩
theorem Only.drew {b : Nat} {a w : World} (h : Only b a w) : Only b a w.drew := ⟨h.os, h.tape, h.output, h.size, h.block⟩
theorem Only.drewN {b : Nat} {a w : World} (h : Only b a w) (n : Nat) : Only b a (w.drewN n) := h.trans ⟨rfl, rfl, rfl, Nat.le_refl _, fun _ _ _ => rfl⟩
theorem Only.alloc {b : Nat} {a w : World} (h : Only b a w) (o : Obj) : Only b a (w.alloc o) :=
  h.trans ⟨rfl, rfl, rfl, by simp, fun k hk _ => Below.heap_alloc _ _ _ hk⟩
theorem Only.setCell {b : Nat} {a w : World} (h : Only b a w) {p : Addr} (hp : p.block = b) (u : Value) : Only b a (w.setCell p u) :=
  h.trans ⟨rfl, rfl, rfl, by simp [World.setCell], fun k _ hk => Below.heap_setCell _ _ _ _ (by omega)⟩
theorem ScanAt.lt {w : World} {b : Nat} {s : ByteArray} {p : Nat} (h : ScanAt w b s p) : b < w.heap.size := by
  unfold ScanAt at h
  exact (Array.getElem?_eq_some_iff.1 h).1
theorem ScanAt.cell0 {w : World} {b : Nat} {s : ByteArray} {p : Nat} (h : ScanAt w b s p) : w.cell? ⟨b, 0, none⟩ = some (.string s) := by
  unfold ScanAt at h; simp [World.cell?, h]
theorem ScanAt.cell1 {w : World} {b : Nat} {s : ByteArray} {p : Nat} (h : ScanAt w b s p) : w.cell? ⟨b, 1, none⟩ = some (.int .i64 p) := by
  unfold ScanAt at h; simp [World.cell?, h]
theorem ScanAt.frozen {w : World} {b : Nat} {s : ByteArray} {p : Nat} (h : ScanAt w b s p) (o : Nat) : w.frozen? ⟨b, o, none⟩ = false := by
  unfold ScanAt at h; simp [World.frozen?, h]
theorem ScanAt.drewN {w : World} {b : Nat} {s : ByteArray} {p : Nat} (h : ScanAt w b s p) (n : Nat) : ScanAt (w.drewN n) b s p := h
theorem ScanAt.drew {w : World} {b : Nat} {s : ByteArray} {p : Nat} (h : ScanAt w b s p) : ScanAt w.drew b s p := h
theorem ScanAt.alloc {w : World} {b : Nat} {s : ByteArray} {p : Nat} (h : ScanAt w b s p) (o : Obj) : ScanAt (w.alloc o) b s p := by
  have hl := h.lt
  unfold ScanAt at *
  rw [Below.heap_alloc _ _ _ hl, h]
theorem ScanAt.set' {w : World} {b : Nat} {s : ByteArray} {p q : Nat} {v : Int} (h : ScanAt w b s p) (hv : v = (q : Int)) : ScanAt (w.setCell ⟨b, 1, none⟩ (.int .i64 v)) b s q := by
  subst hv
  unfold ScanAt at *
  simp [World.setCell, Array.getElem?_modify, h]
theorem ScanAt.set {w : World} {b : Nat} {s : ByteArray} {p q : Nat} (h : ScanAt w b s p) : ScanAt (w.setCell ⟨b, 1, none⟩ (.int .i64 q)) b s q := by
  unfold ScanAt at *
  simp [World.setCell, Array.getElem?_modify, h]
theorem ScanAt.other {w : World} {b : Nat} {s : ByteArray} {p : Nat} {a : Addr} (h : ScanAt w b s p) (ha : a.block ≠ b) (v : Value) : ScanAt (w.setCell a v) b s p := by
  unfold ScanAt at *
  rw [Below.heap_setCell _ _ _ _ (Ne.symm ha), h]
theorem ScanAt.q {w : World} {b : Nat} {s : ByteArray} {p q : Nat} (h : ScanAt w b s p) (e : p = q) : ScanAt w b s q := e ▸ h
theorem Only.fresh {b : Nat} {x w : World} (h : Only b x w) {a : Addr} (ha : x.heap.size ≤ a.block) (v : Value) : Only b x (w.setCell a v) :=
  ⟨h.os, h.tape, h.output, by simpa [World.setCell] using h.size, fun k hk hb => by rw [Below.heap_setCell _ _ _ _ (by omega)]; exact h.block k hk hb⟩
section
variable {P : Program}
theorem region_tail {id : Nat} {Q : Exit → Act → World → Prop} {a : Act} {w : World} {l : List Oper} (n : Nat) (hm : P.follows .mixedOrders = true) (hB : Region.lexTailB .any l.toArray n = true)
    (h : wpStill P l.toArray w.drew (fun a' => wpList P l.toArray Q (l.drop n) a' w.drew) (l.take n) a) : (Code.region id l.toArray true).wp P Q a w := wp_region_still_tail n hm hB h
end
set_option maxHeartbeats 400000 in
theorem newScanner_any (s : ByteArray) (w : World) :
    Calls Tryd.prog 39 #[.string s] w fun e w' => e = .returned (.pointer (some ⟨w.heap.size, 0, none⟩)) ∧ w' = w.alloc (.cells #[.string s, .int .i64 0] 88) := by
  go_enter Tryd.func39, Tryd.ntmps39
  go_wp2
  go_ret
  exact ⟨rfl, rfl⟩
/-- what a scanner's method leaves: the result, the scanner at its new place, all else as it was -/
def Left (b : Nat) (s : ByteArray) (q : Nat) (v : Value) (w : World) (e : Ending) (w' : World) : Prop := e = .returned v ∧ ScanAt w' b s q ∧ Only b w w'
set_option maxHeartbeats 400000 in
theorem take_any (b : Nat) (s : ByteArray) (p q : Nat) (w : World) (c0 : w.cell? ⟨b, 0, none⟩ = some (.string s)) (c1 : w.cell? ⟨b, 1, none⟩ = some (.int .i64 p)) (f1 : w.frozen? ⟨b, 1, none⟩ = false) (hpq : p ≤ q) (hq : q ≤ s.size) :
    Calls Tryd.prog 74 #[.pointer (some ⟨b, 0, none⟩), .int .i64 q] w fun e w' => e = .returned (.string (s.extract p q)) ∧ ∃ n, w' = (w.setCell ⟨b, 1, none⟩ (.int .i64 q)).drewN n := by
  go_enter Tryd.func74, Tryd.ntmps74
  go_wp2_with fail
  go_quiet (fail)
  go_wp2_with fail
  go_ret
  exact ⟨rfl, nq, rfl⟩
theorem take_i (b : Nat) (s : ByteArray) (p q : Nat) (y : Int) (w : World) (h : ScanAt w b s p) (hpq : p ≤ q) (hq : q ≤ s.size) (hy : y = q) :
    Calls Tryd.prog 74 #[.pointer (some ⟨b, 0, none⟩), .int .i64 y] w fun e w' => e = .returned (.string (s.extract p q)) ∧ ∃ n, w' = (w.setCell ⟨b, 1, none⟩ (.int .i64 q)).drewN n := by
  subst hy; exact take_any b s p q w h.cell0 h.cell1 (h.frozen 1) hpq hq
set_option maxHeartbeats 400000 in
theorem white_any (b : Nat) (s : ByteArray) (p : Nat) (w : World) (hs : s.size ≤ 4611686018427387000) (h : ScanAt w b s p) (hp : p ≤ s.size) :
    Calls Tryd.prog 64 #[.pointer (some ⟨b, 0, none⟩)] w (Left b s (p + Wn.runLen Wn.blank (Wn.sfx s p)) (.agg #[.int .i64 8, .string ⟨#[10]⟩, .int .i64 0]) w) := by
  have hlt := h.lt
  have c0 := h.cell0
  have c1 := h.cell1
  have f1 := h.frozen 1
  have H := Lib.hid h; clear h
  go_enter Tryd.func64, Tryd.ntmps64
  go_wp2_with fail
  refine region_tail 12 (by kernel_rfl) (by kernel_rfl) ?_
  simp only [List.take_succ_cons, List.take_zero, List.drop_succ_cons, List.drop_zero]
  repeat still_step
  still_call ((blanksEnd_any s p _ hs hp).mono fun e w' h => ⟨h.1, h.2.symm⟩)
  repeat still_step
  refine wpStill_nil ?_
  go_wp2_with fail
  exact bodyPost_ret (v := .agg #[.int .i64 8, .string ⟨#[10]⟩, .int .i64 0]) (by simp [results, Tryd.results64, go_sem]) rfl ⟨rfl, ((H.out.set' (by omega)).alloc _).drew, (((Only.refl b w).setCell rfl _).alloc _).drew⟩
set_option maxHeartbeats 1000000 in
theorem named_any (b : Nat) (s : ByteArray) (p : Nat) (k : Int) (E : Nat) (w : World) (hs : s.size ≤ 4611686018427387000) (h : ScanAt w b s p) (hp : p + 1 ≤ s.size) (hE : p + 1 + Wn.runLen Wn.nameByte (Wn.sfx s (p + 1)) = E) :
    Calls Tryd.prog 69 #[.pointer (some ⟨b, 0, none⟩), .int .i64 k] w (Left b s E (.agg #[.int .i64 k, .string (s.extract (p + 1) E), .int .i64 0]) w) := by
  have hlt := h.lt
  have c0 := h.cell0
  have c1 := h.cell1
  have f1 := h.frozen 1
  have H := Lib.hid h; clear h
  have hr := Wn.runLen_le Wn.nameByte (Wn.sfx s (p + 1))
  rw [Wn.sfx_length] at hr
  have hE1 : p + 1 ≤ E := by omega
  have hE2 : E ≤ s.size := by omega
  have HE := Lib.hid hE; clear hE hr
  go_enter Tryd.func69, Tryd.ntmps69
  go_wp2_with fail
  go_region_with (first | (go_at_call 97; (with_reducible refine (nameEnd_i s (p + 1) _ E _ hs hp (by omega) HE.out).mono ?_); rintro e w' ⟨rfl, rfl⟩) | (go_at_call 74; (refine (take_i b s (p + 1) E _ _ (by exact (H.out.set' (by omega)).alloc _) hE1 hE2 rfl).mono ?_); rintro e w' ⟨rfl, nt, rfl⟩))
  all_goals
    go_wp2_with fail
    refine bodyPost_ret (v := .agg #[.int .i64 k, .string (s.extract (p + 1) E), .int .i64 0]) (by simp [results, Tryd.results69, go_sem]) rfl ⟨rfl, ?_, ?_⟩
    · exact (((((((H.out.set' (q := p + 1) (by omega)).set).alloc _).drewN _).other (by simp; omega) _).other (by simp; omega) _).other (by simp; omega) _)
    · exact (((((((Only.refl b w).setCell rfl _).setCell rfl _).alloc _).drewN _).fresh (by simp) _).fresh (by simp) _).fresh (by simp) _
end Go.Proofs.YtnkdppbpcinjhaaDoor
