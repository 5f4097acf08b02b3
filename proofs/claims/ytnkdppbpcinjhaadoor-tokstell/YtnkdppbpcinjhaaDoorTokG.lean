/- What a string and a number do to the scanner. -/
import Derived.Test.YtnkdppbpcinjhaaDoorTokF
set_option maxRecDepth 20000
namespace Go.Proofs.YtnkdppbpcinjhaaDoor
open Go.RowKit
/-- block b is a scanner of the text s, wherever it stands -/
def Scan (w : World) (b : Nat) (s : ByteArray) : Prop := ∃ p, ScanAt w b s p
theorem ScanAt.any {w : World} {b : Nat} {s : ByteArray} {p : Nat} (h : ScanAt w b s p) : Scan w b s := ⟨p, h⟩
theorem Scan.drewN {w : World} {b : Nat} {s : ByteArray} (h : Scan w b s) (n : Nat) : Scan (w.drewN n) b s := h.elim fun _ h => (h.drewN n).any
theorem Scan.drew {w : World} {b : Nat} {s : ByteArray} (h : Scan w b s) : Scan w.drew b s := h.elim fun _ h => h.drew.any
theorem Scan.alloc {w : World} {b : Nat} {s : ByteArray} (h : Scan w b s) (o : Obj) : Scan (w.alloc o) b s := h.elim fun _ h => (h.alloc o).any
theorem Scan.other {w : World} {b : Nat} {s : ByteArray} {a : Addr} (h : Scan w b s) (ha : a.block ≠ b) (v : Value) : Scan (w.setCell a v) b s := h.elim fun _ h => (h.other ha v).any
theorem Scan.set {w : World} {b : Nat} {s : ByteArray} {q : Nat} {v : Int} (h : Scan w b s) (hv : v = (q : Int)) : ScanAt (w.setCell ⟨b, 1, none⟩ (.int .i64 v)) b s q := h.elim fun _ h => h.set' hv
set_option maxHeartbeats 1000000 in
theorem quoted_any (b : Nat) (s : ByteArray) (p k : Nat) (w : World) (hs : s.size ≤ 4611686018427387000) (h : ScanAt w b s p) (hp : p < s.size) (hk : Wn.strLen (Wn.sfx s p) = some k) (hk2 : p + 1 + k < s.size) :
    Calls Tryd.prog 66 #[.pointer (some ⟨b, 0, none⟩)] w (Left b s (p + k + 2) (.agg #[.int .i64 6, .string (s.extract (p + 1) (p + 1 + k)), .int .i64 (Wn.hd (Wn.sfx s p))]) w) := by
  have hlt := h.lt
  have c0 := h.cell0
  have c1 := h.cell1
  have f1 := h.frozen 1
  have H := Lib.hid h; clear h
  have hpl : Wn.place (p + 1) (Wn.strLen (Wn.sfx s p)) = ((p + 1 + k : Nat) : Int) := by rw [hk]; rfl
  have HP := Lib.hid hpl
  clear hk hpl
  generalize hcc : Wn.hd (Wn.sfx s p) = c at *
  have HC := Lib.hid hcc; clear hcc
  go_enter Tryd.func66, Tryd.ntmps66
  go_wp2_with fail
  go_quiet (first | (go_at_call 67; exact quiet_left (byteAt_i s p _ c _ hs (by omega) rfl HC.out)) | (go_at_call 65; exact Calls.quiet_of (secondQuote_i s p _ _ _ hs (by omega) rfl HP.out)))
  go_wp2_with (go_at_call 74; (refine (take_l b s (p + 1) (p + 1 + k) _ _ (by (repeat (first | with_reducible exact H.out | with_reducible exact Hw2.out | with_reducible exact Hw1.out | with_reducible exact H.out.any | with_reducible exact Hw2.out.any | with_reducible exact Hw1.out.any | (with_reducible refine ScanAt.drewN ?_ _) | (with_reducible refine ScanAt.drew ?_) | (with_reducible refine ScanAt.alloc ?_ _) | ((with_reducible refine Scan.set ?_ ?_); rotate_left; (omega)) | ((with_reducible refine ScanAt.other ?_ ?_ _); rotate_left; ((simp; omega))) | (with_reducible refine Scan.drewN ?_ _) | (with_reducible refine Scan.drew ?_) | (with_reducible refine Scan.alloc ?_ _) | ((with_reducible refine Scan.other ?_ ?_ _); rotate_left; ((simp; omega)))))) (by omega) (by omega) (by omega)).mono ?_); rintro e w1 ⟨rfl, hm1, hm2⟩; (have Rw1 : Hid (Res w1 w.heap.size) := Lib.hid (Res.only (by (repeat (first | with_reducible exact Res.new _ _ _ _ | with_reducible exact RHw2.out | with_reducible exact RHw1.out | (with_reducible refine Res.drewN ?_ _) | (with_reducible refine Res.drew ?_) | (with_reducible refine Res.alloc ?_ _) | ((with_reducible refine Res.other ?_ ?_ _); rotate_left; ((simp; omega)))))) hm2 (by omega))); (have HOw1 : Hid (Only b w w1) := Lib.hid (Only.trans (by (repeat (first | with_reducible exact Only.refl _ _ | with_reducible exact HOw2.out | with_reducible exact HOw1.out | (with_reducible refine Only.drewN ?_ _) | (with_reducible refine Only.drew ?_) | (with_reducible refine Only.alloc ?_ _) | ((with_reducible refine Only.fresh ?_ ?_ _); rotate_left; (focus (simp; done))) | ((with_reducible refine Only.setCell ?_ ?_ _); rotate_left; (exact rfl))))) hm2)); have d0w1 := hm1.cell0; have d1w1 := hm1.cell1; have dfw1 := hm1.frozen 1; have Hw1 := Lib.hid hm1; obtain ⟨xw1, yw1, zw1, r0w1, r1w1, r2w1⟩ := Rw1.out.cells; have g0w1 := Rw1.out.frozen 0; have g1w1 := Rw1.out.frozen 1; have g2w1 := Rw1.out.frozen 2; have RHw1 := Lib.hid Rw1.out; clear hm1 hm2 Rw1; clear H c0 c1 f1)
  have RR : Res (w1.setCell ⟨b, 1, none⟩ (.int .i64 ((p : Int) + 1 + k + 1))) w.heap.size := by (repeat (first | with_reducible exact Res.new _ _ _ _ | with_reducible exact RHw2.out | with_reducible exact RHw1.out | (with_reducible refine Res.drewN ?_ _) | (with_reducible refine Res.drew ?_) | (with_reducible refine Res.alloc ?_ _) | ((with_reducible refine Res.other ?_ ?_ _); rotate_left; ((simp; omega)))))
  refine ret_tok rfl rfl rfl (RR.set _ _ _) ⟨rfl, ?_, ?_⟩
  · (repeat (first | with_reducible exact H.out | with_reducible exact Hw2.out | with_reducible exact Hw1.out | with_reducible exact H.out.any | with_reducible exact Hw2.out.any | with_reducible exact Hw1.out.any | (with_reducible refine ScanAt.drewN ?_ _) | (with_reducible refine ScanAt.drew ?_) | (with_reducible refine ScanAt.alloc ?_ _) | ((with_reducible refine Scan.set ?_ ?_); rotate_left; (omega)) | ((with_reducible refine ScanAt.other ?_ ?_ _); rotate_left; ((simp; omega))) | (with_reducible refine Scan.drewN ?_ _) | (with_reducible refine Scan.drew ?_) | (with_reducible refine Scan.alloc ?_ _) | ((with_reducible refine Scan.other ?_ ?_ _); rotate_left; ((simp; omega)))))
  · (repeat (first | with_reducible exact Only.refl _ _ | with_reducible exact HOw2.out | with_reducible exact HOw1.out | (with_reducible refine Only.drewN ?_ _) | (with_reducible refine Only.drew ?_) | (with_reducible refine Only.alloc ?_ _) | ((with_reducible refine Only.fresh ?_ ?_ _); rotate_left; (focus (simp; done))) | ((with_reducible refine Only.setCell ?_ ?_ _); rotate_left; (exact rfl))))
end Go.Proofs.YtnkdppbpcinjhaaDoor
