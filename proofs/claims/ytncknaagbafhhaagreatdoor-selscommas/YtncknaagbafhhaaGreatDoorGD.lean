/- What the scanner's next token is: numbers, words, delimiters. What the scanner's next token is, whatever it is. What toks.All answers: the tokens of its text, in a row of its own. -/
import Derived.Test.YtncknaagbafhhaaGreatDoorGC
import Derived.Test.YtncknaagbafhhaaGreatDoorGA
set_option maxRecDepth 20000
namespace Go.Proofs.YtncknaagbafhhaaGreatDoor
open Go.RowKit
set_option maxRecDepth 100000 in
set_option maxHeartbeats 2000000 in
theorem next_plus (b : Nat) (s : ByteArray) (p q : Nat) (w : World) (hs : s.size ≤ 4611686018427387000) (h : ScanAt w b s p) (hp : p ≤ s.size) (hq : p + Wn.skip (Wn.sfx s p) = q) (hq1 : q < s.size) (hb : Wn.blank (Wn.sfx s q) = false) (hsl : Wn.strLen (Wn.sfx s q) = none) (h35 : (Wn.hd (Wn.sfx s q) == 35) = false) (h64 : (Wn.hd (Wn.sfx s q) == 64) = false) (hnu : Wn.numberBegins (Wn.sfx s q) = true) (E : Nat) (V : Int) (hc : (Wn.hd (Wn.sfx s q) == 45) = false) (hE : q + Wn.runLen Wn.digit (Wn.sfx s q) = E) (hV : Wn.numVal 0 (Wn.sfx s q) = V) :
    Calls Tryz.prog 112 #[.pointer (some ⟨b, 0, none⟩)] w (Left b s (E + Wn.unitLen (Wn.sfx s E)) (.tuple #[.agg #[.int .i64 5, .string (s.extract E (E + Wn.unitLen (Wn.sfx s E))), .int .i64 V], .bool true]) w) := by
  have hsq : Wn.place (q + 1) (Wn.strLen (Wn.sfx s q)) = -1 := by rw [hsl]; rfl
  clear hsl
  have hlt := h.lt
  have H := Lib.hid h; clear h
  have HQ := Lib.hid hq; clear hq
  have HB := Lib.hid hb; clear hb
  have HSQ := Lib.hid hsq; clear hsq
  have HNU := Lib.hid hnu; clear hnu
  have HE := Lib.hid hE; clear hE
  have HV := Lib.hid hV; clear hV
  have HC45 := Lib.hid hc; clear hc
  generalize hcc : Wn.hd (Wn.sfx s q) = c at h35 h64
  have HC := Lib.hid hcc; clear hcc
  go_enter Tryz.func112, Tryz.ntmps112
  go_wp2_with (first | (go_at_call 153; (refine (skipComments_any b s p q _ hs (by (repeat (first | with_reducible exact H.out | with_reducible exact Hw2.out | with_reducible exact Hw1.out | with_reducible exact H.out.any | with_reducible exact Hw2.out.any | with_reducible exact Hw1.out.any | (with_reducible refine ScanAt.drewN ?_ _) | (with_reducible refine ScanAt.drew ?_) | (with_reducible refine ScanAt.alloc ?_ _) | ((with_reducible refine Scan.set ?_ ?_); rotate_left; (omega)) | ((with_reducible refine ScanAt.other ?_ ?_ _); rotate_left; ((simp; omega))) | (with_reducible refine Scan.drewN ?_ _) | (with_reducible refine Scan.drew ?_) | (with_reducible refine Scan.alloc ?_ _) | ((with_reducible refine Scan.other ?_ ?_ _); rotate_left; ((simp; omega)))))) hp HQ.out).mono ?_); rintro e w1 ⟨rfl, hm1, hm2⟩; (have Rw1 : Hid (Res w1 w.heap.size) := Lib.hid (Res.only (by (repeat (first | with_reducible exact Res.new _ _ _ _ | with_reducible exact RHw2.out | with_reducible exact RHw1.out | (with_reducible refine Res.drewN ?_ _) | (with_reducible refine Res.drew ?_) | (with_reducible refine Res.alloc ?_ _) | ((with_reducible refine Res.other ?_ ?_ _); rotate_left; ((simp; omega)))))) hm2 (by omega))); (have HOw1 : Hid (Only b w w1) := Lib.hid (Only.trans (by (repeat (first | with_reducible exact Only.refl _ _ | with_reducible exact HOw2.out | with_reducible exact HOw1.out | (with_reducible refine Only.drewN ?_ _) | (with_reducible refine Only.drew ?_) | (with_reducible refine Only.alloc ?_ _) | ((with_reducible refine Only.fresh ?_ ?_ _); rotate_left; (focus (simp; done))) | ((with_reducible refine Only.setCell ?_ ?_ _); rotate_left; (exact rfl))))) hm2)); have d0w1 := hm1.cell0; have d1w1 := hm1.cell1; have dfw1 := hm1.frozen 1; have Hw1 := Lib.hid hm1; obtain ⟨xw1, yw1, zw1, r0w1, r1w1, r2w1⟩ := Rw1.out.cells; have g0w1 := Rw1.out.frozen 0; have g1w1 := Rw1.out.frozen 1; have g2w1 := Rw1.out.frozen 2; have RHw1 := Lib.hid Rw1.out; clear hm1 hm2 Rw1; clear H) | (go_at_call 154; (with_reducible refine (isBlank_i s q _ _ _ hs (by omega) rfl HB.out).mono ?_); rintro e w' ⟨rfl, rfl⟩) | (go_at_call 156; (with_reducible refine (secondQuote_i s q _ _ _ hs (by omega) rfl HSQ.out).mono ?_); rintro e w' ⟨rfl, nd, rfl⟩) | (go_at_call 158; (with_reducible refine (byteAt_i s q _ _ _ hs (by omega) rfl HC.out).mono ?_); rintro e w' ⟨rfl, rfl⟩) | (go_at_call 159; (with_reducible refine (isNameByte_i s (q + 1) _ _ _ hs (by omega) ?_ HNB.out).mono ?_); (omega); rintro e w' ⟨rfl, rfl⟩) | (go_at_call 161; (with_reducible refine (nameBegins_i s q _ _ _ hs (by omega) rfl HN0.out).mono ?_); rintro e w' ⟨rfl, rfl⟩) | (go_at_call 161; (with_reducible refine (nameBegins_i s (q + 1) _ _ _ hs (by omega) ?_ HN1.out).mono ?_); (omega); rintro e w' ⟨rfl, rfl⟩) | (go_at_call 162; (with_reducible refine (numberBegins_i s q _ _ _ hs (by omega) rfl HNU.out).mono ?_); rintro e w' ⟨rfl, rfl⟩) | (go_at_call 163; (refine (number_plus b s q E V _ hs (by (repeat (first | with_reducible exact H.out | with_reducible exact Hw2.out | with_reducible exact Hw1.out | with_reducible exact H.out.any | with_reducible exact Hw2.out.any | with_reducible exact Hw1.out.any | (with_reducible refine ScanAt.drewN ?_ _) | (with_reducible refine ScanAt.drew ?_) | (with_reducible refine ScanAt.alloc ?_ _) | ((with_reducible refine Scan.set ?_ ?_); rotate_left; (omega)) | ((with_reducible refine ScanAt.other ?_ ?_ _); rotate_left; ((simp; omega))) | (with_reducible refine Scan.drewN ?_ _) | (with_reducible refine Scan.drew ?_) | (with_reducible refine Scan.alloc ?_ _) | ((with_reducible refine Scan.other ?_ ?_ _); rotate_left; ((simp; omega)))))) (by omega) HC45.out HE.out HV.out).mono ?_); rintro e w2 ⟨rfl, hn1, hn2⟩; (have Rw2 : Hid (Res w2 w.heap.size) := Lib.hid (Res.only (by (repeat (first | with_reducible exact Res.new _ _ _ _ | with_reducible exact RHw2.out | with_reducible exact RHw1.out | (with_reducible refine Res.drewN ?_ _) | (with_reducible refine Res.drew ?_) | (with_reducible refine Res.alloc ?_ _) | ((with_reducible refine Res.other ?_ ?_ _); rotate_left; ((simp; omega)))))) hn2 (by omega))); (have HOw2 : Hid (Only b w w2) := Lib.hid (Only.trans (by (repeat (first | with_reducible exact Only.refl _ _ | with_reducible exact HOw2.out | with_reducible exact HOw1.out | (with_reducible refine Only.drewN ?_ _) | (with_reducible refine Only.drew ?_) | (with_reducible refine Only.alloc ?_ _) | ((with_reducible refine Only.fresh ?_ ?_ _); rotate_left; (focus (simp; done))) | ((with_reducible refine Only.setCell ?_ ?_ _); rotate_left; (exact rfl))))) hn2)); have d0w2 := hn1.cell0; have d1w2 := hn1.cell1; have dfw2 := hn1.frozen 1; have Hw2 := Lib.hid hn1; obtain ⟨xw2, yw2, zw2, r0w2, r1w2, r2w2⟩ := Rw2.out.cells; have g0w2 := Rw2.out.frozen 0; have g1w2 := Rw2.out.frozen 1; have g2w2 := Rw2.out.frozen 2; have RHw2 := Lib.hid Rw2.out; clear hn1 hn2 Rw2))
  refine ret_tok_ok rfl rfl rfl rfl (RHw2.out.set _ _ _) ⟨rfl, ?_, ?_⟩
  · (repeat (first | with_reducible exact H.out | with_reducible exact Hw2.out | with_reducible exact Hw1.out | with_reducible exact H.out.any | with_reducible exact Hw2.out.any | with_reducible exact Hw1.out.any | (with_reducible refine ScanAt.drewN ?_ _) | (with_reducible refine ScanAt.drew ?_) | (with_reducible refine ScanAt.alloc ?_ _) | ((with_reducible refine Scan.set ?_ ?_); rotate_left; (omega)) | ((with_reducible refine ScanAt.other ?_ ?_ _); rotate_left; ((simp; omega))) | (with_reducible refine Scan.drewN ?_ _) | (with_reducible refine Scan.drew ?_) | (with_reducible refine Scan.alloc ?_ _) | ((with_reducible refine Scan.other ?_ ?_ _); rotate_left; ((simp; omega)))))
  · (repeat (first | with_reducible exact Only.refl _ _ | with_reducible exact HOw2.out | with_reducible exact HOw1.out | (with_reducible refine Only.drewN ?_ _) | (with_reducible refine Only.drew ?_) | (with_reducible refine Only.alloc ?_ _) | ((with_reducible refine Only.fresh ?_ ?_ _); rotate_left; (focus (simp; done))) | ((with_reducible refine Only.setCell ?_ ?_ _); rotate_left; (exact rfl))))
set_option maxRecDepth 100000 in
set_option maxHeartbeats 2000000 in
theorem next_minus (b : Nat) (s : ByteArray) (p q : Nat) (w : World) (hs : s.size ≤ 4611686018427387000) (h : ScanAt w b s p) (hp : p ≤ s.size) (hq : p + Wn.skip (Wn.sfx s p) = q) (hq1 : q < s.size) (hb : Wn.blank (Wn.sfx s q) = false) (hsl : Wn.strLen (Wn.sfx s q) = none) (hnu : Wn.numberBegins (Wn.sfx s q) = true) (E : Nat) (V : Int) (hc : Wn.hd (Wn.sfx s q) = 45) (hE : q + 1 + Wn.runLen Wn.digit (Wn.sfx s (q + 1)) = E) (hV : Wn.numVal 0 (Wn.sfx s (q + 1)) = V) :
    Calls Tryz.prog 112 #[.pointer (some ⟨b, 0, none⟩)] w (Left b s (E + Wn.unitLen (Wn.sfx s E)) (.tuple #[.agg #[.int .i64 5, .string (s.extract E (E + Wn.unitLen (Wn.sfx s E))), .int .i64 (-V)], .bool true]) w) := by
  have hsq : Wn.place (q + 1) (Wn.strLen (Wn.sfx s q)) = -1 := by rw [hsl]; rfl
  clear hsl
  have hlt := h.lt
  have H := Lib.hid h; clear h
  have HQ := Lib.hid hq; clear hq
  have HB := Lib.hid hb; clear hb
  have HSQ := Lib.hid hsq; clear hsq
  have HNU := Lib.hid hnu; clear hnu
  have HE := Lib.hid hE; clear hE
  have HV := Lib.hid hV; clear hV
  have HC := Lib.hid hc; clear hc
  go_enter Tryz.func112, Tryz.ntmps112
  go_wp2_with (first | (go_at_call 153; (refine (skipComments_any b s p q _ hs (by (repeat (first | with_reducible exact H.out | with_reducible exact Hw2.out | with_reducible exact Hw1.out | with_reducible exact H.out.any | with_reducible exact Hw2.out.any | with_reducible exact Hw1.out.any | (with_reducible refine ScanAt.drewN ?_ _) | (with_reducible refine ScanAt.drew ?_) | (with_reducible refine ScanAt.alloc ?_ _) | ((with_reducible refine Scan.set ?_ ?_); rotate_left; (omega)) | ((with_reducible refine ScanAt.other ?_ ?_ _); rotate_left; ((simp; omega))) | (with_reducible refine Scan.drewN ?_ _) | (with_reducible refine Scan.drew ?_) | (with_reducible refine Scan.alloc ?_ _) | ((with_reducible refine Scan.other ?_ ?_ _); rotate_left; ((simp; omega)))))) hp HQ.out).mono ?_); rintro e w1 ⟨rfl, hm1, hm2⟩; (have Rw1 : Hid (Res w1 w.heap.size) := Lib.hid (Res.only (by (repeat (first | with_reducible exact Res.new _ _ _ _ | with_reducible exact RHw2.out | with_reducible exact RHw1.out | (with_reducible refine Res.drewN ?_ _) | (with_reducible refine Res.drew ?_) | (with_reducible refine Res.alloc ?_ _) | ((with_reducible refine Res.other ?_ ?_ _); rotate_left; ((simp; omega)))))) hm2 (by omega))); (have HOw1 : Hid (Only b w w1) := Lib.hid (Only.trans (by (repeat (first | with_reducible exact Only.refl _ _ | with_reducible exact HOw2.out | with_reducible exact HOw1.out | (with_reducible refine Only.drewN ?_ _) | (with_reducible refine Only.drew ?_) | (with_reducible refine Only.alloc ?_ _) | ((with_reducible refine Only.fresh ?_ ?_ _); rotate_left; (focus (simp; done))) | ((with_reducible refine Only.setCell ?_ ?_ _); rotate_left; (exact rfl))))) hm2)); have d0w1 := hm1.cell0; have d1w1 := hm1.cell1; have dfw1 := hm1.frozen 1; have Hw1 := Lib.hid hm1; obtain ⟨xw1, yw1, zw1, r0w1, r1w1, r2w1⟩ := Rw1.out.cells; have g0w1 := Rw1.out.frozen 0; have g1w1 := Rw1.out.frozen 1; have g2w1 := Rw1.out.frozen 2; have RHw1 := Lib.hid Rw1.out; clear hm1 hm2 Rw1; clear H) | (go_at_call 154; (with_reducible refine (isBlank_i s q _ _ _ hs (by omega) rfl HB.out).mono ?_); rintro e w' ⟨rfl, rfl⟩) | (go_at_call 156; (with_reducible refine (secondQuote_i s q _ _ _ hs (by omega) rfl HSQ.out).mono ?_); rintro e w' ⟨rfl, nd, rfl⟩) | (go_at_call 158; (with_reducible refine (byteAt_i s q _ _ _ hs (by omega) rfl HC.out).mono ?_); rintro e w' ⟨rfl, rfl⟩) | (go_at_call 159; (with_reducible refine (isNameByte_i s (q + 1) _ _ _ hs (by omega) ?_ HNB.out).mono ?_); (omega); rintro e w' ⟨rfl, rfl⟩) | (go_at_call 161; (with_reducible refine (nameBegins_i s q _ _ _ hs (by omega) rfl HN0.out).mono ?_); rintro e w' ⟨rfl, rfl⟩) | (go_at_call 161; (with_reducible refine (nameBegins_i s (q + 1) _ _ _ hs (by omega) ?_ HN1.out).mono ?_); (omega); rintro e w' ⟨rfl, rfl⟩) | (go_at_call 162; (with_reducible refine (numberBegins_i s q _ _ _ hs (by omega) rfl HNU.out).mono ?_); rintro e w' ⟨rfl, rfl⟩) | (go_at_call 163; (refine (number_minus b s q E V _ hs (by (repeat (first | with_reducible exact H.out | with_reducible exact Hw2.out | with_reducible exact Hw1.out | with_reducible exact H.out.any | with_reducible exact Hw2.out.any | with_reducible exact Hw1.out.any | (with_reducible refine ScanAt.drewN ?_ _) | (with_reducible refine ScanAt.drew ?_) | (with_reducible refine ScanAt.alloc ?_ _) | ((with_reducible refine Scan.set ?_ ?_); rotate_left; (omega)) | ((with_reducible refine ScanAt.other ?_ ?_ _); rotate_left; ((simp; omega))) | (with_reducible refine Scan.drewN ?_ _) | (with_reducible refine Scan.drew ?_) | (with_reducible refine Scan.alloc ?_ _) | ((with_reducible refine Scan.other ?_ ?_ _); rotate_left; ((simp; omega)))))) (by omega) HC.out HE.out HV.out).mono ?_); rintro e w2 ⟨rfl, hn1, hn2⟩; (have Rw2 : Hid (Res w2 w.heap.size) := Lib.hid (Res.only (by (repeat (first | with_reducible exact Res.new _ _ _ _ | with_reducible exact RHw2.out | with_reducible exact RHw1.out | (with_reducible refine Res.drewN ?_ _) | (with_reducible refine Res.drew ?_) | (with_reducible refine Res.alloc ?_ _) | ((with_reducible refine Res.other ?_ ?_ _); rotate_left; ((simp; omega)))))) hn2 (by omega))); (have HOw2 : Hid (Only b w w2) := Lib.hid (Only.trans (by (repeat (first | with_reducible exact Only.refl _ _ | with_reducible exact HOw2.out | with_reducible exact HOw1.out | (with_reducible refine Only.drewN ?_ _) | (with_reducible refine Only.drew ?_) | (with_reducible refine Only.alloc ?_ _) | ((with_reducible refine Only.fresh ?_ ?_ _); rotate_left; (focus (simp; done))) | ((with_reducible refine Only.setCell ?_ ?_ _); rotate_left; (exact rfl))))) hn2)); have d0w2 := hn1.cell0; have d1w2 := hn1.cell1; have dfw2 := hn1.frozen 1; have Hw2 := Lib.hid hn1; obtain ⟨xw2, yw2, zw2, r0w2, r1w2, r2w2⟩ := Rw2.out.cells; have g0w2 := Rw2.out.frozen 0; have g1w2 := Rw2.out.frozen 1; have g2w2 := Rw2.out.frozen 2; have RHw2 := Lib.hid Rw2.out; clear hn1 hn2 Rw2))
  refine ret_tok_ok rfl rfl rfl rfl (RHw2.out.set _ _ _) ⟨rfl, ?_, ?_⟩
  · (repeat (first | with_reducible exact H.out | with_reducible exact Hw2.out | with_reducible exact Hw1.out | with_reducible exact H.out.any | with_reducible exact Hw2.out.any | with_reducible exact Hw1.out.any | (with_reducible refine ScanAt.drewN ?_ _) | (with_reducible refine ScanAt.drew ?_) | (with_reducible refine ScanAt.alloc ?_ _) | ((with_reducible refine Scan.set ?_ ?_); rotate_left; (omega)) | ((with_reducible refine ScanAt.other ?_ ?_ _); rotate_left; ((simp; omega))) | (with_reducible refine Scan.drewN ?_ _) | (with_reducible refine Scan.drew ?_) | (with_reducible refine Scan.alloc ?_ _) | ((with_reducible refine Scan.other ?_ ?_ _); rotate_left; ((simp; omega)))))
  · (repeat (first | with_reducible exact Only.refl _ _ | with_reducible exact HOw2.out | with_reducible exact HOw1.out | (with_reducible refine Only.drewN ?_ _) | (with_reducible refine Only.drew ?_) | (with_reducible refine Only.alloc ?_ _) | ((with_reducible refine Only.fresh ?_ ?_ _); rotate_left; (focus (simp; done))) | ((with_reducible refine Only.setCell ?_ ?_ _); rotate_left; (exact rfl))))
set_option maxRecDepth 100000 in
set_option maxHeartbeats 2000000 in
theorem next_word (b : Nat) (s : ByteArray) (p q : Nat) (w : World) (hs : s.size ≤ 4611686018427387000) (h : ScanAt w b s p) (hp : p ≤ s.size) (hq : p + Wn.skip (Wn.sfx s p) = q) (hq1 : q < s.size) (hb : Wn.blank (Wn.sfx s q) = false) (hsl : Wn.strLen (Wn.sfx s q) = none) (h35 : (Wn.hd (Wn.sfx s q) == 35) = false) (h64 : (Wn.hd (Wn.sfx s q) == 64) = false) (hnu : Wn.numberBegins (Wn.sfx s q) = false) (hn0 : Wn.nameBegins (Wn.sfx s q) = true) (E : Nat) (hE : q + Wn.runLen Wn.nameByte (Wn.sfx s q) = E) :
    Calls Tryz.prog 112 #[.pointer (some ⟨b, 0, none⟩)] w (Left b s (if Wn.hd (Wn.sfx s E) == 40 then E + 1 else E) (.tuple #[.agg #[.int .i64 (if Wn.hd (Wn.sfx s E) == 40 then 2 else 1), .string (s.extract q E), .int .i64 0], .bool true]) w) := by
  have hsq : Wn.place (q + 1) (Wn.strLen (Wn.sfx s q)) = -1 := by rw [hsl]; rfl
  clear hsl
  have hlt := h.lt
  have H := Lib.hid h; clear h
  have HQ := Lib.hid hq; clear hq
  have HB := Lib.hid hb; clear hb
  have HSQ := Lib.hid hsq; clear hsq
  have HNU := Lib.hid hnu; clear hnu
  have HN0 := Lib.hid hn0; clear hn0
  have HE := Lib.hid hE; clear hE
  generalize hcc : Wn.hd (Wn.sfx s q) = c at h35 h64
  have HC := Lib.hid hcc; clear hcc
  generalize hQ2 : (if Wn.hd (Wn.sfx s E) == 40 then E + 1 else E) = Q2
  generalize hK2 : (if Wn.hd (Wn.sfx s E) == 40 then 2 else 1 : Int) = K2
  have HQ2 := Lib.hid hQ2; clear hQ2
  have HK2 := Lib.hid hK2; clear hK2
  go_enter Tryz.func112, Tryz.ntmps112
  go_wp2_with (first | (go_at_call 153; (refine (skipComments_any b s p q _ hs (by (repeat (first | with_reducible exact H.out | with_reducible exact Hw2.out | with_reducible exact Hw1.out | with_reducible exact H.out.any | with_reducible exact Hw2.out.any | with_reducible exact Hw1.out.any | (with_reducible refine ScanAt.drewN ?_ _) | (with_reducible refine ScanAt.drew ?_) | (with_reducible refine ScanAt.alloc ?_ _) | ((with_reducible refine Scan.set ?_ ?_); rotate_left; (omega)) | ((with_reducible refine ScanAt.other ?_ ?_ _); rotate_left; ((simp; omega))) | (with_reducible refine Scan.drewN ?_ _) | (with_reducible refine Scan.drew ?_) | (with_reducible refine Scan.alloc ?_ _) | ((with_reducible refine Scan.other ?_ ?_ _); rotate_left; ((simp; omega)))))) hp HQ.out).mono ?_); rintro e w1 ⟨rfl, hm1, hm2⟩; (have Rw1 : Hid (Res w1 w.heap.size) := Lib.hid (Res.only (by (repeat (first | with_reducible exact Res.new _ _ _ _ | with_reducible exact RHw2.out | with_reducible exact RHw1.out | (with_reducible refine Res.drewN ?_ _) | (with_reducible refine Res.drew ?_) | (with_reducible refine Res.alloc ?_ _) | ((with_reducible refine Res.other ?_ ?_ _); rotate_left; ((simp; omega)))))) hm2 (by omega))); (have HOw1 : Hid (Only b w w1) := Lib.hid (Only.trans (by (repeat (first | with_reducible exact Only.refl _ _ | with_reducible exact HOw2.out | with_reducible exact HOw1.out | (with_reducible refine Only.drewN ?_ _) | (with_reducible refine Only.drew ?_) | (with_reducible refine Only.alloc ?_ _) | ((with_reducible refine Only.fresh ?_ ?_ _); rotate_left; (focus (simp; done))) | ((with_reducible refine Only.setCell ?_ ?_ _); rotate_left; (exact rfl))))) hm2)); have d0w1 := hm1.cell0; have d1w1 := hm1.cell1; have dfw1 := hm1.frozen 1; have Hw1 := Lib.hid hm1; obtain ⟨xw1, yw1, zw1, r0w1, r1w1, r2w1⟩ := Rw1.out.cells; have g0w1 := Rw1.out.frozen 0; have g1w1 := Rw1.out.frozen 1; have g2w1 := Rw1.out.frozen 2; have RHw1 := Lib.hid Rw1.out; clear hm1 hm2 Rw1; clear H) | (go_at_call 154; (with_reducible refine (isBlank_i s q _ _ _ hs (by omega) rfl HB.out).mono ?_); rintro e w' ⟨rfl, rfl⟩) | (go_at_call 156; (with_reducible refine (secondQuote_i s q _ _ _ hs (by omega) rfl HSQ.out).mono ?_); rintro e w' ⟨rfl, nd, rfl⟩) | (go_at_call 158; (with_reducible refine (byteAt_i s q _ _ _ hs (by omega) rfl HC.out).mono ?_); rintro e w' ⟨rfl, rfl⟩) | (go_at_call 159; (with_reducible refine (isNameByte_i s (q + 1) _ _ _ hs (by omega) ?_ HNB.out).mono ?_); (omega); rintro e w' ⟨rfl, rfl⟩) | (go_at_call 161; (with_reducible refine (nameBegins_i s q _ _ _ hs (by omega) rfl HN0.out).mono ?_); rintro e w' ⟨rfl, rfl⟩) | (go_at_call 161; (with_reducible refine (nameBegins_i s (q + 1) _ _ _ hs (by omega) ?_ HN1.out).mono ?_); (omega); rintro e w' ⟨rfl, rfl⟩) | (go_at_call 162; (with_reducible refine (numberBegins_i s q _ _ _ hs (by omega) rfl HNU.out).mono ?_); rintro e w' ⟨rfl, rfl⟩) | (go_at_call 164; (refine (word_any b s q E _ hs (by (repeat (first | with_reducible exact H.out | with_reducible exact Hw2.out | with_reducible exact Hw1.out | with_reducible exact H.out.any | with_reducible exact Hw2.out.any | with_reducible exact Hw1.out.any | (with_reducible refine ScanAt.drewN ?_ _) | (with_reducible refine ScanAt.drew ?_) | (with_reducible refine ScanAt.alloc ?_ _) | ((with_reducible refine Scan.set ?_ ?_); rotate_left; (omega)) | ((with_reducible refine ScanAt.other ?_ ?_ _); rotate_left; ((simp; omega))) | (with_reducible refine Scan.drewN ?_ _) | (with_reducible refine Scan.drew ?_) | (with_reducible refine Scan.alloc ?_ _) | ((with_reducible refine Scan.other ?_ ?_ _); rotate_left; ((simp; omega)))))) (by omega) HE.out).mono ?_); rw [HQ2.out, HK2.out]; rintro e w2 ⟨rfl, hn1, hn2⟩; (have Rw2 : Hid (Res w2 w.heap.size) := Lib.hid (Res.only (by (repeat (first | with_reducible exact Res.new _ _ _ _ | with_reducible exact RHw2.out | with_reducible exact RHw1.out | (with_reducible refine Res.drewN ?_ _) | (with_reducible refine Res.drew ?_) | (with_reducible refine Res.alloc ?_ _) | ((with_reducible refine Res.other ?_ ?_ _); rotate_left; ((simp; omega)))))) hn2 (by omega))); (have HOw2 : Hid (Only b w w2) := Lib.hid (Only.trans (by (repeat (first | with_reducible exact Only.refl _ _ | with_reducible exact HOw2.out | with_reducible exact HOw1.out | (with_reducible refine Only.drewN ?_ _) | (with_reducible refine Only.drew ?_) | (with_reducible refine Only.alloc ?_ _) | ((with_reducible refine Only.fresh ?_ ?_ _); rotate_left; (focus (simp; done))) | ((with_reducible refine Only.setCell ?_ ?_ _); rotate_left; (exact rfl))))) hn2)); have d0w2 := hn1.cell0; have d1w2 := hn1.cell1; have dfw2 := hn1.frozen 1; have Hw2 := Lib.hid hn1; obtain ⟨xw2, yw2, zw2, r0w2, r1w2, r2w2⟩ := Rw2.out.cells; have g0w2 := Rw2.out.frozen 0; have g1w2 := Rw2.out.frozen 1; have g2w2 := Rw2.out.frozen 2; have RHw2 := Lib.hid Rw2.out; clear hn1 hn2 Rw2))
  refine ret_tok_ok rfl rfl rfl rfl (RHw2.out.set _ _ _) ⟨rfl, ?_, ?_⟩
  · (repeat (first | with_reducible exact H.out | with_reducible exact Hw2.out | with_reducible exact Hw1.out | with_reducible exact H.out.any | with_reducible exact Hw2.out.any | with_reducible exact Hw1.out.any | (with_reducible refine ScanAt.drewN ?_ _) | (with_reducible refine ScanAt.drew ?_) | (with_reducible refine ScanAt.alloc ?_ _) | ((with_reducible refine Scan.set ?_ ?_); rotate_left; (omega)) | ((with_reducible refine ScanAt.other ?_ ?_ _); rotate_left; ((simp; omega))) | (with_reducible refine Scan.drewN ?_ _) | (with_reducible refine Scan.drew ?_) | (with_reducible refine Scan.alloc ?_ _) | ((with_reducible refine Scan.other ?_ ?_ _); rotate_left; ((simp; omega)))))
  · (repeat (first | with_reducible exact Only.refl _ _ | with_reducible exact HOw2.out | with_reducible exact HOw1.out | (with_reducible refine Only.drewN ?_ _) | (with_reducible refine Only.drew ?_) | (with_reducible refine Only.alloc ?_ _) | ((with_reducible refine Only.fresh ?_ ?_ _); rotate_left; (focus (simp; done))) | ((with_reducible refine Only.setCell ?_ ?_ _); rotate_left; (exact rfl))))
set_option maxRecDepth 100000 in
set_option maxHeartbeats 2000000 in
theorem next_delim (b : Nat) (s : ByteArray) (p q : Nat) (w : World) (hs : s.size ≤ 4611686018427387000) (h : ScanAt w b s p) (hp : p ≤ s.size) (hq : p + Wn.skip (Wn.sfx s p) = q) (hq1 : q < s.size) (hb : Wn.blank (Wn.sfx s q) = false) (hsl : Wn.strLen (Wn.sfx s q) = none) (h35 : (Wn.hd (Wn.sfx s q) == 35) = false) (h64 : (Wn.hd (Wn.sfx s q) == 64) = false) (hnu : Wn.numberBegins (Wn.sfx s q) = false) (hn0 : Wn.nameBegins (Wn.sfx s q) = false) :
    Calls Tryz.prog 112 #[.pointer (some ⟨b, 0, none⟩)] w (Left b s (q + 1) (.tuple #[.agg #[.int .i64 7, .string (s.extract q (q + 1)), .int .i64 0], .bool true]) w) := by
  have hsq : Wn.place (q + 1) (Wn.strLen (Wn.sfx s q)) = -1 := by rw [hsl]; rfl
  clear hsl
  have hlt := h.lt
  have H := Lib.hid h; clear h
  have HQ := Lib.hid hq; clear hq
  have HB := Lib.hid hb; clear hb
  have HSQ := Lib.hid hsq; clear hsq
  have HNU := Lib.hid hnu; clear hnu
  have HN0 := Lib.hid hn0; clear hn0
  generalize hcc : Wn.hd (Wn.sfx s q) = c at h35 h64
  have HC := Lib.hid hcc; clear hcc
  go_enter Tryz.func112, Tryz.ntmps112
  go_wp2_with (first | (go_at_call 153; (refine (skipComments_any b s p q _ hs (by (repeat (first | with_reducible exact H.out | with_reducible exact Hw2.out | with_reducible exact Hw1.out | with_reducible exact H.out.any | with_reducible exact Hw2.out.any | with_reducible exact Hw1.out.any | (with_reducible refine ScanAt.drewN ?_ _) | (with_reducible refine ScanAt.drew ?_) | (with_reducible refine ScanAt.alloc ?_ _) | ((with_reducible refine Scan.set ?_ ?_); rotate_left; (omega)) | ((with_reducible refine ScanAt.other ?_ ?_ _); rotate_left; ((simp; omega))) | (with_reducible refine Scan.drewN ?_ _) | (with_reducible refine Scan.drew ?_) | (with_reducible refine Scan.alloc ?_ _) | ((with_reducible refine Scan.other ?_ ?_ _); rotate_left; ((simp; omega)))))) hp HQ.out).mono ?_); rintro e w1 ⟨rfl, hm1, hm2⟩; (have Rw1 : Hid (Res w1 w.heap.size) := Lib.hid (Res.only (by (repeat (first | with_reducible exact Res.new _ _ _ _ | with_reducible exact RHw2.out | with_reducible exact RHw1.out | (with_reducible refine Res.drewN ?_ _) | (with_reducible refine Res.drew ?_) | (with_reducible refine Res.alloc ?_ _) | ((with_reducible refine Res.other ?_ ?_ _); rotate_left; ((simp; omega)))))) hm2 (by omega))); (have HOw1 : Hid (Only b w w1) := Lib.hid (Only.trans (by (repeat (first | with_reducible exact Only.refl _ _ | with_reducible exact HOw2.out | with_reducible exact HOw1.out | (with_reducible refine Only.drewN ?_ _) | (with_reducible refine Only.drew ?_) | (with_reducible refine Only.alloc ?_ _) | ((with_reducible refine Only.fresh ?_ ?_ _); rotate_left; (focus (simp; done))) | ((with_reducible refine Only.setCell ?_ ?_ _); rotate_left; (exact rfl))))) hm2)); have d0w1 := hm1.cell0; have d1w1 := hm1.cell1; have dfw1 := hm1.frozen 1; have Hw1 := Lib.hid hm1; obtain ⟨xw1, yw1, zw1, r0w1, r1w1, r2w1⟩ := Rw1.out.cells; have g0w1 := Rw1.out.frozen 0; have g1w1 := Rw1.out.frozen 1; have g2w1 := Rw1.out.frozen 2; have RHw1 := Lib.hid Rw1.out; clear hm1 hm2 Rw1; clear H) | (go_at_call 154; (with_reducible refine (isBlank_i s q _ _ _ hs (by omega) rfl HB.out).mono ?_); rintro e w' ⟨rfl, rfl⟩) | (go_at_call 156; (with_reducible refine (secondQuote_i s q _ _ _ hs (by omega) rfl HSQ.out).mono ?_); rintro e w' ⟨rfl, nd, rfl⟩) | (go_at_call 158; (with_reducible refine (byteAt_i s q _ _ _ hs (by omega) rfl HC.out).mono ?_); rintro e w' ⟨rfl, rfl⟩) | (go_at_call 159; (with_reducible refine (isNameByte_i s (q + 1) _ _ _ hs (by omega) ?_ HNB.out).mono ?_); (omega); rintro e w' ⟨rfl, rfl⟩) | (go_at_call 161; (with_reducible refine (nameBegins_i s q _ _ _ hs (by omega) rfl HN0.out).mono ?_); rintro e w' ⟨rfl, rfl⟩) | (go_at_call 161; (with_reducible refine (nameBegins_i s (q + 1) _ _ _ hs (by omega) ?_ HN1.out).mono ?_); (omega); rintro e w' ⟨rfl, rfl⟩) | (go_at_call 162; (with_reducible refine (numberBegins_i s q _ _ _ hs (by omega) rfl HNU.out).mono ?_); rintro e w' ⟨rfl, rfl⟩) | (go_at_call 165; (refine (take_l b s q (q + 1) _ _ (by (repeat (first | with_reducible exact H.out | with_reducible exact Hw2.out | with_reducible exact Hw1.out | with_reducible exact H.out.any | with_reducible exact Hw2.out.any | with_reducible exact Hw1.out.any | (with_reducible refine ScanAt.drewN ?_ _) | (with_reducible refine ScanAt.drew ?_) | (with_reducible refine ScanAt.alloc ?_ _) | ((with_reducible refine Scan.set ?_ ?_); rotate_left; (omega)) | ((with_reducible refine ScanAt.other ?_ ?_ _); rotate_left; ((simp; omega))) | (with_reducible refine Scan.drewN ?_ _) | (with_reducible refine Scan.drew ?_) | (with_reducible refine Scan.alloc ?_ _) | ((with_reducible refine Scan.other ?_ ?_ _); rotate_left; ((simp; omega)))))) (by omega) (by omega) (by omega)).mono ?_); rintro e w2 ⟨rfl, hn1, hn2⟩; (have Rw2 : Hid (Res w2 w.heap.size) := Lib.hid (Res.only (by (repeat (first | with_reducible exact Res.new _ _ _ _ | with_reducible exact RHw2.out | with_reducible exact RHw1.out | (with_reducible refine Res.drewN ?_ _) | (with_reducible refine Res.drew ?_) | (with_reducible refine Res.alloc ?_ _) | ((with_reducible refine Res.other ?_ ?_ _); rotate_left; ((simp; omega)))))) hn2 (by omega))); (have HOw2 : Hid (Only b w w2) := Lib.hid (Only.trans (by (repeat (first | with_reducible exact Only.refl _ _ | with_reducible exact HOw2.out | with_reducible exact HOw1.out | (with_reducible refine Only.drewN ?_ _) | (with_reducible refine Only.drew ?_) | (with_reducible refine Only.alloc ?_ _) | ((with_reducible refine Only.fresh ?_ ?_ _); rotate_left; (focus (simp; done))) | ((with_reducible refine Only.setCell ?_ ?_ _); rotate_left; (exact rfl))))) hn2)); have d0w2 := hn1.cell0; have d1w2 := hn1.cell1; have dfw2 := hn1.frozen 1; have Hw2 := Lib.hid hn1; obtain ⟨xw2, yw2, zw2, r0w2, r1w2, r2w2⟩ := Rw2.out.cells; have g0w2 := Rw2.out.frozen 0; have g1w2 := Rw2.out.frozen 1; have g2w2 := Rw2.out.frozen 2; have RHw2 := Lib.hid Rw2.out; clear hn1 hn2 Rw2))
  refine ret_tok_ok rfl rfl rfl rfl (RHw2.out.set _ _ _) ⟨rfl, ?_, ?_⟩
  · (repeat (first | with_reducible exact H.out | with_reducible exact Hw2.out | with_reducible exact Hw1.out | with_reducible exact H.out.any | with_reducible exact Hw2.out.any | with_reducible exact Hw1.out.any | (with_reducible refine ScanAt.drewN ?_ _) | (with_reducible refine ScanAt.drew ?_) | (with_reducible refine ScanAt.alloc ?_ _) | ((with_reducible refine Scan.set ?_ ?_); rotate_left; (omega)) | ((with_reducible refine ScanAt.other ?_ ?_ _); rotate_left; ((simp; omega))) | (with_reducible refine Scan.drewN ?_ _) | (with_reducible refine Scan.drew ?_) | (with_reducible refine Scan.alloc ?_ _) | ((with_reducible refine Scan.other ?_ ?_ _); rotate_left; ((simp; omega)))))
  · (repeat (first | with_reducible exact Only.refl _ _ | with_reducible exact HOw2.out | with_reducible exact HOw1.out | (with_reducible refine Only.drewN ?_ _) | (with_reducible refine Only.drew ?_) | (with_reducible refine Only.alloc ?_ _) | ((with_reducible refine Only.fresh ?_ ?_ _); rotate_left; (focus (simp; done))) | ((with_reducible refine Only.setCell ?_ ?_ _); rotate_left; (exact rfl))))
set_option maxRecDepth 100000 in
set_option maxHeartbeats 2000000 in
theorem next_delim35 (b : Nat) (s : ByteArray) (p q : Nat) (w : World) (hs : s.size ≤ 4611686018427387000) (h : ScanAt w b s p) (hp : p ≤ s.size) (hq : p + Wn.skip (Wn.sfx s p) = q) (hq1 : q < s.size) (hb : Wn.blank (Wn.sfx s q) = false) (hsl : Wn.strLen (Wn.sfx s q) = none) (hc : Wn.hd (Wn.sfx s q) = 35) (hnb : Wn.nameByte (Wn.sfx s (q + 1)) = false) (hnu : Wn.numberBegins (Wn.sfx s q) = false) (hn0 : Wn.nameBegins (Wn.sfx s q) = false) :
    Calls Tryz.prog 112 #[.pointer (some ⟨b, 0, none⟩)] w (Left b s (q + 1) (.tuple #[.agg #[.int .i64 7, .string (s.extract q (q + 1)), .int .i64 0], .bool true]) w) := by
  have hsq : Wn.place (q + 1) (Wn.strLen (Wn.sfx s q)) = -1 := by rw [hsl]; rfl
  clear hsl
  have hlt := h.lt
  have H := Lib.hid h; clear h
  have HQ := Lib.hid hq; clear hq
  have HB := Lib.hid hb; clear hb
  have HSQ := Lib.hid hsq; clear hsq
  have HNU := Lib.hid hnu; clear hnu
  have HN0 := Lib.hid hn0; clear hn0
  have HC := Lib.hid hc; clear hc
  have HNB := Lib.hid hnb; clear hnb
  go_enter Tryz.func112, Tryz.ntmps112
  go_wp2_with (first | (go_at_call 153; (refine (skipComments_any b s p q _ hs (by (repeat (first | with_reducible exact H.out | with_reducible exact Hw2.out | with_reducible exact Hw1.out | with_reducible exact H.out.any | with_reducible exact Hw2.out.any | with_reducible exact Hw1.out.any | (with_reducible refine ScanAt.drewN ?_ _) | (with_reducible refine ScanAt.drew ?_) | (with_reducible refine ScanAt.alloc ?_ _) | ((with_reducible refine Scan.set ?_ ?_); rotate_left; (omega)) | ((with_reducible refine ScanAt.other ?_ ?_ _); rotate_left; ((simp; omega))) | (with_reducible refine Scan.drewN ?_ _) | (with_reducible refine Scan.drew ?_) | (with_reducible refine Scan.alloc ?_ _) | ((with_reducible refine Scan.other ?_ ?_ _); rotate_left; ((simp; omega)))))) hp HQ.out).mono ?_); rintro e w1 ⟨rfl, hm1, hm2⟩; (have Rw1 : Hid (Res w1 w.heap.size) := Lib.hid (Res.only (by (repeat (first | with_reducible exact Res.new _ _ _ _ | with_reducible exact RHw2.out | with_reducible exact RHw1.out | (with_reducible refine Res.drewN ?_ _) | (with_reducible refine Res.drew ?_) | (with_reducible refine Res.alloc ?_ _) | ((with_reducible refine Res.other ?_ ?_ _); rotate_left; ((simp; omega)))))) hm2 (by omega))); (have HOw1 : Hid (Only b w w1) := Lib.hid (Only.trans (by (repeat (first | with_reducible exact Only.refl _ _ | with_reducible exact HOw2.out | with_reducible exact HOw1.out | (with_reducible refine Only.drewN ?_ _) | (with_reducible refine Only.drew ?_) | (with_reducible refine Only.alloc ?_ _) | ((with_reducible refine Only.fresh ?_ ?_ _); rotate_left; (focus (simp; done))) | ((with_reducible refine Only.setCell ?_ ?_ _); rotate_left; (exact rfl))))) hm2)); have d0w1 := hm1.cell0; have d1w1 := hm1.cell1; have dfw1 := hm1.frozen 1; have Hw1 := Lib.hid hm1; obtain ⟨xw1, yw1, zw1, r0w1, r1w1, r2w1⟩ := Rw1.out.cells; have g0w1 := Rw1.out.frozen 0; have g1w1 := Rw1.out.frozen 1; have g2w1 := Rw1.out.frozen 2; have RHw1 := Lib.hid Rw1.out; clear hm1 hm2 Rw1; clear H) | (go_at_call 154; (with_reducible refine (isBlank_i s q _ _ _ hs (by omega) rfl HB.out).mono ?_); rintro e w' ⟨rfl, rfl⟩) | (go_at_call 156; (with_reducible refine (secondQuote_i s q _ _ _ hs (by omega) rfl HSQ.out).mono ?_); rintro e w' ⟨rfl, nd, rfl⟩) | (go_at_call 158; (with_reducible refine (byteAt_i s q _ _ _ hs (by omega) rfl HC.out).mono ?_); rintro e w' ⟨rfl, rfl⟩) | (go_at_call 159; (with_reducible refine (isNameByte_i s (q + 1) _ _ _ hs (by omega) ?_ HNB.out).mono ?_); (omega); rintro e w' ⟨rfl, rfl⟩) | (go_at_call 161; (with_reducible refine (nameBegins_i s q _ _ _ hs (by omega) rfl HN0.out).mono ?_); rintro e w' ⟨rfl, rfl⟩) | (go_at_call 161; (with_reducible refine (nameBegins_i s (q + 1) _ _ _ hs (by omega) ?_ HN1.out).mono ?_); (omega); rintro e w' ⟨rfl, rfl⟩) | (go_at_call 162; (with_reducible refine (numberBegins_i s q _ _ _ hs (by omega) rfl HNU.out).mono ?_); rintro e w' ⟨rfl, rfl⟩) | (go_at_call 165; (refine (take_l b s q (q + 1) _ _ (by (repeat (first | with_reducible exact H.out | with_reducible exact Hw2.out | with_reducible exact Hw1.out | with_reducible exact H.out.any | with_reducible exact Hw2.out.any | with_reducible exact Hw1.out.any | (with_reducible refine ScanAt.drewN ?_ _) | (with_reducible refine ScanAt.drew ?_) | (with_reducible refine ScanAt.alloc ?_ _) | ((with_reducible refine Scan.set ?_ ?_); rotate_left; (omega)) | ((with_reducible refine ScanAt.other ?_ ?_ _); rotate_left; ((simp; omega))) | (with_reducible refine Scan.drewN ?_ _) | (with_reducible refine Scan.drew ?_) | (with_reducible refine Scan.alloc ?_ _) | ((with_reducible refine Scan.other ?_ ?_ _); rotate_left; ((simp; omega)))))) (by omega) (by omega) (by omega)).mono ?_); rintro e w2 ⟨rfl, hn1, hn2⟩; (have Rw2 : Hid (Res w2 w.heap.size) := Lib.hid (Res.only (by (repeat (first | with_reducible exact Res.new _ _ _ _ | with_reducible exact RHw2.out | with_reducible exact RHw1.out | (with_reducible refine Res.drewN ?_ _) | (with_reducible refine Res.drew ?_) | (with_reducible refine Res.alloc ?_ _) | ((with_reducible refine Res.other ?_ ?_ _); rotate_left; ((simp; omega)))))) hn2 (by omega))); (have HOw2 : Hid (Only b w w2) := Lib.hid (Only.trans (by (repeat (first | with_reducible exact Only.refl _ _ | with_reducible exact HOw2.out | with_reducible exact HOw1.out | (with_reducible refine Only.drewN ?_ _) | (with_reducible refine Only.drew ?_) | (with_reducible refine Only.alloc ?_ _) | ((with_reducible refine Only.fresh ?_ ?_ _); rotate_left; (focus (simp; done))) | ((with_reducible refine Only.setCell ?_ ?_ _); rotate_left; (exact rfl))))) hn2)); have d0w2 := hn1.cell0; have d1w2 := hn1.cell1; have dfw2 := hn1.frozen 1; have Hw2 := Lib.hid hn1; obtain ⟨xw2, yw2, zw2, r0w2, r1w2, r2w2⟩ := Rw2.out.cells; have g0w2 := Rw2.out.frozen 0; have g1w2 := Rw2.out.frozen 1; have g2w2 := Rw2.out.frozen 2; have RHw2 := Lib.hid Rw2.out; clear hn1 hn2 Rw2))
  refine ret_tok_ok rfl rfl rfl rfl (RHw2.out.set _ _ _) ⟨rfl, ?_, ?_⟩
  · (repeat (first | with_reducible exact H.out | with_reducible exact Hw2.out | with_reducible exact Hw1.out | with_reducible exact H.out.any | with_reducible exact Hw2.out.any | with_reducible exact Hw1.out.any | (with_reducible refine ScanAt.drewN ?_ _) | (with_reducible refine ScanAt.drew ?_) | (with_reducible refine ScanAt.alloc ?_ _) | ((with_reducible refine Scan.set ?_ ?_); rotate_left; (omega)) | ((with_reducible refine ScanAt.other ?_ ?_ _); rotate_left; ((simp; omega))) | (with_reducible refine Scan.drewN ?_ _) | (with_reducible refine Scan.drew ?_) | (with_reducible refine Scan.alloc ?_ _) | ((with_reducible refine Scan.other ?_ ?_ _); rotate_left; ((simp; omega)))))
  · (repeat (first | with_reducible exact Only.refl _ _ | with_reducible exact HOw2.out | with_reducible exact HOw1.out | (with_reducible refine Only.drewN ?_ _) | (with_reducible refine Only.drew ?_) | (with_reducible refine Only.alloc ?_ _) | ((with_reducible refine Only.fresh ?_ ?_ _); rotate_left; (focus (simp; done))) | ((with_reducible refine Only.setCell ?_ ?_ _); rotate_left; (exact rfl))))
set_option maxRecDepth 100000 in
set_option maxHeartbeats 2000000 in
theorem next_delim64 (b : Nat) (s : ByteArray) (p q : Nat) (w : World) (hs : s.size ≤ 4611686018427387000) (h : ScanAt w b s p) (hp : p ≤ s.size) (hq : p + Wn.skip (Wn.sfx s p) = q) (hq1 : q < s.size) (hb : Wn.blank (Wn.sfx s q) = false) (hsl : Wn.strLen (Wn.sfx s q) = none) (hc : Wn.hd (Wn.sfx s q) = 64) (hn1 : Wn.nameBegins (Wn.sfx s (q + 1)) = false) (hnu : Wn.numberBegins (Wn.sfx s q) = false) (hn0 : Wn.nameBegins (Wn.sfx s q) = false) :
    Calls Tryz.prog 112 #[.pointer (some ⟨b, 0, none⟩)] w (Left b s (q + 1) (.tuple #[.agg #[.int .i64 7, .string (s.extract q (q + 1)), .int .i64 0], .bool true]) w) := by
  have hsq : Wn.place (q + 1) (Wn.strLen (Wn.sfx s q)) = -1 := by rw [hsl]; rfl
  clear hsl
  have hlt := h.lt
  have H := Lib.hid h; clear h
  have HQ := Lib.hid hq; clear hq
  have HB := Lib.hid hb; clear hb
  have HSQ := Lib.hid hsq; clear hsq
  have HNU := Lib.hid hnu; clear hnu
  have HN0 := Lib.hid hn0; clear hn0
  have HC := Lib.hid hc; clear hc
  have HN1 := Lib.hid hn1; clear hn1
  go_enter Tryz.func112, Tryz.ntmps112
  go_wp2_with (first | (go_at_call 153; (refine (skipComments_any b s p q _ hs (by (repeat (first | with_reducible exact H.out | with_reducible exact Hw2.out | with_reducible exact Hw1.out | with_reducible exact H.out.any | with_reducible exact Hw2.out.any | with_reducible exact Hw1.out.any | (with_reducible refine ScanAt.drewN ?_ _) | (with_reducible refine ScanAt.drew ?_) | (with_reducible refine ScanAt.alloc ?_ _) | ((with_reducible refine Scan.set ?_ ?_); rotate_left; (omega)) | ((with_reducible refine ScanAt.other ?_ ?_ _); rotate_left; ((simp; omega))) | (with_reducible refine Scan.drewN ?_ _) | (with_reducible refine Scan.drew ?_) | (with_reducible refine Scan.alloc ?_ _) | ((with_reducible refine Scan.other ?_ ?_ _); rotate_left; ((simp; omega)))))) hp HQ.out).mono ?_); rintro e w1 ⟨rfl, hm1, hm2⟩; (have Rw1 : Hid (Res w1 w.heap.size) := Lib.hid (Res.only (by (repeat (first | with_reducible exact Res.new _ _ _ _ | with_reducible exact RHw2.out | with_reducible exact RHw1.out | (with_reducible refine Res.drewN ?_ _) | (with_reducible refine Res.drew ?_) | (with_reducible refine Res.alloc ?_ _) | ((with_reducible refine Res.other ?_ ?_ _); rotate_left; ((simp; omega)))))) hm2 (by omega))); (have HOw1 : Hid (Only b w w1) := Lib.hid (Only.trans (by (repeat (first | with_reducible exact Only.refl _ _ | with_reducible exact HOw2.out | with_reducible exact HOw1.out | (with_reducible refine Only.drewN ?_ _) | (with_reducible refine Only.drew ?_) | (with_reducible refine Only.alloc ?_ _) | ((with_reducible refine Only.fresh ?_ ?_ _); rotate_left; (focus (simp; done))) | ((with_reducible refine Only.setCell ?_ ?_ _); rotate_left; (exact rfl))))) hm2)); have d0w1 := hm1.cell0; have d1w1 := hm1.cell1; have dfw1 := hm1.frozen 1; have Hw1 := Lib.hid hm1; obtain ⟨xw1, yw1, zw1, r0w1, r1w1, r2w1⟩ := Rw1.out.cells; have g0w1 := Rw1.out.frozen 0; have g1w1 := Rw1.out.frozen 1; have g2w1 := Rw1.out.frozen 2; have RHw1 := Lib.hid Rw1.out; clear hm1 hm2 Rw1; clear H) | (go_at_call 154; (with_reducible refine (isBlank_i s q _ _ _ hs (by omega) rfl HB.out).mono ?_); rintro e w' ⟨rfl, rfl⟩) | (go_at_call 156; (with_reducible refine (secondQuote_i s q _ _ _ hs (by omega) rfl HSQ.out).mono ?_); rintro e w' ⟨rfl, nd, rfl⟩) | (go_at_call 158; (with_reducible refine (byteAt_i s q _ _ _ hs (by omega) rfl HC.out).mono ?_); rintro e w' ⟨rfl, rfl⟩) | (go_at_call 159; (with_reducible refine (isNameByte_i s (q + 1) _ _ _ hs (by omega) ?_ HNB.out).mono ?_); (omega); rintro e w' ⟨rfl, rfl⟩) | (go_at_call 161; (with_reducible refine (nameBegins_i s q _ _ _ hs (by omega) rfl HN0.out).mono ?_); rintro e w' ⟨rfl, rfl⟩) | (go_at_call 161; (with_reducible refine (nameBegins_i s (q + 1) _ _ _ hs (by omega) ?_ HN1.out).mono ?_); (omega); rintro e w' ⟨rfl, rfl⟩) | (go_at_call 162; (with_reducible refine (numberBegins_i s q _ _ _ hs (by omega) rfl HNU.out).mono ?_); rintro e w' ⟨rfl, rfl⟩) | (go_at_call 165; (refine (take_l b s q (q + 1) _ _ (by (repeat (first | with_reducible exact H.out | with_reducible exact Hw2.out | with_reducible exact Hw1.out | with_reducible exact H.out.any | with_reducible exact Hw2.out.any | with_reducible exact Hw1.out.any | (with_reducible refine ScanAt.drewN ?_ _) | (with_reducible refine ScanAt.drew ?_) | (with_reducible refine ScanAt.alloc ?_ _) | ((with_reducible refine Scan.set ?_ ?_); rotate_left; (omega)) | ((with_reducible refine ScanAt.other ?_ ?_ _); rotate_left; ((simp; omega))) | (with_reducible refine Scan.drewN ?_ _) | (with_reducible refine Scan.drew ?_) | (with_reducible refine Scan.alloc ?_ _) | ((with_reducible refine Scan.other ?_ ?_ _); rotate_left; ((simp; omega)))))) (by omega) (by omega) (by omega)).mono ?_); rintro e w2 ⟨rfl, hn1, hn2⟩; (have Rw2 : Hid (Res w2 w.heap.size) := Lib.hid (Res.only (by (repeat (first | with_reducible exact Res.new _ _ _ _ | with_reducible exact RHw2.out | with_reducible exact RHw1.out | (with_reducible refine Res.drewN ?_ _) | (with_reducible refine Res.drew ?_) | (with_reducible refine Res.alloc ?_ _) | ((with_reducible refine Res.other ?_ ?_ _); rotate_left; ((simp; omega)))))) hn2 (by omega))); (have HOw2 : Hid (Only b w w2) := Lib.hid (Only.trans (by (repeat (first | with_reducible exact Only.refl _ _ | with_reducible exact HOw2.out | with_reducible exact HOw1.out | (with_reducible refine Only.drewN ?_ _) | (with_reducible refine Only.drew ?_) | (with_reducible refine Only.alloc ?_ _) | ((with_reducible refine Only.fresh ?_ ?_ _); rotate_left; (focus (simp; done))) | ((with_reducible refine Only.setCell ?_ ?_ _); rotate_left; (exact rfl))))) hn2)); have d0w2 := hn1.cell0; have d1w2 := hn1.cell1; have dfw2 := hn1.frozen 1; have Hw2 := Lib.hid hn1; obtain ⟨xw2, yw2, zw2, r0w2, r1w2, r2w2⟩ := Rw2.out.cells; have g0w2 := Rw2.out.frozen 0; have g1w2 := Rw2.out.frozen 1; have g2w2 := Rw2.out.frozen 2; have RHw2 := Lib.hid Rw2.out; clear hn1 hn2 Rw2))
  refine ret_tok_ok rfl rfl rfl rfl (RHw2.out.set _ _ _) ⟨rfl, ?_, ?_⟩
  · (repeat (first | with_reducible exact H.out | with_reducible exact Hw2.out | with_reducible exact Hw1.out | with_reducible exact H.out.any | with_reducible exact Hw2.out.any | with_reducible exact Hw1.out.any | (with_reducible refine ScanAt.drewN ?_ _) | (with_reducible refine ScanAt.drew ?_) | (with_reducible refine ScanAt.alloc ?_ _) | ((with_reducible refine Scan.set ?_ ?_); rotate_left; (omega)) | ((with_reducible refine ScanAt.other ?_ ?_ _); rotate_left; ((simp; omega))) | (with_reducible refine Scan.drewN ?_ _) | (with_reducible refine Scan.drew ?_) | (with_reducible refine Scan.alloc ?_ _) | ((with_reducible refine Scan.other ?_ ?_ _); rotate_left; ((simp; omega)))))
  · (repeat (first | with_reducible exact Only.refl _ _ | with_reducible exact HOw2.out | with_reducible exact HOw1.out | (with_reducible refine Only.drewN ?_ _) | (with_reducible refine Only.drew ?_) | (with_reducible refine Only.alloc ?_ _) | ((with_reducible refine Only.fresh ?_ ?_ _); rotate_left; (focus (simp; done))) | ((with_reducible refine Only.setCell ?_ ?_ _); rotate_left; (exact rfl))))
end Go.Proofs.YtncknaagbafhhaaGreatDoor
set_option maxRecDepth 20000
namespace Go.Proofs.YtncknaagbafhhaaGreatDoor
open Go.RowKit
theorem take_sub (s : ByteArray) (q n : Nat) : s.extract q (q + n) = ⟨((Wn.sfx s q).take n).toArray⟩ := by
  rw [Wn.extract_sfx, Nat.add_sub_cancel_left]
theorem Left.to {b : Nat} {s : ByteArray} {q q' : Nat} {v v' : Value} {w : World} (hq : q = q') (hv : v = v') (e : Ending) (w' : World) (h : Left b s q v w e w') : Left b s q' v' w e w' := by
  subst hq hv; exact h
theorem tok_eq (k : Int) (x : ByteArray) (l : List UInt8) (n : Int) (h : x = ⟨l.toArray⟩) : Value.tuple #[.agg #[.int .i64 k, .string x, .int .i64 n], .bool true] = .tuple #[tokV (k, l, n), .bool true] := by
  subst h; rfl
theorem next_any (b : Nat) (s : ByteArray) (p q : Nat) (w : World) (hs : s.size ≤ 4611686018427387000) (h : ScanAt w b s p) (hp : p ≤ s.size) (hq : p + Wn.skip (Wn.sfx s p) = q) (hq1 : q < s.size) :
    Calls Tryz.prog 112 #[.pointer (some ⟨b, 0, none⟩)] w (Left b s (q + (Wn.one (Wn.sfx s q)).2) (.tuple #[tokV (Wn.one (Wn.sfx s q)).1, .bool true]) w) := by
  unfold Wn.one
  cases hb : Wn.blank (Wn.sfx s q)
  · rw [if_neg (by decide)]
    cases hk : Wn.strLen (Wn.sfx s q) with
    | some k =>
      dsimp only
      have hk2 : q + 1 + k < s.size := by
        unfold Wn.strLen at hk
        split at hk
        · have := Wn.quoteLen_lt _ _ _ hk
          rw [Wn.sfx_drop, Wn.sfx_length] at this
          omega
        · cases hk
      refine (next_str b s p q w hs h hp hq hq1 k hb hk hk2).mono (Left.to (by omega) (tok_eq _ _ _ _ ?_))
      rw [take_sub, Wn.sfx_drop]
    | none =>
      dsimp only
      cases h35 : (Wn.hd (Wn.sfx s q) == 35)
      · rw [if_neg (by simp)]
        cases h64 : (Wn.hd (Wn.sfx s q) == 64)
        · rw [if_neg (by simp)]
          cases hnu : Wn.numberBegins (Wn.sfx s q)
          · rw [if_neg (by decide)]
            cases hn0 : Wn.nameBegins (Wn.sfx s q)
            · rw [if_neg (by decide)]
              refine (next_delim b s p q w hs h hp hq hq1 hb hk h35 h64 hnu hn0).mono (Left.to rfl (tok_eq _ _ _ _ ?_))
              rw [take_sub]
            · rw [if_pos rfl]
              unfold Wn.word
              rw [Wn.sfx_drop]
              by_cases h40 : (Wn.hd (Wn.sfx s (q + Wn.runLen Wn.nameByte (Wn.sfx s q))) == 40) = true
              · rw [if_pos h40]
                refine (next_word b s p q w hs h hp hq hq1 hb hk h35 h64 hnu hn0 _ rfl).mono ?_
                rw [if_pos h40, if_pos h40]
                exact Left.to (by omega) (tok_eq _ _ _ _ (take_sub ..))
              · rw [if_neg h40]
                refine (next_word b s p q w hs h hp hq hq1 hb hk h35 h64 hnu hn0 _ rfl).mono ?_
                rw [if_neg h40, if_neg h40]
                exact Left.to rfl (tok_eq _ _ _ _ (take_sub ..))
          · rw [if_pos rfl]
            unfold Wn.number Wn.numTok
            by_cases h45 : (Wn.hd (Wn.sfx s q) == 45) = true
            · rw [if_pos h45, if_pos rfl, Wn.sfx_drop, Wn.sfx_drop]
              refine (next_minus b s p q w hs h hp hq hq1 hb hk hnu _ _ (by simpa using h45) rfl rfl).mono ?_
              refine Left.to ?_ (tok_eq _ _ _ _ ?_)
              · rw [Nat.add_assoc q 1]; omega
              · rw [take_sub, Nat.add_assoc q 1]
            · rw [if_neg h45, if_neg (by decide), Wn.sfx_drop]
              refine (next_plus b s p q w hs h hp hq hq1 hb hk h35 h64 hnu _ _ (by simpa using h45) rfl rfl).mono ?_
              refine Left.to (by omega) (tok_eq _ _ _ _ (take_sub ..))
        · have h64' : Wn.hd (Wn.sfx s q) = 64 := by simpa using h64
          cases hn1 : Wn.nameBegins ((Wn.sfx s q).drop 1)
          · rw [if_neg (by simp)]
            rw [Wn.sfx_drop] at hn1
            have hnu : Wn.numberBegins (Wn.sfx s q) = false := by unfold Wn.numberBegins Wn.digit; rw [h64']; simp
            have hn0 : Wn.nameBegins (Wn.sfx s q) = false := by unfold Wn.nameBegins Wn.nameStart; rw [h64']; simp
            rw [hnu, hn0, if_neg (by decide), if_neg (by decide)]
            refine (next_delim64 b s p q w hs h hp hq hq1 hb hk h64' hn1 hnu hn0).mono (Left.to rfl (tok_eq _ _ _ _ ?_))
            rw [take_sub]
          · rw [if_pos (by simp)]
            unfold Wn.named
            rw [Wn.sfx_drop] at hn1 ⊢
            refine (next_at b s p q w hs h hp hq hq1 hb hk _ h64' hn1 rfl).mono (Left.to (by omega) (tok_eq _ _ _ _ (take_sub ..)))
      · have h35' : Wn.hd (Wn.sfx s q) = 35 := by simpa using h35
        cases hnb : Wn.nameByte ((Wn.sfx s q).drop 1)
        · rw [if_neg (by simp)]
          rw [Wn.sfx_drop] at hnb
          have hnu : Wn.numberBegins (Wn.sfx s q) = false := by unfold Wn.numberBegins Wn.digit; rw [h35']; simp
          have hn0 : Wn.nameBegins (Wn.sfx s q) = false := by unfold Wn.nameBegins Wn.nameStart; rw [h35']; simp
          rw [hnu, hn0, if_neg (by simp [h35']), if_neg (by decide), if_neg (by decide)]
          refine (next_delim35 b s p q w hs h hp hq hq1 hb hk h35' hnb hnu hn0).mono (Left.to rfl (tok_eq _ _ _ _ ?_))
          rw [take_sub]
        · rw [if_pos (by simp)]
          unfold Wn.named
          rw [Wn.sfx_drop] at hnb ⊢
          refine (next_hash b s p q w hs h hp hq hq1 hb hk _ h35' hnb rfl).mono (Left.to (by omega) (tok_eq _ _ _ _ (take_sub ..)))
  · rw [if_pos rfl]
    exact (next_white b s p q w hs h hp hq hq1 hb).mono (Left.to rfl rfl)
end Go.Proofs.YtncknaagbafhhaaGreatDoor
set_option maxRecDepth 20000
namespace Go.Proofs.YtncknaagbafhhaaGreatDoor
open Go.RowKit
/-- the cells of a token, and of tokens one behind the other -/
def tokCells (t : Wn.Tok) : List Value := [.int .i64 t.1, .string ⟨t.2.1.toArray⟩, .int .i64 t.2.2]
def toksCells (l : List Wn.Tok) : List Value := l.flatMap tokCells
theorem toksCells_snoc (l : List Wn.Tok) (t : Wn.Tok) : toksCells (l ++ [t]) = toksCells l ++ tokCells t := by simp [toksCells]
/-- w' is w, but for block b, and what is new; w' has the row v of the tokens l, which is none of w's blocks -/
theorem Only.grown {b : Nat} {w w' : World} (h : Only b w w') : w.grownBy w' (some b) := ⟨h.os, h.tape, h.output, h.size, fun k hk hn => h.block k hk (fun e => hn (by rw [e]))⟩
theorem lt_of_block {w : World} {b : Nat} {o : Obj} (h : w.heap[b]? = some o) : b < w.heap.size := (Array.getElem?_eq_some_iff.1 h).1
theorem Only.below {b : Nat} {w0 w w' : World} (hb : Below b w0 w) (h : Only b w w') (hs : b ≤ w.heap.size) : Below b w0 w' :=
  hb.trans ⟨h.os, h.tape, h.output, h.size, fun k hk => h.block k (by omega) (by omega)⟩
theorem ScanAt.grown {w w' : World} {b : Nat} {s : ByteArray} {p : Nat} {row : Option Nat} (h : ScanAt w b s p) (hg : w.grownBy w' row) (hr : row ≠ some b) : ScanAt w' b s p := by
  have hl := h.lt
  unfold ScanAt at *
  rw [hg.block b hl (fun e => hr e.symm), h]
/-- the place of the scanner in block b -/
def posOf (b : Nat) (w : World) : Nat := (intOf ((w.cell? ⟨b, 1, none⟩).getD (.int .i64 0))).toNat
theorem posOf_at {w : World} {b : Nat} {s : ByteArray} {p : Nat} (h : ScanAt w b s p) : posOf b w = p := by
  unfold posOf; rw [h.cell1]; simp [intOf]
theorem cell_of_block {W : World} {k o : Nat} {c : Array Value} {e : TypeId} {fz : Nat × Nat} (h : W.heap[k]? = some (.cells c e fz)) : W.cell? ⟨k, o, none⟩ = c[o]? := by
  simp [World.cell?, h]
theorem addr_add (k o j : Nat) : (⟨k, o, none⟩ : Addr).add j = ⟨k, o + j, none⟩ := by
  unfold Addr.add; split <;> simp_all
theorem cell_three_new (w : World) (x y z : Value) (e : TypeId) (k : Nat) (hk : k = w.heap.size) (j : Nat) (u : Value) (h : [x, y, z][j]? = some u) : (w.alloc (.cells #[x, y, z] e)).cell? ((⟨k, 0, none⟩ : Addr).add j) = some u := by
  subst hk
  rw [addr_add, cell_of_block (heap_alloc_new w _), ← h]
  simp
theorem ownsRow_base {w : World} {base base' : Nat} {e : TypeId} {size : Nat} {v : Value} {n : Nat} {xs : List Value} (h : w.ownsRow base e size v n xs) (hb : base' ≤ base) : w.ownsRow base' e size v n xs := by
  obtain ⟨h1, h2⟩ := h
  refine ⟨h1, ?_⟩
  rcases h2 with h2 | ⟨g, cap, cur, hv, hg, r⟩
  · exact .inl h2
  · exact .inr ⟨g, cap, cur, hv, by omega, r⟩
theorem info_tok : (Tryz.prog.info? 78).map (fun i => (i.zero, i.size, i.bytes)) = some (some (.agg #[.int .i64 0, .string ⟨#[]⟩, .int .i64 0]), 3, 32) := by kernel_rfl
set_option maxRecDepth 100000 in
set_option maxHeartbeats 2000000 in
theorem All_any (s : ByteArray) (w : World) (hs : s.size ≤ 1099511627776) :
    Calls Tryz.prog 70 #[.string s] w fun e w' => ∃ v, e = .returned v ∧ w'.ownsRow w.heap.size 78 3 v (Wn.lex s.data.toList).length (toksCells (Wn.lex s.data.toList)) ∧ Below w.heap.size w w' := by
  have hs' : s.size ≤ 4611686018427387000 := by omega
  obtain ⟨i0, hi, hz0, hz1, hz2⟩ := info_parts info_tok
  generalize hL : Wn.lex s.data.toList = L
  have HL : Hid (Wn.lex (Wn.sfx s 0) = L) := Lib.hid (by rw [← hL]; rfl)
  clear hL
  go_enter Tryz.func70, Tryz.ntmps70
  go_wp2_with (go_at_call 111; (with_reducible refine (newScanner_any s _).mono ?_); rintro e w' ⟨rfl, rfl⟩)
  have hb0 : Below w.heap.size w (w.alloc (Obj.cells #[Value.string s, Value.int IntKind.i64 0] 191)) := (Below.refl _ _).alloc (Nat.le_refl _) _
  have hc0 : ScanAt (w.alloc (Obj.cells #[Value.string s, Value.int IntKind.i64 0] 191)) w.heap.size s 0 := heap_alloc_new w _
  have hz0' : (w.alloc (Obj.cells #[Value.string s, Value.int IntKind.i64 0] 191)).heap.size = w.heap.size + 1 := by simp
  have HB0 := Lib.hid hb0; clear hb0
  have HC0 := Lib.hid hc0; clear hc0
  have HZ0 := Lib.hid hz0'; clear hz0'
  go_loopw [3] (fun v wr => ∃ (p : Nat) (acc : List Wn.Tok), p ≤ s.size ∧ acc.length ≤ p ∧ w.heap.size + 1 ≤ wr.heap.size ∧ Hid (ScanAt wr w.heap.size s p) ∧ Hid (wr.ownsRow (w.heap.size + 1) 78 3 v acc.length (toksCells acc)) ∧ Hid (Below w.heap.size w wr) ∧ Hid (acc ++ Wn.lex (Wn.sfx s p) = L)) (fun _ wr => s.size + 1 - posOf w.heap.size wr)
  case atStart => exact ⟨0, [], by omega, by simp, by rw [HZ0.out]; omega, HC0, Lib.hid (World.ownsRow_nil _ _ _ _), HB0, Lib.hid (by simpa using HL.out)⟩
  case round =>
    obtain ⟨p, acc, hp, hacc, hsz, HS, HW, HB, HA⟩ := hrel
    have hq := Wn.skip_le (Wn.sfx s p)
    rw [Wn.sfx_length] at hq
    generalize hqq : p + Wn.skip (Wn.sfx s p) = q at *
    have hq2 : q ≤ s.size := by omega
    have hpq : p ≤ q := by omega
    have HQ := Lib.hid hqq
    by_cases hlt : q < s.size
    · have hne : (Wn.sfx s p).drop (Wn.skip (Wn.sfx s p)) ≠ [] := by
        rw [Wn.sfx_drop, hqq, Wn.sfx_in s q hlt]; simp
      have hcons := Wn.lex_cons hne
      have hpos := Wn.one_pos hne
      rw [Wn.sfx_drop, hqq] at hcons hpos
      rw [Wn.sfx_length] at hpos
      rw [Wn.sfx_drop] at hcons
      obtain ⟨hp1, hp2⟩ := hpos
      have HCO := Lib.hid hcons
      generalize hone : Wn.one (Wn.sfx s q) = ot at *
      obtain ⟨⟨tk, tt, tn⟩, n⟩ := ot
      have HON := Lib.hid hone
      clear hne hcons hone hqq hq
      dsimp only at hp1 hp2 HCO
      go_wp2_with (first
        | (go_at_call 112; (refine (next_any w.heap.size s p q _ hs' HS.out hp HQ.out hlt).mono ?_); rw [HON.out]; rintro e w1 ⟨rfl, hm1, hm2⟩; dsimp only [tokV] at *; (have hs1 := hm2.size); (have HW1 : Hid (w1.ownsRow (w.heap.size + 1) 78 3 _ acc.length (toksCells acc)) := Lib.hid (HW.out.kept hm2.grown (Or.inr (fun e => by have := (HW.out.lt _ e).1; omega)))); (have HB1 : Hid (Below w.heap.size w w1) := Lib.hid (Only.below HB.out hm2 (by omega))); have HS1 := Lib.hid hm1; clear hm1 hm2)
        | (at_builtin; refine wpList_append_own _ rfl _ _ 75 rfl (w.heap.size + 1) 78 i0 (.agg #[.int .i64 0, .string ⟨#[]⟩, .int .i64 0]) 3 32 Tryz.underlying75 hi hz0 hz1 hz2 rfl (by decide) _ acc.length (toksCells acc) rfl ((HW1.out.alloc _).alloc _) ⟨w1.heap.size + 1, 0, none⟩ 1 1 [.int .i64 tk, .string ⟨tt.toArray⟩, .int .i64 tn] rfl rfl (cell_three_new _ _ _ _ _ _ (by simp)) (fun x hx => by simp at hx; rcases hx with rfl | rfl | rfl <;> rfl) (by unfold maxLen; omega) (by omega) (by simp; omega) ?_; intro v' w3 hown' hgrow3 hnil3; (have hs3 := hgrow3.size); (have HZ : Hid (v' = v' ∧ w3.ownsRow (w.heap.size + 1) 78 3 v' (acc.length + 1) (toksCells acc ++ [.int .i64 tk, .string ⟨tt.toArray⟩, .int .i64 tn]) ∧ ScanAt w3 w.heap.size s (q + n) ∧ Below w.heap.size w w3) := Lib.hid ⟨rfl, hown', (((HS1.out.alloc _).alloc _).grown hgrow3 (fun e => by have := (HW1.out.lt _ e).1; omega)), Below.grown ((HB1.out.alloc (by omega) _).alloc (by simp; omega) _) hgrow3 (by simp; omega) (fun j hj => by have := (HW1.out.lt _ hj).1; omega)⟩); clear hown' hgrow3 hnil3))
      refine ⟨⟨q + n, acc ++ [(tk, tt, tn)], by omega, by simp; omega, by simp at hs3; omega, Lib.hid HZ.out.2.2.1, Lib.hid ?_, Lib.hid HZ.out.2.2.2, Lib.hid ?_⟩, ?_⟩
      · rw [List.length_append, toksCells_snoc]; exact HZ.out.2.1
      · rw [← HA.out, HCO.out]; simp
      · rw [posOf_at HZ.out.2.2.1, posOf_at HS.out]; have := HQ.out; omega
    · have hqs : q = s.size := by omega
      go_wp2_with (go_at_call 112; (refine (next_end w.heap.size s p q _ hs' HS.out hp HQ.out hqs).mono ?_); rintro e w1 ⟨rfl, hm1, hm2⟩)
      have hsz1 := hm2.size
      have hne : Wn.lex (Wn.sfx s p) = [] := by
        apply Wn.lex_end
        rw [Wn.sfx_drop, hqq, Wn.sfx_out s q (by omega)]
      have hk := HW.out.kept hm2.grown (Or.inr (fun e => by have := (HW.out.lt _ e).1; omega))
      have hacc : acc = L := by rw [← HA.out, hne]; simp
      go_ret
      refine ⟨_, rfl, ?_, ?_⟩
      · rw [hacc] at hk
        exact ownsRow_base (hk.alloc _) (by omega)
      · exact (Only.below HB.out hm2 (by omega)).alloc (by omega) _
end Go.Proofs.YtncknaagbafhhaaGreatDoor
