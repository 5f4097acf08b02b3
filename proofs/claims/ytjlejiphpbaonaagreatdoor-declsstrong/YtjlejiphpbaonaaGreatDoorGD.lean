/- What the scanner's next token is: numbers, words, delimiters. What the scanner's next token is, whatever it is. What toks.All answers: the tokens of its text, in a row of its own. What toks.One answers: a token's text. Condition: the table of powers of ten is the library's own; the token's number is an int. What toks.One answers, whatever the token. What a strings.Builder of a call's own does: WriteString behind the bytes that it has. -/
import Derived.Test.YtjlejiphpbaonaaGreatDoorGC
import Derived.Test.YtjlejiphpbaonaaGreatDoorGA
import Derived.Test.YtjlejiphpbaonaaGreatDoorShelf
import Derived.Deep.RegionHeld3
import Derived.Lib.AppendIntMem
import Derived.Lib.SmallJoins
import Derived.Laws.Externs
import Derived.Lib.Builder
import Derived.Lib.AppendStr
import Derived.Lib.UnsafeStr
set_option maxRecDepth 20000
namespace Go.Proofs.YtjlejiphpbaonaaGreatDoor
open Go.RowKit
set_option maxRecDepth 100000 in
set_option maxHeartbeats 2000000 in
theorem next_plus (b : Nat) (s : ByteArray) (p q : Nat) (w : World) (hs : s.size ≤ 4611686018427387000) (h : ScanAt w b s p) (hp : p ≤ s.size) (hq : p + Wn.skip (Wn.sfx s p) = q) (hq1 : q < s.size) (hb : Wn.blank (Wn.sfx s q) = false) (hsl : Wn.strLen (Wn.sfx s q) = none) (h35 : (Wn.hd (Wn.sfx s q) == 35) = false) (h64 : (Wn.hd (Wn.sfx s q) == 64) = false) (hnu : Wn.numberBegins (Wn.sfx s q) = true) (E : Nat) (V : Int) (hc : (Wn.hd (Wn.sfx s q) == 45) = false) (hE : q + Wn.runLen Wn.digit (Wn.sfx s q) = E) (hV : Wn.numVal 0 (Wn.sfx s q) = V) :
    Calls Tryz.prog 108 #[.pointer (some ⟨b, 0, none⟩)] w (Left b s (E + Wn.unitLen (Wn.sfx s E)) (.tuple #[.agg #[.int .i64 5, .string (s.extract E (E + Wn.unitLen (Wn.sfx s E))), .int .i64 V], .bool true]) w) := by
  have hsq : Wn.place (q + 1) (Wn.strLen (Wn.sfx s q)) = -1 := by rw [hsl]; rfl
  clear hsl
  have hlt := h.lt
  have H := Lib.hid h; clear h
  have HQ := Lib.hid hq; clear hq
  have HB := Lib.hid hb; clear hb
  have HSQ := Lib.hid hsq; clear hsq
  have HNU := Lib.hid hnu; clear hnu
  have HE := Lib.hid hE; clear hE
  have HV := Lib.hid hV; clear hV
  have HC45 := Lib.hid hc; clear hc
  generalize hcc : Wn.hd (Wn.sfx s q) = c at h35 h64
  have HC := Lib.hid hcc; clear hcc
  go_enter Tryz.func108, Tryz.ntmps108
  go_wp2_with (first | (go_at_call 118; (refine (skipComments_any b s p q _ hs (by (repeat (first | with_reducible exact H.out | with_reducible exact Hw2.out | with_reducible exact Hw1.out | with_reducible exact H.out.any | with_reducible exact Hw2.out.any | with_reducible exact Hw1.out.any | (with_reducible refine ScanAt.drewN ?_ _) | (with_reducible refine ScanAt.drew ?_) | (with_reducible refine ScanAt.alloc ?_ _) | ((with_reducible refine Scan.set ?_ ?_); rotate_left; (omega)) | ((with_reducible refine ScanAt.other ?_ ?_ _); rotate_left; ((simp; omega))) | (with_reducible refine Scan.drewN ?_ _) | (with_reducible refine Scan.drew ?_) | (with_reducible refine Scan.alloc ?_ _) | ((with_reducible refine Scan.other ?_ ?_ _); rotate_left; ((simp; omega)))))) hp HQ.out).mono ?_); rintro e w1 ⟨rfl, hm1, hm2⟩; (have Rw1 : Hid (Res w1 w.heap.size) := Lib.hid (Res.only (by (repeat (first | with_reducible exact Res.new _ _ _ _ | with_reducible exact RHw2.out | with_reducible exact RHw1.out | (with_reducible refine Res.drewN ?_ _) | (with_reducible refine Res.drew ?_) | (with_reducible refine Res.alloc ?_ _) | ((with_reducible refine Res.other ?_ ?_ _); rotate_left; ((simp; omega)))))) hm2 (by omega))); (have HOw1 : Hid (Only b w w1) := Lib.hid (Only.trans (by (repeat (first | with_reducible exact Only.refl _ _ | with_reducible exact HOw2.out | with_reducible exact HOw1.out | (with_reducible refine Only.drewN ?_ _) | (with_reducible refine Only.drew ?_) | (with_reducible refine Only.alloc ?_ _) | ((with_reducible refine Only.fresh ?_ ?_ _); rotate_left; (focus (simp; done))) | ((with_reducible refine Only.setCell ?_ ?_ _); rotate_left; (exact rfl))))) hm2)); have d0w1 := hm1.cell0; have d1w1 := hm1.cell1; have dfw1 := hm1.frozen 1; have Hw1 := Lib.hid hm1; obtain ⟨xw1, yw1, zw1, r0w1, r1w1, r2w1⟩ := Rw1.out.cells; have g0w1 := Rw1.out.frozen 0; have g1w1 := Rw1.out.frozen 1; have g2w1 := Rw1.out.frozen 2; have RHw1 := Lib.hid Rw1.out; clear hm1 hm2 Rw1; clear H) | (go_at_call 119; (with_reducible refine (isBlank_i s q _ _ _ hs (by omega) rfl HB.out).mono ?_); rintro e w' ⟨rfl, rfl⟩) | (go_at_call 121; (with_reducible refine (secondQuote_i s q _ _ _ hs (by omega) rfl HSQ.out).mono ?_); rintro e w' ⟨rfl, nd, rfl⟩) | (go_at_call 123; (with_reducible refine (byteAt_i s q _ _ _ hs (by omega) rfl HC.out).mono ?_); rintro e w' ⟨rfl, rfl⟩) | (go_at_call 124; (with_reducible refine (isNameByte_i s (q + 1) _ _ _ hs (by omega) ?_ HNB.out).mono ?_); (omega); rintro e w' ⟨rfl, rfl⟩) | (go_at_call 126; (with_reducible refine (nameBegins_i s q _ _ _ hs (by omega) rfl HN0.out).mono ?_); rintro e w' ⟨rfl, rfl⟩) | (go_at_call 126; (with_reducible refine (nameBegins_i s (q + 1) _ _ _ hs (by omega) ?_ HN1.out).mono ?_); (omega); rintro e w' ⟨rfl, rfl⟩) | (go_at_call 127; (with_reducible refine (numberBegins_i s q _ _ _ hs (by omega) rfl HNU.out).mono ?_); rintro e w' ⟨rfl, rfl⟩) | (go_at_call 128; (refine (number_plus b s q E V _ hs (by (repeat (first | with_reducible exact H.out | with_reducible exact Hw2.out | with_reducible exact Hw1.out | with_reducible exact H.out.any | with_reducible exact Hw2.out.any | with_reducible exact Hw1.out.any | (with_reducible refine ScanAt.drewN ?_ _) | (with_reducible refine ScanAt.drew ?_) | (with_reducible refine ScanAt.alloc ?_ _) | ((with_reducible refine Scan.set ?_ ?_); rotate_left; (omega)) | ((with_reducible refine ScanAt.other ?_ ?_ _); rotate_left; ((simp; omega))) | (with_reducible refine Scan.drewN ?_ _) | (with_reducible refine Scan.drew ?_) | (with_reducible refine Scan.alloc ?_ _) | ((with_reducible refine Scan.other ?_ ?_ _); rotate_left; ((simp; omega)))))) (by omega) HC45.out HE.out HV.out).mono ?_); rintro e w2 ⟨rfl, hn1, hn2⟩; (have Rw2 : Hid (Res w2 w.heap.size) := Lib.hid (Res.only (by (repeat (first | with_reducible exact Res.new _ _ _ _ | with_reducible exact RHw2.out | with_reducible exact RHw1.out | (with_reducible refine Res.drewN ?_ _) | (with_reducible refine Res.drew ?_) | (with_reducible refine Res.alloc ?_ _) | ((with_reducible refine Res.other ?_ ?_ _); rotate_left; ((simp; omega)))))) hn2 (by omega))); (have HOw2 : Hid (Only b w w2) := Lib.hid (Only.trans (by (repeat (first | with_reducible exact Only.refl _ _ | with_reducible exact HOw2.out | with_reducible exact HOw1.out | (with_reducible refine Only.drewN ?_ _) | (with_reducible refine Only.drew ?_) | (with_reducible refine Only.alloc ?_ _) | ((with_reducible refine Only.fresh ?_ ?_ _); rotate_left; (focus (simp; done))) | ((with_reducible refine Only.setCell ?_ ?_ _); rotate_left; (exact rfl))))) hn2)); have d0w2 := hn1.cell0; have d1w2 := hn1.cell1; have dfw2 := hn1.frozen 1; have Hw2 := Lib.hid hn1; obtain ⟨xw2, yw2, zw2, r0w2, r1w2, r2w2⟩ := Rw2.out.cells; have g0w2 := Rw2.out.frozen 0; have g1w2 := Rw2.out.frozen 1; have g2w2 := Rw2.out.frozen 2; have RHw2 := Lib.hid Rw2.out; clear hn1 hn2 Rw2))
  refine ret_tok_ok rfl rfl rfl rfl (RHw2.out.set _ _ _) ⟨rfl, ?_, ?_⟩
  · (repeat (first | with_reducible exact H.out | with_reducible exact Hw2.out | with_reducible exact Hw1.out | with_reducible exact H.out.any | with_reducible exact Hw2.out.any | with_reducible exact Hw1.out.any | (with_reducible refine ScanAt.drewN ?_ _) | (with_reducible refine ScanAt.drew ?_) | (with_reducible refine ScanAt.alloc ?_ _) | ((with_reducible refine Scan.set ?_ ?_); rotate_left; (omega)) | ((with_reducible refine ScanAt.other ?_ ?_ _); rotate_left; ((simp; omega))) | (with_reducible refine Scan.drewN ?_ _) | (with_reducible refine Scan.drew ?_) | (with_reducible refine Scan.alloc ?_ _) | ((with_reducible refine Scan.other ?_ ?_ _); rotate_left; ((simp; omega)))))
  · (repeat (first | with_reducible exact Only.refl _ _ | with_reducible exact HOw2.out | with_reducible exact HOw1.out | (with_reducible refine Only.drewN ?_ _) | (with_reducible refine Only.drew ?_) | (with_reducible refine Only.alloc ?_ _) | ((with_reducible refine Only.fresh ?_ ?_ _); rotate_left; (focus (simp; done))) | ((with_reducible refine Only.setCell ?_ ?_ _); rotate_left; (exact rfl))))
set_option maxRecDepth 100000 in
set_option maxHeartbeats 2000000 in
theorem next_minus (b : Nat) (s : ByteArray) (p q : Nat) (w : World) (hs : s.size ≤ 4611686018427387000) (h : ScanAt w b s p) (hp : p ≤ s.size) (hq : p + Wn.skip (Wn.sfx s p) = q) (hq1 : q < s.size) (hb : Wn.blank (Wn.sfx s q) = false) (hsl : Wn.strLen (Wn.sfx s q) = none) (hnu : Wn.numberBegins (Wn.sfx s q) = true) (E : Nat) (V : Int) (hc : Wn.hd (Wn.sfx s q) = 45) (hE : q + 1 + Wn.runLen Wn.digit (Wn.sfx s (q + 1)) = E) (hV : Wn.numVal 0 (Wn.sfx s (q + 1)) = V) :
    Calls Tryz.prog 108 #[.pointer (some ⟨b, 0, none⟩)] w (Left b s (E + Wn.unitLen (Wn.sfx s E)) (.tuple #[.agg #[.int .i64 5, .string (s.extract E (E + Wn.unitLen (Wn.sfx s E))), .int .i64 (-V)], .bool true]) w) := by
  have hsq : Wn.place (q + 1) (Wn.strLen (Wn.sfx s q)) = -1 := by rw [hsl]; rfl
  clear hsl
  have hlt := h.lt
  have H := Lib.hid h; clear h
  have HQ := Lib.hid hq; clear hq
  have HB := Lib.hid hb; clear hb
  have HSQ := Lib.hid hsq; clear hsq
  have HNU := Lib.hid hnu; clear hnu
  have HE := Lib.hid hE; clear hE
  have HV := Lib.hid hV; clear hV
  have HC := Lib.hid hc; clear hc
  go_enter Tryz.func108, Tryz.ntmps108
  go_wp2_with (first | (go_at_call 118; (refine (skipComments_any b s p q _ hs (by (repeat (first | with_reducible exact H.out | with_reducible exact Hw2.out | with_reducible exact Hw1.out | with_reducible exact H.out.any | with_reducible exact Hw2.out.any | with_reducible exact Hw1.out.any | (with_reducible refine ScanAt.drewN ?_ _) | (with_reducible refine ScanAt.drew ?_) | (with_reducible refine ScanAt.alloc ?_ _) | ((with_reducible refine Scan.set ?_ ?_); rotate_left; (omega)) | ((with_reducible refine ScanAt.other ?_ ?_ _); rotate_left; ((simp; omega))) | (with_reducible refine Scan.drewN ?_ _) | (with_reducible refine Scan.drew ?_) | (with_reducible refine Scan.alloc ?_ _) | ((with_reducible refine Scan.other ?_ ?_ _); rotate_left; ((simp; omega)))))) hp HQ.out).mono ?_); rintro e w1 ⟨rfl, hm1, hm2⟩; (have Rw1 : Hid (Res w1 w.heap.size) := Lib.hid (Res.only (by (repeat (first | with_reducible exact Res.new _ _ _ _ | with_reducible exact RHw2.out | with_reducible exact RHw1.out | (with_reducible refine Res.drewN ?_ _) | (with_reducible refine Res.drew ?_) | (with_reducible refine Res.alloc ?_ _) | ((with_reducible refine Res.other ?_ ?_ _); rotate_left; ((simp; omega)))))) hm2 (by omega))); (have HOw1 : Hid (Only b w w1) := Lib.hid (Only.trans (by (repeat (first | with_reducible exact Only.refl _ _ | with_reducible exact HOw2.out | with_reducible exact HOw1.out | (with_reducible refine Only.drewN ?_ _) | (with_reducible refine Only.drew ?_) | (with_reducible refine Only.alloc ?_ _) | ((with_reducible refine Only.fresh ?_ ?_ _); rotate_left; (focus (simp; done))) | ((with_reducible refine Only.setCell ?_ ?_ _); rotate_left; (exact rfl))))) hm2)); have d0w1 := hm1.cell0; have d1w1 := hm1.cell1; have dfw1 := hm1.frozen 1; have Hw1 := Lib.hid hm1; obtain ⟨xw1, yw1, zw1, r0w1, r1w1, r2w1⟩ := Rw1.out.cells; have g0w1 := Rw1.out.frozen 0; have g1w1 := Rw1.out.frozen 1; have g2w1 := Rw1.out.frozen 2; have RHw1 := Lib.hid Rw1.out; clear hm1 hm2 Rw1; clear H) | (go_at_call 119; (with_reducible refine (isBlank_i s q _ _ _ hs (by omega) rfl HB.out).mono ?_); rintro e w' ⟨rfl, rfl⟩) | (go_at_call 121; (with_reducible refine (secondQuote_i s q _ _ _ hs (by omega) rfl HSQ.out).mono ?_); rintro e w' ⟨rfl, nd, rfl⟩) | (go_at_call 123; (with_reducible refine (byteAt_i s q _ _ _ hs (by omega) rfl HC.out).mono ?_); rintro e w' ⟨rfl, rfl⟩) | (go_at_call 124; (with_reducible refine (isNameByte_i s (q + 1) _ _ _ hs (by omega) ?_ HNB.out).mono ?_); (omega); rintro e w' ⟨rfl, rfl⟩) | (go_at_call 126; (with_reducible refine (nameBegins_i s q _ _ _ hs (by omega) rfl HN0.out).mono ?_); rintro e w' ⟨rfl, rfl⟩) | (go_at_call 126; (with_reducible refine (nameBegins_i s (q + 1) _ _ _ hs (by omega) ?_ HN1.out).mono ?_); (omega); rintro e w' ⟨rfl, rfl⟩) | (go_at_call 127; (with_reducible refine (numberBegins_i s q _ _ _ hs (by omega) rfl HNU.out).mono ?_); rintro e w' ⟨rfl, rfl⟩) | (go_at_call 128; (refine (number_minus b s q E V _ hs (by (repeat (first | with_reducible exact H.out | with_reducible exact Hw2.out | with_reducible exact Hw1.out | with_reducible exact H.out.any | with_reducible exact Hw2.out.any | with_reducible exact Hw1.out.any | (with_reducible refine ScanAt.drewN ?_ _) | (with_reducible refine ScanAt.drew ?_) | (with_reducible refine ScanAt.alloc ?_ _) | ((with_reducible refine Scan.set ?_ ?_); rotate_left; (omega)) | ((with_reducible refine ScanAt.other ?_ ?_ _); rotate_left; ((simp; omega))) | (with_reducible refine Scan.drewN ?_ _) | (with_reducible refine Scan.drew ?_) | (with_reducible refine Scan.alloc ?_ _) | ((with_reducible refine Scan.other ?_ ?_ _); rotate_left; ((simp; omega)))))) (by omega) HC.out HE.out HV.out).mono ?_); rintro e w2 ⟨rfl, hn1, hn2⟩; (have Rw2 : Hid (Res w2 w.heap.size) := Lib.hid (Res.only (by (repeat (first | with_reducible exact Res.new _ _ _ _ | with_reducible exact RHw2.out | with_reducible exact RHw1.out | (with_reducible refine Res.drewN ?_ _) | (with_reducible refine Res.drew ?_) | (with_reducible refine Res.alloc ?_ _) | ((with_reducible refine Res.other ?_ ?_ _); rotate_left; ((simp; omega)))))) hn2 (by omega))); (have HOw2 : Hid (Only b w w2) := Lib.hid (Only.trans (by (repeat (first | with_reducible exact Only.refl _ _ | with_reducible exact HOw2.out | with_reducible exact HOw1.out | (with_reducible refine Only.drewN ?_ _) | (with_reducible refine Only.drew ?_) | (with_reducible refine Only.alloc ?_ _) | ((with_reducible refine Only.fresh ?_ ?_ _); rotate_left; (focus (simp; done))) | ((with_reducible refine Only.setCell ?_ ?_ _); rotate_left; (exact rfl))))) hn2)); have d0w2 := hn1.cell0; have d1w2 := hn1.cell1; have dfw2 := hn1.frozen 1; have Hw2 := Lib.hid hn1; obtain ⟨xw2, yw2, zw2, r0w2, r1w2, r2w2⟩ := Rw2.out.cells; have g0w2 := Rw2.out.frozen 0; have g1w2 := Rw2.out.frozen 1; have g2w2 := Rw2.out.frozen 2; have RHw2 := Lib.hid Rw2.out; clear hn1 hn2 Rw2))
  refine ret_tok_ok rfl rfl rfl rfl (RHw2.out.set _ _ _) ⟨rfl, ?_, ?_⟩
  · (repeat (first | with_reducible exact H.out | with_reducible exact Hw2.out | with_reducible exact Hw1.out | with_reducible exact H.out.any | with_reducible exact Hw2.out.any | with_reducible exact Hw1.out.any | (with_reducible refine ScanAt.drewN ?_ _) | (with_reducible refine ScanAt.drew ?_) | (with_reducible refine ScanAt.alloc ?_ _) | ((with_reducible refine Scan.set ?_ ?_); rotate_left; (omega)) | ((with_reducible refine ScanAt.other ?_ ?_ _); rotate_left; ((simp; omega))) | (with_reducible refine Scan.drewN ?_ _) | (with_reducible refine Scan.drew ?_) | (with_reducible refine Scan.alloc ?_ _) | ((with_reducible refine Scan.other ?_ ?_ _); rotate_left; ((simp; omega)))))
  · (repeat (first | with_reducible exact Only.refl _ _ | with_reducible exact HOw2.out | with_reducible exact HOw1.out | (with_reducible refine Only.drewN ?_ _) | (with_reducible refine Only.drew ?_) | (with_reducible refine Only.alloc ?_ _) | ((with_reducible refine Only.fresh ?_ ?_ _); rotate_left; (focus (simp; done))) | ((with_reducible refine Only.setCell ?_ ?_ _); rotate_left; (exact rfl))))
set_option maxRecDepth 100000 in
set_option maxHeartbeats 2000000 in
theorem next_word (b : Nat) (s : ByteArray) (p q : Nat) (w : World) (hs : s.size ≤ 4611686018427387000) (h : ScanAt w b s p) (hp : p ≤ s.size) (hq : p + Wn.skip (Wn.sfx s p) = q) (hq1 : q < s.size) (hb : Wn.blank (Wn.sfx s q) = false) (hsl : Wn.strLen (Wn.sfx s q) = none) (h35 : (Wn.hd (Wn.sfx s q) == 35) = false) (h64 : (Wn.hd (Wn.sfx s q) == 64) = false) (hnu : Wn.numberBegins (Wn.sfx s q) = false) (hn0 : Wn.nameBegins (Wn.sfx s q) = true) (E : Nat) (hE : q + Wn.runLen Wn.nameByte (Wn.sfx s q) = E) :
    Calls Tryz.prog 108 #[.pointer (some ⟨b, 0, none⟩)] w (Left b s (if Wn.hd (Wn.sfx s E) == 40 then E + 1 else E) (.tuple #[.agg #[.int .i64 (if Wn.hd (Wn.sfx s E) == 40 then 2 else 1), .string (s.extract q E), .int .i64 0], .bool true]) w) := by
  have hsq : Wn.place (q + 1) (Wn.strLen (Wn.sfx s q)) = -1 := by rw [hsl]; rfl
  clear hsl
  have hlt := h.lt
  have H := Lib.hid h; clear h
  have HQ := Lib.hid hq; clear hq
  have HB := Lib.hid hb; clear hb
  have HSQ := Lib.hid hsq; clear hsq
  have HNU := Lib.hid hnu; clear hnu
  have HN0 := Lib.hid hn0; clear hn0
  have HE := Lib.hid hE; clear hE
  generalize hcc : Wn.hd (Wn.sfx s q) = c at h35 h64
  have HC := Lib.hid hcc; clear hcc
  generalize hQ2 : (if Wn.hd (Wn.sfx s E) == 40 then E + 1 else E) = Q2
  generalize hK2 : (if Wn.hd (Wn.sfx s E) == 40 then 2 else 1 : Int) = K2
  have HQ2 := Lib.hid hQ2; clear hQ2
  have HK2 := Lib.hid hK2; clear hK2
  go_enter Tryz.func108, Tryz.ntmps108
  go_wp2_with (first | (go_at_call 118; (refine (skipComments_any b s p q _ hs (by (repeat (first | with_reducible exact H.out | with_reducible exact Hw2.out | with_reducible exact Hw1.out | with_reducible exact H.out.any | with_reducible exact Hw2.out.any | with_reducible exact Hw1.out.any | (with_reducible refine ScanAt.drewN ?_ _) | (with_reducible refine ScanAt.drew ?_) | (with_reducible refine ScanAt.alloc ?_ _) | ((with_reducible refine Scan.set ?_ ?_); rotate_left; (omega)) | ((with_reducible refine ScanAt.other ?_ ?_ _); rotate_left; ((simp; omega))) | (with_reducible refine Scan.drewN ?_ _) | (with_reducible refine Scan.drew ?_) | (with_reducible refine Scan.alloc ?_ _) | ((with_reducible refine Scan.other ?_ ?_ _); rotate_left; ((simp; omega)))))) hp HQ.out).mono ?_); rintro e w1 ⟨rfl, hm1, hm2⟩; (have Rw1 : Hid (Res w1 w.heap.size) := Lib.hid (Res.only (by (repeat (first | with_reducible exact Res.new _ _ _ _ | with_reducible exact RHw2.out | with_reducible exact RHw1.out | (with_reducible refine Res.drewN ?_ _) | (with_reducible refine Res.drew ?_) | (with_reducible refine Res.alloc ?_ _) | ((with_reducible refine Res.other ?_ ?_ _); rotate_left; ((simp; omega)))))) hm2 (by omega))); (have HOw1 : Hid (Only b w w1) := Lib.hid (Only.trans (by (repeat (first | with_reducible exact Only.refl _ _ | with_reducible exact HOw2.out | with_reducible exact HOw1.out | (with_reducible refine Only.drewN ?_ _) | (with_reducible refine Only.drew ?_) | (with_reducible refine Only.alloc ?_ _) | ((with_reducible refine Only.fresh ?_ ?_ _); rotate_left; (focus (simp; done))) | ((with_reducible refine Only.setCell ?_ ?_ _); rotate_left; (exact rfl))))) hm2)); have d0w1 := hm1.cell0; have d1w1 := hm1.cell1; have dfw1 := hm1.frozen 1; have Hw1 := Lib.hid hm1; obtain ⟨xw1, yw1, zw1, r0w1, r1w1, r2w1⟩ := Rw1.out.cells; have g0w1 := Rw1.out.frozen 0; have g1w1 := Rw1.out.frozen 1; have g2w1 := Rw1.out.frozen 2; have RHw1 := Lib.hid Rw1.out; clear hm1 hm2 Rw1; clear H) | (go_at_call 119; (with_reducible refine (isBlank_i s q _ _ _ hs (by omega) rfl HB.out).mono ?_); rintro e w' ⟨rfl, rfl⟩) | (go_at_call 121; (with_reducible refine (secondQuote_i s q _ _ _ hs (by omega) rfl HSQ.out).mono ?_); rintro e w' ⟨rfl, nd, rfl⟩) | (go_at_call 123; (with_reducible refine (byteAt_i s q _ _ _ hs (by omega) rfl HC.out).mono ?_); rintro e w' ⟨rfl, rfl⟩) | (go_at_call 124; (with_reducible refine (isNameByte_i s (q + 1) _ _ _ hs (by omega) ?_ HNB.out).mono ?_); (omega); rintro e w' ⟨rfl, rfl⟩) | (go_at_call 126; (with_reducible refine (nameBegins_i s q _ _ _ hs (by omega) rfl HN0.out).mono ?_); rintro e w' ⟨rfl, rfl⟩) | (go_at_call 126; (with_reducible refine (nameBegins_i s (q + 1) _ _ _ hs (by omega) ?_ HN1.out).mono ?_); (omega); rintro e w' ⟨rfl, rfl⟩) | (go_at_call 127; (with_reducible refine (numberBegins_i s q _ _ _ hs (by omega) rfl HNU.out).mono ?_); rintro e w' ⟨rfl, rfl⟩) | (go_at_call 129; (refine (word_any b s q E _ hs (by (repeat (first | with_reducible exact H.out | with_reducible exact Hw2.out | with_reducible exact Hw1.out | with_reducible exact H.out.any | with_reducible exact Hw2.out.any | with_reducible exact Hw1.out.any | (with_reducible refine ScanAt.drewN ?_ _) | (with_reducible refine ScanAt.drew ?_) | (with_reducible refine ScanAt.alloc ?_ _) | ((with_reducible refine Scan.set ?_ ?_); rotate_left; (omega)) | ((with_reducible refine ScanAt.other ?_ ?_ _); rotate_left; ((simp; omega))) | (with_reducible refine Scan.drewN ?_ _) | (with_reducible refine Scan.drew ?_) | (with_reducible refine Scan.alloc ?_ _) | ((with_reducible refine Scan.other ?_ ?_ _); rotate_left; ((simp; omega)))))) (by omega) HE.out).mono ?_); rw [HQ2.out, HK2.out]; rintro e w2 ⟨rfl, hn1, hn2⟩; (have Rw2 : Hid (Res w2 w.heap.size) := Lib.hid (Res.only (by (repeat (first | with_reducible exact Res.new _ _ _ _ | with_reducible exact RHw2.out | with_reducible exact RHw1.out | (with_reducible refine Res.drewN ?_ _) | (with_reducible refine Res.drew ?_) | (with_reducible refine Res.alloc ?_ _) | ((with_reducible refine Res.other ?_ ?_ _); rotate_left; ((simp; omega)))))) hn2 (by omega))); (have HOw2 : Hid (Only b w w2) := Lib.hid (Only.trans (by (repeat (first | with_reducible exact Only.refl _ _ | with_reducible exact HOw2.out | with_reducible exact HOw1.out | (with_reducible refine Only.drewN ?_ _) | (with_reducible refine Only.drew ?_) | (with_reducible refine Only.alloc ?_ _) | ((with_reducible refine Only.fresh ?_ ?_ _); rotate_left; (focus (simp; done))) | ((with_reducible refine Only.setCell ?_ ?_ _); rotate_left; (exact rfl))))) hn2)); have d0w2 := hn1.cell0; have d1w2 := hn1.cell1; have dfw2 := hn1.frozen 1; have Hw2 := Lib.hid hn1; obtain ⟨xw2, yw2, zw2, r0w2, r1w2, r2w2⟩ := Rw2.out.cells; have g0w2 := Rw2.out.frozen 0; have g1w2 := Rw2.out.frozen 1; have g2w2 := Rw2.out.frozen 2; have RHw2 := Lib.hid Rw2.out; clear hn1 hn2 Rw2))
  refine ret_tok_ok rfl rfl rfl rfl (RHw2.out.set _ _ _) ⟨rfl, ?_, ?_⟩
  · (repeat (first | with_reducible exact H.out | with_reducible exact Hw2.out | with_reducible exact Hw1.out | with_reducible exact H.out.any | with_reducible exact Hw2.out.any | with_reducible exact Hw1.out.any | (with_reducible refine ScanAt.drewN ?_ _) | (with_reducible refine ScanAt.drew ?_) | (with_reducible refine ScanAt.alloc ?_ _) | ((with_reducible refine Scan.set ?_ ?_); rotate_left; (omega)) | ((with_reducible refine ScanAt.other ?_ ?_ _); rotate_left; ((simp; omega))) | (with_reducible refine Scan.drewN ?_ _) | (with_reducible refine Scan.drew ?_) | (with_reducible refine Scan.alloc ?_ _) | ((with_reducible refine Scan.other ?_ ?_ _); rotate_left; ((simp; omega)))))
  · (repeat (first | with_reducible exact Only.refl _ _ | with_reducible exact HOw2.out | with_reducible exact HOw1.out | (with_reducible refine Only.drewN ?_ _) | (with_reducible refine Only.drew ?_) | (with_reducible refine Only.alloc ?_ _) | ((with_reducible refine Only.fresh ?_ ?_ _); rotate_left; (focus (simp; done))) | ((with_reducible refine Only.setCell ?_ ?_ _); rotate_left; (exact rfl))))
set_option maxRecDepth 100000 in
set_option maxHeartbeats 2000000 in
theorem next_delim (b : Nat) (s : ByteArray) (p q : Nat) (w : World) (hs : s.size ≤ 4611686018427387000) (h : ScanAt w b s p) (hp : p ≤ s.size) (hq : p + Wn.skip (Wn.sfx s p) = q) (hq1 : q < s.size) (hb : Wn.blank (Wn.sfx s q) = false) (hsl : Wn.strLen (Wn.sfx s q) = none) (h35 : (Wn.hd (Wn.sfx s q) == 35) = false) (h64 : (Wn.hd (Wn.sfx s q) == 64) = false) (hnu : Wn.numberBegins (Wn.sfx s q) = false) (hn0 : Wn.nameBegins (Wn.sfx s q) = false) :
    Calls Tryz.prog 108 #[.pointer (some ⟨b, 0, none⟩)] w (Left b s (q + 1) (.tuple #[.agg #[.int .i64 7, .string (s.extract q (q + 1)), .int .i64 0], .bool true]) w) := by
  have hsq : Wn.place (q + 1) (Wn.strLen (Wn.sfx s q)) = -1 := by rw [hsl]; rfl
  clear hsl
  have hlt := h.lt
  have H := Lib.hid h; clear h
  have HQ := Lib.hid hq; clear hq
  have HB := Lib.hid hb; clear hb
  have HSQ := Lib.hid hsq; clear hsq
  have HNU := Lib.hid hnu; clear hnu
  have HN0 := Lib.hid hn0; clear hn0
  generalize hcc : Wn.hd (Wn.sfx s q) = c at h35 h64
  have HC := Lib.hid hcc; clear hcc
  go_enter Tryz.func108, Tryz.ntmps108
  go_wp2_with (first | (go_at_call 118; (refine (skipComments_any b s p q _ hs (by (repeat (first | with_reducible exact H.out | with_reducible exact Hw2.out | with_reducible exact Hw1.out | with_reducible exact H.out.any | with_reducible exact Hw2.out.any | with_reducible exact Hw1.out.any | (with_reducible refine ScanAt.drewN ?_ _) | (with_reducible refine ScanAt.drew ?_) | (with_reducible refine ScanAt.alloc ?_ _) | ((with_reducible refine Scan.set ?_ ?_); rotate_left; (omega)) | ((with_reducible refine ScanAt.other ?_ ?_ _); rotate_left; ((simp; omega))) | (with_reducible refine Scan.drewN ?_ _) | (with_reducible refine Scan.drew ?_) | (with_reducible refine Scan.alloc ?_ _) | ((with_reducible refine Scan.other ?_ ?_ _); rotate_left; ((simp; omega)))))) hp HQ.out).mono ?_); rintro e w1 ⟨rfl, hm1, hm2⟩; (have Rw1 : Hid (Res w1 w.heap.size) := Lib.hid (Res.only (by (repeat (first | with_reducible exact Res.new _ _ _ _ | with_reducible exact RHw2.out | with_reducible exact RHw1.out | (with_reducible refine Res.drewN ?_ _) | (with_reducible refine Res.drew ?_) | (with_reducible refine Res.alloc ?_ _) | ((with_reducible refine Res.other ?_ ?_ _); rotate_left; ((simp; omega)))))) hm2 (by omega))); (have HOw1 : Hid (Only b w w1) := Lib.hid (Only.trans (by (repeat (first | with_reducible exact Only.refl _ _ | with_reducible exact HOw2.out | with_reducible exact HOw1.out | (with_reducible refine Only.drewN ?_ _) | (with_reducible refine Only.drew ?_) | (with_reducible refine Only.alloc ?_ _) | ((with_reducible refine Only.fresh ?_ ?_ _); rotate_left; (focus (simp; done))) | ((with_reducible refine Only.setCell ?_ ?_ _); rotate_left; (exact rfl))))) hm2)); have d0w1 := hm1.cell0; have d1w1 := hm1.cell1; have dfw1 := hm1.frozen 1; have Hw1 := Lib.hid hm1; obtain ⟨xw1, yw1, zw1, r0w1, r1w1, r2w1⟩ := Rw1.out.cells; have g0w1 := Rw1.out.frozen 0; have g1w1 := Rw1.out.frozen 1; have g2w1 := Rw1.out.frozen 2; have RHw1 := Lib.hid Rw1.out; clear hm1 hm2 Rw1; clear H) | (go_at_call 119; (with_reducible refine (isBlank_i s q _ _ _ hs (by omega) rfl HB.out).mono ?_); rintro e w' ⟨rfl, rfl⟩) | (go_at_call 121; (with_reducible refine (secondQuote_i s q _ _ _ hs (by omega) rfl HSQ.out).mono ?_); rintro e w' ⟨rfl, nd, rfl⟩) | (go_at_call 123; (with_reducible refine (byteAt_i s q _ _ _ hs (by omega) rfl HC.out).mono ?_); rintro e w' ⟨rfl, rfl⟩) | (go_at_call 124; (with_reducible refine (isNameByte_i s (q + 1) _ _ _ hs (by omega) ?_ HNB.out).mono ?_); (omega); rintro e w' ⟨rfl, rfl⟩) | (go_at_call 126; (with_reducible refine (nameBegins_i s q _ _ _ hs (by omega) rfl HN0.out).mono ?_); rintro e w' ⟨rfl, rfl⟩) | (go_at_call 126; (with_reducible refine (nameBegins_i s (q + 1) _ _ _ hs (by omega) ?_ HN1.out).mono ?_); (omega); rintro e w' ⟨rfl, rfl⟩) | (go_at_call 127; (with_reducible refine (numberBegins_i s q _ _ _ hs (by omega) rfl HNU.out).mono ?_); rintro e w' ⟨rfl, rfl⟩) | (go_at_call 130; (refine (take_l b s q (q + 1) _ _ (by (repeat (first | with_reducible exact H.out | with_reducible exact Hw2.out | with_reducible exact Hw1.out | with_reducible exact H.out.any | with_reducible exact Hw2.out.any | with_reducible exact Hw1.out.any | (with_reducible refine ScanAt.drewN ?_ _) | (with_reducible refine ScanAt.drew ?_) | (with_reducible refine ScanAt.alloc ?_ _) | ((with_reducible refine Scan.set ?_ ?_); rotate_left; (omega)) | ((with_reducible refine ScanAt.other ?_ ?_ _); rotate_left; ((simp; omega))) | (with_reducible refine Scan.drewN ?_ _) | (with_reducible refine Scan.drew ?_) | (with_reducible refine Scan.alloc ?_ _) | ((with_reducible refine Scan.other ?_ ?_ _); rotate_left; ((simp; omega)))))) (by omega) (by omega) (by omega)).mono ?_); rintro e w2 ⟨rfl, hn1, hn2⟩; (have Rw2 : Hid (Res w2 w.heap.size) := Lib.hid (Res.only (by (repeat (first | with_reducible exact Res.new _ _ _ _ | with_reducible exact RHw2.out | with_reducible exact RHw1.out | (with_reducible refine Res.drewN ?_ _) | (with_reducible refine Res.drew ?_) | (with_reducible refine Res.alloc ?_ _) | ((with_reducible refine Res.other ?_ ?_ _); rotate_left; ((simp; omega)))))) hn2 (by omega))); (have HOw2 : Hid (Only b w w2) := Lib.hid (Only.trans (by (repeat (first | with_reducible exact Only.refl _ _ | with_reducible exact HOw2.out | with_reducible exact HOw1.out | (with_reducible refine Only.drewN ?_ _) | (with_reducible refine Only.drew ?_) | (with_reducible refine Only.alloc ?_ _) | ((with_reducible refine Only.fresh ?_ ?_ _); rotate_left; (focus (simp; done))) | ((with_reducible refine Only.setCell ?_ ?_ _); rotate_left; (exact rfl))))) hn2)); have d0w2 := hn1.cell0; have d1w2 := hn1.cell1; have dfw2 := hn1.frozen 1; have Hw2 := Lib.hid hn1; obtain ⟨xw2, yw2, zw2, r0w2, r1w2, r2w2⟩ := Rw2.out.cells; have g0w2 := Rw2.out.frozen 0; have g1w2 := Rw2.out.frozen 1; have g2w2 := Rw2.out.frozen 2; have RHw2 := Lib.hid Rw2.out; clear hn1 hn2 Rw2))
  refine ret_tok_ok rfl rfl rfl rfl (RHw2.out.set _ _ _) ⟨rfl, ?_, ?_⟩
  · (repeat (first | with_reducible exact H.out | with_reducible exact Hw2.out | with_reducible exact Hw1.out | with_reducible exact H.out.any | with_reducible exact Hw2.out.any | with_reducible exact Hw1.out.any | (with_reducible refine ScanAt.drewN ?_ _) | (with_reducible refine ScanAt.drew ?_) | (with_reducible refine ScanAt.alloc ?_ _) | ((with_reducible refine Scan.set ?_ ?_); rotate_left; (omega)) | ((with_reducible refine ScanAt.other ?_ ?_ _); rotate_left; ((simp; omega))) | (with_reducible refine Scan.drewN ?_ _) | (with_reducible refine Scan.drew ?_) | (with_reducible refine Scan.alloc ?_ _) | ((with_reducible refine Scan.other ?_ ?_ _); rotate_left; ((simp; omega)))))
  · (repeat (first | with_reducible exact Only.refl _ _ | with_reducible exact HOw2.out | with_reducible exact HOw1.out | (with_reducible refine Only.drewN ?_ _) | (with_reducible refine Only.drew ?_) | (with_reducible refine Only.alloc ?_ _) | ((with_reducible refine Only.fresh ?_ ?_ _); rotate_left; (focus (simp; done))) | ((with_reducible refine Only.setCell ?_ ?_ _); rotate_left; (exact rfl))))
set_option maxRecDepth 100000 in
set_option maxHeartbeats 2000000 in
theorem next_delim35 (b : Nat) (s : ByteArray) (p q : Nat) (w : World) (hs : s.size ≤ 4611686018427387000) (h : ScanAt w b s p) (hp : p ≤ s.size) (hq : p + Wn.skip (Wn.sfx s p) = q) (hq1 : q < s.size) (hb : Wn.blank (Wn.sfx s q) = false) (hsl : Wn.strLen (Wn.sfx s q) = none) (hc : Wn.hd (Wn.sfx s q) = 35) (hnb : Wn.nameByte (Wn.sfx s (q + 1)) = false) (hnu : Wn.numberBegins (Wn.sfx s q) = false) (hn0 : Wn.nameBegins (Wn.sfx s q) = false) :
    Calls Tryz.prog 108 #[.pointer (some ⟨b, 0, none⟩)] w (Left b s (q + 1) (.tuple #[.agg #[.int .i64 7, .string (s.extract q (q + 1)), .int .i64 0], .bool true]) w) := by
  have hsq : Wn.place (q + 1) (Wn.strLen (Wn.sfx s q)) = -1 := by rw [hsl]; rfl
  clear hsl
  have hlt := h.lt
  have H := Lib.hid h; clear h
  have HQ := Lib.hid hq; clear hq
  have HB := Lib.hid hb; clear hb
  have HSQ := Lib.hid hsq; clear hsq
  have HNU := Lib.hid hnu; clear hnu
  have HN0 := Lib.hid hn0; clear hn0
  have HC := Lib.hid hc; clear hc
  have HNB := Lib.hid hnb; clear hnb
  go_enter Tryz.func108, Tryz.ntmps108
  go_wp2_with (first | (go_at_call 118; (refine (skipComments_any b s p q _ hs (by (repeat (first | with_reducible exact H.out | with_reducible exact Hw2.out | with_reducible exact Hw1.out | with_reducible exact H.out.any | with_reducible exact Hw2.out.any | with_reducible exact Hw1.out.any | (with_reducible refine ScanAt.drewN ?_ _) | (with_reducible refine ScanAt.drew ?_) | (with_reducible refine ScanAt.alloc ?_ _) | ((with_reducible refine Scan.set ?_ ?_); rotate_left; (omega)) | ((with_reducible refine ScanAt.other ?_ ?_ _); rotate_left; ((simp; omega))) | (with_reducible refine Scan.drewN ?_ _) | (with_reducible refine Scan.drew ?_) | (with_reducible refine Scan.alloc ?_ _) | ((with_reducible refine Scan.other ?_ ?_ _); rotate_left; ((simp; omega)))))) hp HQ.out).mono ?_); rintro e w1 ⟨rfl, hm1, hm2⟩; (have Rw1 : Hid (Res w1 w.heap.size) := Lib.hid (Res.only (by (repeat (first | with_reducible exact Res.new _ _ _ _ | with_reducible exact RHw2.out | with_reducible exact RHw1.out | (with_reducible refine Res.drewN ?_ _) | (with_reducible refine Res.drew ?_) | (with_reducible refine Res.alloc ?_ _) | ((with_reducible refine Res.other ?_ ?_ _); rotate_left; ((simp; omega)))))) hm2 (by omega))); (have HOw1 : Hid (Only b w w1) := Lib.hid (Only.trans (by (repeat (first | with_reducible exact Only.refl _ _ | with_reducible exact HOw2.out | with_reducible exact HOw1.out | (with_reducible refine Only.drewN ?_ _) | (with_reducible refine Only.drew ?_) | (with_reducible refine Only.alloc ?_ _) | ((with_reducible refine Only.fresh ?_ ?_ _); rotate_left; (focus (simp; done))) | ((with_reducible refine Only.setCell ?_ ?_ _); rotate_left; (exact rfl))))) hm2)); have d0w1 := hm1.cell0; have d1w1 := hm1.cell1; have dfw1 := hm1.frozen 1; have Hw1 := Lib.hid hm1; obtain ⟨xw1, yw1, zw1, r0w1, r1w1, r2w1⟩ := Rw1.out.cells; have g0w1 := Rw1.out.frozen 0; have g1w1 := Rw1.out.frozen 1; have g2w1 := Rw1.out.frozen 2; have RHw1 := Lib.hid Rw1.out; clear hm1 hm2 Rw1; clear H) | (go_at_call 119; (with_reducible refine (isBlank_i s q _ _ _ hs (by omega) rfl HB.out).mono ?_); rintro e w' ⟨rfl, rfl⟩) | (go_at_call 121; (with_reducible refine (secondQuote_i s q _ _ _ hs (by omega) rfl HSQ.out).mono ?_); rintro e w' ⟨rfl, nd, rfl⟩) | (go_at_call 123; (with_reducible refine (byteAt_i s q _ _ _ hs (by omega) rfl HC.out).mono ?_); rintro e w' ⟨rfl, rfl⟩) | (go_at_call 124; (with_reducible refine (isNameByte_i s (q + 1) _ _ _ hs (by omega) ?_ HNB.out).mono ?_); (omega); rintro e w' ⟨rfl, rfl⟩) | (go_at_call 126; (with_reducible refine (nameBegins_i s q _ _ _ hs (by omega) rfl HN0.out).mono ?_); rintro e w' ⟨rfl, rfl⟩) | (go_at_call 126; (with_reducible refine (nameBegins_i s (q + 1) _ _ _ hs (by omega) ?_ HN1.out).mono ?_); (omega); rintro e w' ⟨rfl, rfl⟩) | (go_at_call 127; (with_reducible refine (numberBegins_i s q _ _ _ hs (by omega) rfl HNU.out).mono ?_); rintro e w' ⟨rfl, rfl⟩) | (go_at_call 130; (refine (take_l b s q (q + 1) _ _ (by (repeat (first | with_reducible exact H.out | with_reducible exact Hw2.out | with_reducible exact Hw1.out | with_reducible exact H.out.any | with_reducible exact Hw2.out.any | with_reducible exact Hw1.out.any | (with_reducible refine ScanAt.drewN ?_ _) | (with_reducible refine ScanAt.drew ?_) | (with_reducible refine ScanAt.alloc ?_ _) | ((with_reducible refine Scan.set ?_ ?_); rotate_left; (omega)) | ((with_reducible refine ScanAt.other ?_ ?_ _); rotate_left; ((simp; omega))) | (with_reducible refine Scan.drewN ?_ _) | (with_reducible refine Scan.drew ?_) | (with_reducible refine Scan.alloc ?_ _) | ((with_reducible refine Scan.other ?_ ?_ _); rotate_left; ((simp; omega)))))) (by omega) (by omega) (by omega)).mono ?_); rintro e w2 ⟨rfl, hn1, hn2⟩; (have Rw2 : Hid (Res w2 w.heap.size) := Lib.hid (Res.only (by (repeat (first | with_reducible exact Res.new _ _ _ _ | with_reducible exact RHw2.out | with_reducible exact RHw1.out | (with_reducible refine Res.drewN ?_ _) | (with_reducible refine Res.drew ?_) | (with_reducible refine Res.alloc ?_ _) | ((with_reducible refine Res.other ?_ ?_ _); rotate_left; ((simp; omega)))))) hn2 (by omega))); (have HOw2 : Hid (Only b w w2) := Lib.hid (Only.trans (by (repeat (first | with_reducible exact Only.refl _ _ | with_reducible exact HOw2.out | with_reducible exact HOw1.out | (with_reducible refine Only.drewN ?_ _) | (with_reducible refine Only.drew ?_) | (with_reducible refine Only.alloc ?_ _) | ((with_reducible refine Only.fresh ?_ ?_ _); rotate_left; (focus (simp; done))) | ((with_reducible refine Only.setCell ?_ ?_ _); rotate_left; (exact rfl))))) hn2)); have d0w2 := hn1.cell0; have d1w2 := hn1.cell1; have dfw2 := hn1.frozen 1; have Hw2 := Lib.hid hn1; obtain ⟨xw2, yw2, zw2, r0w2, r1w2, r2w2⟩ := Rw2.out.cells; have g0w2 := Rw2.out.frozen 0; have g1w2 := Rw2.out.frozen 1; have g2w2 := Rw2.out.frozen 2; have RHw2 := Lib.hid Rw2.out; clear hn1 hn2 Rw2))
  refine ret_tok_ok rfl rfl rfl rfl (RHw2.out.set _ _ _) ⟨rfl, ?_, ?_⟩
  · (repeat (first | with_reducible exact H.out | with_reducible exact Hw2.out | with_reducible exact Hw1.out | with_reducible exact H.out.any | with_reducible exact Hw2.out.any | with_reducible exact Hw1.out.any | (with_reducible refine ScanAt.drewN ?_ _) | (with_reducible refine ScanAt.drew ?_) | (with_reducible refine ScanAt.alloc ?_ _) | ((with_reducible refine Scan.set ?_ ?_); rotate_left; (omega)) | ((with_reducible refine ScanAt.other ?_ ?_ _); rotate_left; ((simp; omega))) | (with_reducible refine Scan.drewN ?_ _) | (with_reducible refine Scan.drew ?_) | (with_reducible refine Scan.alloc ?_ _) | ((with_reducible refine Scan.other ?_ ?_ _); rotate_left; ((simp; omega)))))
  · (repeat (first | with_reducible exact Only.refl _ _ | with_reducible exact HOw2.out | with_reducible exact HOw1.out | (with_reducible refine Only.drewN ?_ _) | (with_reducible refine Only.drew ?_) | (with_reducible refine Only.alloc ?_ _) | ((with_reducible refine Only.fresh ?_ ?_ _); rotate_left; (focus (simp; done))) | ((with_reducible refine Only.setCell ?_ ?_ _); rotate_left; (exact rfl))))
set_option maxRecDepth 100000 in
set_option maxHeartbeats 2000000 in
theorem next_delim64 (b : Nat) (s : ByteArray) (p q : Nat) (w : World) (hs : s.size ≤ 4611686018427387000) (h : ScanAt w b s p) (hp : p ≤ s.size) (hq : p + Wn.skip (Wn.sfx s p) = q) (hq1 : q < s.size) (hb : Wn.blank (Wn.sfx s q) = false) (hsl : Wn.strLen (Wn.sfx s q) = none) (hc : Wn.hd (Wn.sfx s q) = 64) (hn1 : Wn.nameBegins (Wn.sfx s (q + 1)) = false) (hnu : Wn.numberBegins (Wn.sfx s q) = false) (hn0 : Wn.nameBegins (Wn.sfx s q) = false) :
    Calls Tryz.prog 108 #[.pointer (some ⟨b, 0, none⟩)] w (Left b s (q + 1) (.tuple #[.agg #[.int .i64 7, .string (s.extract q (q + 1)), .int .i64 0], .bool true]) w) := by
  have hsq : Wn.place (q + 1) (Wn.strLen (Wn.sfx s q)) = -1 := by rw [hsl]; rfl
  clear hsl
  have hlt := h.lt
  have H := Lib.hid h; clear h
  have HQ := Lib.hid hq; clear hq
  have HB := Lib.hid hb; clear hb
  have HSQ := Lib.hid hsq; clear hsq
  have HNU := Lib.hid hnu; clear hnu
  have HN0 := Lib.hid hn0; clear hn0
  have HC := Lib.hid hc; clear hc
  have HN1 := Lib.hid hn1; clear hn1
  go_enter Tryz.func108, Tryz.ntmps108
  go_wp2_with (first | (go_at_call 118; (refine (skipComments_any b s p q _ hs (by (repeat (first | with_reducible exact H.out | with_reducible exact Hw2.out | with_reducible exact Hw1.out | with_reducible exact H.out.any | with_reducible exact Hw2.out.any | with_reducible exact Hw1.out.any | (with_reducible refine ScanAt.drewN ?_ _) | (with_reducible refine ScanAt.drew ?_) | (with_reducible refine ScanAt.alloc ?_ _) | ((with_reducible refine Scan.set ?_ ?_); rotate_left; (omega)) | ((with_reducible refine ScanAt.other ?_ ?_ _); rotate_left; ((simp; omega))) | (with_reducible refine Scan.drewN ?_ _) | (with_reducible refine Scan.drew ?_) | (with_reducible refine Scan.alloc ?_ _) | ((with_reducible refine Scan.other ?_ ?_ _); rotate_left; ((simp; omega)))))) hp HQ.out).mono ?_); rintro e w1 ⟨rfl, hm1, hm2⟩; (have Rw1 : Hid (Res w1 w.heap.size) := Lib.hid (Res.only (by (repeat (first | with_reducible exact Res.new _ _ _ _ | with_reducible exact RHw2.out | with_reducible exact RHw1.out | (with_reducible refine Res.drewN ?_ _) | (with_reducible refine Res.drew ?_) | (with_reducible refine Res.alloc ?_ _) | ((with_reducible refine Res.other ?_ ?_ _); rotate_left; ((simp; omega)))))) hm2 (by omega))); (have HOw1 : Hid (Only b w w1) := Lib.hid (Only.trans (by (repeat (first | with_reducible exact Only.refl _ _ | with_reducible exact HOw2.out | with_reducible exact HOw1.out | (with_reducible refine Only.drewN ?_ _) | (with_reducible refine Only.drew ?_) | (with_reducible refine Only.alloc ?_ _) | ((with_reducible refine Only.fresh ?_ ?_ _); rotate_left; (focus (simp; done))) | ((with_reducible refine Only.setCell ?_ ?_ _); rotate_left; (exact rfl))))) hm2)); have d0w1 := hm1.cell0; have d1w1 := hm1.cell1; have dfw1 := hm1.frozen 1; have Hw1 := Lib.hid hm1; obtain ⟨xw1, yw1, zw1, r0w1, r1w1, r2w1⟩ := Rw1.out.cells; have g0w1 := Rw1.out.frozen 0; have g1w1 := Rw1.out.frozen 1; have g2w1 := Rw1.out.frozen 2; have RHw1 := Lib.hid Rw1.out; clear hm1 hm2 Rw1; clear H) | (go_at_call 119; (with_reducible refine (isBlank_i s q _ _ _ hs (by omega) rfl HB.out).mono ?_); rintro e w' ⟨rfl, rfl⟩) | (go_at_call 121; (with_reducible refine (secondQuote_i s q _ _ _ hs (by omega) rfl HSQ.out).mono ?_); rintro e w' ⟨rfl, nd, rfl⟩) | (go_at_call 123; (with_reducible refine (byteAt_i s q _ _ _ hs (by omega) rfl HC.out).mono ?_); rintro e w' ⟨rfl, rfl⟩) | (go_at_call 124; (with_reducible refine (isNameByte_i s (q + 1) _ _ _ hs (by omega) ?_ HNB.out).mono ?_); (omega); rintro e w' ⟨rfl, rfl⟩) | (go_at_call 126; (with_reducible refine (nameBegins_i s q _ _ _ hs (by omega) rfl HN0.out).mono ?_); rintro e w' ⟨rfl, rfl⟩) | (go_at_call 126; (with_reducible refine (nameBegins_i s (q + 1) _ _ _ hs (by omega) ?_ HN1.out).mono ?_); (omega); rintro e w' ⟨rfl, rfl⟩) | (go_at_call 127; (with_reducible refine (numberBegins_i s q _ _ _ hs (by omega) rfl HNU.out).mono ?_); rintro e w' ⟨rfl, rfl⟩) | (go_at_call 130; (refine (take_l b s q (q + 1) _ _ (by (repeat (first | with_reducible exact H.out | with_reducible exact Hw2.out | with_reducible exact Hw1.out | with_reducible exact H.out.any | with_reducible exact Hw2.out.any | with_reducible exact Hw1.out.any | (with_reducible refine ScanAt.drewN ?_ _) | (with_reducible refine ScanAt.drew ?_) | (with_reducible refine ScanAt.alloc ?_ _) | ((with_reducible refine Scan.set ?_ ?_); rotate_left; (omega)) | ((with_reducible refine ScanAt.other ?_ ?_ _); rotate_left; ((simp; omega))) | (with_reducible refine Scan.drewN ?_ _) | (with_reducible refine Scan.drew ?_) | (with_reducible refine Scan.alloc ?_ _) | ((with_reducible refine Scan.other ?_ ?_ _); rotate_left; ((simp; omega)))))) (by omega) (by omega) (by omega)).mono ?_); rintro e w2 ⟨rfl, hn1, hn2⟩; (have Rw2 : Hid (Res w2 w.heap.size) := Lib.hid (Res.only (by (repeat (first | with_reducible exact Res.new _ _ _ _ | with_reducible exact RHw2.out | with_reducible exact RHw1.out | (with_reducible refine Res.drewN ?_ _) | (with_reducible refine Res.drew ?_) | (with_reducible refine Res.alloc ?_ _) | ((with_reducible refine Res.other ?_ ?_ _); rotate_left; ((simp; omega)))))) hn2 (by omega))); (have HOw2 : Hid (Only b w w2) := Lib.hid (Only.trans (by (repeat (first | with_reducible exact Only.refl _ _ | with_reducible exact HOw2.out | with_reducible exact HOw1.out | (with_reducible refine Only.drewN ?_ _) | (with_reducible refine Only.drew ?_) | (with_reducible refine Only.alloc ?_ _) | ((with_reducible refine Only.fresh ?_ ?_ _); rotate_left; (focus (simp; done))) | ((with_reducible refine Only.setCell ?_ ?_ _); rotate_left; (exact rfl))))) hn2)); have d0w2 := hn1.cell0; have d1w2 := hn1.cell1; have dfw2 := hn1.frozen 1; have Hw2 := Lib.hid hn1; obtain ⟨xw2, yw2, zw2, r0w2, r1w2, r2w2⟩ := Rw2.out.cells; have g0w2 := Rw2.out.frozen 0; have g1w2 := Rw2.out.frozen 1; have g2w2 := Rw2.out.frozen 2; have RHw2 := Lib.hid Rw2.out; clear hn1 hn2 Rw2))
  refine ret_tok_ok rfl rfl rfl rfl (RHw2.out.set _ _ _) ⟨rfl, ?_, ?_⟩
  · (repeat (first | with_reducible exact H.out | with_reducible exact Hw2.out | with_reducible exact Hw1.out | with_reducible exact H.out.any | with_reducible exact Hw2.out.any | with_reducible exact Hw1.out.any | (with_reducible refine ScanAt.drewN ?_ _) | (with_reducible refine ScanAt.drew ?_) | (with_reducible refine ScanAt.alloc ?_ _) | ((with_reducible refine Scan.set ?_ ?_); rotate_left; (omega)) | ((with_reducible refine ScanAt.other ?_ ?_ _); rotate_left; ((simp; omega))) | (with_reducible refine Scan.drewN ?_ _) | (with_reducible refine Scan.drew ?_) | (with_reducible refine Scan.alloc ?_ _) | ((with_reducible refine Scan.other ?_ ?_ _); rotate_left; ((simp; omega)))))
  · (repeat (first | with_reducible exact Only.refl _ _ | with_reducible exact HOw2.out | with_reducible exact HOw1.out | (with_reducible refine Only.drewN ?_ _) | (with_reducible refine Only.drew ?_) | (with_reducible refine Only.alloc ?_ _) | ((with_reducible refine Only.fresh ?_ ?_ _); rotate_left; (focus (simp; done))) | ((with_reducible refine Only.setCell ?_ ?_ _); rotate_left; (exact rfl))))
end Go.Proofs.YtjlejiphpbaonaaGreatDoor
set_option maxRecDepth 20000
namespace Go.Proofs.YtjlejiphpbaonaaGreatDoor
open Go.RowKit
theorem take_sub (s : ByteArray) (q n : Nat) : s.extract q (q + n) = ⟨((Wn.sfx s q).take n).toArray⟩ := by
  rw [Wn.extract_sfx, Nat.add_sub_cancel_left]
theorem Left.to {b : Nat} {s : ByteArray} {q q' : Nat} {v v' : Value} {w : World} (hq : q = q') (hv : v = v') (e : Ending) (w' : World) (h : Left b s q v w e w') : Left b s q' v' w e w' := by
  subst hq hv; exact h
theorem tok_eq (k : Int) (x : ByteArray) (l : List UInt8) (n : Int) (h : x = ⟨l.toArray⟩) : Value.tuple #[.agg #[.int .i64 k, .string x, .int .i64 n], .bool true] = .tuple #[tokV (k, l, n), .bool true] := by
  subst h; rfl
theorem next_any (b : Nat) (s : ByteArray) (p q : Nat) (w : World) (hs : s.size ≤ 4611686018427387000) (h : ScanAt w b s p) (hp : p ≤ s.size) (hq : p + Wn.skip (Wn.sfx s p) = q) (hq1 : q < s.size) :
    Calls Tryz.prog 108 #[.pointer (some ⟨b, 0, none⟩)] w (Left b s (q + (Wn.one (Wn.sfx s q)).2) (.tuple #[tokV (Wn.one (Wn.sfx s q)).1, .bool true]) w) := by
  unfold Wn.one
  cases hb : Wn.blank (Wn.sfx s q)
  · rw [if_neg (by decide)]
    cases hk : Wn.strLen (Wn.sfx s q) with
    | some k =>
      dsimp only
      have hk2 : q + 1 + k < s.size := by
        unfold Wn.strLen at hk
        split at hk
        · have := Wn.quoteLen_lt _ _ _ hk
          rw [Wn.sfx_drop, Wn.sfx_length] at this
          omega
        · cases hk
      refine (next_str b s p q w hs h hp hq hq1 k hb hk hk2).mono (Left.to (by omega) (tok_eq _ _ _ _ ?_))
      rw [take_sub, Wn.sfx_drop]
    | none =>
      dsimp only
      cases h35 : (Wn.hd (Wn.sfx s q) == 35)
      · rw [if_neg (by simp)]
        cases h64 : (Wn.hd (Wn.sfx s q) == 64)
        · rw [if_neg (by simp)]
          cases hnu : Wn.numberBegins (Wn.sfx s q)
          · rw [if_neg (by decide)]
            cases hn0 : Wn.nameBegins (Wn.sfx s q)
            · rw [if_neg (by decide)]
              refine (next_delim b s p q w hs h hp hq hq1 hb hk h35 h64 hnu hn0).mono (Left.to rfl (tok_eq _ _ _ _ ?_))
              rw [take_sub]
            · rw [if_pos rfl]
              unfold Wn.word
              rw [Wn.sfx_drop]
              by_cases h40 : (Wn.hd (Wn.sfx s (q + Wn.runLen Wn.nameByte (Wn.sfx s q))) == 40) = true
              · rw [if_pos h40]
                refine (next_word b s p q w hs h hp hq hq1 hb hk h35 h64 hnu hn0 _ rfl).mono ?_
                rw [if_pos h40, if_pos h40]
                exact Left.to (by omega) (tok_eq _ _ _ _ (take_sub ..))
              · rw [if_neg h40]
                refine (next_word b s p q w hs h hp hq hq1 hb hk h35 h64 hnu hn0 _ rfl).mono ?_
                rw [if_neg h40, if_neg h40]
                exact Left.to rfl (tok_eq _ _ _ _ (take_sub ..))
          · rw [if_pos rfl]
            unfold Wn.number Wn.numTok
            by_cases h45 : (Wn.hd (Wn.sfx s q) == 45) = true
            · rw [if_pos h45, if_pos rfl, Wn.sfx_drop, Wn.sfx_drop]
              refine (next_minus b s p q w hs h hp hq hq1 hb hk hnu _ _ (by simpa using h45) rfl rfl).mono ?_
              refine Left.to ?_ (tok_eq _ _ _ _ ?_)
              · rw [Nat.add_assoc q 1]; omega
              · rw [take_sub, Nat.add_assoc q 1]
            · rw [if_neg h45, if_neg (by decide), Wn.sfx_drop]
              refine (next_plus b s p q w hs h hp hq hq1 hb hk h35 h64 hnu _ _ (by simpa using h45) rfl rfl).mono ?_
              refine Left.to (by omega) (tok_eq _ _ _ _ (take_sub ..))
        · have h64' : Wn.hd (Wn.sfx s q) = 64 := by simpa using h64
          cases hn1 : Wn.nameBegins ((Wn.sfx s q).drop 1)
          · rw [if_neg (by simp)]
            rw [Wn.sfx_drop] at hn1
            have hnu : Wn.numberBegins (Wn.sfx s q) = false := by unfold Wn.numberBegins Wn.digit; rw [h64']; simp
            have hn0 : Wn.nameBegins (Wn.sfx s q) = false := by unfold Wn.nameBegins Wn.nameStart; rw [h64']; simp
            rw [hnu, hn0, if_neg (by decide), if_neg (by decide)]
            refine (next_delim64 b s p q w hs h hp hq hq1 hb hk h64' hn1 hnu hn0).mono (Left.to rfl (tok_eq _ _ _ _ ?_))
            rw [take_sub]
          · rw [if_pos (by simp)]
            unfold Wn.named
            rw [Wn.sfx_drop] at hn1 ⊢
            refine (next_at b s p q w hs h hp hq hq1 hb hk _ h64' hn1 rfl).mono (Left.to (by omega) (tok_eq _ _ _ _ (take_sub ..)))
      · have h35' : Wn.hd (Wn.sfx s q) = 35 := by simpa using h35
        cases hnb : Wn.nameByte ((Wn.sfx s q).drop 1)
        · rw [if_neg (by simp)]
          rw [Wn.sfx_drop] at hnb
          have hnu : Wn.numberBegins (Wn.sfx s q) = false := by unfold Wn.numberBegins Wn.digit; rw [h35']; simp
          have hn0 : Wn.nameBegins (Wn.sfx s q) = false := by unfold Wn.nameBegins Wn.nameStart; rw [h35']; simp
          rw [hnu, hn0, if_neg (by simp [h35']), if_neg (by decide), if_neg (by decide)]
          refine (next_delim35 b s p q w hs h hp hq hq1 hb hk h35' hnb hnu hn0).mono (Left.to rfl (tok_eq _ _ _ _ ?_))
          rw [take_sub]
        · rw [if_pos (by simp)]
          unfold Wn.named
          rw [Wn.sfx_drop] at hnb ⊢
          refine (next_hash b s p q w hs h hp hq hq1 hb hk _ h35' hnb rfl).mono (Left.to (by omega) (tok_eq _ _ _ _ (take_sub ..)))
  · rw [if_pos rfl]
    exact (next_white b s p q w hs h hp hq hq1 hb).mono (Left.to rfl rfl)
end Go.Proofs.YtjlejiphpbaonaaGreatDoor
set_option maxRecDepth 20000
namespace Go.Proofs.YtjlejiphpbaonaaGreatDoor
open Go.RowKit
/-- the cells of a token, and of tokens one behind the other -/
def tokCells (t : Wn.Tok) : List Value := [.int .i64 t.1, .string ⟨t.2.1.toArray⟩, .int .i64 t.2.2]
def toksCells (l : List Wn.Tok) : List Value := l.flatMap tokCells
theorem toksCells_snoc (l : List Wn.Tok) (t : Wn.Tok) : toksCells (l ++ [t]) = toksCells l ++ tokCells t := by simp [toksCells]
/-- w' is w, but for block b, and what is new; w' has the row v of the tokens l, which is none of w's blocks -/
theorem Only.grown {b : Nat} {w w' : World} (h : Only b w w') : w.grownBy w' (some b) := ⟨h.os, h.tape, h.output, h.size, fun k hk hn => h.block k hk (fun e => hn (by rw [e]))⟩
theorem lt_of_block {w : World} {b : Nat} {o : Obj} (h : w.heap[b]? = some o) : b < w.heap.size := (Array.getElem?_eq_some_iff.1 h).1
theorem Only.below {b : Nat} {w0 w w' : World} (hb : Below b w0 w) (h : Only b w w') (hs : b ≤ w.heap.size) : Below b w0 w' :=
  hb.trans ⟨h.os, h.tape, h.output, h.size, fun k hk => h.block k (by omega) (by omega)⟩
theorem ScanAt.grown {w w' : World} {b : Nat} {s : ByteArray} {p : Nat} {row : Option Nat} (h : ScanAt w b s p) (hg : w.grownBy w' row) (hr : row ≠ some b) : ScanAt w' b s p := by
  have hl := h.lt
  unfold ScanAt at *
  rw [hg.block b hl (fun e => hr e.symm), h]
/-- the place of the scanner in block b -/
def posOf (b : Nat) (w : World) : Nat := (intOf ((w.cell? ⟨b, 1, none⟩).getD (.int .i64 0))).toNat
theorem posOf_at {w : World} {b : Nat} {s : ByteArray} {p : Nat} (h : ScanAt w b s p) : posOf b w = p := by
  unfold posOf; rw [h.cell1]; simp [intOf]
theorem cell_of_block {W : World} {k o : Nat} {c : Array Value} {e : TypeId} {fz : Nat × Nat} (h : W.heap[k]? = some (.cells c e fz)) : W.cell? ⟨k, o, none⟩ = c[o]? := by
  simp [World.cell?, h]
theorem addr_add (k o j : Nat) : (⟨k, o, none⟩ : Addr).add j = ⟨k, o + j, none⟩ := by
  unfold Addr.add; split <;> simp_all
theorem cell_three_new (w : World) (x y z : Value) (e : TypeId) (k : Nat) (hk : k = w.heap.size) (j : Nat) (u : Value) (h : [x, y, z][j]? = some u) : (w.alloc (.cells #[x, y, z] e)).cell? ((⟨k, 0, none⟩ : Addr).add j) = some u := by
  subst hk
  rw [addr_add, cell_of_block (heap_alloc_new w _), ← h]
  simp
theorem ownsRow_base {w : World} {base base' : Nat} {e : TypeId} {size : Nat} {v : Value} {n : Nat} {xs : List Value} (h : w.ownsRow base e size v n xs) (hb : base' ≤ base) : w.ownsRow base' e size v n xs := by
  obtain ⟨h1, h2⟩ := h
  refine ⟨h1, ?_⟩
  rcases h2 with h2 | ⟨g, cap, cur, hv, hg, r⟩
  · exact .inl h2
  · exact .inr ⟨g, cap, cur, hv, by omega, r⟩
theorem info_tok : (Tryz.prog.info? 47).map (fun i => (i.zero, i.size, i.bytes)) = some (some (.agg #[.int .i64 0, .string ⟨#[]⟩, .int .i64 0]), 3, 32) := by kernel_rfl
end Go.Proofs.YtjlejiphpbaonaaGreatDoor
set_option maxRecDepth 20000
namespace Go.Proofs.YtjlejiphpbaonaaGreatDoor
open Go.RowKit
/-- the world's table of powers of ten is the library's -/
def Tab (w : World) : Prop := Lib.TabIs Tryz.prog w "internal/strconv.uint64pow10" .u64 Lib.pow10Tab
theorem Tab.below {w w' : World} (h : Tab w) (hb : Below w.heap.size w w') : Tab w' := Lib.tabBelow_of_tabIs h w' hb
theorem ret_str {a b : ByteArray} (h : a = b) : Ending.returned (.string a) = .returned (.string b) := by rw [h]
theorem Itoa_any (n : Int) (h0 : -9223372036854775808 ≤ n) (h1 : n ≤ 9223372036854775807) (w : World) (ht : Tab w) :
    Calls Tryz.prog 109 #[.int .i64 n] w fun e w' => e = .returned (.string (Wn.str (Lib.itoa n))) ∧ Below w.heap.size w w' :=
  (Tryz.strconv_Itoa n h0 h1 w ht).mono fun e w' ⟨he, k, os, hw⟩ => ⟨he, by subst hw; exact Lib.below_grow _ _ (Nat.le_refl _) k os⟩
/-- a token's value, its text as a Go string -/
theorem tokV_str (t : Wn.Tok) : tokV t = .agg #[.int .i64 t.1, .string (Wn.str t.2.1), .int .i64 t.2.2] := rfl
theorem str_list (l : List UInt8) : (Wn.str l).toList = l := by
  rw [Lib.toList_data]; rfl
set_option maxHeartbeats 400000 in
theorem quotedText_any (t : Wn.Tok) (w : World) (hl : t.2.1.length ≤ 1099511627776) :
    Calls Tryz.prog 110 #[tokV t] w fun e w' => e = .returned (.string (Wn.str (Wn.strText t))) ∧ Below w.heap.size w w' := by
  obtain ⟨k, l, n⟩ := t
  rw [tokV_str]
  dsimp only at *
  have hx : (Wn.str l).size ≤ 1099511627776 := by rw [Wn.str_size]; exact hl
  clear hl
  have e1 : n = 39 → Wn.str (Wn.strText (k, l, n)) = ⟨#[39]⟩ ++ Wn.str l ++ ⟨#[39]⟩ := fun h => by
    unfold Wn.strText; rw [if_pos h]; exact ((congrArg (· ++ _) (Wn.str_append [39] l)).trans (Wn.str_append (39 :: l) [39])).symm
  have e2 : ¬ n = 39 → Wn.str (Wn.strText (k, l, n)) = ⟨#[34]⟩ ++ Wn.str l ++ ⟨#[34]⟩ := fun h => by
    unfold Wn.strText; rw [if_neg h]; exact ((congrArg (· ++ _) (Wn.str_append [34] l)).trans (Wn.str_append (34 :: l) [34])).symm
  generalize Wn.str (Wn.strText (k, l, n)) = R at *
  generalize Wn.str l = x at *
  have E1 := Lib.hid e1; clear e1
  have E2 := Lib.hid e2; clear e2
  by_cases hn : (n == 39) = true
  · go_enter Tryz.func110, Tryz.ntmps110
    go_wp2
    go_ret
    exact ⟨ret_str (E1.out (by simpa using hn)).symm, (Below.refl _ _).alloc (Nat.le_refl _) _⟩
  · have hn' : (n == 39) = false := by simpa using hn
    have HN := Lib.hid hn; clear hn
    go_enter Tryz.func110, Tryz.ntmps110
    go_wp2
    go_ret
    exact ⟨ret_str (E2.out (by simpa using HN.out)).symm, (Below.refl _ _).alloc (Nat.le_refl _) _⟩
set_option maxHeartbeats 400000 in
theorem delimText_any (t : Wn.Tok) (w : World) (hl : t.2.1.length ≤ 1099511627776) :
    Calls Tryz.prog 111 #[tokV t] w fun e w' => e = .returned (.string (Wn.str (Wn.delimText t))) ∧ Below w.heap.size w w' := by
  obtain ⟨k, l, n⟩ := t
  rw [tokV_str]
  dsimp only at *
  have hx : (Wn.str l).size ≤ 1099511627776 := by rw [Wn.str_size]; exact hl
  clear hl
  have e1 : (l = [34] ∨ l = [39]) → Wn.str (Wn.delimText (k, l, n)) = Wn.str l ++ ⟨#[47, 42, 10, 42, 47]⟩ := fun h => by
    unfold Wn.delimText; rw [if_pos h]; exact (Wn.str_append l _).symm
  have e2 : ¬ (l = [34] ∨ l = [39]) → Wn.str (Wn.delimText (k, l, n)) = Wn.str l := fun h => by
    unfold Wn.delimText; rw [if_neg h]
  have hl := str_list l
  generalize Wn.str (Wn.delimText (k, l, n)) = R at *
  generalize Wn.str l = x at *
  subst hl
  have E1 := Lib.hid e1; clear e1
  have E2 := Lib.hid e2; clear e2
  cases h1 : (x.toList == [34])
  · cases h2 : (x.toList == [39])
    · have F : ¬ (x.toList = [34] ∨ x.toList = [39]) := by rintro (h | h) <;> simp [h] at h1 h2
      have F' := Lib.hid F; clear F
      go_enter Tryz.func111, Tryz.ntmps111
      go_wp2
      go_ret
      exact ⟨ret_str (E2.out F'.out).symm, (Below.refl _ _).alloc (Nat.le_refl _) _⟩
    · have F' := Lib.hid (show x.toList = [39] by simpa using h2)
      go_enter Tryz.func111, Tryz.ntmps111
      go_wp2
      go_ret
      exact ⟨ret_str (E1.out (.inr F'.out)).symm, (Below.refl _ _).alloc (Nat.le_refl _) _⟩
  · have F' := Lib.hid (show x.toList = [34] by simpa using h1)
    go_enter Tryz.func111, Tryz.ntmps111
    go_wp2
    go_ret
    exact ⟨ret_str (E1.out (.inl F'.out)).symm, (Below.refl _ _).alloc (Nat.le_refl _) _⟩
end Go.Proofs.YtjlejiphpbaonaaGreatDoor
set_option maxRecDepth 20000
namespace Go.Proofs.YtjlejiphpbaonaaGreatDoor
open Go.RowKit
theorem one_pre (l : List UInt8) (c : UInt8) : Wn.str (c :: l) = ⟨#[c]⟩ ++ Wn.str l := (Wn.str_append [c] l).symm
theorem one_suf (l : List UInt8) (c : UInt8) : Wn.str (l ++ [c]) = Wn.str l ++ ⟨#[c]⟩ := (Wn.str_append l [c]).symm
set_option maxHeartbeats 1000000 in
theorem One_num (l : List UInt8) (n : Int) (w : World) (ht : Tab w) (hl : l.length ≤ 1099511627776) (hn0 : -9223372036854775808 ≤ n) (hn1 : n ≤ 9223372036854775807) :
    Calls Tryz.prog 88 #[.agg #[.int .i64 5, .string (Wn.str l), .int .i64 n]] w fun e w' => e = .returned (.string (Wn.str (Lib.itoa n ++ l))) ∧ Below w.heap.size w w' := by
  have hx : (Wn.str l).size ≤ 1099511627776 := by rw [Wn.str_size]; exact hl
  have hy : (Wn.str (Lib.itoa n)).size ≤ 1099511627776 := by rw [Wn.str_size]; have := Wn.itoa_len hn0 hn1; omega
  rw [← Wn.str_append]
  generalize hI : Wn.str (Lib.itoa n) = I at *
  generalize Wn.str l = x at *
  have HI := Lib.hid hI; clear hI
  have HT := Lib.hid ht; clear ht
  have HN0 := Lib.hid hn0; clear hn0
  have HN1 := Lib.hid hn1; clear hn1
  go_enter Tryz.func88, Tryz.ntmps88
  go_wp2_with fail
  go_region_with (first | (go_at_call 109; (refine (Itoa_any n HN0.out HN1.out _ (HT.out.below (by exact ((Below.refl _ _).alloc (Nat.le_refl _) _).drew))).mono ?_); rw [HI.out]; rintro e w1 ⟨rfl, hb⟩; (have k1 : w1.cell? ⟨w.heap.size, 1, none⟩ = some (.string x) := by rw [hb.cell (by simp)]; simp)))
  all_goals
    go_wp2_with fail
    go_ret
    exact ⟨rfl, ((Below.refl _ _).alloc (Nat.le_refl _) _).trans ((Below.refl _ _).drew.trans (hb.mono (by simp)))⟩
set_option maxHeartbeats 1000000 in
theorem One_any (t : Wn.Tok) (w : World) (ht : Tab w) (hl : t.2.1.length ≤ 1099511627776) (hn0 : -9223372036854775808 ≤ t.2.2) (hn1 : t.2.2 ≤ 9223372036854775807) :
    Calls Tryz.prog 88 #[tokV t] w fun e w' => e = .returned (.string (Wn.str (Wn.oneText t))) ∧ Below w.heap.size w w' := by
  obtain ⟨k, l, n⟩ := t
  rw [tokV_str]
  dsimp only at *
  by_cases h5 : k = 5
  · subst h5
    exact One_num l n w ht hl hn0 hn1
  clear ht hn0 hn1
  have hx : (Wn.str l).size ≤ 1099511627776 := by rw [Wn.str_size]; exact hl
  have HL := Lib.hid hl; clear hl
  have b5 : (k == 5) = false := by simpa using h5
  have q6 := fun w => quotedText_any (k, l, n) w HL.out
  have q7 := fun w => delimText_any (k, l, n) w HL.out
  rw [tokV_str] at q6 q7
  dsimp only at q6 q7
  have Q6 := Lib.hid q6; clear q6
  have Q7 := Lib.hid q7; clear q7
  have e : Wn.oneText (k, l, n) = if (k == 1) = true then l else if (k == 2) = true then l ++ [40] else if (k == 3) = true then 64 :: l else if (k == 4) = true then 35 :: l
    else if (k == 6) = true then Wn.strText (k, l, n) else if (k == 7) = true then Wn.delimText (k, l, n) else if (k == 8) = true then [10] else [] := by
    simp only [Wn.oneText, if_neg h5, beq_iff_eq]
  generalize Wn.oneText (k, l, n) = R at *
  generalize hS : Wn.str (Wn.strText (k, l, n)) = S6 at *
  generalize hD : Wn.str (Wn.delimText (k, l, n)) = S7 at *
  have EE := Lib.hid e; clear e
  have HS := Lib.hid hS; clear hS
  have HD := Lib.hid hD; clear hD
  have H5 := Lib.hid h5; clear h5
  go_enter Tryz.func88, Tryz.ntmps88
  go_wp2_with (first | (go_at_call 110; (refine (Q6.out _).mono ?_); rintro e w1 ⟨rfl, hb⟩) | (go_at_call 111; (refine (Q7.out _).mono ?_); rintro e w1 ⟨rfl, hb⟩))
  all_goals
    go_ret
    have e := EE.out
    repeat (first | rw [if_pos (by assumption)] at e | rw [if_neg (by simp only [*]; decide)] at e)
    subst e
    refine ⟨ret_str ?_, ?_⟩
    · first | rfl | exact (one_suf _ _).symm | exact (one_pre _ _).symm | exact HS.out.symm | exact HD.out.symm
    · first | exact (Below.refl _ _).alloc (Nat.le_refl _) _ | exact ((Below.refl _ _).alloc (Nat.le_refl _) _).trans (hb.mono (by simp))
end Go.Proofs.YtjlejiphpbaonaaGreatDoor
set_option maxRecDepth 20000
namespace Go.Proofs.YtjlejiphpbaonaaGreatDoor
open Go.RowKit
theorem info_byte : (Tryz.prog.info? 5).map (fun i => (i.zero, i.size, i.bytes)) = some (some (.int .u8 0), 1, 1) := by kernel_rfl
end Go.Proofs.YtjlejiphpbaonaaGreatDoor
