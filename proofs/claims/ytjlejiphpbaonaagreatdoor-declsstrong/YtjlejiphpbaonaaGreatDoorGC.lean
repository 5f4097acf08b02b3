/- What a unit, a string, a number, a word do to the scanner. What a string and a number do to the scanner. What a number does to the scanner. What the scanner's next token is: (*scanner).next. -/
import Derived.Test.YtjlejiphpbaonaaGreatDoorGB
import Derived.Test.YtjlejiphpbaonaaGreatDoorGA
set_option maxRecDepth 20000
namespace Go.Proofs.YtjlejiphpbaonaaGreatDoor
open Go.RowKit
theorem take_l (b : Nat) (s : ByteArray) (p q : Nat) (y : Int) (w : World) (h : ScanAt w b s p) (hpq : p ≤ q) (hq : q ≤ s.size) (hy : y = q) :
    Calls Tryz.prog 130 #[.pointer (some ⟨b, 0, none⟩), .int .i64 y] w fun e w' => e = .returned (.string (s.extract p q)) ∧ Moved b s q w w' :=
  (take_i b s p q y w h hpq hq hy).mono fun e w' ⟨h1, n, h2⟩ => ⟨h1, by subst h2; exact ⟨h.set.drewN _, ((Only.refl b w).setCell rfl _).drewN _⟩⟩
/-- block r is a result's: three cells that may be written -/
structure Res (w : World) (r : Nat) : Prop where
  at_ : ∃ x y z, w.heap[r]? = some (.cells #[x, y, z] 47)
theorem Res.only {b r : Nat} {w w' : World} (h : Res w r) (ho : Only b w w') (hb : r ≠ b) : Res w' r := by
  obtain ⟨x, y, z, e⟩ := h.at_
  exact ⟨x, y, z, by rw [ho.block r (Array.getElem?_eq_some_iff.1 e).1 hb, e]⟩
theorem Res.cells {r : Nat} {w : World} (h : Res w r) : ∃ x y z, w.cell? ⟨r, 0, none⟩ = some x ∧ w.cell? ⟨r, 1, none⟩ = some y ∧ w.cell? ⟨r, 2, none⟩ = some z := by
  obtain ⟨x, y, z, e⟩ := h.at_
  exact ⟨x, y, z, by simp [World.cell?, e], by simp [World.cell?, e], by simp [World.cell?, e]⟩
theorem Res.frozen {r : Nat} {w : World} (h : Res w r) (o : Nat) : w.frozen? ⟨r, o, none⟩ = false := by
  obtain ⟨x, y, z, e⟩ := h.at_
  simp [World.frozen?, e]
theorem Res.new (w : World) (x y z : Value) : Res (w.alloc (.cells #[x, y, z] 47)) w.heap.size :=
  ⟨x, y, z, by show (w.heap.push _)[w.heap.size]? = _; simp⟩
/-- block r holds this token -/
def TokAt (w : World) (r : Nat) (x y z : Value) : Prop := w.heap[r]? = some (.cells #[x, y, z] 47)
theorem Res.set {r : Nat} {w : World} (h : Res w r) (x y z : Value) : TokAt (((w.setCell ⟨r, 0, none⟩ x).setCell ⟨r, 1, none⟩ y).setCell ⟨r, 2, none⟩ z) r x y z := by
  obtain ⟨x', y', z', e⟩ := h.at_
  unfold TokAt
  simp [World.setCell, Array.getElem?_modify, e]
theorem Res.drewN {r : Nat} {w : World} (h : Res w r) (n : Nat) : Res (w.drewN n) r := ⟨h.at_⟩
theorem Res.drew {r : Nat} {w : World} (h : Res w r) : Res w.drew r := ⟨h.at_⟩
theorem Res.other {r : Nat} {w : World} {a : Addr} (h : Res w r) (ha : a.block ≠ r) (v : Value) : Res (w.setCell a v) r := by
  obtain ⟨x, y, z, e⟩ := h.at_
  exact ⟨x, y, z, by rw [Below.heap_setCell _ _ _ _ (Ne.symm ha), e]⟩
theorem Res.alloc {r : Nat} {w : World} (h : Res w r) (o : Obj) : Res (w.alloc o) r := by
  obtain ⟨x, y, z, e⟩ := h.at_
  exact ⟨x, y, z, by rw [Below.heap_alloc _ _ _ (Array.getElem?_eq_some_iff.1 e).1, e]⟩
/-- a token that lies in a result's block is handed back -/
theorem ret_tok {fn : Func} {R : Ending → World → Prop} {a : Act} {W : World} {t : Tmp} {r : Nat} {x y z : Value} (hres : fn.results = #[.cell t 47]) (ht : a.tmps[t]?.getD undef = .pointer (some ⟨r, 0, none⟩)) (hd : a.defers = [])
    (hW : TokAt W r x y z) (h : R (.returned (.agg #[x, y, z])) W) : bodyPost Tryz.prog fn R .ret a W := by
  unfold TokAt at hW
  have k0 : W.cell? ⟨r, 0, none⟩ = some x := by simp [World.cell?, hW]
  have k1 : W.cell? ⟨r, 1, none⟩ = some y := by simp [World.cell?, hW]
  have k2 : W.cell? ⟨r, 2, none⟩ = some z := by simp [World.cell?, hW]
  exact bodyPost_ret (v := .agg #[x, y, z]) (by simp [results, hres, ht, go_sem, k0, k1, k2]) hd h
set_option maxHeartbeats 1000000 in
theorem unit_pct (b : Nat) (s : ByteArray) (p : Nat) (w : World) (hs : s.size ≤ 4611686018427387000) (h : ScanAt w b s p) (hp : p ≤ s.size) (hc : Wn.hd (Wn.sfx s p) = 37) :
    Calls Tryz.prog 145 #[.pointer (some ⟨b, 0, none⟩)] w fun e w' => e = .returned (.string (s.extract p (p + 1))) ∧ Moved b s (p + 1) w w' := by
  have hlt : p < s.size := by
    by_cases hlt : p < s.size
    · exact hlt
    · have := Wn.hd_out s p (by omega); omega
  have c0 := h.cell0
  have c1 := h.cell1
  have H := Lib.hid h; clear h
  have HC := Lib.hid hc; clear hc
  go_enter Tryz.func145, Tryz.ntmps145
  go_wp2_with fail
  go_quiet ((go_at_call 123; exact quiet_left (byteAt_i s p _ 37 _ hs (by omega) rfl HC.out)))
  go_wp2_with (go_at_call 130; (refine (take_l b s p (p + 1) _ _ (by exact H.out.drewN _) (by omega) (by omega) (by omega)).mono ?_); rintro e w1 ⟨rfl, hm⟩)
  go_ret
  exact ⟨rfl, hm.1, (((Only.refl b w).drewN _).trans hm.2)⟩
set_option maxHeartbeats 1000000 in
theorem unit_name (b : Nat) (s : ByteArray) (p E : Nat) (w : World) (hs : s.size ≤ 4611686018427387000) (h : ScanAt w b s p) (hp : p ≤ s.size) (hc : (Wn.hd (Wn.sfx s p) == 37) = false) (hn : Wn.nameBegins (Wn.sfx s p) = true) (hE : p + Wn.runLen Wn.nameByte (Wn.sfx s p) = E) :
    Calls Tryz.prog 145 #[.pointer (some ⟨b, 0, none⟩)] w fun e w' => e = .returned (.string (s.extract p E)) ∧ Moved b s E w w' := by
  have c0 := h.cell0
  have c1 := h.cell1
  have H := Lib.hid h; clear h
  have hr := Wn.runLen_le Wn.nameByte (Wn.sfx s p)
  rw [Wn.sfx_length] at hr
  have hE1 : p ≤ E := by omega
  have hE2 : E ≤ s.size := by omega
  have HE := Lib.hid hE; clear hE hr
  have HN := Lib.hid hn; clear hn
  generalize hcc : Wn.hd (Wn.sfx s p) = c at *
  have HC := Lib.hid hcc; clear hcc
  go_enter Tryz.func145, Tryz.ntmps145
  go_wp2_with fail
  go_quiet ((go_at_call 123; exact quiet_left (byteAt_i s p _ c _ hs (by omega) rfl HC.out)))
  go_wp2_with fail
  generalize hw2 : w.drewN nq = w2
  have H2 : Hid (ScanAt w2 b s p) := Lib.hid (by rw [← hw2]; exact H.out.drewN _)
  have O2 : Hid (Only b w w2) := Lib.hid (by rw [← hw2]; exact (Only.refl b w).drewN _)
  have d0 := H2.out.cell0
  have d1 := H2.out.cell1
  clear hw2 c0 c1 H
  go_quiet ((go_at_call 126; exact quiet_left (nameBegins_i s p _ true _ hs (by omega) rfl HN.out)))
  go_wp2_with fail
  refine region_tail 10 (by kernel_rfl) (by kernel_rfl) ?_
  simp only [List.take_succ_cons, List.take_zero, List.drop_succ_cons, List.drop_zero]
  repeat still_step
  still_call ((nameEnd_i s p _ E _ hs (by omega) rfl HE.out).mono fun e w' h => ⟨h.1, h.2.symm⟩)
  repeat still_step
  refine wpStill_nil ?_
  go_wp2_with (go_at_call 130; (refine (take_l b s p E _ _ (by exact H2.out) (by omega) (by omega) (by omega)).mono ?_); rintro e w1 ⟨rfl, hm⟩)
  go_ret
  exact ⟨rfl, hm.1, (O2.out.drewN _).trans hm.2⟩
set_option maxHeartbeats 1000000 in
theorem unit_none (b : Nat) (s : ByteArray) (p : Nat) (w : World) (hs : s.size ≤ 4611686018427387000) (h : ScanAt w b s p) (hp : p ≤ s.size) (hc : (Wn.hd (Wn.sfx s p) == 37) = false) (hn : Wn.nameBegins (Wn.sfx s p) = false) :
    Calls Tryz.prog 145 #[.pointer (some ⟨b, 0, none⟩)] w fun e w' => e = .returned (.string ⟨#[]⟩) ∧ Moved b s p w w' := by
  have c0 := h.cell0
  have c1 := h.cell1
  have H := Lib.hid h; clear h
  have HN := Lib.hid hn; clear hn
  generalize hcc : Wn.hd (Wn.sfx s p) = c at *
  have HC := Lib.hid hcc; clear hcc
  go_enter Tryz.func145, Tryz.ntmps145
  go_wp2_with fail
  go_quiet ((go_at_call 123; exact quiet_left (byteAt_i s p _ c _ hs (by omega) rfl HC.out)))
  go_wp2_with fail
  generalize hw2 : w.drewN nq = w2
  have H2 : Hid (ScanAt w2 b s p) := Lib.hid (by rw [← hw2]; exact H.out.drewN _)
  have O2 : Hid (Only b w w2) := Lib.hid (by rw [← hw2]; exact (Only.refl b w).drewN _)
  have d0 := H2.out.cell0
  have d1 := H2.out.cell1
  clear hw2 c0 c1 H
  go_quiet ((go_at_call 126; exact quiet_left (nameBegins_i s p _ false _ hs (by omega) rfl HN.out)))
  go_wp2_with fail
  go_ret
  exact ⟨rfl, H2.out.drewN _, O2.out.drewN _⟩
/-- the bytes of a text from a place on that its unit takes -/
theorem unit_any (b : Nat) (s : ByteArray) (p : Nat) (w : World) (hs : s.size ≤ 4611686018427387000) (h : ScanAt w b s p) (hp : p ≤ s.size) :
    Calls Tryz.prog 145 #[.pointer (some ⟨b, 0, none⟩)] w fun e w' => e = .returned (.string (s.extract p (p + Wn.unitLen (Wn.sfx s p)))) ∧ Moved b s (p + Wn.unitLen (Wn.sfx s p)) w w' := by
  unfold Wn.unitLen
  by_cases hc : (Wn.hd (Wn.sfx s p) == 37) = true
  · rw [if_pos hc]; exact unit_pct b s p w hs h hp (by simpa using hc)
  · have hc' : (Wn.hd (Wn.sfx s p) == 37) = false := by simpa using hc
    rw [if_neg hc]
    by_cases hn : Wn.nameBegins (Wn.sfx s p) = true
    · rw [if_pos hn]; exact unit_name b s p _ w hs h hp hc' hn rfl
    · have hn' : Wn.nameBegins (Wn.sfx s p) = false := by simpa using hn
      rw [if_neg hn]
      refine (unit_none b s p w hs h hp hc' hn').mono fun e w' h' => ⟨?_, h'.2⟩
      rw [h'.1, Nat.add_zero, Wn.extract_same]
set_option maxHeartbeats 1000000 in
theorem word_any (b : Nat) (s : ByteArray) (p E : Nat) (w : World) (hs : s.size ≤ 4611686018427387000) (h : ScanAt w b s p) (hp : p ≤ s.size) (hE : p + Wn.runLen Wn.nameByte (Wn.sfx s p) = E) :
    Calls Tryz.prog 129 #[.pointer (some ⟨b, 0, none⟩)] w (Left b s (if Wn.hd (Wn.sfx s E) == 40 then E + 1 else E) (.agg #[.int .i64 (if Wn.hd (Wn.sfx s E) == 40 then 2 else 1), .string (s.extract p E), .int .i64 0]) w) := by
  have hlt := h.lt
  have c0 := h.cell0
  have c1 := h.cell1
  have H := Lib.hid h; clear h
  have hr := Wn.runLen_le Wn.nameByte (Wn.sfx s p)
  rw [Wn.sfx_length] at hr
  have hE1 : p ≤ E := by omega
  have hE2 : E ≤ s.size := by omega
  have HE := Lib.hid hE; clear hE hr
  generalize hcc : Wn.hd (Wn.sfx s E) = c at *
  have HC := Lib.hid hcc; clear hcc
  by_cases hc : (c == 40) = true
  · rw [if_pos hc, if_pos hc]
    go_enter Tryz.func129, Tryz.ntmps129
    go_wp2_with fail
    refine region_tail 10 (by kernel_rfl) (by kernel_rfl) ?_
    simp only [List.take_succ_cons, List.take_zero, List.drop_succ_cons, List.drop_zero]
    repeat still_step
    still_call ((nameEnd_i s p _ E _ hs (by omega) rfl HE.out).mono fun e w' h => ⟨h.1, h.2.symm⟩)
    repeat still_step
    refine wpStill_nil ?_
    go_wp2_with (go_at_call 130; (refine (take_l b s p E _ _ (by exact H.out.alloc _) (by omega) (by omega) (by omega)).mono ?_); rintro e w1 ⟨rfl, hm⟩)
    obtain ⟨hm1, hm2⟩ := hm
    have d0 := hm1.cell0
    have d1 := hm1.cell1
    have df := hm1.frozen 1
    have ho := ((Only.refl b (w.alloc (.cells #[.int .i64 0, .string ⟨#[]⟩, .int .i64 0] 47))).drew).trans hm2
    have R := (Res.new w _ _ _).only ho (Nat.ne_of_gt hlt)
    have RH := Lib.hid R
    have HO := Lib.hid (((Only.refl b w).alloc _).trans ho)
    have H1 := Lib.hid hm1
    obtain ⟨x, y, z, r0, r1, r2⟩ := R.cells
    have g0 := R.frozen 0
    have g1 := R.frozen 1
    have g2 := R.frozen 2
    clear hm1 hm2 ho R H c0 c1
    go_quiet ((go_at_call 123; exact quiet_left (byteAt_i s E _ c _ hs (by omega) rfl HC.out)))
    go_wp2_with fail
    have RR := (RH.out.drewN nq).other (a := ⟨b, 1, none⟩) (by simp; omega) (.int .i64 ((E : Int) + 1))
    exact ret_tok rfl rfl rfl (RR.set _ _ _) ⟨rfl, ((((H1.out.drewN nq).set' (q := E + 1) (by omega)).other (by simp; omega) _).other (by simp; omega) _).other (by simp; omega) _, ((((HO.out.drewN nq).setCell rfl _).fresh (by simp) _).fresh (by simp) _).fresh (by simp) _⟩
  · have hc' : (c == 40) = false := by simpa using hc
    rw [if_neg hc, if_neg hc]
    clear hc
    go_enter Tryz.func129, Tryz.ntmps129
    go_wp2_with fail
    refine region_tail 10 (by kernel_rfl) (by kernel_rfl) ?_
    simp only [List.take_succ_cons, List.take_zero, List.drop_succ_cons, List.drop_zero]
    repeat still_step
    still_call ((nameEnd_i s p _ E _ hs (by omega) rfl HE.out).mono fun e w' h => ⟨h.1, h.2.symm⟩)
    repeat still_step
    refine wpStill_nil ?_
    go_wp2_with (go_at_call 130; (refine (take_l b s p E _ _ (by exact H.out.alloc _) (by omega) (by omega) (by omega)).mono ?_); rintro e w1 ⟨rfl, hm⟩)
    obtain ⟨hm1, hm2⟩ := hm
    have d0 := hm1.cell0
    have d1 := hm1.cell1
    have df := hm1.frozen 1
    have ho := ((Only.refl b (w.alloc (.cells #[.int .i64 0, .string ⟨#[]⟩, .int .i64 0] 47))).drew).trans hm2
    have R := (Res.new w _ _ _).only ho (Nat.ne_of_gt hlt)
    have RH := Lib.hid R
    have HO := Lib.hid (((Only.refl b w).alloc _).trans ho)
    have H1 := Lib.hid hm1
    obtain ⟨x, y, z, r0, r1, r2⟩ := R.cells
    have g0 := R.frozen 0
    have g1 := R.frozen 1
    have g2 := R.frozen 2
    clear hm1 hm2 ho R H c0 c1
    go_quiet ((go_at_call 123; exact quiet_left (byteAt_i s E _ c _ hs (by omega) rfl HC.out)))
    go_wp2_with fail
    have RR := RH.out.drewN nq
    exact ret_tok rfl rfl rfl (RR.set _ _ _) ⟨rfl, (((H1.out.drewN nq).other (by simp; omega) _).other (by simp; omega) _).other (by simp; omega) _, (((HO.out.drewN nq).fresh (by simp) _).fresh (by simp) _).fresh (by simp) _⟩
end Go.Proofs.YtjlejiphpbaonaaGreatDoor
set_option maxRecDepth 20000
namespace Go.Proofs.YtjlejiphpbaonaaGreatDoor
open Go.RowKit
/-- block b is a scanner of the text s, wherever it stands -/
def Scan (w : World) (b : Nat) (s : ByteArray) : Prop := ∃ p, ScanAt w b s p
theorem ScanAt.any {w : World} {b : Nat} {s : ByteArray} {p : Nat} (h : ScanAt w b s p) : Scan w b s := ⟨p, h⟩
theorem Scan.drewN {w : World} {b : Nat} {s : ByteArray} (h : Scan w b s) (n : Nat) : Scan (w.drewN n) b s := h.elim fun _ h => (h.drewN n).any
theorem Scan.drew {w : World} {b : Nat} {s : ByteArray} (h : Scan w b s) : Scan w.drew b s := h.elim fun _ h => h.drew.any
theorem Scan.alloc {w : World} {b : Nat} {s : ByteArray} (h : Scan w b s) (o : Obj) : Scan (w.alloc o) b s := h.elim fun _ h => (h.alloc o).any
theorem Scan.other {w : World} {b : Nat} {s : ByteArray} {a : Addr} (h : Scan w b s) (ha : a.block ≠ b) (v : Value) : Scan (w.setCell a v) b s := h.elim fun _ h => (h.other ha v).any
theorem Scan.set {w : World} {b : Nat} {s : ByteArray} {q : Nat} {v : Int} (h : Scan w b s) (hv : v = (q : Int)) : ScanAt (w.setCell ⟨b, 1, none⟩ (.int .i64 v)) b s q := h.elim fun _ h => h.set' hv
set_option maxHeartbeats 1000000 in
theorem quoted_any (b : Nat) (s : ByteArray) (p k : Nat) (w : World) (hs : s.size ≤ 4611686018427387000) (h : ScanAt w b s p) (hp : p < s.size) (hk : Wn.strLen (Wn.sfx s p) = some k) (hk2 : p + 1 + k < s.size) :
    Calls Tryz.prog 122 #[.pointer (some ⟨b, 0, none⟩)] w (Left b s (p + k + 2) (.agg #[.int .i64 6, .string (s.extract (p + 1) (p + 1 + k)), .int .i64 (Wn.hd (Wn.sfx s p))]) w) := by
  have hlt := h.lt
  have c0 := h.cell0
  have c1 := h.cell1
  have f1 := h.frozen 1
  have H := Lib.hid h; clear h
  have hpl : Wn.place (p + 1) (Wn.strLen (Wn.sfx s p)) = ((p + 1 + k : Nat) : Int) := by rw [hk]; rfl
  have HP := Lib.hid hpl
  clear hk hpl
  generalize hcc : Wn.hd (Wn.sfx s p) = c at *
  have HC := Lib.hid hcc; clear hcc
  go_enter Tryz.func122, Tryz.ntmps122
  go_wp2_with fail
  go_quiet (first | (go_at_call 123; exact quiet_left (byteAt_i s p _ c _ hs (by omega) rfl HC.out)) | (go_at_call 121; exact Calls.quiet_of (secondQuote_i s p _ _ _ hs (by omega) rfl HP.out)))
  go_wp2_with (go_at_call 130; (refine (take_l b s (p + 1) (p + 1 + k) _ _ (by (repeat (first | with_reducible exact H.out | with_reducible exact Hw2.out | with_reducible exact Hw1.out | with_reducible exact H.out.any | with_reducible exact Hw2.out.any | with_reducible exact Hw1.out.any | (with_reducible refine ScanAt.drewN ?_ _) | (with_reducible refine ScanAt.drew ?_) | (with_reducible refine ScanAt.alloc ?_ _) | ((with_reducible refine Scan.set ?_ ?_); rotate_left; (omega)) | ((with_reducible refine ScanAt.other ?_ ?_ _); rotate_left; ((simp; omega))) | (with_reducible refine Scan.drewN ?_ _) | (with_reducible refine Scan.drew ?_) | (with_reducible refine Scan.alloc ?_ _) | ((with_reducible refine Scan.other ?_ ?_ _); rotate_left; ((simp; omega)))))) (by omega) (by omega) (by omega)).mono ?_); rintro e w1 ⟨rfl, hm1, hm2⟩; (have Rw1 : Hid (Res w1 w.heap.size) := Lib.hid (Res.only (by (repeat (first | with_reducible exact Res.new _ _ _ _ | with_reducible exact RHw2.out | with_reducible exact RHw1.out | (with_reducible refine Res.drewN ?_ _) | (with_reducible refine Res.drew ?_) | (with_reducible refine Res.alloc ?_ _) | ((with_reducible refine Res.other ?_ ?_ _); rotate_left; ((simp; omega)))))) hm2 (by omega))); (have HOw1 : Hid (Only b w w1) := Lib.hid (Only.trans (by (repeat (first | with_reducible exact Only.refl _ _ | with_reducible exact HOw2.out | with_reducible exact HOw1.out | (with_reducible refine Only.drewN ?_ _) | (with_reducible refine Only.drew ?_) | (with_reducible refine Only.alloc ?_ _) | ((with_reducible refine Only.fresh ?_ ?_ _); rotate_left; (focus (simp; done))) | ((with_reducible refine Only.setCell ?_ ?_ _); rotate_left; (exact rfl))))) hm2)); have d0w1 := hm1.cell0; have d1w1 := hm1.cell1; have dfw1 := hm1.frozen 1; have Hw1 := Lib.hid hm1; obtain ⟨xw1, yw1, zw1, r0w1, r1w1, r2w1⟩ := Rw1.out.cells; have g0w1 := Rw1.out.frozen 0; have g1w1 := Rw1.out.frozen 1; have g2w1 := Rw1.out.frozen 2; have RHw1 := Lib.hid Rw1.out; clear hm1 hm2 Rw1; clear H c0 c1 f1)
  have RR : Res (w1.setCell ⟨b, 1, none⟩ (.int .i64 ((p : Int) + 1 + k + 1))) w.heap.size := by (repeat (first | with_reducible exact Res.new _ _ _ _ | with_reducible exact RHw2.out | with_reducible exact RHw1.out | (with_reducible refine Res.drewN ?_ _) | (with_reducible refine Res.drew ?_) | (with_reducible refine Res.alloc ?_ _) | ((with_reducible refine Res.other ?_ ?_ _); rotate_left; ((simp; omega)))))
  refine ret_tok rfl rfl rfl (RR.set _ _ _) ⟨rfl, ?_, ?_⟩
  · (repeat (first | with_reducible exact H.out | with_reducible exact Hw2.out | with_reducible exact Hw1.out | with_reducible exact H.out.any | with_reducible exact Hw2.out.any | with_reducible exact Hw1.out.any | (with_reducible refine ScanAt.drewN ?_ _) | (with_reducible refine ScanAt.drew ?_) | (with_reducible refine ScanAt.alloc ?_ _) | ((with_reducible refine Scan.set ?_ ?_); rotate_left; (omega)) | ((with_reducible refine ScanAt.other ?_ ?_ _); rotate_left; ((simp; omega))) | (with_reducible refine Scan.drewN ?_ _) | (with_reducible refine Scan.drew ?_) | (with_reducible refine Scan.alloc ?_ _) | ((with_reducible refine Scan.other ?_ ?_ _); rotate_left; ((simp; omega)))))
  · (repeat (first | with_reducible exact Only.refl _ _ | with_reducible exact HOw2.out | with_reducible exact HOw1.out | (with_reducible refine Only.drewN ?_ _) | (with_reducible refine Only.drew ?_) | (with_reducible refine Only.alloc ?_ _) | ((with_reducible refine Only.fresh ?_ ?_ _); rotate_left; (focus (simp; done))) | ((with_reducible refine Only.setCell ?_ ?_ _); rotate_left; (exact rfl))))
end Go.Proofs.YtjlejiphpbaonaaGreatDoor
set_option maxRecDepth 20000
namespace Go.Proofs.YtjlejiphpbaonaaGreatDoor
open Go.RowKit
set_option maxHeartbeats 1000000 in
theorem number_plus (b : Nat) (s : ByteArray) (p E : Nat) (V : Int) (w : World) (hs : s.size ≤ 4611686018427387000) (h : ScanAt w b s p) (hp : p ≤ s.size) (hc : (Wn.hd (Wn.sfx s p) == 45) = false)
    (hE : p + Wn.runLen Wn.digit (Wn.sfx s p) = E) (hV : Wn.numVal 0 (Wn.sfx s p) = V) :
    Calls Tryz.prog 128 #[.pointer (some ⟨b, 0, none⟩)] w (Left b s (E + Wn.unitLen (Wn.sfx s E)) (.agg #[.int .i64 5, .string (s.extract E (E + Wn.unitLen (Wn.sfx s E))), .int .i64 V]) w) := by
  have hlt := h.lt
  have c0 := h.cell0
  have c1 := h.cell1
  have H := Lib.hid h; clear h
  have hr := Wn.runLen_le Wn.digit (Wn.sfx s p)
  rw [Wn.sfx_length] at hr
  have hE2 : E ≤ s.size := by omega
  have HE := Lib.hid hE; clear hE hr
  have HV := Lib.hid hV; clear hV
  generalize hcc : Wn.hd (Wn.sfx s p) = c at *
  have HC := Lib.hid hcc; clear hcc
  go_enter Tryz.func128, Tryz.ntmps128
  go_wp2_with fail
  go_quiet ((go_at_call 123; exact quiet_left (byteAt_i s p _ c _ hs (by omega) rfl HC.out)))
  go_wp2_with (first
    | (go_at_call 144; (refine (digits_any b s p E V _ hs (by (repeat (first | with_reducible exact H.out | with_reducible exact Hw2.out | with_reducible exact Hw1.out | with_reducible exact H.out.any | with_reducible exact Hw2.out.any | with_reducible exact Hw1.out.any | (with_reducible refine ScanAt.drewN ?_ _) | (with_reducible refine ScanAt.drew ?_) | (with_reducible refine ScanAt.alloc ?_ _) | ((with_reducible refine Scan.set ?_ ?_); rotate_left; (omega)) | ((with_reducible refine ScanAt.other ?_ ?_ _); rotate_left; ((simp; omega))) | (with_reducible refine Scan.drewN ?_ _) | (with_reducible refine Scan.drew ?_) | (with_reducible refine Scan.alloc ?_ _) | ((with_reducible refine Scan.other ?_ ?_ _); rotate_left; ((simp; omega)))))) hp HE.out HV.out).mono ?_); rintro e w1 ⟨rfl, hm1, hm2⟩; (have Rw1 : Hid (Res w1 w.heap.size) := Lib.hid (Res.only (by (repeat (first | with_reducible exact Res.new _ _ _ _ | with_reducible exact RHw2.out | with_reducible exact RHw1.out | (with_reducible refine Res.drewN ?_ _) | (with_reducible refine Res.drew ?_) | (with_reducible refine Res.alloc ?_ _) | ((with_reducible refine Res.other ?_ ?_ _); rotate_left; ((simp; omega)))))) hm2 (by omega))); (have HOw1 : Hid (Only b w w1) := Lib.hid (Only.trans (by (repeat (first | with_reducible exact Only.refl _ _ | with_reducible exact HOw2.out | with_reducible exact HOw1.out | (with_reducible refine Only.drewN ?_ _) | (with_reducible refine Only.drew ?_) | (with_reducible refine Only.alloc ?_ _) | ((with_reducible refine Only.fresh ?_ ?_ _); rotate_left; (focus (simp; done))) | ((with_reducible refine Only.setCell ?_ ?_ _); rotate_left; (exact rfl))))) hm2)); have d0w1 := hm1.cell0; have d1w1 := hm1.cell1; have dfw1 := hm1.frozen 1; have Hw1 := Lib.hid hm1; obtain ⟨xw1, yw1, zw1, r0w1, r1w1, r2w1⟩ := Rw1.out.cells; have g0w1 := Rw1.out.frozen 0; have g1w1 := Rw1.out.frozen 1; have g2w1 := Rw1.out.frozen 2; have RHw1 := Lib.hid Rw1.out; clear hm1 hm2 Rw1; clear H c0 c1)
    | (go_at_call 145; (refine (unit_any b s E _ hs (by (repeat (first | with_reducible exact H.out | with_reducible exact Hw2.out | with_reducible exact Hw1.out | with_reducible exact H.out.any | with_reducible exact Hw2.out.any | with_reducible exact Hw1.out.any | (with_reducible refine ScanAt.drewN ?_ _) | (with_reducible refine ScanAt.drew ?_) | (with_reducible refine ScanAt.alloc ?_ _) | ((with_reducible refine Scan.set ?_ ?_); rotate_left; (omega)) | ((with_reducible refine ScanAt.other ?_ ?_ _); rotate_left; ((simp; omega))) | (with_reducible refine Scan.drewN ?_ _) | (with_reducible refine Scan.drew ?_) | (with_reducible refine Scan.alloc ?_ _) | ((with_reducible refine Scan.other ?_ ?_ _); rotate_left; ((simp; omega)))))) hE2).mono ?_); rintro e w2 ⟨rfl, hn1, hn2⟩; (have Rw2 : Hid (Res w2 w.heap.size) := Lib.hid (Res.only (by (repeat (first | with_reducible exact Res.new _ _ _ _ | with_reducible exact RHw2.out | with_reducible exact RHw1.out | (with_reducible refine Res.drewN ?_ _) | (with_reducible refine Res.drew ?_) | (with_reducible refine Res.alloc ?_ _) | ((with_reducible refine Res.other ?_ ?_ _); rotate_left; ((simp; omega)))))) hn2 (by omega))); (have HOw2 : Hid (Only b w w2) := Lib.hid (Only.trans (by (repeat (first | with_reducible exact Only.refl _ _ | with_reducible exact HOw2.out | with_reducible exact HOw1.out | (with_reducible refine Only.drewN ?_ _) | (with_reducible refine Only.drew ?_) | (with_reducible refine Only.alloc ?_ _) | ((with_reducible refine Only.fresh ?_ ?_ _); rotate_left; (focus (simp; done))) | ((with_reducible refine Only.setCell ?_ ?_ _); rotate_left; (exact rfl))))) hn2)); have d0w2 := hn1.cell0; have d1w2 := hn1.cell1; have dfw2 := hn1.frozen 1; have Hw2 := Lib.hid hn1; obtain ⟨xw2, yw2, zw2, r0w2, r1w2, r2w2⟩ := Rw2.out.cells; have g0w2 := Rw2.out.frozen 0; have g1w2 := Rw2.out.frozen 1; have g2w2 := Rw2.out.frozen 2; have RHw2 := Lib.hid Rw2.out; clear hn1 hn2 Rw2))
  refine ret_tok rfl rfl rfl (RHw2.out.set _ _ _) ⟨rfl, ?_, ?_⟩
  · (repeat (first | with_reducible exact H.out | with_reducible exact Hw2.out | with_reducible exact Hw1.out | with_reducible exact H.out.any | with_reducible exact Hw2.out.any | with_reducible exact Hw1.out.any | (with_reducible refine ScanAt.drewN ?_ _) | (with_reducible refine ScanAt.drew ?_) | (with_reducible refine ScanAt.alloc ?_ _) | ((with_reducible refine Scan.set ?_ ?_); rotate_left; (omega)) | ((with_reducible refine ScanAt.other ?_ ?_ _); rotate_left; ((simp; omega))) | (with_reducible refine Scan.drewN ?_ _) | (with_reducible refine Scan.drew ?_) | (with_reducible refine Scan.alloc ?_ _) | ((with_reducible refine Scan.other ?_ ?_ _); rotate_left; ((simp; omega)))))
  · (repeat (first | with_reducible exact Only.refl _ _ | with_reducible exact HOw2.out | with_reducible exact HOw1.out | (with_reducible refine Only.drewN ?_ _) | (with_reducible refine Only.drew ?_) | (with_reducible refine Only.alloc ?_ _) | ((with_reducible refine Only.fresh ?_ ?_ _); rotate_left; (focus (simp; done))) | ((with_reducible refine Only.setCell ?_ ?_ _); rotate_left; (exact rfl))))
set_option maxHeartbeats 1000000 in
theorem number_minus (b : Nat) (s : ByteArray) (p E : Nat) (V : Int) (w : World) (hs : s.size ≤ 4611686018427387000) (h : ScanAt w b s p) (hp : p < s.size) (hc : Wn.hd (Wn.sfx s p) = 45)
    (hE : p + 1 + Wn.runLen Wn.digit (Wn.sfx s (p + 1)) = E) (hV : Wn.numVal 0 (Wn.sfx s (p + 1)) = V) :
    Calls Tryz.prog 128 #[.pointer (some ⟨b, 0, none⟩)] w (Left b s (E + Wn.unitLen (Wn.sfx s E)) (.agg #[.int .i64 5, .string (s.extract E (E + Wn.unitLen (Wn.sfx s E))), .int .i64 (-V)]) w) := by
  have hlt := h.lt
  have c0 := h.cell0
  have c1 := h.cell1
  have f1 := h.frozen 1
  have H := Lib.hid h; clear h
  have hr := Wn.runLen_le Wn.digit (Wn.sfx s (p + 1))
  rw [Wn.sfx_length] at hr
  have hE2 : E ≤ s.size := by omega
  have hb := Wn.numVal_bounds (Wn.sfx s (p + 1)) 0 (by omega) (by omega)
  rw [hV] at hb
  obtain ⟨hV0, hV1⟩ := hb
  have HE := Lib.hid hE; clear hE hr
  have HV := Lib.hid hV; clear hV
  have HC := Lib.hid hc; clear hc
  go_enter Tryz.func128, Tryz.ntmps128
  go_wp2_with fail
  go_quiet ((go_at_call 123; exact quiet_left (byteAt_i s p _ 45 _ hs (by omega) rfl HC.out)))
  go_wp2_with (first
    | (go_at_call 144; (refine (digits_any b s (p + 1) E V _ hs (by (repeat (first | with_reducible exact H.out | with_reducible exact Hw2.out | with_reducible exact Hw1.out | with_reducible exact H.out.any | with_reducible exact Hw2.out.any | with_reducible exact Hw1.out.any | (with_reducible refine ScanAt.drewN ?_ _) | (with_reducible refine ScanAt.drew ?_) | (with_reducible refine ScanAt.alloc ?_ _) | ((with_reducible refine Scan.set ?_ ?_); rotate_left; (omega)) | ((with_reducible refine ScanAt.other ?_ ?_ _); rotate_left; ((simp; omega))) | (with_reducible refine Scan.drewN ?_ _) | (with_reducible refine Scan.drew ?_) | (with_reducible refine Scan.alloc ?_ _) | ((with_reducible refine Scan.other ?_ ?_ _); rotate_left; ((simp; omega)))))) (by omega) HE.out HV.out).mono ?_); rintro e w1 ⟨rfl, hm1, hm2⟩; (have Rw1 : Hid (Res w1 w.heap.size) := Lib.hid (Res.only (by (repeat (first | with_reducible exact Res.new _ _ _ _ | with_reducible exact RHw2.out | with_reducible exact RHw1.out | (with_reducible refine Res.drewN ?_ _) | (with_reducible refine Res.drew ?_) | (with_reducible refine Res.alloc ?_ _) | ((with_reducible refine Res.other ?_ ?_ _); rotate_left; ((simp; omega)))))) hm2 (by omega))); (have HOw1 : Hid (Only b w w1) := Lib.hid (Only.trans (by (repeat (first | with_reducible exact Only.refl _ _ | with_reducible exact HOw2.out | with_reducible exact HOw1.out | (with_reducible refine Only.drewN ?_ _) | (with_reducible refine Only.drew ?_) | (with_reducible refine Only.alloc ?_ _) | ((with_reducible refine Only.fresh ?_ ?_ _); rotate_left; (focus (simp; done))) | ((with_reducible refine Only.setCell ?_ ?_ _); rotate_left; (exact rfl))))) hm2)); have d0w1 := hm1.cell0; have d1w1 := hm1.cell1; have dfw1 := hm1.frozen 1; have Hw1 := Lib.hid hm1; obtain ⟨xw1, yw1, zw1, r0w1, r1w1, r2w1⟩ := Rw1.out.cells; have g0w1 := Rw1.out.frozen 0; have g1w1 := Rw1.out.frozen 1; have g2w1 := Rw1.out.frozen 2; have RHw1 := Lib.hid Rw1.out; clear hm1 hm2 Rw1; clear H c0 c1 f1)
    | (go_at_call 145; (refine (unit_any b s E _ hs (by (repeat (first | with_reducible exact H.out | with_reducible exact Hw2.out | with_reducible exact Hw1.out | with_reducible exact H.out.any | with_reducible exact Hw2.out.any | with_reducible exact Hw1.out.any | (with_reducible refine ScanAt.drewN ?_ _) | (with_reducible refine ScanAt.drew ?_) | (with_reducible refine ScanAt.alloc ?_ _) | ((with_reducible refine Scan.set ?_ ?_); rotate_left; (omega)) | ((with_reducible refine ScanAt.other ?_ ?_ _); rotate_left; ((simp; omega))) | (with_reducible refine Scan.drewN ?_ _) | (with_reducible refine Scan.drew ?_) | (with_reducible refine Scan.alloc ?_ _) | ((with_reducible refine Scan.other ?_ ?_ _); rotate_left; ((simp; omega)))))) hE2).mono ?_); rintro e w2 ⟨rfl, hn1, hn2⟩; (have Rw2 : Hid (Res w2 w.heap.size) := Lib.hid (Res.only (by (repeat (first | with_reducible exact Res.new _ _ _ _ | with_reducible exact RHw2.out | with_reducible exact RHw1.out | (with_reducible refine Res.drewN ?_ _) | (with_reducible refine Res.drew ?_) | (with_reducible refine Res.alloc ?_ _) | ((with_reducible refine Res.other ?_ ?_ _); rotate_left; ((simp; omega)))))) hn2 (by omega))); (have HOw2 : Hid (Only b w w2) := Lib.hid (Only.trans (by (repeat (first | with_reducible exact Only.refl _ _ | with_reducible exact HOw2.out | with_reducible exact HOw1.out | (with_reducible refine Only.drewN ?_ _) | (with_reducible refine Only.drew ?_) | (with_reducible refine Only.alloc ?_ _) | ((with_reducible refine Only.fresh ?_ ?_ _); rotate_left; (focus (simp; done))) | ((with_reducible refine Only.setCell ?_ ?_ _); rotate_left; (exact rfl))))) hn2)); have d0w2 := hn1.cell0; have d1w2 := hn1.cell1; have dfw2 := hn1.frozen 1; have Hw2 := Lib.hid hn1; obtain ⟨xw2, yw2, zw2, r0w2, r1w2, r2w2⟩ := Rw2.out.cells; have g0w2 := Rw2.out.frozen 0; have g1w2 := Rw2.out.frozen 1; have g2w2 := Rw2.out.frozen 2; have RHw2 := Lib.hid Rw2.out; clear hn1 hn2 Rw2))
  refine ret_tok rfl rfl rfl (RHw2.out.set _ _ _) ⟨rfl, ?_, ?_⟩
  · (repeat (first | with_reducible exact H.out | with_reducible exact Hw2.out | with_reducible exact Hw1.out | with_reducible exact H.out.any | with_reducible exact Hw2.out.any | with_reducible exact Hw1.out.any | (with_reducible refine ScanAt.drewN ?_ _) | (with_reducible refine ScanAt.drew ?_) | (with_reducible refine ScanAt.alloc ?_ _) | ((with_reducible refine Scan.set ?_ ?_); rotate_left; (omega)) | ((with_reducible refine ScanAt.other ?_ ?_ _); rotate_left; ((simp; omega))) | (with_reducible refine Scan.drewN ?_ _) | (with_reducible refine Scan.drew ?_) | (with_reducible refine Scan.alloc ?_ _) | ((with_reducible refine Scan.other ?_ ?_ _); rotate_left; ((simp; omega)))))
  · (repeat (first | with_reducible exact Only.refl _ _ | with_reducible exact HOw2.out | with_reducible exact HOw1.out | (with_reducible refine Only.drewN ?_ _) | (with_reducible refine Only.drew ?_) | (with_reducible refine Only.alloc ?_ _) | ((with_reducible refine Only.fresh ?_ ?_ _); rotate_left; (focus (simp; done))) | ((with_reducible refine Only.setCell ?_ ?_ _); rotate_left; (exact rfl))))
end Go.Proofs.YtjlejiphpbaonaaGreatDoor
set_option maxRecDepth 20000
namespace Go.Proofs.YtjlejiphpbaonaaGreatDoor
open Go.RowKit
def tokV (t : Wn.Tok) : Value := .agg #[.int .i64 t.1, .string ⟨t.2.1.toArray⟩, .int .i64 t.2.2]
/-- a token that lies in a result's block is handed back, with a bool -/
theorem ret_tok_ok {fn : Func} {R : Ending → World → Prop} {a : Act} {W : World} {t u : Tmp} {r : Nat} {x y z v : Value} (hres : fn.results = #[.cell t 47, .tmp u]) (ht : a.tmps[t]?.getD undef = .pointer (some ⟨r, 0, none⟩)) (hu : a.tmps[u]?.getD undef = v) (hd : a.defers = [])
    (hW : TokAt W r x y z) (h : R (.returned (.tuple #[.agg #[x, y, z], v])) W) : bodyPost Tryz.prog fn R .ret a W := by
  unfold TokAt at hW
  have k0 : W.cell? ⟨r, 0, none⟩ = some x := by simp [World.cell?, hW]
  have k1 : W.cell? ⟨r, 1, none⟩ = some y := by simp [World.cell?, hW]
  have k2 : W.cell? ⟨r, 2, none⟩ = some z := by simp [World.cell?, hW]
  exact bodyPost_ret (v := .tuple #[.agg #[x, y, z], v]) (by simp [results, hres, ht, hu, go_sem, k0, k1, k2]) hd h
set_option maxRecDepth 100000 in
set_option maxHeartbeats 1000000 in
theorem next_end (b : Nat) (s : ByteArray) (p q : Nat) (w : World) (hs : s.size ≤ 4611686018427387000) (h : ScanAt w b s p) (hp : p ≤ s.size) (hq : p + Wn.skip (Wn.sfx s p) = q) (hend : q = s.size) :
    Calls Tryz.prog 108 #[.pointer (some ⟨b, 0, none⟩)] w (Left b s q (.tuple #[.agg #[.int .i64 0, .string ⟨#[]⟩, .int .i64 0], .bool false]) w) := by
  have hlt := h.lt
  have H := Lib.hid h; clear h
  have HQ := Lib.hid hq; clear hq
  have hq1 : s.size ≤ q := by omega
  clear hend
  go_enter Tryz.func108, Tryz.ntmps108
  go_wp2_with (go_at_call 118; (refine (skipComments_any b s p q _ hs (by (repeat (first | with_reducible exact H.out | with_reducible exact Hw2.out | with_reducible exact Hw1.out | with_reducible exact H.out.any | with_reducible exact Hw2.out.any | with_reducible exact Hw1.out.any | (with_reducible refine ScanAt.drewN ?_ _) | (with_reducible refine ScanAt.drew ?_) | (with_reducible refine ScanAt.alloc ?_ _) | ((with_reducible refine Scan.set ?_ ?_); rotate_left; (omega)) | ((with_reducible refine ScanAt.other ?_ ?_ _); rotate_left; ((simp; omega))) | (with_reducible refine Scan.drewN ?_ _) | (with_reducible refine Scan.drew ?_) | (with_reducible refine Scan.alloc ?_ _) | ((with_reducible refine Scan.other ?_ ?_ _); rotate_left; ((simp; omega)))))) hp HQ.out).mono ?_); rintro e w1 ⟨rfl, hm1, hm2⟩; (have Rw1 : Hid (Res w1 w.heap.size) := Lib.hid (Res.only (by (repeat (first | with_reducible exact Res.new _ _ _ _ | with_reducible exact RHw2.out | with_reducible exact RHw1.out | (with_reducible refine Res.drewN ?_ _) | (with_reducible refine Res.drew ?_) | (with_reducible refine Res.alloc ?_ _) | ((with_reducible refine Res.other ?_ ?_ _); rotate_left; ((simp; omega)))))) hm2 (by omega))); (have HOw1 : Hid (Only b w w1) := Lib.hid (Only.trans (by (repeat (first | with_reducible exact Only.refl _ _ | with_reducible exact HOw2.out | with_reducible exact HOw1.out | (with_reducible refine Only.drewN ?_ _) | (with_reducible refine Only.drew ?_) | (with_reducible refine Only.alloc ?_ _) | ((with_reducible refine Only.fresh ?_ ?_ _); rotate_left; (focus (simp; done))) | ((with_reducible refine Only.setCell ?_ ?_ _); rotate_left; (exact rfl))))) hm2)); have d0w1 := hm1.cell0; have d1w1 := hm1.cell1; have dfw1 := hm1.frozen 1; have Hw1 := Lib.hid hm1; obtain ⟨xw1, yw1, zw1, r0w1, r1w1, r2w1⟩ := Rw1.out.cells; have g0w1 := Rw1.out.frozen 0; have g1w1 := Rw1.out.frozen 1; have g2w1 := Rw1.out.frozen 2; have RHw1 := Lib.hid Rw1.out; clear hm1 hm2 Rw1; clear H)
  refine ret_tok_ok rfl rfl rfl rfl (RHw1.out.set _ _ _) ⟨rfl, ?_, ?_⟩
  · (repeat (first | with_reducible exact H.out | with_reducible exact Hw2.out | with_reducible exact Hw1.out | with_reducible exact H.out.any | with_reducible exact Hw2.out.any | with_reducible exact Hw1.out.any | (with_reducible refine ScanAt.drewN ?_ _) | (with_reducible refine ScanAt.drew ?_) | (with_reducible refine ScanAt.alloc ?_ _) | ((with_reducible refine Scan.set ?_ ?_); rotate_left; (omega)) | ((with_reducible refine ScanAt.other ?_ ?_ _); rotate_left; ((simp; omega))) | (with_reducible refine Scan.drewN ?_ _) | (with_reducible refine Scan.drew ?_) | (with_reducible refine Scan.alloc ?_ _) | ((with_reducible refine Scan.other ?_ ?_ _); rotate_left; ((simp; omega)))))
  · (repeat (first | with_reducible exact Only.refl _ _ | with_reducible exact HOw2.out | with_reducible exact HOw1.out | (with_reducible refine Only.drewN ?_ _) | (with_reducible refine Only.drew ?_) | (with_reducible refine Only.alloc ?_ _) | ((with_reducible refine Only.fresh ?_ ?_ _); rotate_left; (focus (simp; done))) | ((with_reducible refine Only.setCell ?_ ?_ _); rotate_left; (exact rfl))))
set_option maxRecDepth 100000 in
set_option maxHeartbeats 1000000 in
theorem next_white (b : Nat) (s : ByteArray) (p q : Nat) (w : World) (hs : s.size ≤ 4611686018427387000) (h : ScanAt w b s p) (hp : p ≤ s.size) (hq : p + Wn.skip (Wn.sfx s p) = q) (hq1 : q < s.size) (hb : Wn.blank (Wn.sfx s q) = true) :
    Calls Tryz.prog 108 #[.pointer (some ⟨b, 0, none⟩)] w (Left b s (q + Wn.runLen Wn.blank (Wn.sfx s q)) (.tuple #[.agg #[.int .i64 8, .string ⟨#[10]⟩, .int .i64 0], .bool true]) w) := by
  have hlt := h.lt
  have H := Lib.hid h; clear h
  have HQ := Lib.hid hq; clear hq
  have HB := Lib.hid hb; clear hb
  go_enter Tryz.func108, Tryz.ntmps108
  go_wp2_with (first
    | (go_at_call 118; (refine (skipComments_any b s p q _ hs (by (repeat (first | with_reducible exact H.out | with_reducible exact Hw2.out | with_reducible exact Hw1.out | with_reducible exact H.out.any | with_reducible exact Hw2.out.any | with_reducible exact Hw1.out.any | (with_reducible refine ScanAt.drewN ?_ _) | (with_reducible refine ScanAt.drew ?_) | (with_reducible refine ScanAt.alloc ?_ _) | ((with_reducible refine Scan.set ?_ ?_); rotate_left; (omega)) | ((with_reducible refine ScanAt.other ?_ ?_ _); rotate_left; ((simp; omega))) | (with_reducible refine Scan.drewN ?_ _) | (with_reducible refine Scan.drew ?_) | (with_reducible refine Scan.alloc ?_ _) | ((with_reducible refine Scan.other ?_ ?_ _); rotate_left; ((simp; omega)))))) hp HQ.out).mono ?_); rintro e w1 ⟨rfl, hm1, hm2⟩; (have Rw1 : Hid (Res w1 w.heap.size) := Lib.hid (Res.only (by (repeat (first | with_reducible exact Res.new _ _ _ _ | with_reducible exact RHw2.out | with_reducible exact RHw1.out | (with_reducible refine Res.drewN ?_ _) | (with_reducible refine Res.drew ?_) | (with_reducible refine Res.alloc ?_ _) | ((with_reducible refine Res.other ?_ ?_ _); rotate_left; ((simp; omega)))))) hm2 (by omega))); (have HOw1 : Hid (Only b w w1) := Lib.hid (Only.trans (by (repeat (first | with_reducible exact Only.refl _ _ | with_reducible exact HOw2.out | with_reducible exact HOw1.out | (with_reducible refine Only.drewN ?_ _) | (with_reducible refine Only.drew ?_) | (with_reducible refine Only.alloc ?_ _) | ((with_reducible refine Only.fresh ?_ ?_ _); rotate_left; (focus (simp; done))) | ((with_reducible refine Only.setCell ?_ ?_ _); rotate_left; (exact rfl))))) hm2)); have d0w1 := hm1.cell0; have d1w1 := hm1.cell1; have dfw1 := hm1.frozen 1; have Hw1 := Lib.hid hm1; obtain ⟨xw1, yw1, zw1, r0w1, r1w1, r2w1⟩ := Rw1.out.cells; have g0w1 := Rw1.out.frozen 0; have g1w1 := Rw1.out.frozen 1; have g2w1 := Rw1.out.frozen 2; have RHw1 := Lib.hid Rw1.out; clear hm1 hm2 Rw1; clear H)
    | (go_at_call 119; (with_reducible refine (isBlank_i s q _ true _ hs (by omega) rfl HB.out).mono ?_); rintro e w' ⟨rfl, rfl⟩)
    | (go_at_call 120; (refine (white_any b s q _ hs (by (repeat (first | with_reducible exact H.out | with_reducible exact Hw2.out | with_reducible exact Hw1.out | with_reducible exact H.out.any | with_reducible exact Hw2.out.any | with_reducible exact Hw1.out.any | (with_reducible refine ScanAt.drewN ?_ _) | (with_reducible refine ScanAt.drew ?_) | (with_reducible refine ScanAt.alloc ?_ _) | ((with_reducible refine Scan.set ?_ ?_); rotate_left; (omega)) | ((with_reducible refine ScanAt.other ?_ ?_ _); rotate_left; ((simp; omega))) | (with_reducible refine Scan.drewN ?_ _) | (with_reducible refine Scan.drew ?_) | (with_reducible refine Scan.alloc ?_ _) | ((with_reducible refine Scan.other ?_ ?_ _); rotate_left; ((simp; omega)))))) (by omega)).mono ?_); rintro e w2 ⟨rfl, hn1, hn2⟩; (have Rw2 : Hid (Res w2 w.heap.size) := Lib.hid (Res.only (by (repeat (first | with_reducible exact Res.new _ _ _ _ | with_reducible exact RHw2.out | with_reducible exact RHw1.out | (with_reducible refine Res.drewN ?_ _) | (with_reducible refine Res.drew ?_) | (with_reducible refine Res.alloc ?_ _) | ((with_reducible refine Res.other ?_ ?_ _); rotate_left; ((simp; omega)))))) hn2 (by omega))); (have HOw2 : Hid (Only b w w2) := Lib.hid (Only.trans (by (repeat (first | with_reducible exact Only.refl _ _ | with_reducible exact HOw2.out | with_reducible exact HOw1.out | (with_reducible refine Only.drewN ?_ _) | (with_reducible refine Only.drew ?_) | (with_reducible refine Only.alloc ?_ _) | ((with_reducible refine Only.fresh ?_ ?_ _); rotate_left; (focus (simp; done))) | ((with_reducible refine Only.setCell ?_ ?_ _); rotate_left; (exact rfl))))) hn2)); have d0w2 := hn1.cell0; have d1w2 := hn1.cell1; have dfw2 := hn1.frozen 1; have Hw2 := Lib.hid hn1; obtain ⟨xw2, yw2, zw2, r0w2, r1w2, r2w2⟩ := Rw2.out.cells; have g0w2 := Rw2.out.frozen 0; have g1w2 := Rw2.out.frozen 1; have g2w2 := Rw2.out.frozen 2; have RHw2 := Lib.hid Rw2.out; clear hn1 hn2 Rw2))
  refine ret_tok_ok rfl rfl rfl rfl (RHw2.out.set _ _ _) ⟨rfl, ?_, ?_⟩
  · (repeat (first | with_reducible exact H.out | with_reducible exact Hw2.out | with_reducible exact Hw1.out | with_reducible exact H.out.any | with_reducible exact Hw2.out.any | with_reducible exact Hw1.out.any | (with_reducible refine ScanAt.drewN ?_ _) | (with_reducible refine ScanAt.drew ?_) | (with_reducible refine ScanAt.alloc ?_ _) | ((with_reducible refine Scan.set ?_ ?_); rotate_left; (omega)) | ((with_reducible refine ScanAt.other ?_ ?_ _); rotate_left; ((simp; omega))) | (with_reducible refine Scan.drewN ?_ _) | (with_reducible refine Scan.drew ?_) | (with_reducible refine Scan.alloc ?_ _) | ((with_reducible refine Scan.other ?_ ?_ _); rotate_left; ((simp; omega)))))
  · (repeat (first | with_reducible exact Only.refl _ _ | with_reducible exact HOw2.out | with_reducible exact HOw1.out | (with_reducible refine Only.drewN ?_ _) | (with_reducible refine Only.drew ?_) | (with_reducible refine Only.alloc ?_ _) | ((with_reducible refine Only.fresh ?_ ?_ _); rotate_left; (focus (simp; done))) | ((with_reducible refine Only.setCell ?_ ?_ _); rotate_left; (exact rfl))))
set_option maxRecDepth 100000 in
set_option maxHeartbeats 2000000 in
theorem next_str (b : Nat) (s : ByteArray) (p q : Nat) (w : World) (hs : s.size ≤ 4611686018427387000) (h : ScanAt w b s p) (hp : p ≤ s.size) (hq : p + Wn.skip (Wn.sfx s p) = q) (hq1 : q < s.size) (k : Nat) (hb : Wn.blank (Wn.sfx s q) = false) (hk : Wn.strLen (Wn.sfx s q) = some k) (hk2 : q + 1 + k < s.size) :
    Calls Tryz.prog 108 #[.pointer (some ⟨b, 0, none⟩)] w (Left b s (q + k + 2) (.tuple #[.agg #[.int .i64 6, .string (s.extract (q + 1) (q + 1 + k)), .int .i64 (Wn.hd (Wn.sfx s q))], .bool true]) w) := by
  have hsq : Wn.place (q + 1) (Wn.strLen (Wn.sfx s q)) = ((q + 1 + k : Nat) : Int) := by rw [hk]; rfl
  have HK := Lib.hid hk; clear hk
  generalize hX : ((q + 1 + k : Nat) : Int) = X at hsq
  have hX1 : (X != -1) = true := by rw [bne_iff_ne]; omega
  clear hX
  have hlt := h.lt
  have H := Lib.hid h; clear h
  have HQ := Lib.hid hq; clear hq
  have HB := Lib.hid hb; clear hb
  have HSQ := Lib.hid hsq; clear hsq
  go_enter Tryz.func108, Tryz.ntmps108
  go_wp2_with (first | (go_at_call 118; (refine (skipComments_any b s p q _ hs (by (repeat (first | with_reducible exact H.out | with_reducible exact Hw2.out | with_reducible exact Hw1.out | with_reducible exact H.out.any | with_reducible exact Hw2.out.any | with_reducible exact Hw1.out.any | (with_reducible refine ScanAt.drewN ?_ _) | (with_reducible refine ScanAt.drew ?_) | (with_reducible refine ScanAt.alloc ?_ _) | ((with_reducible refine Scan.set ?_ ?_); rotate_left; (omega)) | ((with_reducible refine ScanAt.other ?_ ?_ _); rotate_left; ((simp; omega))) | (with_reducible refine Scan.drewN ?_ _) | (with_reducible refine Scan.drew ?_) | (with_reducible refine Scan.alloc ?_ _) | ((with_reducible refine Scan.other ?_ ?_ _); rotate_left; ((simp; omega)))))) hp HQ.out).mono ?_); rintro e w1 ⟨rfl, hm1, hm2⟩; (have Rw1 : Hid (Res w1 w.heap.size) := Lib.hid (Res.only (by (repeat (first | with_reducible exact Res.new _ _ _ _ | with_reducible exact RHw2.out | with_reducible exact RHw1.out | (with_reducible refine Res.drewN ?_ _) | (with_reducible refine Res.drew ?_) | (with_reducible refine Res.alloc ?_ _) | ((with_reducible refine Res.other ?_ ?_ _); rotate_left; ((simp; omega)))))) hm2 (by omega))); (have HOw1 : Hid (Only b w w1) := Lib.hid (Only.trans (by (repeat (first | with_reducible exact Only.refl _ _ | with_reducible exact HOw2.out | with_reducible exact HOw1.out | (with_reducible refine Only.drewN ?_ _) | (with_reducible refine Only.drew ?_) | (with_reducible refine Only.alloc ?_ _) | ((with_reducible refine Only.fresh ?_ ?_ _); rotate_left; (focus (simp; done))) | ((with_reducible refine Only.setCell ?_ ?_ _); rotate_left; (exact rfl))))) hm2)); have d0w1 := hm1.cell0; have d1w1 := hm1.cell1; have dfw1 := hm1.frozen 1; have Hw1 := Lib.hid hm1; obtain ⟨xw1, yw1, zw1, r0w1, r1w1, r2w1⟩ := Rw1.out.cells; have g0w1 := Rw1.out.frozen 0; have g1w1 := Rw1.out.frozen 1; have g2w1 := Rw1.out.frozen 2; have RHw1 := Lib.hid Rw1.out; clear hm1 hm2 Rw1; clear H) | (go_at_call 119; (with_reducible refine (isBlank_i s q _ _ _ hs (by omega) rfl HB.out).mono ?_); rintro e w' ⟨rfl, rfl⟩) | (go_at_call 121; (with_reducible refine (secondQuote_i s q _ _ _ hs (by omega) rfl HSQ.out).mono ?_); rintro e w' ⟨rfl, nd, rfl⟩) | (go_at_call 122; (refine (quoted_any b s q k _ hs (by (repeat (first | with_reducible exact H.out | with_reducible exact Hw2.out | with_reducible exact Hw1.out | with_reducible exact H.out.any | with_reducible exact Hw2.out.any | with_reducible exact Hw1.out.any | (with_reducible refine ScanAt.drewN ?_ _) | (with_reducible refine ScanAt.drew ?_) | (with_reducible refine ScanAt.alloc ?_ _) | ((with_reducible refine Scan.set ?_ ?_); rotate_left; (omega)) | ((with_reducible refine ScanAt.other ?_ ?_ _); rotate_left; ((simp; omega))) | (with_reducible refine Scan.drewN ?_ _) | (with_reducible refine Scan.drew ?_) | (with_reducible refine Scan.alloc ?_ _) | ((with_reducible refine Scan.other ?_ ?_ _); rotate_left; ((simp; omega)))))) hq1 HK.out hk2).mono ?_); rintro e w2 ⟨rfl, hn1, hn2⟩; (have Rw2 : Hid (Res w2 w.heap.size) := Lib.hid (Res.only (by (repeat (first | with_reducible exact Res.new _ _ _ _ | with_reducible exact RHw2.out | with_reducible exact RHw1.out | (with_reducible refine Res.drewN ?_ _) | (with_reducible refine Res.drew ?_) | (with_reducible refine Res.alloc ?_ _) | ((with_reducible refine Res.other ?_ ?_ _); rotate_left; ((simp; omega)))))) hn2 (by omega))); (have HOw2 : Hid (Only b w w2) := Lib.hid (Only.trans (by (repeat (first | with_reducible exact Only.refl _ _ | with_reducible exact HOw2.out | with_reducible exact HOw1.out | (with_reducible refine Only.drewN ?_ _) | (with_reducible refine Only.drew ?_) | (with_reducible refine Only.alloc ?_ _) | ((with_reducible refine Only.fresh ?_ ?_ _); rotate_left; (focus (simp; done))) | ((with_reducible refine Only.setCell ?_ ?_ _); rotate_left; (exact rfl))))) hn2)); have d0w2 := hn1.cell0; have d1w2 := hn1.cell1; have dfw2 := hn1.frozen 1; have Hw2 := Lib.hid hn1; obtain ⟨xw2, yw2, zw2, r0w2, r1w2, r2w2⟩ := Rw2.out.cells; have g0w2 := Rw2.out.frozen 0; have g1w2 := Rw2.out.frozen 1; have g2w2 := Rw2.out.frozen 2; have RHw2 := Lib.hid Rw2.out; clear hn1 hn2 Rw2))
  refine ret_tok_ok rfl rfl rfl rfl (RHw2.out.set _ _ _) ⟨rfl, ?_, ?_⟩
  · (repeat (first | with_reducible exact H.out | with_reducible exact Hw2.out | with_reducible exact Hw1.out | with_reducible exact H.out.any | with_reducible exact Hw2.out.any | with_reducible exact Hw1.out.any | (with_reducible refine ScanAt.drewN ?_ _) | (with_reducible refine ScanAt.drew ?_) | (with_reducible refine ScanAt.alloc ?_ _) | ((with_reducible refine Scan.set ?_ ?_); rotate_left; (omega)) | ((with_reducible refine ScanAt.other ?_ ?_ _); rotate_left; ((simp; omega))) | (with_reducible refine Scan.drewN ?_ _) | (with_reducible refine Scan.drew ?_) | (with_reducible refine Scan.alloc ?_ _) | ((with_reducible refine Scan.other ?_ ?_ _); rotate_left; ((simp; omega)))))
  · (repeat (first | with_reducible exact Only.refl _ _ | with_reducible exact HOw2.out | with_reducible exact HOw1.out | (with_reducible refine Only.drewN ?_ _) | (with_reducible refine Only.drew ?_) | (with_reducible refine Only.alloc ?_ _) | ((with_reducible refine Only.fresh ?_ ?_ _); rotate_left; (focus (simp; done))) | ((with_reducible refine Only.setCell ?_ ?_ _); rotate_left; (exact rfl))))
set_option maxRecDepth 100000 in
set_option maxHeartbeats 2000000 in
theorem next_hash (b : Nat) (s : ByteArray) (p q : Nat) (w : World) (hs : s.size ≤ 4611686018427387000) (h : ScanAt w b s p) (hp : p ≤ s.size) (hq : p + Wn.skip (Wn.sfx s p) = q) (hq1 : q < s.size) (hb : Wn.blank (Wn.sfx s q) = false) (hsl : Wn.strLen (Wn.sfx s q) = none) (E : Nat) (hc : Wn.hd (Wn.sfx s q) = 35) (hnb : Wn.nameByte (Wn.sfx s (q + 1)) = true) (hE : q + 1 + Wn.runLen Wn.nameByte (Wn.sfx s (q + 1)) = E) :
    Calls Tryz.prog 108 #[.pointer (some ⟨b, 0, none⟩)] w (Left b s E (.tuple #[.agg #[.int .i64 4, .string (s.extract (q + 1) E), .int .i64 0], .bool true]) w) := by
  have hsq : Wn.place (q + 1) (Wn.strLen (Wn.sfx s q)) = -1 := by rw [hsl]; rfl
  clear hsl
  have hlt := h.lt
  have H := Lib.hid h; clear h
  have HQ := Lib.hid hq; clear hq
  have HB := Lib.hid hb; clear hb
  have HSQ := Lib.hid hsq; clear hsq
  have HC := Lib.hid hc; clear hc
  have HNB := Lib.hid hnb; clear hnb
  have HE := Lib.hid hE; clear hE
  go_enter Tryz.func108, Tryz.ntmps108
  go_wp2_with (first | (go_at_call 118; (refine (skipComments_any b s p q _ hs (by (repeat (first | with_reducible exact H.out | with_reducible exact Hw2.out | with_reducible exact Hw1.out | with_reducible exact H.out.any | with_reducible exact Hw2.out.any | with_reducible exact Hw1.out.any | (with_reducible refine ScanAt.drewN ?_ _) | (with_reducible refine ScanAt.drew ?_) | (with_reducible refine ScanAt.alloc ?_ _) | ((with_reducible refine Scan.set ?_ ?_); rotate_left; (omega)) | ((with_reducible refine ScanAt.other ?_ ?_ _); rotate_left; ((simp; omega))) | (with_reducible refine Scan.drewN ?_ _) | (with_reducible refine Scan.drew ?_) | (with_reducible refine Scan.alloc ?_ _) | ((with_reducible refine Scan.other ?_ ?_ _); rotate_left; ((simp; omega)))))) hp HQ.out).mono ?_); rintro e w1 ⟨rfl, hm1, hm2⟩; (have Rw1 : Hid (Res w1 w.heap.size) := Lib.hid (Res.only (by (repeat (first | with_reducible exact Res.new _ _ _ _ | with_reducible exact RHw2.out | with_reducible exact RHw1.out | (with_reducible refine Res.drewN ?_ _) | (with_reducible refine Res.drew ?_) | (with_reducible refine Res.alloc ?_ _) | ((with_reducible refine Res.other ?_ ?_ _); rotate_left; ((simp; omega)))))) hm2 (by omega))); (have HOw1 : Hid (Only b w w1) := Lib.hid (Only.trans (by (repeat (first | with_reducible exact Only.refl _ _ | with_reducible exact HOw2.out | with_reducible exact HOw1.out | (with_reducible refine Only.drewN ?_ _) | (with_reducible refine Only.drew ?_) | (with_reducible refine Only.alloc ?_ _) | ((with_reducible refine Only.fresh ?_ ?_ _); rotate_left; (focus (simp; done))) | ((with_reducible refine Only.setCell ?_ ?_ _); rotate_left; (exact rfl))))) hm2)); have d0w1 := hm1.cell0; have d1w1 := hm1.cell1; have dfw1 := hm1.frozen 1; have Hw1 := Lib.hid hm1; obtain ⟨xw1, yw1, zw1, r0w1, r1w1, r2w1⟩ := Rw1.out.cells; have g0w1 := Rw1.out.frozen 0; have g1w1 := Rw1.out.frozen 1; have g2w1 := Rw1.out.frozen 2; have RHw1 := Lib.hid Rw1.out; clear hm1 hm2 Rw1; clear H) | (go_at_call 119; (with_reducible refine (isBlank_i s q _ _ _ hs (by omega) rfl HB.out).mono ?_); rintro e w' ⟨rfl, rfl⟩) | (go_at_call 121; (with_reducible refine (secondQuote_i s q _ _ _ hs (by omega) rfl HSQ.out).mono ?_); rintro e w' ⟨rfl, nd, rfl⟩) | (go_at_call 123; (with_reducible refine (byteAt_i s q _ _ _ hs (by omega) rfl HC.out).mono ?_); rintro e w' ⟨rfl, rfl⟩) | (go_at_call 124; (with_reducible refine (isNameByte_i s (q + 1) _ _ _ hs (by omega) ?_ HNB.out).mono ?_); (omega); rintro e w' ⟨rfl, rfl⟩) | (go_at_call 126; (with_reducible refine (nameBegins_i s q _ _ _ hs (by omega) rfl HN0.out).mono ?_); rintro e w' ⟨rfl, rfl⟩) | (go_at_call 126; (with_reducible refine (nameBegins_i s (q + 1) _ _ _ hs (by omega) ?_ HN1.out).mono ?_); (omega); rintro e w' ⟨rfl, rfl⟩) | (go_at_call 127; (with_reducible refine (numberBegins_i s q _ _ _ hs (by omega) rfl HNU.out).mono ?_); rintro e w' ⟨rfl, rfl⟩) | (go_at_call 125; (refine (named_any b s q _ E _ hs (by (repeat (first | with_reducible exact H.out | with_reducible exact Hw2.out | with_reducible exact Hw1.out | with_reducible exact H.out.any | with_reducible exact Hw2.out.any | with_reducible exact Hw1.out.any | (with_reducible refine ScanAt.drewN ?_ _) | (with_reducible refine ScanAt.drew ?_) | (with_reducible refine ScanAt.alloc ?_ _) | ((with_reducible refine Scan.set ?_ ?_); rotate_left; (omega)) | ((with_reducible refine ScanAt.other ?_ ?_ _); rotate_left; ((simp; omega))) | (with_reducible refine Scan.drewN ?_ _) | (with_reducible refine Scan.drew ?_) | (with_reducible refine Scan.alloc ?_ _) | ((with_reducible refine Scan.other ?_ ?_ _); rotate_left; ((simp; omega)))))) (by omega) HE.out).mono ?_); rintro e w2 ⟨rfl, hn1, hn2⟩; (have Rw2 : Hid (Res w2 w.heap.size) := Lib.hid (Res.only (by (repeat (first | with_reducible exact Res.new _ _ _ _ | with_reducible exact RHw2.out | with_reducible exact RHw1.out | (with_reducible refine Res.drewN ?_ _) | (with_reducible refine Res.drew ?_) | (with_reducible refine Res.alloc ?_ _) | ((with_reducible refine Res.other ?_ ?_ _); rotate_left; ((simp; omega)))))) hn2 (by omega))); (have HOw2 : Hid (Only b w w2) := Lib.hid (Only.trans (by (repeat (first | with_reducible exact Only.refl _ _ | with_reducible exact HOw2.out | with_reducible exact HOw1.out | (with_reducible refine Only.drewN ?_ _) | (with_reducible refine Only.drew ?_) | (with_reducible refine Only.alloc ?_ _) | ((with_reducible refine Only.fresh ?_ ?_ _); rotate_left; (focus (simp; done))) | ((with_reducible refine Only.setCell ?_ ?_ _); rotate_left; (exact rfl))))) hn2)); have d0w2 := hn1.cell0; have d1w2 := hn1.cell1; have dfw2 := hn1.frozen 1; have Hw2 := Lib.hid hn1; obtain ⟨xw2, yw2, zw2, r0w2, r1w2, r2w2⟩ := Rw2.out.cells; have g0w2 := Rw2.out.frozen 0; have g1w2 := Rw2.out.frozen 1; have g2w2 := Rw2.out.frozen 2; have RHw2 := Lib.hid Rw2.out; clear hn1 hn2 Rw2))
  refine ret_tok_ok rfl rfl rfl rfl (RHw2.out.set _ _ _) ⟨rfl, ?_, ?_⟩
  · (repeat (first | with_reducible exact H.out | with_reducible exact Hw2.out | with_reducible exact Hw1.out | with_reducible exact H.out.any | with_reducible exact Hw2.out.any | with_reducible exact Hw1.out.any | (with_reducible refine ScanAt.drewN ?_ _) | (with_reducible refine ScanAt.drew ?_) | (with_reducible refine ScanAt.alloc ?_ _) | ((with_reducible refine Scan.set ?_ ?_); rotate_left; (omega)) | ((with_reducible refine ScanAt.other ?_ ?_ _); rotate_left; ((simp; omega))) | (with_reducible refine Scan.drewN ?_ _) | (with_reducible refine Scan.drew ?_) | (with_reducible refine Scan.alloc ?_ _) | ((with_reducible refine Scan.other ?_ ?_ _); rotate_left; ((simp; omega)))))
  · (repeat (first | with_reducible exact Only.refl _ _ | with_reducible exact HOw2.out | with_reducible exact HOw1.out | (with_reducible refine Only.drewN ?_ _) | (with_reducible refine Only.drew ?_) | (with_reducible refine Only.alloc ?_ _) | ((with_reducible refine Only.fresh ?_ ?_ _); rotate_left; (focus (simp; done))) | ((with_reducible refine Only.setCell ?_ ?_ _); rotate_left; (exact rfl))))
set_option maxRecDepth 100000 in
set_option maxHeartbeats 2000000 in
theorem next_at (b : Nat) (s : ByteArray) (p q : Nat) (w : World) (hs : s.size ≤ 4611686018427387000) (h : ScanAt w b s p) (hp : p ≤ s.size) (hq : p + Wn.skip (Wn.sfx s p) = q) (hq1 : q < s.size) (hb : Wn.blank (Wn.sfx s q) = false) (hsl : Wn.strLen (Wn.sfx s q) = none) (E : Nat) (hc : Wn.hd (Wn.sfx s q) = 64) (hn1 : Wn.nameBegins (Wn.sfx s (q + 1)) = true) (hE : q + 1 + Wn.runLen Wn.nameByte (Wn.sfx s (q + 1)) = E) :
    Calls Tryz.prog 108 #[.pointer (some ⟨b, 0, none⟩)] w (Left b s E (.tuple #[.agg #[.int .i64 3, .string (s.extract (q + 1) E), .int .i64 0], .bool true]) w) := by
  have hsq : Wn.place (q + 1) (Wn.strLen (Wn.sfx s q)) = -1 := by rw [hsl]; rfl
  clear hsl
  have hlt := h.lt
  have H := Lib.hid h; clear h
  have HQ := Lib.hid hq; clear hq
  have HB := Lib.hid hb; clear hb
  have HSQ := Lib.hid hsq; clear hsq
  have HC := Lib.hid hc; clear hc
  have HN1 := Lib.hid hn1; clear hn1
  have HE := Lib.hid hE; clear hE
  go_enter Tryz.func108, Tryz.ntmps108
  go_wp2_with (first | (go_at_call 118; (refine (skipComments_any b s p q _ hs (by (repeat (first | with_reducible exact H.out | with_reducible exact Hw2.out | with_reducible exact Hw1.out | with_reducible exact H.out.any | with_reducible exact Hw2.out.any | with_reducible exact Hw1.out.any | (with_reducible refine ScanAt.drewN ?_ _) | (with_reducible refine ScanAt.drew ?_) | (with_reducible refine ScanAt.alloc ?_ _) | ((with_reducible refine Scan.set ?_ ?_); rotate_left; (omega)) | ((with_reducible refine ScanAt.other ?_ ?_ _); rotate_left; ((simp; omega))) | (with_reducible refine Scan.drewN ?_ _) | (with_reducible refine Scan.drew ?_) | (with_reducible refine Scan.alloc ?_ _) | ((with_reducible refine Scan.other ?_ ?_ _); rotate_left; ((simp; omega)))))) hp HQ.out).mono ?_); rintro e w1 ⟨rfl, hm1, hm2⟩; (have Rw1 : Hid (Res w1 w.heap.size) := Lib.hid (Res.only (by (repeat (first | with_reducible exact Res.new _ _ _ _ | with_reducible exact RHw2.out | with_reducible exact RHw1.out | (with_reducible refine Res.drewN ?_ _) | (with_reducible refine Res.drew ?_) | (with_reducible refine Res.alloc ?_ _) | ((with_reducible refine Res.other ?_ ?_ _); rotate_left; ((simp; omega)))))) hm2 (by omega))); (have HOw1 : Hid (Only b w w1) := Lib.hid (Only.trans (by (repeat (first | with_reducible exact Only.refl _ _ | with_reducible exact HOw2.out | with_reducible exact HOw1.out | (with_reducible refine Only.drewN ?_ _) | (with_reducible refine Only.drew ?_) | (with_reducible refine Only.alloc ?_ _) | ((with_reducible refine Only.fresh ?_ ?_ _); rotate_left; (focus (simp; done))) | ((with_reducible refine Only.setCell ?_ ?_ _); rotate_left; (exact rfl))))) hm2)); have d0w1 := hm1.cell0; have d1w1 := hm1.cell1; have dfw1 := hm1.frozen 1; have Hw1 := Lib.hid hm1; obtain ⟨xw1, yw1, zw1, r0w1, r1w1, r2w1⟩ := Rw1.out.cells; have g0w1 := Rw1.out.frozen 0; have g1w1 := Rw1.out.frozen 1; have g2w1 := Rw1.out.frozen 2; have RHw1 := Lib.hid Rw1.out; clear hm1 hm2 Rw1; clear H) | (go_at_call 119; (with_reducible refine (isBlank_i s q _ _ _ hs (by omega) rfl HB.out).mono ?_); rintro e w' ⟨rfl, rfl⟩) | (go_at_call 121; (with_reducible refine (secondQuote_i s q _ _ _ hs (by omega) rfl HSQ.out).mono ?_); rintro e w' ⟨rfl, nd, rfl⟩) | (go_at_call 123; (with_reducible refine (byteAt_i s q _ _ _ hs (by omega) rfl HC.out).mono ?_); rintro e w' ⟨rfl, rfl⟩) | (go_at_call 124; (with_reducible refine (isNameByte_i s (q + 1) _ _ _ hs (by omega) ?_ HNB.out).mono ?_); (omega); rintro e w' ⟨rfl, rfl⟩) | (go_at_call 126; (with_reducible refine (nameBegins_i s q _ _ _ hs (by omega) rfl HN0.out).mono ?_); rintro e w' ⟨rfl, rfl⟩) | (go_at_call 126; (with_reducible refine (nameBegins_i s (q + 1) _ _ _ hs (by omega) ?_ HN1.out).mono ?_); (omega); rintro e w' ⟨rfl, rfl⟩) | (go_at_call 127; (with_reducible refine (numberBegins_i s q _ _ _ hs (by omega) rfl HNU.out).mono ?_); rintro e w' ⟨rfl, rfl⟩) | (go_at_call 125; (refine (named_any b s q _ E _ hs (by (repeat (first | with_reducible exact H.out | with_reducible exact Hw2.out | with_reducible exact Hw1.out | with_reducible exact H.out.any | with_reducible exact Hw2.out.any | with_reducible exact Hw1.out.any | (with_reducible refine ScanAt.drewN ?_ _) | (with_reducible refine ScanAt.drew ?_) | (with_reducible refine ScanAt.alloc ?_ _) | ((with_reducible refine Scan.set ?_ ?_); rotate_left; (omega)) | ((with_reducible refine ScanAt.other ?_ ?_ _); rotate_left; ((simp; omega))) | (with_reducible refine Scan.drewN ?_ _) | (with_reducible refine Scan.drew ?_) | (with_reducible refine Scan.alloc ?_ _) | ((with_reducible refine Scan.other ?_ ?_ _); rotate_left; ((simp; omega)))))) (by omega) HE.out).mono ?_); rintro e w2 ⟨rfl, hn1, hn2⟩; (have Rw2 : Hid (Res w2 w.heap.size) := Lib.hid (Res.only (by (repeat (first | with_reducible exact Res.new _ _ _ _ | with_reducible exact RHw2.out | with_reducible exact RHw1.out | (with_reducible refine Res.drewN ?_ _) | (with_reducible refine Res.drew ?_) | (with_reducible refine Res.alloc ?_ _) | ((with_reducible refine Res.other ?_ ?_ _); rotate_left; ((simp; omega)))))) hn2 (by omega))); (have HOw2 : Hid (Only b w w2) := Lib.hid (Only.trans (by (repeat (first | with_reducible exact Only.refl _ _ | with_reducible exact HOw2.out | with_reducible exact HOw1.out | (with_reducible refine Only.drewN ?_ _) | (with_reducible refine Only.drew ?_) | (with_reducible refine Only.alloc ?_ _) | ((with_reducible refine Only.fresh ?_ ?_ _); rotate_left; (focus (simp; done))) | ((with_reducible refine Only.setCell ?_ ?_ _); rotate_left; (exact rfl))))) hn2)); have d0w2 := hn1.cell0; have d1w2 := hn1.cell1; have dfw2 := hn1.frozen 1; have Hw2 := Lib.hid hn1; obtain ⟨xw2, yw2, zw2, r0w2, r1w2, r2w2⟩ := Rw2.out.cells; have g0w2 := Rw2.out.frozen 0; have g1w2 := Rw2.out.frozen 1; have g2w2 := Rw2.out.frozen 2; have RHw2 := Lib.hid Rw2.out; clear hn1 hn2 Rw2))
  refine ret_tok_ok rfl rfl rfl rfl (RHw2.out.set _ _ _) ⟨rfl, ?_, ?_⟩
  · (repeat (first | with_reducible exact H.out | with_reducible exact Hw2.out | with_reducible exact Hw1.out | with_reducible exact H.out.any | with_reducible exact Hw2.out.any | with_reducible exact Hw1.out.any | (with_reducible refine ScanAt.drewN ?_ _) | (with_reducible refine ScanAt.drew ?_) | (with_reducible refine ScanAt.alloc ?_ _) | ((with_reducible refine Scan.set ?_ ?_); rotate_left; (omega)) | ((with_reducible refine ScanAt.other ?_ ?_ _); rotate_left; ((simp; omega))) | (with_reducible refine Scan.drewN ?_ _) | (with_reducible refine Scan.drew ?_) | (with_reducible refine Scan.alloc ?_ _) | ((with_reducible refine Scan.other ?_ ?_ _); rotate_left; ((simp; omega)))))
  · (repeat (first | with_reducible exact Only.refl _ _ | with_reducible exact HOw2.out | with_reducible exact HOw1.out | (with_reducible refine Only.drewN ?_ _) | (with_reducible refine Only.drew ?_) | (with_reducible refine Only.alloc ?_ _) | ((with_reducible refine Only.fresh ?_ ?_ _); rotate_left; (focus (simp; done))) | ((with_reducible refine Only.setCell ?_ ?_ _); rotate_left; (exact rfl))))
end Go.Proofs.YtjlejiphpbaonaaGreatDoor
