/- What a unit, a string, a number, a word do to the scanner. -/
import Derived.Test.YtnkdppbpcinjhaaDoorTokE
set_option maxRecDepth 20000
namespace Go.Proofs.YtnkdppbpcinjhaaDoor
open Go.RowKit
theorem take_l (b : Nat) (s : ByteArray) (p q : Nat) (y : Int) (w : World) (h : ScanAt w b s p) (hpq : p ≤ q) (hq : q ≤ s.size) (hy : y = q) :
    Calls Tryd.prog 74 #[.pointer (some ⟨b, 0, none⟩), .int .i64 y] w fun e w' => e = .returned (.string (s.extract p q)) ∧ Moved b s q w w' :=
  (take_i b s p q y w h hpq hq hy).mono fun e w' ⟨h1, n, h2⟩ => ⟨h1, by subst h2; exact ⟨h.set.drewN _, ((Only.refl b w).setCell rfl _).drewN _⟩⟩
/-- block r is a result's: three cells that may be written -/
structure Res (w : World) (r : Nat) : Prop where
  at_ : ∃ x y z, w.heap[r]? = some (.cells #[x, y, z] 24)
theorem Res.only {b r : Nat} {w w' : World} (h : Res w r) (ho : Only b w w') (hb : r ≠ b) : Res w' r := by
  obtain ⟨x, y, z, e⟩ := h.at_
  exact ⟨x, y, z, by rw [ho.block r (Array.getElem?_eq_some_iff.1 e).1 hb, e]⟩
theorem Res.cells {r : Nat} {w : World} (h : Res w r) : ∃ x y z, w.cell? ⟨r, 0, none⟩ = some x ∧ w.cell? ⟨r, 1, none⟩ = some y ∧ w.cell? ⟨r, 2, none⟩ = some z := by
  obtain ⟨x, y, z, e⟩ := h.at_
  exact ⟨x, y, z, by simp [World.cell?, e], by simp [World.cell?, e], by simp [World.cell?, e]⟩
theorem Res.frozen {r : Nat} {w : World} (h : Res w r) (o : Nat) : w.frozen? ⟨r, o, none⟩ = false := by
  obtain ⟨x, y, z, e⟩ := h.at_
  simp [World.frozen?, e]
theorem Res.new (w : World) (x y z : Value) : Res (w.alloc (.cells #[x, y, z] 24)) w.heap.size :=
  ⟨x, y, z, by show (w.heap.push _)[w.heap.size]? = _; simp⟩
/-- block r holds this token -/
def TokAt (w : World) (r : Nat) (x y z : Value) : Prop := w.heap[r]? = some (.cells #[x, y, z] 24)
theorem Res.set {r : Nat} {w : World} (h : Res w r) (x y z : Value) : TokAt (((w.setCell ⟨r, 0, none⟩ x).setCell ⟨r, 1, none⟩ y).setCell ⟨r, 2, none⟩ z) r x y z := by
  obtain ⟨x', y', z', e⟩ := h.at_
  unfold TokAt
  simp [World.setCell, Array.getElem?_modify, e]
theorem Res.drewN {r : Nat} {w : World} (h : Res w r) (n : Nat) : Res (w.drewN n) r := ⟨h.at_⟩
theorem Res.drew {r : Nat} {w : World} (h : Res w r) : Res w.drew r := ⟨h.at_⟩
theorem Res.other {r : Nat} {w : World} {a : Addr} (h : Res w r) (ha : a.block ≠ r) (v : Value) : Res (w.setCell a v) r := by
  obtain ⟨x, y, z, e⟩ := h.at_
  exact ⟨x, y, z, by rw [Below.heap_setCell _ _ _ _ (Ne.symm ha), e]⟩
theorem Res.alloc {r : Nat} {w : World} (h : Res w r) (o : Obj) : Res (w.alloc o) r := by
  obtain ⟨x, y, z, e⟩ := h.at_
  exact ⟨x, y, z, by rw [Below.heap_alloc _ _ _ (Array.getElem?_eq_some_iff.1 e).1, e]⟩
/-- a token that lies in a result's block is handed back -/
theorem ret_tok {fn : Func} {R : Ending → World → Prop} {a : Act} {W : World} {t : Tmp} {r : Nat} {x y z : Value} (hres : fn.results = #[.cell t 24]) (ht : a.tmps[t]?.getD undef = .pointer (some ⟨r, 0, none⟩)) (hd : a.defers = [])
    (hW : TokAt W r x y z) (h : R (.returned (.agg #[x, y, z])) W) : bodyPost Tryd.prog fn R .ret a W := by
  unfold TokAt at hW
  have k0 : W.cell? ⟨r, 0, none⟩ = some x := by simp [World.cell?, hW]
  have k1 : W.cell? ⟨r, 1, none⟩ = some y := by simp [World.cell?, hW]
  have k2 : W.cell? ⟨r, 2, none⟩ = some z := by simp [World.cell?, hW]
  exact bodyPost_ret (v := .agg #[x, y, z]) (by simp [results, hres, ht, go_sem, k0, k1, k2]) hd h
set_option maxHeartbeats 1000000 in
theorem unit_pct (b : Nat) (s : ByteArray) (p : Nat) (w : World) (hs : s.size ≤ 4611686018427387000) (h : ScanAt w b s p) (hp : p ≤ s.size) (hc : Wn.hd (Wn.sfx s p) = 37) :
    Calls Tryd.prog 99 #[.pointer (some ⟨b, 0, none⟩)] w fun e w' => e = .returned (.string (s.extract p (p + 1))) ∧ Moved b s (p + 1) w w' := by
  have hlt : p < s.size := by
    by_cases hlt : p < s.size
    · exact hlt
    · have := Wn.hd_out s p (by omega); omega
  have c0 := h.cell0
  have c1 := h.cell1
  have H := Lib.hid h; clear h
  have HC := Lib.hid hc; clear hc
  go_enter Tryd.func99, Tryd.ntmps99
  go_wp2_with fail
  go_quiet ((go_at_call 67; exact quiet_left (byteAt_i s p _ 37 _ hs (by omega) rfl HC.out)))
  go_wp2_with (go_at_call 74; (refine (take_l b s p (p + 1) _ _ (by exact H.out.drewN _) (by omega) (by omega) (by omega)).mono ?_); rintro e w1 ⟨rfl, hm⟩)
  go_ret
  exact ⟨rfl, hm.1, (((Only.refl b w).drewN _).trans hm.2)⟩
set_option maxHeartbeats 1000000 in
theorem unit_name (b : Nat) (s : ByteArray) (p E : Nat) (w : World) (hs : s.size ≤ 4611686018427387000) (h : ScanAt w b s p) (hp : p ≤ s.size) (hc : (Wn.hd (Wn.sfx s p) == 37) = false) (hn : Wn.nameBegins (Wn.sfx s p) = true) (hE : p + Wn.runLen Wn.nameByte (Wn.sfx s p) = E) :
    Calls Tryd.prog 99 #[.pointer (some ⟨b, 0, none⟩)] w fun e w' => e = .returned (.string (s.extract p E)) ∧ Moved b s E w w' := by
  have c0 := h.cell0
  have c1 := h.cell1
  have H := Lib.hid h; clear h
  have hr := Wn.runLen_le Wn.nameByte (Wn.sfx s p)
  rw [Wn.sfx_length] at hr
  have hE1 : p ≤ E := by omega
  have hE2 : E ≤ s.size := by omega
  have HE := Lib.hid hE; clear hE hr
  have HN := Lib.hid hn; clear hn
  generalize hcc : Wn.hd (Wn.sfx s p) = c at *
  have HC := Lib.hid hcc; clear hcc
  go_enter Tryd.func99, Tryd.ntmps99
  go_wp2_with fail
  go_quiet ((go_at_call 67; exact quiet_left (byteAt_i s p _ c _ hs (by omega) rfl HC.out)))
  go_wp2_with fail
  generalize hw2 : w.drewN nq = w2
  have H2 : Hid (ScanAt w2 b s p) := Lib.hid (by rw [← hw2]; exact H.out.drewN _)
  have O2 : Hid (Only b w w2) := Lib.hid (by rw [← hw2]; exact (Only.refl b w).drewN _)
  have d0 := H2.out.cell0
  have d1 := H2.out.cell1
  clear hw2 c0 c1 H
  go_quiet ((go_at_call 70; exact quiet_left (nameBegins_i s p _ true _ hs (by omega) rfl HN.out)))
  go_wp2_with fail
  refine region_tail 10 (by kernel_rfl) (by kernel_rfl) ?_
  simp only [List.take_succ_cons, List.take_zero, List.drop_succ_cons, List.drop_zero]
  repeat still_step
  still_call ((nameEnd_i s p _ E _ hs (by omega) rfl HE.out).mono fun e w' h => ⟨h.1, h.2.symm⟩)
  repeat still_step
  refine wpStill_nil ?_
  go_wp2_with (go_at_call 74; (refine (take_l b s p E _ _ (by exact H2.out) (by omega) (by omega) (by omega)).mono ?_); rintro e w1 ⟨rfl, hm⟩)
  go_ret
  exact ⟨rfl, hm.1, (O2.out.drewN _).trans hm.2⟩
set_option maxHeartbeats 1000000 in
theorem unit_none (b : Nat) (s : ByteArray) (p : Nat) (w : World) (hs : s.size ≤ 4611686018427387000) (h : ScanAt w b s p) (hp : p ≤ s.size) (hc : (Wn.hd (Wn.sfx s p) == 37) = false) (hn : Wn.nameBegins (Wn.sfx s p) = false) :
    Calls Tryd.prog 99 #[.pointer (some ⟨b, 0, none⟩)] w fun e w' => e = .returned (.string ⟨#[]⟩) ∧ Moved b s p w w' := by
  have c0 := h.cell0
  have c1 := h.cell1
  have H := Lib.hid h; clear h
  have HN := Lib.hid hn; clear hn
  generalize hcc : Wn.hd (Wn.sfx s p) = c at *
  have HC := Lib.hid hcc; clear hcc
  go_enter Tryd.func99, Tryd.ntmps99
  go_wp2_with fail
  go_quiet ((go_at_call 67; exact quiet_left (byteAt_i s p _ c _ hs (by omega) rfl HC.out)))
  go_wp2_with fail
  generalize hw2 : w.drewN nq = w2
  have H2 : Hid (ScanAt w2 b s p) := Lib.hid (by rw [← hw2]; exact H.out.drewN _)
  have O2 : Hid (Only b w w2) := Lib.hid (by rw [← hw2]; exact (Only.refl b w).drewN _)
  have d0 := H2.out.cell0
  have d1 := H2.out.cell1
  clear hw2 c0 c1 H
  go_quiet ((go_at_call 70; exact quiet_left (nameBegins_i s p _ false _ hs (by omega) rfl HN.out)))
  go_wp2_with fail
  go_ret
  exact ⟨rfl, H2.out.drewN _, O2.out.drewN _⟩
/-- the bytes of a text from a place on that its unit takes -/
theorem unit_any (b : Nat) (s : ByteArray) (p : Nat) (w : World) (hs : s.size ≤ 4611686018427387000) (h : ScanAt w b s p) (hp : p ≤ s.size) :
    Calls Tryd.prog 99 #[.pointer (some ⟨b, 0, none⟩)] w fun e w' => e = .returned (.string (s.extract p (p + Wn.unitLen (Wn.sfx s p)))) ∧ Moved b s (p + Wn.unitLen (Wn.sfx s p)) w w' := by
  unfold Wn.unitLen
  by_cases hc : (Wn.hd (Wn.sfx s p) == 37) = true
  · rw [if_pos hc]; exact unit_pct b s p w hs h hp (by simpa using hc)
  · have hc' : (Wn.hd (Wn.sfx s p) == 37) = false := by simpa using hc
    rw [if_neg hc]
    by_cases hn : Wn.nameBegins (Wn.sfx s p) = true
    · rw [if_pos hn]; exact unit_name b s p _ w hs h hp hc' hn rfl
    · have hn' : Wn.nameBegins (Wn.sfx s p) = false := by simpa using hn
      rw [if_neg hn]
      refine (unit_none b s p w hs h hp hc' hn').mono fun e w' h' => ⟨?_, h'.2⟩
      rw [h'.1, Nat.add_zero, Wn.extract_same]
set_option maxHeartbeats 1000000 in
theorem word_any (b : Nat) (s : ByteArray) (p E : Nat) (w : World) (hs : s.size ≤ 4611686018427387000) (h : ScanAt w b s p) (hp : p ≤ s.size) (hE : p + Wn.runLen Wn.nameByte (Wn.sfx s p) = E) :
    Calls Tryd.prog 73 #[.pointer (some ⟨b, 0, none⟩)] w (Left b s (if Wn.hd (Wn.sfx s E) == 40 then E + 1 else E) (.agg #[.int .i64 (if Wn.hd (Wn.sfx s E) == 40 then 2 else 1), .string (s.extract p E), .int .i64 0]) w) := by
  have hlt := h.lt
  have c0 := h.cell0
  have c1 := h.cell1
  have H := Lib.hid h; clear h
  have hr := Wn.runLen_le Wn.nameByte (Wn.sfx s p)
  rw [Wn.sfx_length] at hr
  have hE1 : p ≤ E := by omega
  have hE2 : E ≤ s.size := by omega
  have HE := Lib.hid hE; clear hE hr
  generalize hcc : Wn.hd (Wn.sfx s E) = c at *
  have HC := Lib.hid hcc; clear hcc
  by_cases hc : (c == 40) = true
  · rw [if_pos hc, if_pos hc]
    go_enter Tryd.func73, Tryd.ntmps73
    go_wp2_with fail
    refine region_tail 10 (by kernel_rfl) (by kernel_rfl) ?_
    simp only [List.take_succ_cons, List.take_zero, List.drop_succ_cons, List.drop_zero]
    repeat still_step
    still_call ((nameEnd_i s p _ E _ hs (by omega) rfl HE.out).mono fun e w' h => ⟨h.1, h.2.symm⟩)
    repeat still_step
    refine wpStill_nil ?_
    go_wp2_with (go_at_call 74; (refine (take_l b s p E _ _ (by exact H.out.alloc _) (by omega) (by omega) (by omega)).mono ?_); rintro e w1 ⟨rfl, hm⟩)
    obtain ⟨hm1, hm2⟩ := hm
    have d0 := hm1.cell0
    have d1 := hm1.cell1
    have df := hm1.frozen 1
    have ho := ((Only.refl b (w.alloc (.cells #[.int .i64 0, .string ⟨#[]⟩, .int .i64 0] 24))).drew).trans hm2
    have R := (Res.new w _ _ _).only ho (Nat.ne_of_gt hlt)
    have RH := Lib.hid R
    have HO := Lib.hid (((Only.refl b w).alloc _).trans ho)
    have H1 := Lib.hid hm1
    obtain ⟨x, y, z, r0, r1, r2⟩ := R.cells
    have g0 := R.frozen 0
    have g1 := R.frozen 1
    have g2 := R.frozen 2
    clear hm1 hm2 ho R H c0 c1
    go_quiet ((go_at_call 67; exact quiet_left (byteAt_i s E _ c _ hs (by omega) rfl HC.out)))
    go_wp2_with fail
    have RR := (RH.out.drewN nq).other (a := ⟨b, 1, none⟩) (by simp; omega) (.int .i64 ((E : Int) + 1))
    exact ret_tok rfl rfl rfl (RR.set _ _ _) ⟨rfl, ((((H1.out.drewN nq).set' (q := E + 1) (by omega)).other (by simp; omega) _).other (by simp; omega) _).other (by simp; omega) _, ((((HO.out.drewN nq).setCell rfl _).fresh (by simp) _).fresh (by simp) _).fresh (by simp) _⟩
  · have hc' : (c == 40) = false := by simpa using hc
    rw [if_neg hc, if_neg hc]
    clear hc
    go_enter Tryd.func73, Tryd.ntmps73
    go_wp2_with fail
    refine region_tail 10 (by kernel_rfl) (by kernel_rfl) ?_
    simp only [List.take_succ_cons, List.take_zero, List.drop_succ_cons, List.drop_zero]
    repeat still_step
    still_call ((nameEnd_i s p _ E _ hs (by omega) rfl HE.out).mono fun e w' h => ⟨h.1, h.2.symm⟩)
    repeat still_step
    refine wpStill_nil ?_
    go_wp2_with (go_at_call 74; (refine (take_l b s p E _ _ (by exact H.out.alloc _) (by omega) (by omega) (by omega)).mono ?_); rintro e w1 ⟨rfl, hm⟩)
    obtain ⟨hm1, hm2⟩ := hm
    have d0 := hm1.cell0
    have d1 := hm1.cell1
    have df := hm1.frozen 1
    have ho := ((Only.refl b (w.alloc (.cells #[.int .i64 0, .string ⟨#[]⟩, .int .i64 0] 24))).drew).trans hm2
    have R := (Res.new w _ _ _).only ho (Nat.ne_of_gt hlt)
    have RH := Lib.hid R
    have HO := Lib.hid (((Only.refl b w).alloc _).trans ho)
    have H1 := Lib.hid hm1
    obtain ⟨x, y, z, r0, r1, r2⟩ := R.cells
    have g0 := R.frozen 0
    have g1 := R.frozen 1
    have g2 := R.frozen 2
    clear hm1 hm2 ho R H c0 c1
    go_quiet ((go_at_call 67; exact quiet_left (byteAt_i s E _ c _ hs (by omega) rfl HC.out)))
    go_wp2_with fail
    have RR := RH.out.drewN nq
    exact ret_tok rfl rfl rfl (RR.set _ _ _) ⟨rfl, (((H1.out.drewN nq).other (by simp; omega) _).other (by simp; omega) _).other (by simp; omega) _, (((HO.out.drewN nq).fresh (by simp) _).fresh (by simp) _).fresh (by simp) _⟩
end Go.Proofs.YtnkdppbpcinjhaaDoor
