/- What the reader's element answers. What attribute answers. What the reader's function and pseudoClass answer. -/
import Derived.Test.YtncknaagbafhhaaGreatDoorHD
set_option linter.unusedVariables false
set_option linter.unusedSimpArgs false
set_option maxRecDepth 20000
namespace Go.Proofs.YtncknaagbafhhaaGreatDoor
open Go.RowKit Go.Sort
/-- a new simple selector's box -/
def SBox (w : World) (b : Nat) : Prop := w.heap[b]? = some (.cells #[.int .i64 0, .string ⟨#[]⟩, .string ⟨#[]⟩, .int .i64 0, .int .i64 0, .slice none 0 0] 51)
theorem SBox.new (w : World) : SBox (w.alloc (.cells #[.int .i64 0, .string ⟨#[]⟩, .string ⟨#[]⟩, .int .i64 0, .int .i64 0, .slice none 0 0] 51)) w.heap.size := heap_alloc_new w _
theorem SBox.only {w w' : World} {b g : Nat} (h : SBox w b) (ho : Only g w w') (hb : b ≠ g) : SBox w' b := (ho.block b (lt_of_block h) hb).trans h
theorem SBox.below {w w' : World} {b : Nat} (h : SBox w b) (ho : Below w.heap.size w w') : SBox w' b := block_lat ho h
def smZ : Value := .agg #[.int .i64 0, .string ⟨#[]⟩, .string ⟨#[]⟩, .int .i64 0, .int .i64 0, .slice none 0 0]
def ElemPost (g n : Nat) (pl : Bool) (f : Wn.Fs) (w : World) (e : Ending) (w' : World) : Prop :=
  (∃ x r, Wn.elemF f = some (x, r) ∧ x.l = .nil ∧ e = .returned (.tuple #[smV x (.slice none 0 0), .bool true]) ∧ Rd w' g n pl r ∧ Only g w w') ∨
  (Wn.elemF f = none ∧ e = .returned (.tuple #[smZ, .bool false]) ∧ Rd w' g n pl f ∧ Only g w w')
set_option maxRecDepth 100000 in
set_option maxHeartbeats 1000000 in
theorem element_v (g n : Nat) (pl : Bool) (f : Wn.Fs) (w : World) (h : Rd w g n pl f) :
    Calls Tryz.prog 177 #[.pointer (some ⟨g, 0, none⟩)] w (ElemPost g n pl f w) := by
  have hgl := h.lt
  have BX : Hid (Below w.heap.size w (w.alloc (.cells #[.int .i64 0, .string ⟨#[]⟩, .string ⟨#[]⟩, .int .i64 0, .int .i64 0, .slice none 0 0] 51))) := Lib.hid ((Below.refl _ _).alloc (Nat.le_refl _) _)
  have HR := Lib.hid (h.below BX.out)
  have HN := Lib.hid (SBox.new w)
  have HTL := Lib.hid h.tl
  have hz : (w.alloc (.cells #[.int .i64 0, .string ⟨#[]⟩, .string ⟨#[]⟩, .int .i64 0, .int .i64 0, .slice none 0 0] 51)).heap.size = w.heap.size + 1 := by simp
  have HZ := Lib.hid hz
  clear h hz
  go_enter Tryz.func177, Tryz.ntmps177
  go_wp2_with fail
  generalize w.alloc (.cells #[.int .i64 0, .string ⟨#[]⟩, .string ⟨#[]⟩, .int .i64 0, .int .i64 0, .slice none 0 0] 51) = W at *
  refine (delim1_v g n pl f [42] W _ HZ.out.symm HR.out).mono ?_
  rintro e w1 (⟨r, hs, rfl, hr, ho⟩ | ⟨hs, rfl, hr, ho⟩)
  · have hn1 := HN.out.only ho (by omega)
    unfold SBox at hn1
    (have q0r := cell_of_block (o := 0) hn1; have q1r := cell_of_block (o := 1) hn1; have q2r := cell_of_block (o := 2) hn1; have q3r := cell_of_block (o := 3) hn1; have q4r := cell_of_block (o := 4) hn1; have q5r := cell_of_block (o := 5) hn1; have z0r := frozen_blk hn1 0; have z1r := frozen_blk hn1 1; have z2r := frozen_blk hn1 2; have z3r := frozen_blk hn1 3; have z4r := frozen_blk hn1 4; have z5r := frozen_blk hn1 5; simp only [List.getElem?_toArray, List.getElem?_cons_zero, List.getElem?_cons_succ] at q0r q1r q2r q3r q4r q5r)
    have HE : Hid (Wn.elemF f = some (Wn.sBare 1, r)) := Lib.hid (by unfold Wn.elemF; rw [hs])
    have HR1 := Lib.hid hr
    have HO1 := Lib.hid ((Below.only BX.out).trans ho)
    clear hs hr ho hn1
    go_wp2_with fail
    refine bodyPost_ret (v := .tuple #[.agg #[.int .i64 1, .string ⟨#[]⟩, .string ⟨#[]⟩, .int .i64 0, .int .i64 0, .slice none 0 0], .bool true]) (by simp [results, Tryz.results177, go_sem, q0r, q1r, q2r, q3r, q4r, q5r]) rfl ?_
    exact .inl ⟨_, r, HE.out, rfl, rfl, HR1.out.ends hgl (by (repeat' (first | with_reducible exact Kp.refl _ _ | (with_reducible refine Kp.alloc ?_ _) | (with_reducible refine Kp.drew ?_) | (with_reducible refine Kp.setN ?_ (Nat.le_refl _) _) | (with_reducible refine Kp.setN ?_ (Nat.le_succ _) _) | ((with_reducible refine Kp.setN ?_ ?_ _); rotate_left; (focus (first | omega | (simp; omega)))))); (first | done | fail)), HO1.out.ends (by (repeat' (first | with_reducible exact Kp.refl _ _ | (with_reducible refine Kp.alloc ?_ _) | (with_reducible refine Kp.drew ?_) | (with_reducible refine Kp.setN ?_ (Nat.le_refl _) _) | (with_reducible refine Kp.setN ?_ (Nat.le_succ _) _) | ((with_reducible refine Kp.setN ?_ ?_ _); rotate_left; (focus (first | omega | (simp; omega)))))); (first | done | fail))⟩
  · have HS := Lib.hid hs
    have HN1 := Lib.hid (HN.out.only ho (by omega))
    have HO1 := Lib.hid ((Below.only BX.out).trans ho)
    have QT := Lib.hid (token_v g n pl f 1 w1 hr)
    clear hs hr ho HN
    go_wp2_with fail
    refine QT.out.mono ?_
    rintro e w2 (⟨t, r, hf, rfl, hr, ho⟩ | ⟨hf, rfl, hr, ho⟩)
    · have hb2 : Below w2.heap.size w2 (w2.alloc (.cells #[.int .i64 t.1, .string (Wn.str t.2.1), .int .i64 t.2.2] 78)) := (Below.refl _ _).alloc (Nat.le_refl _) _
      have HE : Hid (Wn.elemF f = some (Wn.sNam 2 (Wn.low t.2.1), r)) := Lib.hid (by unfold Wn.elemF; rw [HS.out, hf]; rfl)
      have HN2 := Lib.hid ((HN1.out.only ho (by omega)).below hb2)
      have HO2 := Lib.hid ((HO1.out.trans ho).trans (Below.only hb2))
      have HR2 := Lib.hid (hr.below hb2)
      have QL := Lib.hid (fun w => lower_v t.2.1 w (tokF_tl hf HTL.out).1)
      clear hf hr ho hb2 HN1 HO1 QT
      go_wp2_with fail
      generalize w2.alloc (.cells #[.int .i64 t.1, .string (Wn.str t.2.1), .int .i64 t.2.2] 78) = W2 at *
      refine (QL.out _).mono ?_
      rintro e w3 ⟨rfl, b3⟩
      have hn3 := HN2.out.below b3
      unfold SBox at hn3
      (have q0r := cell_of_block (o := 0) hn3; have q1r := cell_of_block (o := 1) hn3; have q2r := cell_of_block (o := 2) hn3; have q3r := cell_of_block (o := 3) hn3; have q4r := cell_of_block (o := 4) hn3; have q5r := cell_of_block (o := 5) hn3; have z0r := frozen_blk hn3 0; have z1r := frozen_blk hn3 1; have z2r := frozen_blk hn3 2; have z3r := frozen_blk hn3 3; have z4r := frozen_blk hn3 4; have z5r := frozen_blk hn3 5; simp only [List.getElem?_toArray, List.getElem?_cons_zero, List.getElem?_cons_succ] at q0r q1r q2r q3r q4r q5r)
      have HR3 := Lib.hid (HR2.out.below b3)
      have HO3 := Lib.hid (HO2.out.trans (Below.only b3))
      clear b3 hn3 HR2 HO2 HN2 QL
      generalize hx : Wn.str (Wn.low t.2.1) = x at *
      have HX := Lib.hid hx
      clear hx
      go_wp2_with fail
      refine bodyPost_ret (v := .tuple #[.agg #[.int .i64 2, .string x, .string ⟨#[]⟩, .int .i64 0, .int .i64 0, .slice none 0 0], .bool true]) (by simp [results, Tryz.results177, go_sem, q0r, q1r, q2r, q3r, q4r, q5r]) rfl ?_
      exact .inl ⟨_, r, HE.out, rfl, by rw [← HX.out]; rfl, HR3.out.ends hgl (by (repeat' (first | with_reducible exact Kp.refl _ _ | (with_reducible refine Kp.alloc ?_ _) | (with_reducible refine Kp.drew ?_) | (with_reducible refine Kp.setN ?_ (Nat.le_refl _) _) | (with_reducible refine Kp.setN ?_ (Nat.le_succ _) _) | ((with_reducible refine Kp.setN ?_ ?_ _); rotate_left; (focus (first | omega | (simp; omega)))))); (first | done | fail)), HO3.out.ends (by (repeat' (first | with_reducible exact Kp.refl _ _ | (with_reducible refine Kp.alloc ?_ _) | (with_reducible refine Kp.drew ?_) | (with_reducible refine Kp.setN ?_ (Nat.le_refl _) _) | (with_reducible refine Kp.setN ?_ (Nat.le_succ _) _) | ((with_reducible refine Kp.setN ?_ ?_ _); rotate_left; (focus (first | omega | (simp; omega)))))); (first | done | fail))⟩
    · have hb2 : Below w2.heap.size w2 (w2.alloc (.cells #[.int .i64 0, .string ⟨#[]⟩, .int .i64 0] 78)) := (Below.refl _ _).alloc (Nat.le_refl _) _
      have HE : Hid (Wn.elemF f = none) := Lib.hid (by unfold Wn.elemF; rw [HS.out, hf]; rfl)
      have hn2 := (HN1.out.only ho (by omega)).below hb2
      unfold SBox at hn2
      (have q0r := cell_of_block (o := 0) hn2; have q1r := cell_of_block (o := 1) hn2; have q2r := cell_of_block (o := 2) hn2; have q3r := cell_of_block (o := 3) hn2; have q4r := cell_of_block (o := 4) hn2; have q5r := cell_of_block (o := 5) hn2; have z0r := frozen_blk hn2 0; have z1r := frozen_blk hn2 1; have z2r := frozen_blk hn2 2; have z3r := frozen_blk hn2 3; have z4r := frozen_blk hn2 4; have z5r := frozen_blk hn2 5; simp only [List.getElem?_toArray, List.getElem?_cons_zero, List.getElem?_cons_succ] at q0r q1r q2r q3r q4r q5r)
      have HR2 := Lib.hid (hr.below hb2)
      have HO2 := Lib.hid ((HO1.out.trans ho).trans (Below.only hb2))
      clear hf hr ho hb2 HN1 HO1 QT hn2
      go_wp2_with fail
      generalize w2.alloc (.cells #[.int .i64 0, .string ⟨#[]⟩, .int .i64 0] 78) = W2 at *
      refine bodyPost_ret (v := .tuple #[smZ, .bool false]) (by simp [results, Tryz.results177, go_sem, q0r, q1r, q2r, q3r, q4r, q5r, smZ]) rfl ?_
      exact .inr ⟨HE.out, rfl, HR2.out.ends hgl (by (repeat' (first | with_reducible exact Kp.refl _ _ | (with_reducible refine Kp.alloc ?_ _) | (with_reducible refine Kp.drew ?_) | (with_reducible refine Kp.setN ?_ (Nat.le_refl _) _) | (with_reducible refine Kp.setN ?_ (Nat.le_succ _) _) | ((with_reducible refine Kp.setN ?_ ?_ _); rotate_left; (focus (first | omega | (simp; omega)))))); (first | done | fail)), HO2.out.ends (by (repeat' (first | with_reducible exact Kp.refl _ _ | (with_reducible refine Kp.alloc ?_ _) | (with_reducible refine Kp.drew ?_) | (with_reducible refine Kp.setN ?_ (Nat.le_refl _) _) | (with_reducible refine Kp.setN ?_ (Nat.le_succ _) _) | ((with_reducible refine Kp.setN ?_ ?_ _); rotate_left; (focus (first | omega | (simp; omega)))))); (first | done | fail))⟩
end Go.Proofs.YtncknaagbafhhaaGreatDoor
set_option linter.unusedVariables false
set_option linter.unusedSimpArgs false
set_option maxRecDepth 20000
namespace Go.Proofs.YtncknaagbafhhaaGreatDoor
open Go.RowKit Go.Sort
def StrPost (g n : Nat) (pl : Bool) (res : Option (List UInt8 × Wn.Fs)) (w : World) (e : Ending) (w' : World) : Prop :=
  (∃ s r, res = some (s, r) ∧ e = .returned (.string (Wn.str s)) ∧ Rd w' g n pl r ∧ Only g w w') ∨ (res = none ∧ e = .panicked invalidP ∧ Only g w w')
set_option maxHeartbeats 1000000 in
theorem attributeValue_v (g n : Nat) (pl : Bool) (f : Wn.Fs) (w : World) (h : Rd w g n pl f) :
    Calls Tryz.prog 203 #[.pointer (some ⟨g, 0, none⟩)] w (StrPost g n pl (Wn.attrV f) w) := by
  have QT := Lib.hid (token_v g n pl f 6 w h)
  clear h
  go_enter Tryz.func203, Tryz.ntmps203
  go_wp2_with fail
  refine QT.out.mono ?_
  rintro e w1 (⟨t, r, hf, rfl, hr, ho⟩ | ⟨hf, rfl, hr, ho⟩)
  · have HE : Hid (Wn.attrV f = some (t.2.1, r)) := Lib.hid (by unfold Wn.attrV; rw [hf])
    have HR := Lib.hid (hr.below ((Below.refl _ _).alloc (Nat.le_refl _) (.cells #[.int .i64 t.1, .string (Wn.str t.2.1), .int .i64 t.2.2] 78)))
    have HO := Lib.hid (ho.alloc (.cells #[.int .i64 t.1, .string (Wn.str t.2.1), .int .i64 t.2.2] 78))
    clear hf hr ho QT
    go_wp2_with fail
    go_ret
    exact .inl ⟨_, _, HE.out, rfl, HR.out, HO.out⟩
  · have HP : Hid (Wn.attrV f = (Wn.tokF 1 f).map fun p => (p.1.2.1, p.2)) := Lib.hid (by unfold Wn.attrV; rw [hf])
    have HR := Lib.hid (hr.below ((Below.refl _ _).alloc (Nat.le_refl _) (.cells #[.int .i64 0, .string ⟨#[]⟩, .int .i64 0] 78)))
    have HO := Lib.hid (ho.alloc (.cells #[.int .i64 0, .string ⟨#[]⟩, .int .i64 0] 78))
    clear hf hr ho QT
    go_wp2_with fail
    generalize w1.alloc (.cells #[.int .i64 0, .string ⟨#[]⟩, .int .i64 0] 78) = W at *
    refine (name_v g n pl f W HR.out).mono ?_
    rintro e w2 (⟨t, r, hf, rfl, hr, ho⟩ | ⟨hf, rfl, ho⟩)
    · have HE : Hid (Wn.attrV f = some (t.2.1, r)) := Lib.hid (by rw [HP.out, hf]; rfl)
      have HR2 := Lib.hid hr
      have HO2 := Lib.hid (HO.out.trans ho)
      clear hf hr ho
      go_wp2_with fail
      go_ret
      exact .inl ⟨_, _, HE.out, rfl, HR2.out, HO2.out⟩
    · exact ⟨rfl, .inr ⟨by rw [HP.out, hf]; rfl, rfl, HO.out.trans ho⟩⟩
theorem set6_kp (w : World) (b : Nat) (a0 a1 a2 a3 a4 a5 : Value) : Only b w ((((((w.setCell ⟨b, 0, none⟩ a0).setCell ⟨b, 1, none⟩ a1).setCell ⟨b, 2, none⟩ a2).setCell ⟨b, 3, none⟩ a3).setCell ⟨b, 4, none⟩ a4).setCell ⟨b, 5, none⟩ a5) :=
  ((((((Only.refl b w).setCell (p := ⟨b, 0, none⟩) rfl _).setCell (p := ⟨b, 1, none⟩) rfl _).setCell (p := ⟨b, 2, none⟩) rfl _).setCell (p := ⟨b, 3, none⟩) rfl _).setCell (p := ⟨b, 4, none⟩) rfl _).setCell (p := ⟨b, 5, none⟩) rfl _
theorem set6_blk {w : World} {b : Nat} {c0 c1 c2 c3 c4 c5 : Value} {t : TypeId} (h : w.heap[b]? = some (.cells #[c0, c1, c2, c3, c4, c5] t)) (a0 a1 a2 a3 a4 a5 : Value) : ((((((w.setCell ⟨b, 0, none⟩ a0).setCell ⟨b, 1, none⟩ a1).setCell ⟨b, 2, none⟩ a2).setCell ⟨b, 3, none⟩ a3).setCell ⟨b, 4, none⟩ a4).setCell ⟨b, 5, none⟩ a5).heap[b]? = some (.cells #[a0, a1, a2, a3, a4, a5] t) := by
  simp [World.setCell, Array.getElem?_modify, h]
/-- block b is the simple selector x, in which there is none -/
def SmAt (b : Nat) (x : Wn.Sm) (w : World) : Prop := w.heap[b]? = some (.cells #[.int .i64 x.k, .string (Wn.str x.n), .string (Wn.str x.v), .int .i64 x.a, .int .i64 x.b, .slice none 0 0] 51) ∧ x.l = .nil
set_option maxRecDepth 100000 in
set_option maxHeartbeats 1000000 in
theorem attribute1_v (g n X : Nat) (f : Wn.Fs) (w : World) (h : Rd w g n false f) (hX : SBox w X) (hXg : X ≠ g) (hn : n ≤ X) :
    Calls Tryz.prog 202 #[.pointer (some ⟨g, 0, none⟩), .pointer (some ⟨X, 0, none⟩)] w (ReadPost g n (fun b => b = X) (SmAt X) (Wn.attrR f) w) := by
  have HX := Lib.hid hX
  have QN := Lib.hid (name_v g n false f w h)
  clear h hX
  go_enter Tryz.func202, Tryz.ntmps202
  go_wp2_with fail
  refine QN.out.mono ?_
  rintro e w1 (⟨t, r, hf, rfl, hr, ho⟩ | ⟨hf, rfl, ho⟩)
  · have hx1 := HX.out.only ho hXg
    unfold SBox at hx1
    (have q0r := cell_of_block (o := 0) hx1; have q1r := cell_of_block (o := 1) hx1; have q2r := cell_of_block (o := 2) hx1; have q3r := cell_of_block (o := 3) hx1; have q4r := cell_of_block (o := 4) hx1; have q5r := cell_of_block (o := 5) hx1; have z0r := frozen_blk hx1 0; have z1r := frozen_blk hx1 1; have z2r := frozen_blk hx1 2; have z3r := frozen_blk hx1 3; have z4r := frozen_blk hx1 4; have z5r := frozen_blk hx1 5; simp only [List.getElem?_toArray, List.getElem?_cons_zero, List.getElem?_cons_succ] at q0r q1r q2r q3r q4r q5r)
    have HP : Hid (Wn.attrR f = match Wn.signF [61] (Wn.dropB r) with | none => some (Wn.sNam 5 t.2.1, Wn.dropB r) | some r => (Wn.attrV (Wn.dropB r)).map fun q => (⟨6, t.2.1, q.1, 0, 0, .nil⟩, q.2)) := Lib.hid (by unfold Wn.attrR; rw [hf]; rfl)
    have hk := (Only.kp (set6_kp w1 X (.int .i64 5) (.string (Wn.str t.2.1)) (.string ⟨#[]⟩) (.int .i64 0) (.int .i64 0) (.slice none 0 0)))
    have HK := Lib.hid (((Only.kp ho).mono (S' := fun b => b = X ∨ b = g) (fun b hb => Or.inr hb)).trans (hk.mono (fun b hb => Or.inl hb)))
    have HBX := Lib.hid (set6_blk hx1 (.int .i64 5) (.string (Wn.str t.2.1)) (.string ⟨#[]⟩) (.int .i64 0) (.int .i64 0) (.slice none 0 0))
    have HR := Lib.hid (hr.kp hk (fun e => hXg e.symm) (fun b hb e => by subst e; omega))
    clear hf hr ho hx1 hk QN
    generalize hnm : Wn.str t.2.1 = nm at *
    have HNM := Lib.hid hnm
    clear hnm
    go_wp2_with fail
    generalize ((((((w1.setCell ⟨X, 0, none⟩ (.int .i64 5)).setCell ⟨X, 1, none⟩ (.string nm)).setCell ⟨X, 2, none⟩ (.string ⟨#[]⟩)).setCell ⟨X, 3, none⟩ (.int .i64 0)).setCell ⟨X, 4, none⟩ (.int .i64 0)).setCell ⟨X, 5, none⟩ (.slice none 0 0)) = W at *
    clear q0r q1r q2r q3r q4r q5r z0r z1r z2r z3r z4r z5r
    refine (blanks_v g n false r W HR.out).mono ?_
    rintro e w2 ⟨rfl, hr2, ho2⟩
    have HR2 := Lib.hid hr2
    have HK2 := Lib.hid (HK.out.trans ((Only.kp ho2).mono (fun b hb => Or.inr hb)))
    have HBX2 := Lib.hid ((ho2.block X (lt_of_block HBX.out) hXg).trans HBX.out)
    clear hr2 ho2 HR HK HBX
    go_wp2_with fail
    refine (delim1_v g n false _ [61] w2 _ rfl HR2.out).mono ?_
    rintro e w3 (⟨r3, hs, rfl, hr, ho⟩ | ⟨hs, rfl, hr, ho⟩)
    · have HP3 : Hid (Wn.attrR f = (Wn.attrV (Wn.dropB r3)).map fun q => (⟨6, t.2.1, q.1, 0, 0, .nil⟩, q.2)) := Lib.hid (by rw [HP.out, hs])
      have HR3 := Lib.hid hr
      have HK3 := Lib.hid (HK2.out.trans ((Only.kp ho).mono (fun b hb => Or.inr hb)))
      have HBX3 := Lib.hid ((ho.block X (lt_of_block HBX2.out) hXg).trans HBX2.out)
      clear hs hr ho HR2 HK2 HBX2 HP
      go_wp2_with fail
      refine (blanks_v g n false r3 w3 HR3.out).mono ?_
      rintro e w4 ⟨rfl, hr4, ho4⟩
      have HR4 := Lib.hid hr4
      have HK4 := Lib.hid (HK3.out.trans ((Only.kp ho4).mono (fun b hb => Or.inr hb)))
      have HBX4 := Lib.hid ((ho4.block X (lt_of_block HBX3.out) hXg).trans HBX3.out)
      clear hr4 ho4 HR3 HK3 HBX3
      go_wp2_with fail
      refine (attributeValue_v g n false _ w4 HR4.out).mono ?_
      rintro e w5 (⟨s, r5, hv, rfl, hr, ho⟩ | ⟨hv, rfl, ho⟩)
      · have hb5 := (ho.block X (lt_of_block HBX4.out) hXg).trans HBX4.out
        have k0 := cell_of_block (o := 0) hb5
        have k2 := cell_of_block (o := 2) hb5
        have f0 := frozen_blk hb5 0
        have f2 := frozen_blk hb5 2
        simp only [List.getElem?_toArray, List.getElem?_cons_zero, List.getElem?_cons_succ] at k0 k2
        have HE : Hid (Wn.attrR f = some (⟨6, t.2.1, s, 0, 0, .nil⟩, r5)) := Lib.hid (by rw [HP3.out, hv]; rfl)
        have HR5 := Lib.hid hr
        have HK5 := Lib.hid (HK4.out.trans ((Only.kp ho).mono (fun b hb => Or.inr hb)))
        have HBX5 := Lib.hid hb5
        clear hv hr ho hb5 HR4 HK4 HBX4
        go_wp2_with fail
        refine ⟨rfl, .tuple #[], by simp [results, Tryz.results202], .inl ⟨_, r5, false, HE.out, rfl, ?_, ?_, ?_, rfl⟩⟩
        · exact HR5.out.kp (Only.kp (((Only.refl X w5).setCell (p := ⟨X, 0, none⟩) rfl _).setCell (p := ⟨X, 2, none⟩) rfl _)) (fun e => hXg e.symm) (fun b hb e => by subst e; omega)
        · exact (HK5.out.setCell (p := ⟨X, 0, none⟩) (.inl (.inl rfl)) _).setCell (p := ⟨X, 2, none⟩) (.inl (.inl rfl)) _
        · have := HBX5.out
          simp [World.setCell, Array.getElem?_modify, this, HNM.out]
      · exact ⟨rfl, .inr ⟨by rw [HP3.out, hv]; rfl, rfl, HK4.out.trans ((Only.kp ho).mono (fun b hb => Or.inr hb))⟩⟩
    · have HE : Hid (Wn.attrR f = some (Wn.sNam 5 t.2.1, Wn.dropB r)) := Lib.hid (by rw [HP.out, hs])
      have HR3 := Lib.hid hr
      have HK3 := Lib.hid (HK2.out.trans ((Only.kp ho).mono (fun b hb => Or.inr hb)))
      have HBX3 := Lib.hid ((ho.block X (lt_of_block HBX2.out) hXg).trans HBX2.out)
      clear hs hr ho HR2 HK2 HBX2 HP
      go_wp2_with fail
      exact ⟨rfl, .tuple #[], by simp [results, Tryz.results202], .inl ⟨_, _, false, HE.out, rfl, HR3.out, HK3.out, by rw [HBX3.out, ← HNM.out]; rfl, rfl⟩⟩
  · exact ⟨rfl, .inr ⟨by unfold Wn.attrR; rw [hf], rfl, (Only.kp ho).mono (fun b hb => Or.inr hb)⟩⟩
/-- two boxes for simple selectors, both new -/
structure Boxes2 (w W : World) : Prop where
  below : Below w.heap.size w W
  size : W.heap.size = w.heap.size + 2
  b0 : SBox W w.heap.size
  b1 : SBox W (w.heap.size + 1)
theorem boxes2 (w : World) : Boxes2 w ((w.alloc (.cells #[.int .i64 0, .string ⟨#[]⟩, .string ⟨#[]⟩, .int .i64 0, .int .i64 0, .slice none 0 0] 51)).alloc (.cells #[.int .i64 0, .string ⟨#[]⟩, .string ⟨#[]⟩, .int .i64 0, .int .i64 0, .slice none 0 0] 51)) := by
  have hz : (w.alloc (.cells #[.int .i64 0, .string ⟨#[]⟩, .string ⟨#[]⟩, .int .i64 0, .int .i64 0, .slice none 0 0] 51)).heap.size = w.heap.size + 1 := by simp
  refine ⟨((Below.refl _ _).alloc (Nat.le_refl _) _).alloc (by simp) _, by simp, block_alloc (heap_alloc_new w _) _, ?_⟩
  have := heap_alloc_new (w.alloc (.cells #[.int .i64 0, .string ⟨#[]⟩, .string ⟨#[]⟩, .int .i64 0, .int .i64 0, .slice none 0 0] 51)) (.cells #[.int .i64 0, .string ⟨#[]⟩, .string ⟨#[]⟩, .int .i64 0, .int .i64 0, .slice none 0 0] 51)
  rw [hz] at this; exact this
def AttrPost (res : Option Wn.Sm) (w : World) (e : Ending) (w' : World) : Prop :=
  (∃ x, res = some x ∧ x.l = .nil ∧ e = .returned (smV x (.slice none 0 0)) ∧ Below w.heap.size w w') ∨ (res = none ∧ e = .panicked invalidP ∧ Below w.heap.size w w')
set_option maxRecDepth 100000 in
set_option maxHeartbeats 1000000 in
theorem attribute_v (v : Value) (f : Wn.Fs) (w : World) (hv : Vals w v f) (ht : Tl f) :
    Calls Tryz.prog 179 #[v] w (AttrPost (Wn.attrF f) w) := by
  have hE : Enters 202 := enters_of Tryz.func202 (by kernel_rfl) rfl
  have BX := Lib.hid (boxes2 w)
  have QW := Lib.hid (fun W (hb : Boxes2 w W) =>
    whole_v Wn.attrR 202 #[.pointer (some ⟨w.heap.size + 1, 0, none⟩)] (fun b => b = w.heap.size + 1) (SmAt (w.heap.size + 1)) v f w.heap.size W
      (hv.old.below hb.below) ht (by have := hb.size; omega) (by rintro b rfl; have := hb.size; omega) hE
      (fun x W1 W2 hs ho => ⟨(ho.block _ (lt_of_block hs.1) (by have := hb.size; omega)).trans hs.1, hs.2⟩)
      (fun W1 hb1 hr1 => attribute1_v W.heap.size w.heap.size (w.heap.size + 1) (Wn.dropB f) W1 hr1 (hb.b1.below hb1) (by have := hb.size; omega) (by omega)))
  have hmf : ∀ (fn : Fn) (first cap : Array Value) (w : World), (Instr.makeFunc fn first cap).run Tryz.prog w = .ok (.func fn first cap) w := fun _ _ _ _ => rfl
  have hform : ∃ ao n c, v = .slice ao n c := by obtain ⟨ao, cap, hv, _⟩ := hv.form; exact ⟨_, _, _, hv⟩
  obtain ⟨vo, vn, vc, rfl⟩ := hform
  clear hv
  go_enter Tryz.func179, Tryz.ntmps179
  go_wp2_with fail
  generalize (w.alloc (.cells #[.int .i64 0, .string ⟨#[]⟩, .string ⟨#[]⟩, .int .i64 0, .int .i64 0, .slice none 0 0] 51)).alloc (.cells #[.int .i64 0, .string ⟨#[]⟩, .string ⟨#[]⟩, .int .i64 0, .int .i64 0, .slice none 0 0] 51) = W at *
  refine (QW.out W BX.out).mono ?_
  have hz := BX.out.size
  rintro e w1 (⟨x, hp, rfl, hk, h1, h2⟩ | ⟨hp, rfl, hk⟩)
  · have hb1 : Below w.heap.size w w1 := BX.out.below.trans (hk.below (by omega) (by rintro b rfl; omega))
    have hn0 : SBox w1 w.heap.size := (hk.block w.heap.size (by omega) (by show ¬ _ = _; omega)).trans BX.out.b0
    unfold SBox at hn0
    (have q0r := cell_of_block (o := 0) hn0; have q1r := cell_of_block (o := 1) hn0; have q2r := cell_of_block (o := 2) hn0; have q3r := cell_of_block (o := 3) hn0; have q4r := cell_of_block (o := 4) hn0; have q5r := cell_of_block (o := 5) hn0; have z0r := frozen_blk hn0 0; have z1r := frozen_blk hn0 1; have z2r := frozen_blk hn0 2; have z3r := frozen_blk hn0 3; have z4r := frozen_blk hn0 4; have z5r := frozen_blk hn0 5; simp only [List.getElem?_toArray, List.getElem?_cons_zero, List.getElem?_cons_succ] at q0r q1r q2r q3r q4r q5r)
    (have q0s := cell_of_block (o := 0) h1; have q1s := cell_of_block (o := 1) h1; have q2s := cell_of_block (o := 2) h1; have q3s := cell_of_block (o := 3) h1; have q4s := cell_of_block (o := 4) h1; have q5s := cell_of_block (o := 5) h1; have z0s := frozen_blk h1 0; have z1s := frozen_blk h1 1; have z2s := frozen_blk h1 2; have z3s := frozen_blk h1 3; have z4s := frozen_blk h1 4; have z5s := frozen_blk h1 5; simp only [List.getElem?_toArray, List.getElem?_cons_zero, List.getElem?_cons_succ] at q0s q1s q2s q3s q4s q5s)
    have HB1 := Lib.hid hb1
    have HP := Lib.hid hp
    have H2 := Lib.hid h2
    have hl0 := lt_of_block hn0
    have hl1 := lt_of_block h1
    clear hp hk h1 h2 hb1 QW BX hn0 hz
    go_wp2_with fail
    refine bodyPost_ret (v := .agg #[.int .i64 x.k, .string (Wn.str x.n), .string (Wn.str x.v), .int .i64 x.a, .int .i64 x.b, .slice none 0 0]) (by simp [results, Tryz.results179, go_sem, q0r, q1r, q2r, q3r, q4r, q5r]) rfl ?_
    exact .inl ⟨x, HP.out, H2.out, rfl, HB1.out.trans ((Only.kp (set6_kp _ _ _ _ _ _ _ _)).below (by omega) (by rintro b rfl; omega))⟩
  · have hb1 : Below w.heap.size w w1 := BX.out.below.trans (hk.below (by omega) (by rintro b rfl; omega))
    exact ⟨rfl, .inr ⟨hp, rfl, hb1⟩⟩
end Go.Proofs.YtncknaagbafhhaaGreatDoor
set_option linter.unusedVariables false
set_option linter.unusedSimpArgs false
set_option maxRecDepth 20000
namespace Go.Proofs.YtncknaagbafhhaaGreatDoor
open Go.RowKit Go.Sort
/-- a simple selector by value, made by the call -/
def SmNew (base : Nat) (w : World) (x : Wn.Sm) (u : Value) : Prop := SsP w (fun b => base ≤ b) u x.l ∧ (x.l = .nil → u = .slice none 0 0)
theorem SmNew.nil {base : Nat} {w : World} {x : Wn.Sm} (h : x.l = .nil) : SmNew base w x (.slice none 0 0) := ⟨by rw [h]; exact SsP.nil _ _, fun _ => rfl⟩
theorem SmNew.same {base base' : Nat} {w w' : World} {x : Wn.Sm} {u : Value} (h : SmNew base w x u) (hb : base' ≤ base) (hs : ∀ b, base ≤ b → b < w.heap.size → w'.heap[b]? = w.heap[b]?) : SmNew base' w' x u :=
  ⟨h.1.same hs (fun b hb' _ => by omega), h.2⟩
theorem SmNew.slice {base : Nat} {w : World} {x : Wn.Sm} {u : Value} (h : SmNew base w x u) : ∃ ao n c, u = .slice ao n c := by obtain ⟨ao, cap, hv, _⟩ := h.1.form; exact ⟨_, _, _, hv⟩
def FuncPost (res : Option Wn.Sm) (w : World) (e : Ending) (w' : World) : Prop :=
  (∃ x u, res = some x ∧ e = .returned (smV x u) ∧ SmNew w.heap.size w' x u ∧ Below w.heap.size w w') ∨ (res = none ∧ e = .panicked invalidP ∧ Below w.heap.size w w')
/-- what inNot answers -/
def NotSaid : Prop := ∀ (v : Value) (f : Wn.Fs) (w : World), Vals w v f → Tl f → Calls Tryz.prog 215 #[v] w (AttrPost (Wn.inNot f) w)
/-- a slice of one simple selector -/
theorem one_sm {w : World} {y : Wn.Sm} (hy : y.l = .nil) (k : Nat) (hk : k = w.heap.size) : SmNew k (w.alloc (.cells #[.int .i64 y.k, .string (Wn.str y.n), .string (Wn.str y.v), .int .i64 y.a, .int .i64 y.b, .slice none 0 0] 51)) ⟨11, [], [], 0, 0, y.on .nil⟩ (.slice (some ⟨k, 0, none⟩) 1 1) := by
  subst hk
  refine ⟨?_, fun h => by cases h⟩
  show SsP _ _ _ (y.on .nil)
  rw [SsP.k]
  have e : (y.on .nil).toL = [y] := by cases y; rfl
  rw [e]
  have hr : smK.R (w.alloc (.cells #[.int .i64 y.k, .string (Wn.str y.n), .string (Wn.str y.v), .int .i64 y.a, .int .i64 y.b, .slice none 0 0] 51)) (fun b => w.heap.size ≤ b) (smCells y (.slice none 0 0)) y := ⟨_, rfl, by rw [hy]; exact SsP.nil _ _⟩
  refine RK.P.ofCells (K := smK) (l := [y]) (es := [smCells y (.slice none 0 0)]) ⟨hr, trivial⟩ (Nat.le_refl _) (by unfold maxLen; simp) (Nat.le_refl _) (by simp) fun j u hj => ?_
  rw [cell_of_block (heap_alloc_new w _), Nat.zero_add]
  simpa [smCells] using hj
set_option maxRecDepth 100000 in
set_option maxHeartbeats 1000000 in
theorem function_v (g n : Nat) (pl : Bool) (f0 : Wn.Fs) (t : Wn.Tok) (x : Wn.Fs) (uo : Option Addr) (un uc : Nat) (w : World) (hI : pl = false → NotSaid) (h : Rd w g n pl f0) (hu : Vals w (.slice uo un uc) x) (ht : Tl x) :
    Calls Tryz.prog 205 #[.pointer (some ⟨g, 0, none⟩), .agg #[.int .i64 5, .int .i64 t.1, .string (Wn.str t.2.1), .int .i64 t.2.2, .slice uo un uc]] w (FuncPost (Wn.funcG (Wn.ntOf pl) t.2.1 x) w) := by
  have hgl := h.lt
  obtain ⟨rv, hgb, _⟩ := h.ex
  have hB : Below w.heap.size w ((w.alloc (.cells #[.int .i64 5, .int .i64 t.1, .string (Wn.str t.2.1), .int .i64 t.2.2, .slice uo un uc] 80)).alloc (.cells #[.int .i64 0, .string ⟨#[]⟩, .string ⟨#[]⟩, .int .i64 0, .int .i64 0, .slice none 0 0] 51)) := ((Below.refl _ _).alloc (Nat.le_refl _) _).alloc (by simp) _
  have hz1 : (w.alloc (.cells #[.int .i64 5, .int .i64 t.1, .string (Wn.str t.2.1), .int .i64 t.2.2, .slice uo un uc] 80)).heap.size = w.heap.size + 1 := by simp
  have hz : ((w.alloc (.cells #[.int .i64 5, .int .i64 t.1, .string (Wn.str t.2.1), .int .i64 t.2.2, .slice uo un uc] 80)).alloc (.cells #[.int .i64 0, .string ⟨#[]⟩, .string ⟨#[]⟩, .int .i64 0, .int .i64 0, .slice none 0 0] 51)).heap.size = w.heap.size + 2 := by simp
  have hv := block_alloc (heap_alloc_new w (.cells #[.int .i64 5, .int .i64 t.1, .string (Wn.str t.2.1), .int .i64 t.2.2, .slice uo un uc] 80)) (.cells #[.int .i64 0, .string ⟨#[]⟩, .string ⟨#[]⟩, .int .i64 0, .int .i64 0, .slice none 0 0] 51)
  have hn := SBox.new (w.alloc (.cells #[.int .i64 5, .int .i64 t.1, .string (Wn.str t.2.1), .int .i64 t.2.2, .slice uo un uc] 80))
  rw [hz1] at hn
  have c2 := cell_of_block (o := 2) hv
  have c4 := cell_of_block (o := 4) hv
  simp only [List.getElem?_toArray, List.getElem?_cons_zero, List.getElem?_cons_succ] at c2 c4
  have g0 := cell_of_block (o := 1) hgb
  simp only [List.getElem?_toArray, List.getElem?_cons_zero, List.getElem?_cons_succ] at g0
  have g1 := cell_lat hB g0
  have HB := Lib.hid hB
  have HZ := Lib.hid hz
  have HN := Lib.hid hn
  have HU := Lib.hid (hu.below hB)
  have hx := str_list t.2.1
  have HP : Hid (Wn.funcG (Wn.ntOf pl) t.2.1 x = if (t.2.1 == [110, 116, 104, 45, 99, 104, 105, 108, 100]) then (Wn.nthF x).map fun p => ⟨8, [], [], p.1, p.2, .nil⟩ else if (t.2.1 == [110, 111, 116]) then (Wn.ntOf pl x).map fun y => ⟨11, [], [], 0, 0, y.on .nil⟩ else none) := Lib.hid (by unfold Wn.funcG; simp)
  have HI := Lib.hid hI
  have HTL := Lib.hid ht
  clear h hgb g0 hB hz1 hz hv hn hu hI ht
  generalize t.2.2 = tn at *
  generalize t.1 = tk at *
  generalize t.2.1 = tl at *
  generalize Wn.str tl = tx at *
  subst hx
  cases h1 : (tx.toList == [110, 116, 104, 45, 99, 104, 105, 108, 100])
  · cases h2 : (tx.toList == [110, 111, 116])
    · have HE : Hid (Wn.funcG (Wn.ntOf pl) tx.toList x = none) := Lib.hid (by rw [HP.out, h1, h2]; rfl)
      go_enter Tryz.func205, Tryz.ntmps205
      go_wp2_with fail
      generalize (w.alloc (.cells #[.int .i64 5, .int .i64 tk, .string tx, .int .i64 tn, .slice uo un uc] 80)).alloc (.cells #[.int .i64 0, .string ⟨#[]⟩, .string ⟨#[]⟩, .int .i64 0, .int .i64 0, .slice none 0 0] 51) = W at *
      refine (demand_f _).mono ?_
      rintro e w1 ⟨rfl, rfl⟩
      exact ⟨rfl, .inr ⟨HE.out, rfl, HB.out⟩⟩
    · cases pl
      · have HP2 : Hid (Wn.funcG (Wn.ntOf false) tx.toList x = (Wn.inNot x).map fun y => ⟨11, [], [], 0, 0, y.on .nil⟩) := Lib.hid (by rw [HP.out, h1, h2]; rfl)
        have QI := Lib.hid (fun W hu => HI.out rfl (.slice uo un uc) x W hu HTL.out)
        go_enter Tryz.func205, Tryz.ntmps205
        go_wp2_with fail
        generalize (w.alloc (.cells #[.int .i64 5, .int .i64 tk, .string tx, .int .i64 tn, .slice uo un uc] 80)).alloc (.cells #[.int .i64 0, .string ⟨#[]⟩, .string ⟨#[]⟩, .int .i64 0, .int .i64 0, .slice none 0 0] 51) = W at *
        refine (demand_t _).mono ?_
        rintro e w1 ⟨rfl, rfl⟩
        go_wp2_with fail
        refine (QI.out _ HU.out).mono ?_
        rintro e w2 (⟨y, hy, hyl, rfl, b2⟩ | ⟨hy, rfl, b2⟩)
        · have hn2 := HN.out.below b2
          have hl2 := lt_of_block hn2
          unfold SBox at hn2
          (have q0r := cell_of_block (o := 0) hn2; have q1r := cell_of_block (o := 1) hn2; have q2r := cell_of_block (o := 2) hn2; have q3r := cell_of_block (o := 3) hn2; have q4r := cell_of_block (o := 4) hn2; have q5r := cell_of_block (o := 5) hn2; have z0r := frozen_blk hn2 0; have z1r := frozen_blk hn2 1; have z2r := frozen_blk hn2 2; have z3r := frozen_blk hn2 3; have z4r := frozen_blk hn2 4; have z5r := frozen_blk hn2 5; simp only [List.getElem?_toArray, List.getElem?_cons_zero, List.getElem?_cons_succ] at q0r q1r q2r q3r q4r q5r)
          have hs2 := b2.size
          have hz := HZ.out
          have HE : Hid (Wn.funcG (Wn.ntOf false) tx.toList x = some ⟨11, [], [], 0, 0, y.on .nil⟩) := Lib.hid (by rw [HP2.out, hy]; rfl)
          have HB2 := Lib.hid (HB.out.trans (b2.mono (by omega)))
          have HYL := Lib.hid hyl
          have hne : ¬ w.heap.size + 1 = w2.heap.size := by omega
          clear hy hyl b2 hn2 QI c2 c4 g1 hz
          go_wp2_with fail
          refine bodyPost_ret (v := .agg #[.int .i64 11, .string ⟨#[]⟩, .string ⟨#[]⟩, .int .i64 0, .int .i64 0, .slice (some ⟨w2.heap.size, 0, none⟩) 1 1]) (by simp [results, Tryz.results205, go_sem, q0r, q1r, q2r, q3r, q4r, q5r, hl2, hne]) rfl ?_
          exact .inl ⟨_, _, HE.out, rfl, (one_sm HYL.out w2.heap.size (by simp [World.setCell])).same (by omega) (fun _ _ _ => rfl), (HB2.out.trans ((Only.kp (set6_kp _ _ _ _ _ _ _ _)).below HB2.out.size (by rintro b rfl; omega))).alloc (by simp [World.setCell]; omega) _⟩
        · exact ⟨rfl, .inr ⟨by rw [HP2.out, hy]; rfl, rfl, HB.out.trans (b2.mono HB.out.size)⟩⟩
      · have HE : Hid (Wn.funcG (Wn.ntOf true) tx.toList x = none) := Lib.hid (by rw [HP.out, h1, h2]; rfl)
        go_enter Tryz.func205, Tryz.ntmps205
        go_wp2_with fail
        generalize (w.alloc (.cells #[.int .i64 5, .int .i64 tk, .string tx, .int .i64 tn, .slice uo un uc] 80)).alloc (.cells #[.int .i64 0, .string ⟨#[]⟩, .string ⟨#[]⟩, .int .i64 0, .int .i64 0, .slice none 0 0] 51) = W at *
        refine (demand_f _).mono ?_
        rintro e w1 ⟨rfl, rfl⟩
        exact ⟨rfl, .inr ⟨HE.out, rfl, HB.out⟩⟩
  · have HP2 : Hid (Wn.funcG (Wn.ntOf pl) tx.toList x = (Wn.nthF x).map fun p => ⟨8, [], [], p.1, p.2, .nil⟩) := Lib.hid (by rw [HP.out, h1]; rfl)
    go_enter Tryz.func205, Tryz.ntmps205
    go_wp2_with fail
    generalize (w.alloc (.cells #[.int .i64 5, .int .i64 tk, .string tx, .int .i64 tn, .slice uo un uc] 80)).alloc (.cells #[.int .i64 0, .string ⟨#[]⟩, .string ⟨#[]⟩, .int .i64 0, .int .i64 0, .slice none 0 0] 51) = W at *
    refine (nth_v _ x _ HU.out HTL.out).mono ?_
    rintro e w2 (⟨p, hp, rfl, b2⟩ | ⟨hp, rfl, b2⟩)
    · have hn2 := HN.out.below b2
      unfold SBox at hn2
      (have q0r := cell_of_block (o := 0) hn2; have q1r := cell_of_block (o := 1) hn2; have q2r := cell_of_block (o := 2) hn2; have q3r := cell_of_block (o := 3) hn2; have q4r := cell_of_block (o := 4) hn2; have q5r := cell_of_block (o := 5) hn2; have z0r := frozen_blk hn2 0; have z1r := frozen_blk hn2 1; have z2r := frozen_blk hn2 2; have z3r := frozen_blk hn2 3; have z4r := frozen_blk hn2 4; have z5r := frozen_blk hn2 5; simp only [List.getElem?_toArray, List.getElem?_cons_zero, List.getElem?_cons_succ] at q0r q1r q2r q3r q4r q5r)
      have HE : Hid (Wn.funcG (Wn.ntOf pl) tx.toList x = some ⟨8, [], [], p.1, p.2, .nil⟩) := Lib.hid (by rw [HP2.out, hp]; rfl)
      have HB2 := Lib.hid (HB.out.trans (b2.mono HB.out.size))
      clear hp b2 hn2 c2 c4 g1
      go_wp2_with fail
      refine bodyPost_ret (v := .agg #[.int .i64 8, .string ⟨#[]⟩, .string ⟨#[]⟩, .int .i64 p.1, .int .i64 p.2, .slice none 0 0]) (by simp [results, Tryz.results205, go_sem, q0r, q1r, q2r, q3r, q4r, q5r]) rfl ?_
      exact .inl ⟨_, _, HE.out, rfl, SmNew.nil rfl, HB2.out.trans ((Only.kp (set6_kp _ _ _ _ _ _ _ _)).below HB2.out.size (by rintro b rfl; omega))⟩
    · exact ⟨rfl, .inr ⟨by rw [HP2.out, hp]; rfl, rfl, HB.out.trans (b2.mono HB.out.size)⟩⟩
def ColonPost (g n : Nat) (pl : Bool) (res : Option (Wn.Sm × Wn.Fs)) (w : World) (e : Ending) (w' : World) : Prop :=
  (∃ x u r, res = some (x, r) ∧ e = .returned (smV x u) ∧ SmNew w.heap.size w' x u ∧ Rd w' g n pl r ∧ Only g w w') ∨ (res = none ∧ e = .panicked invalidP ∧ Only g w w')
theorem valF_tl {f : Wn.Fs} {kind : Int} {t : Wn.Tok} {x r : Wn.Fs} (h : Wn.valF kind f = some ((t, x), r)) (ht : Tl f) : Tl x ∧ Tl r := by
  cases f with
  | nil => cases h
  | cons k t' x' r' =>
    simp only [Wn.valF] at h
    split at h
    · simp only [Option.some.injEq, Prod.mk.injEq] at h; obtain ⟨⟨rfl, rfl⟩, rfl⟩ := h; exact ht.cons.2
    · cases h
set_option maxRecDepth 100000 in
set_option maxHeartbeats 1000000 in
theorem pseudoClass_v (g n : Nat) (pl : Bool) (f : Wn.Fs) (w : World) (hI : pl = false → NotSaid) (h : Rd w g n pl f) :
    Calls Tryz.prog 181 #[.pointer (some ⟨g, 0, none⟩)] w (ColonPost g n pl (Wn.colonG (Wn.ntOf pl) f) w) := by
  have hgl := h.lt
  have BX : Hid (Below w.heap.size w (w.alloc (.cells #[.int .i64 0, .string ⟨#[]⟩, .string ⟨#[]⟩, .int .i64 0, .int .i64 0, .slice none 0 0] 51))) := Lib.hid ((Below.refl _ _).alloc (Nat.le_refl _) _)
  have hR0 := h.below BX.out
  have QV := Lib.hid (value_v g n pl f 5 _ hR0)
  have HN := Lib.hid (SBox.new w)
  have HTL := Lib.hid h.tl
  have HI := Lib.hid hI
  have hle := h.le
  clear h hI hR0
  go_enter Tryz.func181, Tryz.ntmps181
  go_wp2_with fail
  generalize w.alloc (.cells #[.int .i64 0, .string ⟨#[]⟩, .string ⟨#[]⟩, .int .i64 0, .int .i64 0, .slice none 0 0] 51) = W at *
  refine QV.out.mono ?_
  rintro e w1 (⟨t, x, r, uo, un, uc, hf, rfl, hu, hr, ho⟩ | ⟨hf, rfl, hr, ho⟩)
  · have hb1 : Below w1.heap.size w1 (w1.alloc (.cells #[.int .i64 5, .int .i64 t.1, .string (Wn.str t.2.1), .int .i64 t.2.2, .slice uo un uc] 80)) := (Below.refl _ _).alloc (Nat.le_refl _) _
    have hn1 := HN.out.only ho (by omega)
    have HP : Hid (Wn.colonG (Wn.ntOf pl) f = (Wn.funcG (Wn.ntOf pl) t.2.1 x).map fun y => (y, r)) := Lib.hid (by unfold Wn.colonG; rw [hf])
    have HN1 := Lib.hid (hn1.below hb1)
    have HR1 := Lib.hid (hr.below hb1)
    have HO1 := Lib.hid (((Below.only BX.out).trans ho).trans (Below.only hb1))
    have QF := Lib.hid (function_v g n pl r t x uo un uc _ HI.out (hr.below hb1) (hu.any.below hb1) (valF_tl hf HTL.out).1)
    clear hf hu hr ho hn1 hb1 QV HN
    go_wp2_with fail
    generalize w1.alloc (.cells #[.int .i64 5, .int .i64 t.1, .string (Wn.str t.2.1), .int .i64 t.2.2, .slice uo un uc] 80) = W1 at *
    refine QF.out.mono ?_
    rintro e w2 (⟨y, u, hy, rfl, hsm, b2⟩ | ⟨hy, rfl, b2⟩)
    · have hn2 := HN1.out.below b2
      have hl1 := lt_of_block HN1.out
      have hl2 := lt_of_block hn2
      unfold SBox at hn2
      (have q0r := cell_of_block (o := 0) hn2; have q1r := cell_of_block (o := 1) hn2; have q2r := cell_of_block (o := 2) hn2; have q3r := cell_of_block (o := 3) hn2; have q4r := cell_of_block (o := 4) hn2; have q5r := cell_of_block (o := 5) hn2; have z0r := frozen_blk hn2 0; have z1r := frozen_blk hn2 1; have z2r := frozen_blk hn2 2; have z3r := frozen_blk hn2 3; have z4r := frozen_blk hn2 4; have z5r := frozen_blk hn2 5; simp only [List.getElem?_toArray, List.getElem?_cons_zero, List.getElem?_cons_succ] at q0r q1r q2r q3r q4r q5r)
      have HE : Hid (Wn.colonG (Wn.ntOf pl) f = some (y, r)) := Lib.hid (by rw [HP.out, hy]; rfl)
      have HR2 := Lib.hid (HR1.out.below b2)
      have HO2 := Lib.hid (HO1.out.trans (Below.only b2))
      have HSM := Lib.hid hsm
      obtain ⟨yo, yn, yc, rfl⟩ := hsm.slice
      clear hy hsm b2 hn2 QF HR1 HO1 HN1
      go_wp2_with fail
      refine bodyPost_ret (v := .agg #[.int .i64 y.k, .string (Wn.str y.n), .string (Wn.str y.v), .int .i64 y.a, .int .i64 y.b, .slice yo yn yc]) (by simp [results, Tryz.results181, go_sem, q0r, q1r, q2r, q3r, q4r, q5r]) rfl ?_
      exact .inl ⟨_, _, r, HE.out, rfl, HSM.out.same (by omega) (fun b hb hl => (set6_kp _ _ _ _ _ _ _ _).block b hl (by omega)), HR2.out.ends hgl (by (repeat' (first | with_reducible exact Kp.refl _ _ | (with_reducible refine Kp.alloc ?_ _) | (with_reducible refine Kp.drew ?_) | (with_reducible refine Kp.setN ?_ (Nat.le_refl _) _) | (with_reducible refine Kp.setN ?_ (Nat.le_succ _) _) | ((with_reducible refine Kp.setN ?_ ?_ _); rotate_left; (focus (first | omega | (simp; omega)))))); (first | done | fail)), HO2.out.ends (by (repeat' (first | with_reducible exact Kp.refl _ _ | (with_reducible refine Kp.alloc ?_ _) | (with_reducible refine Kp.drew ?_) | (with_reducible refine Kp.setN ?_ (Nat.le_refl _) _) | (with_reducible refine Kp.setN ?_ (Nat.le_succ _) _) | ((with_reducible refine Kp.setN ?_ ?_ _); rotate_left; (focus (first | omega | (simp; omega)))))); (first | done | fail))⟩
    · exact ⟨rfl, .inr ⟨by rw [HP.out, hy]; rfl, rfl, HO1.out.trans (Below.only b2)⟩⟩
  · have hb1 : Below w1.heap.size w1 (w1.alloc (.cells #[.int .i64 0, .int .i64 0, .string ⟨#[]⟩, .int .i64 0, .slice none 0 0] 80)) := (Below.refl _ _).alloc (Nat.le_refl _) _
    have HP : Hid (Wn.colonG (Wn.ntOf pl) f = match Wn.tokF 1 f with | none => none | some p => (Wn.stateW p.1.2.1).map fun x => (x, p.2)) := Lib.hid (by unfold Wn.colonG; rw [hf]; rfl)
    have HN1 := Lib.hid ((HN.out.only ho (by omega)).below hb1)
    have HO1 := Lib.hid (((Below.only BX.out).trans ho).trans (Below.only hb1))
    have QM := Lib.hid (name_v g n pl f _ (hr.below hb1))
    clear hf hr ho hb1 QV HN
    go_wp2_with fail
    generalize w1.alloc (.cells #[.int .i64 0, .int .i64 0, .string ⟨#[]⟩, .int .i64 0, .slice none 0 0] 80) = W1 at *
    refine QM.out.mono ?_
    rintro e w2 (⟨t, r, hf, rfl, hr, ho⟩ | ⟨hf, rfl, ho⟩)
    · have hn2 := HN1.out.only ho (by omega)
      have hl2 := lt_of_block hn2
      unfold SBox at hn2
      (have q0r := cell_of_block (o := 0) hn2; have q1r := cell_of_block (o := 1) hn2; have q2r := cell_of_block (o := 2) hn2; have q3r := cell_of_block (o := 3) hn2; have q4r := cell_of_block (o := 4) hn2; have q5r := cell_of_block (o := 5) hn2; have z0r := frozen_blk hn2 0; have z1r := frozen_blk hn2 1; have z2r := frozen_blk hn2 2; have z3r := frozen_blk hn2 3; have z4r := frozen_blk hn2 4; have z5r := frozen_blk hn2 5; simp only [List.getElem?_toArray, List.getElem?_cons_zero, List.getElem?_cons_succ] at q0r q1r q2r q3r q4r q5r)
      have HP2 : Hid (Wn.colonG (Wn.ntOf pl) f = (Wn.stateW t.2.1).map fun x => (x, r)) := Lib.hid (by rw [HP.out, hf])
      have HW : Hid (Wn.stateW t.2.1 = if (t.2.1 == [114, 111, 111, 116]) then some (Wn.sBare 9) else if (t.2.1 == [101, 109, 112, 116, 121]) then some (Wn.sBare 10) else if (t.2.1 == [102, 105, 114, 115, 116, 45, 99, 104, 105, 108, 100]) then some ⟨8, [], [], 0, 1, .nil⟩ else if Wn.isState t.2.1 then some (Wn.sNam 7 t.2.1) else none) := Lib.hid (by unfold Wn.stateW; simp)
      have HR2 := Lib.hid hr
      have HO2 := Lib.hid (HO1.out.trans ho)
      have QS := Lib.hid (fun w => isState_v t.2.1 w)
      have hx := str_list t.2.1
      clear hf hr ho hn2 QM HO1 HN1
      generalize t.2.1 = tl at *
      generalize hxs : Wn.str tl = tx at *
      have HXS := Lib.hid hxs
      clear hxs
      subst hx
      cases h1 : (tx.toList == [114, 111, 111, 116])
      · cases h2 : (tx.toList == [101, 109, 112, 116, 121])
        · cases h3 : (tx.toList == [102, 105, 114, 115, 116, 45, 99, 104, 105, 108, 100])
          · cases h4 : Wn.isState tx.toList
            · have HE : Hid (Wn.colonG (Wn.ntOf pl) f = none) := Lib.hid (by rw [HP2.out, HW.out, h1, h2, h3, h4]; rfl)
              go_wp2_with fail
              refine (QS.out _).mono ?_
              rintro e w3 ⟨rfl, rfl⟩
              rw [h4]
              go_wp2_with fail
              refine (demand_f _).mono ?_
              rintro e w3 ⟨rfl, rfl⟩
              exact ⟨rfl, .inr ⟨HE.out, rfl, HO2.out⟩⟩
            · have HE : Hid (Wn.colonG (Wn.ntOf pl) f = some (Wn.sNam 7 tx.toList, r)) := Lib.hid (by rw [HP2.out, HW.out, h1, h2, h3, h4]; rfl)
              go_wp2_with fail
              refine (QS.out _).mono ?_
              rintro e w3 ⟨rfl, rfl⟩
              rw [h4]
              go_wp2_with fail
              refine (demand_t _).mono ?_
              rintro e w3 ⟨rfl, rfl⟩
              go_wp2_with fail
              refine bodyPost_ret (v := .agg #[.int .i64 7, .string tx, .string ⟨#[]⟩, .int .i64 0, .int .i64 0, .slice none 0 0]) (by simp [results, Tryz.results181, go_sem, q0r, q1r, q2r, q3r, q4r, q5r]) rfl ?_
              exact .inl ⟨_, _, r, HE.out, by show _ = Ending.returned (Value.agg #[.int .i64 7, .string (Wn.str tx.toList), .string (Wn.str []), .int .i64 0, .int .i64 0, .slice none 0 0]); rw [HXS.out]; rfl, SmNew.nil rfl, HR2.out.ends hgl (by (repeat' (first | with_reducible exact Kp.refl _ _ | (with_reducible refine Kp.alloc ?_ _) | (with_reducible refine Kp.drew ?_) | (with_reducible refine Kp.setN ?_ (Nat.le_refl _) _) | (with_reducible refine Kp.setN ?_ (Nat.le_succ _) _) | ((with_reducible refine Kp.setN ?_ ?_ _); rotate_left; (focus (first | omega | (simp; omega)))))); (first | done | fail)), HO2.out.ends (by (repeat' (first | with_reducible exact Kp.refl _ _ | (with_reducible refine Kp.alloc ?_ _) | (with_reducible refine Kp.drew ?_) | (with_reducible refine Kp.setN ?_ (Nat.le_refl _) _) | (with_reducible refine Kp.setN ?_ (Nat.le_succ _) _) | ((with_reducible refine Kp.setN ?_ ?_ _); rotate_left; (focus (first | omega | (simp; omega)))))); (first | done | fail))⟩
          · have HE : Hid (Wn.colonG (Wn.ntOf pl) f = some (⟨8, [], [], 0, 1, .nil⟩, r)) := Lib.hid (by rw [HP2.out, HW.out, h1, h2, h3]; rfl)
            go_wp2_with fail
            refine bodyPost_ret (v := .agg #[.int .i64 8, .string ⟨#[]⟩, .string ⟨#[]⟩, .int .i64 0, .int .i64 1, .slice none 0 0]) (by simp [results, Tryz.results181, go_sem, q0r, q1r, q2r, q3r, q4r, q5r]) rfl ?_
            exact .inl ⟨_, _, r, HE.out, rfl, SmNew.nil rfl, HR2.out.ends hgl (by (repeat' (first | with_reducible exact Kp.refl _ _ | (with_reducible refine Kp.alloc ?_ _) | (with_reducible refine Kp.drew ?_) | (with_reducible refine Kp.setN ?_ (Nat.le_refl _) _) | (with_reducible refine Kp.setN ?_ (Nat.le_succ _) _) | ((with_reducible refine Kp.setN ?_ ?_ _); rotate_left; (focus (first | omega | (simp; omega)))))); (first | done | fail)), HO2.out.ends (by (repeat' (first | with_reducible exact Kp.refl _ _ | (with_reducible refine Kp.alloc ?_ _) | (with_reducible refine Kp.drew ?_) | (with_reducible refine Kp.setN ?_ (Nat.le_refl _) _) | (with_reducible refine Kp.setN ?_ (Nat.le_succ _) _) | ((with_reducible refine Kp.setN ?_ ?_ _); rotate_left; (focus (first | omega | (simp; omega)))))); (first | done | fail))⟩
        · have HE : Hid (Wn.colonG (Wn.ntOf pl) f = some (Wn.sBare 10, r)) := Lib.hid (by rw [HP2.out, HW.out, h1, h2]; rfl)
          go_wp2_with fail
          refine bodyPost_ret (v := .agg #[.int .i64 10, .string ⟨#[]⟩, .string ⟨#[]⟩, .int .i64 0, .int .i64 0, .slice none 0 0]) (by simp [results, Tryz.results181, go_sem, q0r, q1r, q2r, q3r, q4r, q5r]) rfl ?_
          exact .inl ⟨_, _, r, HE.out, rfl, SmNew.nil rfl, HR2.out.ends hgl (by (repeat' (first | with_reducible exact Kp.refl _ _ | (with_reducible refine Kp.alloc ?_ _) | (with_reducible refine Kp.drew ?_) | (with_reducible refine Kp.setN ?_ (Nat.le_refl _) _) | (with_reducible refine Kp.setN ?_ (Nat.le_succ _) _) | ((with_reducible refine Kp.setN ?_ ?_ _); rotate_left; (focus (first | omega | (simp; omega)))))); (first | done | fail)), HO2.out.ends (by (repeat' (first | with_reducible exact Kp.refl _ _ | (with_reducible refine Kp.alloc ?_ _) | (with_reducible refine Kp.drew ?_) | (with_reducible refine Kp.setN ?_ (Nat.le_refl _) _) | (with_reducible refine Kp.setN ?_ (Nat.le_succ _) _) | ((with_reducible refine Kp.setN ?_ ?_ _); rotate_left; (focus (first | omega | (simp; omega)))))); (first | done | fail))⟩
      · have HE : Hid (Wn.colonG (Wn.ntOf pl) f = some (Wn.sBare 9, r)) := Lib.hid (by rw [HP2.out, HW.out, h1]; rfl)
        go_wp2_with fail
        refine bodyPost_ret (v := .agg #[.int .i64 9, .string ⟨#[]⟩, .string ⟨#[]⟩, .int .i64 0, .int .i64 0, .slice none 0 0]) (by simp [results, Tryz.results181, go_sem, q0r, q1r, q2r, q3r, q4r, q5r]) rfl ?_
        exact .inl ⟨_, _, r, HE.out, rfl, SmNew.nil rfl, HR2.out.ends hgl (by (repeat' (first | with_reducible exact Kp.refl _ _ | (with_reducible refine Kp.alloc ?_ _) | (with_reducible refine Kp.drew ?_) | (with_reducible refine Kp.setN ?_ (Nat.le_refl _) _) | (with_reducible refine Kp.setN ?_ (Nat.le_succ _) _) | ((with_reducible refine Kp.setN ?_ ?_ _); rotate_left; (focus (first | omega | (simp; omega)))))); (first | done | fail)), HO2.out.ends (by (repeat' (first | with_reducible exact Kp.refl _ _ | (with_reducible refine Kp.alloc ?_ _) | (with_reducible refine Kp.drew ?_) | (with_reducible refine Kp.setN ?_ (Nat.le_refl _) _) | (with_reducible refine Kp.setN ?_ (Nat.le_succ _) _) | ((with_reducible refine Kp.setN ?_ ?_ _); rotate_left; (focus (first | omega | (simp; omega)))))); (first | done | fail))⟩
    · exact ⟨rfl, .inr ⟨by rw [HP.out, hf], rfl, HO1.out.trans ho⟩⟩
end Go.Proofs.YtncknaagbafhhaaGreatDoor
