/- What the reader's simple answers. What inNot answers. -/
import Derived.Test.YtncknaagbafhhaaGreatDoorHE
set_option linter.unusedVariables false
set_option linter.unusedSimpArgs false
set_option maxRecDepth 20000
namespace Go.Proofs.YtncknaagbafhhaaGreatDoor
open Go.RowKit Go.Sort
def SimpPost (g n : Nat) (pl : Bool) (f : Wn.Fs) (res : Option (Option (Wn.Sm × Wn.Fs))) (w : World) (e : Ending) (w' : World) : Prop :=
  (∃ x u r, res = some (some (x, r)) ∧ e = .returned (.tuple #[smV x u, .bool true]) ∧ SmNew w.heap.size w' x u ∧ Rd w' g n pl r ∧ Only g w w') ∨
  (res = some none ∧ e = .returned (.tuple #[smZ, .bool false]) ∧ Rd w' g n pl f ∧ Only g w w') ∨ (res = none ∧ e = .panicked invalidP ∧ Only g w w')
set_option maxRecDepth 100000 in
set_option maxHeartbeats 2000000 in
theorem simple_no (g n : Nat) (pl : Bool) (f : Wn.Fs) (w : World) (hI : pl = false → NotSaid) (h : Rd w g n pl f) :
    Calls Tryz.prog 148 #[.pointer (some ⟨g, 0, none⟩), .bool false] w (SimpPost g n pl f (Wn.simpG (Wn.ntOf pl) false f) w) := by
  have hgl := h.lt
  have hB : Below w.heap.size w (w.alloc (.cells #[.int .i64 0, .string ⟨#[]⟩, .string ⟨#[]⟩, .int .i64 0, .int .i64 0, .slice none 0 0] 51)) := (Below.refl _ _).alloc (Nat.le_refl _) _
  have HR1 := Lib.hid (h.below hB)
  have HN1 := Lib.hid (SBox.new w)
  have HO1 := Lib.hid (Below.only (g := g) hB)
  have HI := Lib.hid hI
  generalize hres : Wn.simpG (Wn.ntOf pl) false f = RES
  have HP : Hid (RES = Wn.laterG (Wn.ntOf pl) f) := Lib.hid (by rw [← hres]; rfl)
  clear h hI hB hres
  go_enter Tryz.func148, Tryz.ntmps148
  go_wp2_with fail
  generalize w.alloc (.cells #[.int .i64 0, .string ⟨#[]⟩, .string ⟨#[]⟩, .int .i64 0, .int .i64 0, .slice none 0 0] 51) = W1 at *
  go_wp2_with fail
  refine (token_v g n pl f 4 W1 HR1.out).mono ?_
  rintro e w1 (⟨t, r, hf, rfl, hr, ho⟩ | ⟨hf, rfl, hr, ho⟩)
  · have hb1 : Below w1.heap.size w1 (w1.alloc (.cells #[.int .i64 t.1, .string (Wn.str t.2.1), .int .i64 t.2.2] 78)) := (Below.refl _ _).alloc (Nat.le_refl _) _
    have HE : Hid (RES = some (some (Wn.sNam 3 t.2.1, r))) := Lib.hid (by rw [HP.out]; unfold Wn.laterG; rw [hf])
    have hn2 := (HN1.out.only ho (by omega)).below hb1
    unfold SBox at hn2
    (have q0r := cell_of_block (o := 0) hn2; have q1r := cell_of_block (o := 1) hn2; have q2r := cell_of_block (o := 2) hn2; have q3r := cell_of_block (o := 3) hn2; have q4r := cell_of_block (o := 4) hn2; have q5r := cell_of_block (o := 5) hn2; have z0r := frozen_blk hn2 0; have z1r := frozen_blk hn2 1; have z2r := frozen_blk hn2 2; have z3r := frozen_blk hn2 3; have z4r := frozen_blk hn2 4; have z5r := frozen_blk hn2 5; simp only [List.getElem?_toArray, List.getElem?_cons_zero, List.getElem?_cons_succ] at q0r q1r q2r q3r q4r q5r)
    have HR2 := Lib.hid (hr.below hb1)
    have HO2 := Lib.hid ((HO1.out.trans ho).trans (Below.only hb1))
    clear hf hr ho hb1 hn2 HR1 HO1 HN1 HP
    go_wp2_with fail
    generalize w1.alloc (.cells #[.int .i64 t.1, .string (Wn.str t.2.1), .int .i64 t.2.2] 78) = W2 at *
    refine bodyPost_ret (v := .tuple #[.agg #[.int .i64 3, .string (Wn.str t.2.1), .string ⟨#[]⟩, .int .i64 0, .int .i64 0, .slice none 0 0], .bool true]) (by simp [results, Tryz.results148, go_sem, q0r, q1r, q2r, q3r, q4r, q5r]) rfl ?_
    exact .inl ⟨_, _, r, HE.out, rfl, SmNew.nil rfl, HR2.out.ends hgl (by (repeat' (first | with_reducible exact Kp.refl _ _ | (with_reducible refine Kp.alloc ?_ _) | (with_reducible refine Kp.drew ?_) | (with_reducible refine Kp.setN ?_ (Nat.le_refl _) _) | (with_reducible refine Kp.setN ?_ (Nat.le_succ _) _) | ((with_reducible refine Kp.setN ?_ ?_ _); rotate_left; (focus (first | omega | (simp; omega)))))); (first | done | fail)), HO2.out.ends (by (repeat' (first | with_reducible exact Kp.refl _ _ | (with_reducible refine Kp.alloc ?_ _) | (with_reducible refine Kp.drew ?_) | (with_reducible refine Kp.setN ?_ (Nat.le_refl _) _) | (with_reducible refine Kp.setN ?_ (Nat.le_succ _) _) | ((with_reducible refine Kp.setN ?_ ?_ _); rotate_left; (focus (first | omega | (simp; omega)))))); (first | done | fail))⟩
  · have hb1 : Below w1.heap.size w1 (w1.alloc (.cells #[.int .i64 0, .string ⟨#[]⟩, .int .i64 0] 78)) := (Below.refl _ _).alloc (Nat.le_refl _) _
    have HF4 := Lib.hid hf
    have hz2 : (w1.alloc (.cells #[.int .i64 0, .string ⟨#[]⟩, .int .i64 0] 78)).heap.size = w1.heap.size + 1 := by simp
    have HZ2 := Lib.hid hz2
    have HN2 := Lib.hid ((HN1.out.only ho (by omega)).below hb1)
    have HR2 := Lib.hid (hr.below hb1)
    have HO2 := Lib.hid ((HO1.out.trans ho).trans (Below.only hb1))
    clear hf hr ho hb1 hz2 HR1 HO1 HN1
    go_wp2_with fail
    generalize w1.alloc (.cells #[.int .i64 0, .string ⟨#[]⟩, .int .i64 0] 78) = W2 at *
    refine (delim1_v g n pl f [46] W2 _ HZ2.out.symm HR2.out).mono ?_
    rintro e w3 (⟨r, hs, rfl, hr, ho⟩ | ⟨hs, rfl, hr, ho⟩)
    · have HP3 : Hid (RES = (Wn.tokF 1 r).map fun p => some (Wn.sNam 4 p.1.2.1, p.2)) := Lib.hid (by rw [HP.out]; unfold Wn.laterG; rw [HF4.out, hs])
      have HN3 := Lib.hid (HN2.out.only ho (by omega))
      have HR3 := Lib.hid hr
      have HO3 := Lib.hid (HO2.out.trans ho)
      clear hs hr ho HR2 HO2 HN2 HP HF4 HZ2
      go_wp2_with fail
      refine (name_v g n pl r w3 HR3.out).mono ?_
      rintro e w4 (⟨t, r', hf, rfl, hr, ho⟩ | ⟨hf, rfl, ho⟩)
      · have HE : Hid (RES = some (some (Wn.sNam 4 t.2.1, r'))) := Lib.hid (by rw [HP3.out, hf]; rfl)
        have hn4 := HN3.out.only ho (by omega)
        unfold SBox at hn4
        (have q0r := cell_of_block (o := 0) hn4; have q1r := cell_of_block (o := 1) hn4; have q2r := cell_of_block (o := 2) hn4; have q3r := cell_of_block (o := 3) hn4; have q4r := cell_of_block (o := 4) hn4; have q5r := cell_of_block (o := 5) hn4; have z0r := frozen_blk hn4 0; have z1r := frozen_blk hn4 1; have z2r := frozen_blk hn4 2; have z3r := frozen_blk hn4 3; have z4r := frozen_blk hn4 4; have z5r := frozen_blk hn4 5; simp only [List.getElem?_toArray, List.getElem?_cons_zero, List.getElem?_cons_succ] at q0r q1r q2r q3r q4r q5r)
        have HR4 := Lib.hid hr
        have HO4 := Lib.hid (HO3.out.trans ho)
        clear hf hr ho hn4 HR3 HO3 HN3 HP3
        go_wp2_with fail
        refine bodyPost_ret (v := .tuple #[.agg #[.int .i64 4, .string (Wn.str t.2.1), .string ⟨#[]⟩, .int .i64 0, .int .i64 0, .slice none 0 0], .bool true]) (by simp [results, Tryz.results148, go_sem, q0r, q1r, q2r, q3r, q4r, q5r]) rfl ?_
        exact .inl ⟨_, _, r', HE.out, rfl, SmNew.nil rfl, HR4.out.ends hgl (by (repeat' (first | with_reducible exact Kp.refl _ _ | (with_reducible refine Kp.alloc ?_ _) | (with_reducible refine Kp.drew ?_) | (with_reducible refine Kp.setN ?_ (Nat.le_refl _) _) | (with_reducible refine Kp.setN ?_ (Nat.le_succ _) _) | ((with_reducible refine Kp.setN ?_ ?_ _); rotate_left; (focus (first | omega | (simp; omega)))))); (first | done | fail)), HO4.out.ends (by (repeat' (first | with_reducible exact Kp.refl _ _ | (with_reducible refine Kp.alloc ?_ _) | (with_reducible refine Kp.drew ?_) | (with_reducible refine Kp.setN ?_ (Nat.le_refl _) _) | (with_reducible refine Kp.setN ?_ (Nat.le_succ _) _) | ((with_reducible refine Kp.setN ?_ ?_ _); rotate_left; (focus (first | omega | (simp; omega)))))); (first | done | fail))⟩
      · exact ⟨rfl, .inr (.inr ⟨by rw [HP3.out, hf]; rfl, rfl, HO3.out.trans ho⟩)⟩
    · have HS46 := Lib.hid hs
      have HN3 := Lib.hid (HN2.out.only ho (by omega))
      have HO3 := Lib.hid (HO2.out.trans ho)
      have QV := Lib.hid (value_v g n pl f 3 w3 hr)
      have HTL := Lib.hid hr.tl
      clear hs hr ho HR2 HO2 HN2 HZ2
      go_wp2_with fail
      refine QV.out.mono ?_
      rintro e w4 (⟨t, x, r, uo, un, uc, hf, rfl, hu, hr, ho⟩ | ⟨hf, rfl, hr, ho⟩)
      · have hb4 : Below w4.heap.size w4 (w4.alloc (.cells #[.int .i64 3, .int .i64 t.1, .string (Wn.str t.2.1), .int .i64 t.2.2, .slice uo un uc] 80)) := (Below.refl _ _).alloc (Nat.le_refl _) _
        have HP4 : Hid (RES = (Wn.attrF x).map fun y => some (y, r)) := Lib.hid (by rw [HP.out]; unfold Wn.laterG; rw [HF4.out, HS46.out, hf])
        have HN4 := Lib.hid ((HN3.out.only ho (by omega)).below hb4)
        have HR4 := Lib.hid (hr.below hb4)
        have HO4 := Lib.hid ((HO3.out.trans ho).trans (Below.only hb4))
        have QA := Lib.hid (attribute_v (.slice uo un uc) x _ (hu.any.below hb4) (valF_tl hf HTL.out).1)
        clear hf hu hr ho hb4 HO3 HN3 HP HF4 HS46 QV
        go_wp2_with fail
        generalize w4.alloc (.cells #[.int .i64 3, .int .i64 t.1, .string (Wn.str t.2.1), .int .i64 t.2.2, .slice uo un uc] 80) = W4 at *
        refine QA.out.mono ?_
        rintro e w5 (⟨y, hy, hyl, rfl, b5⟩ | ⟨hy, rfl, b5⟩)
        · have HE : Hid (RES = some (some (y, r))) := Lib.hid (by rw [HP4.out, hy]; rfl)
          have HYL := Lib.hid hyl
          have hn5 := HN4.out.below b5
          unfold SBox at hn5
          (have q0r := cell_of_block (o := 0) hn5; have q1r := cell_of_block (o := 1) hn5; have q2r := cell_of_block (o := 2) hn5; have q3r := cell_of_block (o := 3) hn5; have q4r := cell_of_block (o := 4) hn5; have q5r := cell_of_block (o := 5) hn5; have z0r := frozen_blk hn5 0; have z1r := frozen_blk hn5 1; have z2r := frozen_blk hn5 2; have z3r := frozen_blk hn5 3; have z4r := frozen_blk hn5 4; have z5r := frozen_blk hn5 5; simp only [List.getElem?_toArray, List.getElem?_cons_zero, List.getElem?_cons_succ] at q0r q1r q2r q3r q4r q5r)
          have HR5 := Lib.hid (HR4.out.below b5)
          have HO5 := Lib.hid (HO4.out.trans (Below.only b5))
          clear hy hyl b5 hn5 HR4 HO4 HN4 HP4 QA
          go_wp2_with fail
          refine bodyPost_ret (v := .tuple #[.agg #[.int .i64 y.k, .string (Wn.str y.n), .string (Wn.str y.v), .int .i64 y.a, .int .i64 y.b, .slice none 0 0], .bool true]) (by simp [results, Tryz.results148, go_sem, q0r, q1r, q2r, q3r, q4r, q5r]) rfl ?_
          exact .inl ⟨_, _, r, HE.out, rfl, SmNew.nil HYL.out, HR5.out.ends hgl (by (repeat' (first | with_reducible exact Kp.refl _ _ | (with_reducible refine Kp.alloc ?_ _) | (with_reducible refine Kp.drew ?_) | (with_reducible refine Kp.setN ?_ (Nat.le_refl _) _) | (with_reducible refine Kp.setN ?_ (Nat.le_succ _) _) | ((with_reducible refine Kp.setN ?_ ?_ _); rotate_left; (focus (first | omega | (simp; omega)))))); (first | done | fail)), HO5.out.ends (by (repeat' (first | with_reducible exact Kp.refl _ _ | (with_reducible refine Kp.alloc ?_ _) | (with_reducible refine Kp.drew ?_) | (with_reducible refine Kp.setN ?_ (Nat.le_refl _) _) | (with_reducible refine Kp.setN ?_ (Nat.le_succ _) _) | ((with_reducible refine Kp.setN ?_ ?_ _); rotate_left; (focus (first | omega | (simp; omega)))))); (first | done | fail))⟩
        · exact ⟨rfl, .inr (.inr ⟨by rw [HP4.out, hy]; rfl, rfl, HO4.out.trans (Below.only b5)⟩)⟩
      · have hb4 : Below w4.heap.size w4 (w4.alloc (.cells #[.int .i64 0, .int .i64 0, .string ⟨#[]⟩, .int .i64 0, .slice none 0 0] 80)) := (Below.refl _ _).alloc (Nat.le_refl _) _
        have HP4 : Hid (RES = match Wn.signF [58] f with | none => some none | some r => match Wn.signF [58] r with | some _ => some none | none => (Wn.colonG (Wn.ntOf pl) r).map some) := Lib.hid (by rw [HP.out]; unfold Wn.laterG; rw [HF4.out, HS46.out, hf]; rfl)
        have hz4 : (w4.alloc (.cells #[.int .i64 0, .int .i64 0, .string ⟨#[]⟩, .int .i64 0, .slice none 0 0] 80)).heap.size = w4.heap.size + 1 := by simp
        have HZ4 := Lib.hid hz4
        have HN4 := Lib.hid ((HN3.out.only ho (by omega)).below hb4)
        have HR4 := Lib.hid (hr.below hb4)
        have HO4 := Lib.hid ((HO3.out.trans ho).trans (Below.only hb4))
        have HSD := Lib.hid (Wn.seesD_two [58] [58] f)
        clear hf hr ho hb4 hz4 HO3 HN3 HP HF4 HS46 QV
        go_wp2_with fail
        generalize w4.alloc (.cells #[.int .i64 0, .int .i64 0, .string ⟨#[]⟩, .int .i64 0, .slice none 0 0] 80) = W4 at *
        refine (sees2_v g n pl f [58] [58] W4 _ HZ4.out.symm HR4.out).mono ?_
        rintro e w5 ⟨rfl, b5⟩
        have HN5 := Lib.hid (HN4.out.below b5)
        have HR5 := Lib.hid (HR4.out.below b5)
        have HO5 := Lib.hid (HO4.out.trans (Below.only b5))
        clear b5 HR4 HO4 HN4 HZ4
        cases hsd : Wn.seesD [[58], [58]] f
        · have HP5 : Hid (RES = match Wn.signF [58] f with | none => some none | some r => (Wn.colonG (Wn.ntOf pl) r).map some) := Lib.hid (by
            rw [HP4.out]
            have e := HSD.out
            rw [hsd] at e
            cases h58 : Wn.signF [58] f with
            | none => rfl
            | some r => rw [h58] at e; simp at e; simp only; rw [e])
          clear hsd HSD HP4
          go_wp2_with fail
          refine (delim1_v g n pl f [58] w5 _ rfl HR5.out).mono ?_
          rintro e w6 (⟨r, hs, rfl, hr, ho⟩ | ⟨hs, rfl, hr, ho⟩)
          · have HP6 : Hid (RES = (Wn.colonG (Wn.ntOf pl) r).map some) := Lib.hid (by rw [HP5.out, hs])
            have HN6 := Lib.hid (HN5.out.only ho (by omega))
            have HO6 := Lib.hid (HO5.out.trans ho)
            have QC := Lib.hid (pseudoClass_v g n pl r w6 HI.out hr)
            clear hs hr ho HR5 HO5 HN5 HP5
            go_wp2_with fail
            refine QC.out.mono ?_
            rintro e w7 (⟨y, u, r7, hy, rfl, hsm, hr, ho⟩ | ⟨hy, rfl, ho⟩)
            · have HE : Hid (RES = some (some (y, r7))) := Lib.hid (by rw [HP6.out, hy]; rfl)
              have hl6 := lt_of_block HN6.out
              have hn7 := HN6.out.only ho (by omega)
              unfold SBox at hn7
              (have q0r := cell_of_block (o := 0) hn7; have q1r := cell_of_block (o := 1) hn7; have q2r := cell_of_block (o := 2) hn7; have q3r := cell_of_block (o := 3) hn7; have q4r := cell_of_block (o := 4) hn7; have q5r := cell_of_block (o := 5) hn7; have z0r := frozen_blk hn7 0; have z1r := frozen_blk hn7 1; have z2r := frozen_blk hn7 2; have z3r := frozen_blk hn7 3; have z4r := frozen_blk hn7 4; have z5r := frozen_blk hn7 5; simp only [List.getElem?_toArray, List.getElem?_cons_zero, List.getElem?_cons_succ] at q0r q1r q2r q3r q4r q5r)
              have HR7 := Lib.hid hr
              have HO7 := Lib.hid (HO6.out.trans ho)
              have HSM := Lib.hid hsm
              obtain ⟨yo, yn, yc, rfl⟩ := hsm.slice
              clear hy hsm hr ho hn7 HO6 HN6 HP6 QC
              go_wp2_with fail
              refine bodyPost_ret (v := .tuple #[.agg #[.int .i64 y.k, .string (Wn.str y.n), .string (Wn.str y.v), .int .i64 y.a, .int .i64 y.b, .slice yo yn yc], .bool true]) (by simp [results, Tryz.results148, go_sem, q0r, q1r, q2r, q3r, q4r, q5r]) rfl ?_
              exact .inl ⟨_, _, r7, HE.out, rfl, HSM.out.same (by omega) (fun b hb hl => (set6_kp _ _ _ _ _ _ _ _).block b hl (by omega)), HR7.out.ends hgl (by (repeat' (first | with_reducible exact Kp.refl _ _ | (with_reducible refine Kp.alloc ?_ _) | (with_reducible refine Kp.drew ?_) | (with_reducible refine Kp.setN ?_ (Nat.le_refl _) _) | (with_reducible refine Kp.setN ?_ (Nat.le_succ _) _) | ((with_reducible refine Kp.setN ?_ ?_ _); rotate_left; (focus (first | omega | (simp; omega)))))); (first | done | fail)), HO7.out.ends (by (repeat' (first | with_reducible exact Kp.refl _ _ | (with_reducible refine Kp.alloc ?_ _) | (with_reducible refine Kp.drew ?_) | (with_reducible refine Kp.setN ?_ (Nat.le_refl _) _) | (with_reducible refine Kp.setN ?_ (Nat.le_succ _) _) | ((with_reducible refine Kp.setN ?_ ?_ _); rotate_left; (focus (first | omega | (simp; omega)))))); (first | done | fail))⟩
            · exact ⟨rfl, .inr (.inr ⟨by rw [HP6.out, hy]; rfl, rfl, HO6.out.trans ho⟩)⟩
          · have HE : Hid (RES = some none) := Lib.hid (by rw [HP5.out, hs])
            have hn6 := HN5.out.only ho (by omega)
            unfold SBox at hn6
            (have q0r := cell_of_block (o := 0) hn6; have q1r := cell_of_block (o := 1) hn6; have q2r := cell_of_block (o := 2) hn6; have q3r := cell_of_block (o := 3) hn6; have q4r := cell_of_block (o := 4) hn6; have q5r := cell_of_block (o := 5) hn6; have z0r := frozen_blk hn6 0; have z1r := frozen_blk hn6 1; have z2r := frozen_blk hn6 2; have z3r := frozen_blk hn6 3; have z4r := frozen_blk hn6 4; have z5r := frozen_blk hn6 5; simp only [List.getElem?_toArray, List.getElem?_cons_zero, List.getElem?_cons_succ] at q0r q1r q2r q3r q4r q5r)
            have HR6 := Lib.hid hr
            have HO6 := Lib.hid (HO5.out.trans ho)
            clear hs hr ho hn6 HR5 HO5 HN5 HP5
            go_wp2_with fail
            refine bodyPost_ret (v := .tuple #[smZ, .bool false]) (by simp [results, Tryz.results148, go_sem, q0r, q1r, q2r, q3r, q4r, q5r, smZ]) rfl ?_
            exact .inr (.inl ⟨HE.out, rfl, HR6.out.ends hgl (by (repeat' (first | with_reducible exact Kp.refl _ _ | (with_reducible refine Kp.alloc ?_ _) | (with_reducible refine Kp.drew ?_) | (with_reducible refine Kp.setN ?_ (Nat.le_refl _) _) | (with_reducible refine Kp.setN ?_ (Nat.le_succ _) _) | ((with_reducible refine Kp.setN ?_ ?_ _); rotate_left; (focus (first | omega | (simp; omega)))))); (first | done | fail)), HO6.out.ends (by (repeat' (first | with_reducible exact Kp.refl _ _ | (with_reducible refine Kp.alloc ?_ _) | (with_reducible refine Kp.drew ?_) | (with_reducible refine Kp.setN ?_ (Nat.le_refl _) _) | (with_reducible refine Kp.setN ?_ (Nat.le_succ _) _) | ((with_reducible refine Kp.setN ?_ ?_ _); rotate_left; (focus (first | omega | (simp; omega)))))); (first | done | fail))⟩)
        · have HE : Hid (RES = some none) := Lib.hid (by
            rw [HP4.out]
            have e := HSD.out
            rw [hsd] at e
            cases h58 : Wn.signF [58] f with
            | none => rfl
            | some r => rw [h58] at e; simp at e; simp only; rw [e])
          have hn5 := HN5.out
          unfold SBox at hn5
          (have q0r := cell_of_block (o := 0) hn5; have q1r := cell_of_block (o := 1) hn5; have q2r := cell_of_block (o := 2) hn5; have q3r := cell_of_block (o := 3) hn5; have q4r := cell_of_block (o := 4) hn5; have q5r := cell_of_block (o := 5) hn5; have z0r := frozen_blk hn5 0; have z1r := frozen_blk hn5 1; have z2r := frozen_blk hn5 2; have z3r := frozen_blk hn5 3; have z4r := frozen_blk hn5 4; have z5r := frozen_blk hn5 5; simp only [List.getElem?_toArray, List.getElem?_cons_zero, List.getElem?_cons_succ] at q0r q1r q2r q3r q4r q5r)
          clear hsd hn5 HSD HP4 HN5
          go_wp2_with fail
          refine bodyPost_ret (v := .tuple #[smZ, .bool false]) (by simp [results, Tryz.results148, go_sem, q0r, q1r, q2r, q3r, q4r, q5r, smZ]) rfl ?_
          exact .inr (.inl ⟨HE.out, rfl, HR5.out.ends hgl (by (repeat' (first | with_reducible exact Kp.refl _ _ | (with_reducible refine Kp.alloc ?_ _) | (with_reducible refine Kp.drew ?_) | (with_reducible refine Kp.setN ?_ (Nat.le_refl _) _) | (with_reducible refine Kp.setN ?_ (Nat.le_succ _) _) | ((with_reducible refine Kp.setN ?_ ?_ _); rotate_left; (focus (first | omega | (simp; omega)))))); (first | done | fail)), HO5.out.ends (by (repeat' (first | with_reducible exact Kp.refl _ _ | (with_reducible refine Kp.alloc ?_ _) | (with_reducible refine Kp.drew ?_) | (with_reducible refine Kp.setN ?_ (Nat.le_refl _) _) | (with_reducible refine Kp.setN ?_ (Nat.le_succ _) _) | ((with_reducible refine Kp.setN ?_ ?_ _); rotate_left; (focus (first | omega | (simp; omega)))))); (first | done | fail))⟩)
set_option maxRecDepth 100000 in
set_option maxHeartbeats 2000000 in
theorem simple_yes (g n : Nat) (pl : Bool) (f : Wn.Fs) (w : World) (hI : pl = false → NotSaid) (h : Rd w g n pl f) :
    Calls Tryz.prog 148 #[.pointer (some ⟨g, 0, none⟩), .bool true] w (SimpPost g n pl f (Wn.simpG (Wn.ntOf pl) true f) w) := by
  have hgl := h.lt
  have hB : Below w.heap.size w (w.alloc (.cells #[.int .i64 0, .string ⟨#[]⟩, .string ⟨#[]⟩, .int .i64 0, .int .i64 0, .slice none 0 0] 51)) := (Below.refl _ _).alloc (Nat.le_refl _) _
  have HN0 := Lib.hid (SBox.new w)
  have HO0 := Lib.hid (Below.only (g := g) hB)
  have HI := Lib.hid hI
  have QE := Lib.hid (element_v g n pl f _ (h.below hB))
  generalize hres : Wn.simpG (Wn.ntOf pl) true f = RES
  have HP0 : Hid (RES = match Wn.elemF f with | some p => some (some p) | none => Wn.laterG (Wn.ntOf pl) f) := Lib.hid (by rw [← hres]; rfl)
  clear h hI hB hres
  go_enter Tryz.func148, Tryz.ntmps148
  go_wp2_with fail
  generalize w.alloc (.cells #[.int .i64 0, .string ⟨#[]⟩, .string ⟨#[]⟩, .int .i64 0, .int .i64 0, .slice none 0 0] 51) = W0 at *
  refine QE.out.mono ?_
  rintro e w0 (⟨x, r, hx, hxl, rfl, hr, ho⟩ | ⟨hx, rfl, hr, ho⟩)
  · have hb0 : Below w0.heap.size w0 (w0.alloc (.cells #[.int .i64 x.k, .string (Wn.str x.n), .string (Wn.str x.v), .int .i64 x.a, .int .i64 x.b, .slice none 0 0] 51)) := (Below.refl _ _).alloc (Nat.le_refl _) _
    have HE : Hid (RES = some (some (x, r))) := Lib.hid (by rw [HP0.out, hx])
    have HXL := Lib.hid hxl
    have hn1 := (HN0.out.only ho (by omega)).below hb0
    unfold SBox at hn1
    (have q0r := cell_of_block (o := 0) hn1; have q1r := cell_of_block (o := 1) hn1; have q2r := cell_of_block (o := 2) hn1; have q3r := cell_of_block (o := 3) hn1; have q4r := cell_of_block (o := 4) hn1; have q5r := cell_of_block (o := 5) hn1; have z0r := frozen_blk hn1 0; have z1r := frozen_blk hn1 1; have z2r := frozen_blk hn1 2; have z3r := frozen_blk hn1 3; have z4r := frozen_blk hn1 4; have z5r := frozen_blk hn1 5; simp only [List.getElem?_toArray, List.getElem?_cons_zero, List.getElem?_cons_succ] at q0r q1r q2r q3r q4r q5r)
    have HR1 := Lib.hid (hr.below hb0)
    have HO1 := Lib.hid ((HO0.out.trans ho).trans (Below.only hb0))
    clear hx hxl hr ho hb0 hn1 QE HP0 HN0 HO0
    go_wp2_with fail
    generalize w0.alloc (.cells #[.int .i64 x.k, .string (Wn.str x.n), .string (Wn.str x.v), .int .i64 x.a, .int .i64 x.b, .slice none 0 0] 51) = W1 at *
    refine bodyPost_ret (v := .tuple #[.agg #[.int .i64 x.k, .string (Wn.str x.n), .string (Wn.str x.v), .int .i64 x.a, .int .i64 x.b, .slice none 0 0], .bool true]) (by simp [results, Tryz.results148, go_sem, q0r, q1r, q2r, q3r, q4r, q5r]) rfl ?_
    exact .inl ⟨_, _, r, HE.out, rfl, SmNew.nil HXL.out, HR1.out.ends hgl (by (repeat' (first | with_reducible exact Kp.refl _ _ | (with_reducible refine Kp.alloc ?_ _) | (with_reducible refine Kp.drew ?_) | (with_reducible refine Kp.setN ?_ (Nat.le_refl _) _) | (with_reducible refine Kp.setN ?_ (Nat.le_succ _) _) | ((with_reducible refine Kp.setN ?_ ?_ _); rotate_left; (focus (first | omega | (simp; omega)))))); (first | done | fail)), HO1.out.ends (by (repeat' (first | with_reducible exact Kp.refl _ _ | (with_reducible refine Kp.alloc ?_ _) | (with_reducible refine Kp.drew ?_) | (with_reducible refine Kp.setN ?_ (Nat.le_refl _) _) | (with_reducible refine Kp.setN ?_ (Nat.le_succ _) _) | ((with_reducible refine Kp.setN ?_ ?_ _); rotate_left; (focus (first | omega | (simp; omega)))))); (first | done | fail))⟩
  · have hb0 : Below w0.heap.size w0 (w0.alloc (.cells #[.int .i64 0, .string ⟨#[]⟩, .string ⟨#[]⟩, .int .i64 0, .int .i64 0, .slice none 0 0] 51)) := (Below.refl _ _).alloc (Nat.le_refl _) _
    have HP : Hid (RES = Wn.laterG (Wn.ntOf pl) f) := Lib.hid (by rw [HP0.out, hx])
    have HN1 := Lib.hid ((HN0.out.only ho (by omega)).below hb0)
    have HR1 := Lib.hid (hr.below hb0)
    have HO1 := Lib.hid ((HO0.out.trans ho).trans (Below.only hb0))
    clear hx hr ho hb0 QE HP0 HN0 HO0
    unfold smZ
    go_wp2_with fail
    generalize w0.alloc (.cells #[.int .i64 0, .string ⟨#[]⟩, .string ⟨#[]⟩, .int .i64 0, .int .i64 0, .slice none 0 0] 51) = W1 at *
    go_wp2_with fail
    refine (token_v g n pl f 4 W1 HR1.out).mono ?_
    rintro e w1 (⟨t, r, hf, rfl, hr, ho⟩ | ⟨hf, rfl, hr, ho⟩)
    · have hb1 : Below w1.heap.size w1 (w1.alloc (.cells #[.int .i64 t.1, .string (Wn.str t.2.1), .int .i64 t.2.2] 78)) := (Below.refl _ _).alloc (Nat.le_refl _) _
      have HE : Hid (RES = some (some (Wn.sNam 3 t.2.1, r))) := Lib.hid (by rw [HP.out]; unfold Wn.laterG; rw [hf])
      have hn2 := (HN1.out.only ho (by omega)).below hb1
      unfold SBox at hn2
      (have q0r := cell_of_block (o := 0) hn2; have q1r := cell_of_block (o := 1) hn2; have q2r := cell_of_block (o := 2) hn2; have q3r := cell_of_block (o := 3) hn2; have q4r := cell_of_block (o := 4) hn2; have q5r := cell_of_block (o := 5) hn2; have z0r := frozen_blk hn2 0; have z1r := frozen_blk hn2 1; have z2r := frozen_blk hn2 2; have z3r := frozen_blk hn2 3; have z4r := frozen_blk hn2 4; have z5r := frozen_blk hn2 5; simp only [List.getElem?_toArray, List.getElem?_cons_zero, List.getElem?_cons_succ] at q0r q1r q2r q3r q4r q5r)
      have HR2 := Lib.hid (hr.below hb1)
      have HO2 := Lib.hid ((HO1.out.trans ho).trans (Below.only hb1))
      clear hf hr ho hb1 hn2 HR1 HO1 HN1 HP
      go_wp2_with fail
      generalize w1.alloc (.cells #[.int .i64 t.1, .string (Wn.str t.2.1), .int .i64 t.2.2] 78) = W2 at *
      refine bodyPost_ret (v := .tuple #[.agg #[.int .i64 3, .string (Wn.str t.2.1), .string ⟨#[]⟩, .int .i64 0, .int .i64 0, .slice none 0 0], .bool true]) (by simp [results, Tryz.results148, go_sem, q0r, q1r, q2r, q3r, q4r, q5r]) rfl ?_
      exact .inl ⟨_, _, r, HE.out, rfl, SmNew.nil rfl, HR2.out.ends hgl (by (repeat' (first | with_reducible exact Kp.refl _ _ | (with_reducible refine Kp.alloc ?_ _) | (with_reducible refine Kp.drew ?_) | (with_reducible refine Kp.setN ?_ (Nat.le_refl _) _) | (with_reducible refine Kp.setN ?_ (Nat.le_succ _) _) | ((with_reducible refine Kp.setN ?_ ?_ _); rotate_left; (focus (first | omega | (simp; omega)))))); (first | done | fail)), HO2.out.ends (by (repeat' (first | with_reducible exact Kp.refl _ _ | (with_reducible refine Kp.alloc ?_ _) | (with_reducible refine Kp.drew ?_) | (with_reducible refine Kp.setN ?_ (Nat.le_refl _) _) | (with_reducible refine Kp.setN ?_ (Nat.le_succ _) _) | ((with_reducible refine Kp.setN ?_ ?_ _); rotate_left; (focus (first | omega | (simp; omega)))))); (first | done | fail))⟩
    · have hb1 : Below w1.heap.size w1 (w1.alloc (.cells #[.int .i64 0, .string ⟨#[]⟩, .int .i64 0] 78)) := (Below.refl _ _).alloc (Nat.le_refl _) _
      have HF4 := Lib.hid hf
      have hz2 : (w1.alloc (.cells #[.int .i64 0, .string ⟨#[]⟩, .int .i64 0] 78)).heap.size = w1.heap.size + 1 := by simp
      have HZ2 := Lib.hid hz2
      have HN2 := Lib.hid ((HN1.out.only ho (by omega)).below hb1)
      have HR2 := Lib.hid (hr.below hb1)
      have HO2 := Lib.hid ((HO1.out.trans ho).trans (Below.only hb1))
      clear hf hr ho hb1 hz2 HR1 HO1 HN1
      go_wp2_with fail
      generalize w1.alloc (.cells #[.int .i64 0, .string ⟨#[]⟩, .int .i64 0] 78) = W2 at *
      refine (delim1_v g n pl f [46] W2 _ HZ2.out.symm HR2.out).mono ?_
      rintro e w3 (⟨r, hs, rfl, hr, ho⟩ | ⟨hs, rfl, hr, ho⟩)
      · have HP3 : Hid (RES = (Wn.tokF 1 r).map fun p => some (Wn.sNam 4 p.1.2.1, p.2)) := Lib.hid (by rw [HP.out]; unfold Wn.laterG; rw [HF4.out, hs])
        have HN3 := Lib.hid (HN2.out.only ho (by omega))
        have HR3 := Lib.hid hr
        have HO3 := Lib.hid (HO2.out.trans ho)
        clear hs hr ho HR2 HO2 HN2 HP HF4 HZ2
        go_wp2_with fail
        refine (name_v g n pl r w3 HR3.out).mono ?_
        rintro e w4 (⟨t, r', hf, rfl, hr, ho⟩ | ⟨hf, rfl, ho⟩)
        · have HE : Hid (RES = some (some (Wn.sNam 4 t.2.1, r'))) := Lib.hid (by rw [HP3.out, hf]; rfl)
          have hn4 := HN3.out.only ho (by omega)
          unfold SBox at hn4
          (have q0r := cell_of_block (o := 0) hn4; have q1r := cell_of_block (o := 1) hn4; have q2r := cell_of_block (o := 2) hn4; have q3r := cell_of_block (o := 3) hn4; have q4r := cell_of_block (o := 4) hn4; have q5r := cell_of_block (o := 5) hn4; have z0r := frozen_blk hn4 0; have z1r := frozen_blk hn4 1; have z2r := frozen_blk hn4 2; have z3r := frozen_blk hn4 3; have z4r := frozen_blk hn4 4; have z5r := frozen_blk hn4 5; simp only [List.getElem?_toArray, List.getElem?_cons_zero, List.getElem?_cons_succ] at q0r q1r q2r q3r q4r q5r)
          have HR4 := Lib.hid hr
          have HO4 := Lib.hid (HO3.out.trans ho)
          clear hf hr ho hn4 HR3 HO3 HN3 HP3
          go_wp2_with fail
          refine bodyPost_ret (v := .tuple #[.agg #[.int .i64 4, .string (Wn.str t.2.1), .string ⟨#[]⟩, .int .i64 0, .int .i64 0, .slice none 0 0], .bool true]) (by simp [results, Tryz.results148, go_sem, q0r, q1r, q2r, q3r, q4r, q5r]) rfl ?_
          exact .inl ⟨_, _, r', HE.out, rfl, SmNew.nil rfl, HR4.out.ends hgl (by (repeat' (first | with_reducible exact Kp.refl _ _ | (with_reducible refine Kp.alloc ?_ _) | (with_reducible refine Kp.drew ?_) | (with_reducible refine Kp.setN ?_ (Nat.le_refl _) _) | (with_reducible refine Kp.setN ?_ (Nat.le_succ _) _) | ((with_reducible refine Kp.setN ?_ ?_ _); rotate_left; (focus (first | omega | (simp; omega)))))); (first | done | fail)), HO4.out.ends (by (repeat' (first | with_reducible exact Kp.refl _ _ | (with_reducible refine Kp.alloc ?_ _) | (with_reducible refine Kp.drew ?_) | (with_reducible refine Kp.setN ?_ (Nat.le_refl _) _) | (with_reducible refine Kp.setN ?_ (Nat.le_succ _) _) | ((with_reducible refine Kp.setN ?_ ?_ _); rotate_left; (focus (first | omega | (simp; omega)))))); (first | done | fail))⟩
        · exact ⟨rfl, .inr (.inr ⟨by rw [HP3.out, hf]; rfl, rfl, HO3.out.trans ho⟩)⟩
      · have HS46 := Lib.hid hs
        have HN3 := Lib.hid (HN2.out.only ho (by omega))
        have HO3 := Lib.hid (HO2.out.trans ho)
        have QV := Lib.hid (value_v g n pl f 3 w3 hr)
        have HTL := Lib.hid hr.tl
        clear hs hr ho HR2 HO2 HN2 HZ2
        go_wp2_with fail
        refine QV.out.mono ?_
        rintro e w4 (⟨t, x, r, uo, un, uc, hf, rfl, hu, hr, ho⟩ | ⟨hf, rfl, hr, ho⟩)
        · have hb4 : Below w4.heap.size w4 (w4.alloc (.cells #[.int .i64 3, .int .i64 t.1, .string (Wn.str t.2.1), .int .i64 t.2.2, .slice uo un uc] 80)) := (Below.refl _ _).alloc (Nat.le_refl _) _
          have HP4 : Hid (RES = (Wn.attrF x).map fun y => some (y, r)) := Lib.hid (by rw [HP.out]; unfold Wn.laterG; rw [HF4.out, HS46.out, hf])
          have HN4 := Lib.hid ((HN3.out.only ho (by omega)).below hb4)
          have HR4 := Lib.hid (hr.below hb4)
          have HO4 := Lib.hid ((HO3.out.trans ho).trans (Below.only hb4))
          have QA := Lib.hid (attribute_v (.slice uo un uc) x _ (hu.any.below hb4) (valF_tl hf HTL.out).1)
          clear hf hu hr ho hb4 HO3 HN3 HP HF4 HS46 QV
          go_wp2_with fail
          generalize w4.alloc (.cells #[.int .i64 3, .int .i64 t.1, .string (Wn.str t.2.1), .int .i64 t.2.2, .slice uo un uc] 80) = W4 at *
          refine QA.out.mono ?_
          rintro e w5 (⟨y, hy, hyl, rfl, b5⟩ | ⟨hy, rfl, b5⟩)
          · have HE : Hid (RES = some (some (y, r))) := Lib.hid (by rw [HP4.out, hy]; rfl)
            have HYL := Lib.hid hyl
            have hn5 := HN4.out.below b5
            unfold SBox at hn5
            (have q0r := cell_of_block (o := 0) hn5; have q1r := cell_of_block (o := 1) hn5; have q2r := cell_of_block (o := 2) hn5; have q3r := cell_of_block (o := 3) hn5; have q4r := cell_of_block (o := 4) hn5; have q5r := cell_of_block (o := 5) hn5; have z0r := frozen_blk hn5 0; have z1r := frozen_blk hn5 1; have z2r := frozen_blk hn5 2; have z3r := frozen_blk hn5 3; have z4r := frozen_blk hn5 4; have z5r := frozen_blk hn5 5; simp only [List.getElem?_toArray, List.getElem?_cons_zero, List.getElem?_cons_succ] at q0r q1r q2r q3r q4r q5r)
            have HR5 := Lib.hid (HR4.out.below b5)
            have HO5 := Lib.hid (HO4.out.trans (Below.only b5))
            clear hy hyl b5 hn5 HR4 HO4 HN4 HP4 QA
            go_wp2_with fail
            refine bodyPost_ret (v := .tuple #[.agg #[.int .i64 y.k, .string (Wn.str y.n), .string (Wn.str y.v), .int .i64 y.a, .int .i64 y.b, .slice none 0 0], .bool true]) (by simp [results, Tryz.results148, go_sem, q0r, q1r, q2r, q3r, q4r, q5r]) rfl ?_
            exact .inl ⟨_, _, r, HE.out, rfl, SmNew.nil HYL.out, HR5.out.ends hgl (by (repeat' (first | with_reducible exact Kp.refl _ _ | (with_reducible refine Kp.alloc ?_ _) | (with_reducible refine Kp.drew ?_) | (with_reducible refine Kp.setN ?_ (Nat.le_refl _) _) | (with_reducible refine Kp.setN ?_ (Nat.le_succ _) _) | ((with_reducible refine Kp.setN ?_ ?_ _); rotate_left; (focus (first | omega | (simp; omega)))))); (first | done | fail)), HO5.out.ends (by (repeat' (first | with_reducible exact Kp.refl _ _ | (with_reducible refine Kp.alloc ?_ _) | (with_reducible refine Kp.drew ?_) | (with_reducible refine Kp.setN ?_ (Nat.le_refl _) _) | (with_reducible refine Kp.setN ?_ (Nat.le_succ _) _) | ((with_reducible refine Kp.setN ?_ ?_ _); rotate_left; (focus (first | omega | (simp; omega)))))); (first | done | fail))⟩
          · exact ⟨rfl, .inr (.inr ⟨by rw [HP4.out, hy]; rfl, rfl, HO4.out.trans (Below.only b5)⟩)⟩
        · have hb4 : Below w4.heap.size w4 (w4.alloc (.cells #[.int .i64 0, .int .i64 0, .string ⟨#[]⟩, .int .i64 0, .slice none 0 0] 80)) := (Below.refl _ _).alloc (Nat.le_refl _) _
          have HP4 : Hid (RES = match Wn.signF [58] f with | none => some none | some r => match Wn.signF [58] r with | some _ => some none | none => (Wn.colonG (Wn.ntOf pl) r).map some) := Lib.hid (by rw [HP.out]; unfold Wn.laterG; rw [HF4.out, HS46.out, hf]; rfl)
          have hz4 : (w4.alloc (.cells #[.int .i64 0, .int .i64 0, .string ⟨#[]⟩, .int .i64 0, .slice none 0 0] 80)).heap.size = w4.heap.size + 1 := by simp
          have HZ4 := Lib.hid hz4
          have HN4 := Lib.hid ((HN3.out.only ho (by omega)).below hb4)
          have HR4 := Lib.hid (hr.below hb4)
          have HO4 := Lib.hid ((HO3.out.trans ho).trans (Below.only hb4))
          have HSD := Lib.hid (Wn.seesD_two [58] [58] f)
          clear hf hr ho hb4 hz4 HO3 HN3 HP HF4 HS46 QV
          go_wp2_with fail
          generalize w4.alloc (.cells #[.int .i64 0, .int .i64 0, .string ⟨#[]⟩, .int .i64 0, .slice none 0 0] 80) = W4 at *
          refine (sees2_v g n pl f [58] [58] W4 _ HZ4.out.symm HR4.out).mono ?_
          rintro e w5 ⟨rfl, b5⟩
          have HN5 := Lib.hid (HN4.out.below b5)
          have HR5 := Lib.hid (HR4.out.below b5)
          have HO5 := Lib.hid (HO4.out.trans (Below.only b5))
          clear b5 HR4 HO4 HN4 HZ4
          cases hsd : Wn.seesD [[58], [58]] f
          · have HP5 : Hid (RES = match Wn.signF [58] f with | none => some none | some r => (Wn.colonG (Wn.ntOf pl) r).map some) := Lib.hid (by
              rw [HP4.out]
              have e := HSD.out
              rw [hsd] at e
              cases h58 : Wn.signF [58] f with
              | none => rfl
              | some r => rw [h58] at e; simp at e; simp only; rw [e])
            clear hsd HSD HP4
            go_wp2_with fail
            refine (delim1_v g n pl f [58] w5 _ rfl HR5.out).mono ?_
            rintro e w6 (⟨r, hs, rfl, hr, ho⟩ | ⟨hs, rfl, hr, ho⟩)
            · have HP6 : Hid (RES = (Wn.colonG (Wn.ntOf pl) r).map some) := Lib.hid (by rw [HP5.out, hs])
              have HN6 := Lib.hid (HN5.out.only ho (by omega))
              have HO6 := Lib.hid (HO5.out.trans ho)
              have QC := Lib.hid (pseudoClass_v g n pl r w6 HI.out hr)
              clear hs hr ho HR5 HO5 HN5 HP5
              go_wp2_with fail
              refine QC.out.mono ?_
              rintro e w7 (⟨y, u, r7, hy, rfl, hsm, hr, ho⟩ | ⟨hy, rfl, ho⟩)
              · have HE : Hid (RES = some (some (y, r7))) := Lib.hid (by rw [HP6.out, hy]; rfl)
                have hl6 := lt_of_block HN6.out
                have hn7 := HN6.out.only ho (by omega)
                unfold SBox at hn7
                (have q0r := cell_of_block (o := 0) hn7; have q1r := cell_of_block (o := 1) hn7; have q2r := cell_of_block (o := 2) hn7; have q3r := cell_of_block (o := 3) hn7; have q4r := cell_of_block (o := 4) hn7; have q5r := cell_of_block (o := 5) hn7; have z0r := frozen_blk hn7 0; have z1r := frozen_blk hn7 1; have z2r := frozen_blk hn7 2; have z3r := frozen_blk hn7 3; have z4r := frozen_blk hn7 4; have z5r := frozen_blk hn7 5; simp only [List.getElem?_toArray, List.getElem?_cons_zero, List.getElem?_cons_succ] at q0r q1r q2r q3r q4r q5r)
                have HR7 := Lib.hid hr
                have HO7 := Lib.hid (HO6.out.trans ho)
                have HSM := Lib.hid hsm
                obtain ⟨yo, yn, yc, rfl⟩ := hsm.slice
                clear hy hsm hr ho hn7 HO6 HN6 HP6 QC
                go_wp2_with fail
                refine bodyPost_ret (v := .tuple #[.agg #[.int .i64 y.k, .string (Wn.str y.n), .string (Wn.str y.v), .int .i64 y.a, .int .i64 y.b, .slice yo yn yc], .bool true]) (by simp [results, Tryz.results148, go_sem, q0r, q1r, q2r, q3r, q4r, q5r]) rfl ?_
                exact .inl ⟨_, _, r7, HE.out, rfl, HSM.out.same (by omega) (fun b hb hl => (set6_kp _ _ _ _ _ _ _ _).block b hl (by omega)), HR7.out.ends hgl (by (repeat' (first | with_reducible exact Kp.refl _ _ | (with_reducible refine Kp.alloc ?_ _) | (with_reducible refine Kp.drew ?_) | (with_reducible refine Kp.setN ?_ (Nat.le_refl _) _) | (with_reducible refine Kp.setN ?_ (Nat.le_succ _) _) | ((with_reducible refine Kp.setN ?_ ?_ _); rotate_left; (focus (first | omega | (simp; omega)))))); (first | done | fail)), HO7.out.ends (by (repeat' (first | with_reducible exact Kp.refl _ _ | (with_reducible refine Kp.alloc ?_ _) | (with_reducible refine Kp.drew ?_) | (with_reducible refine Kp.setN ?_ (Nat.le_refl _) _) | (with_reducible refine Kp.setN ?_ (Nat.le_succ _) _) | ((with_reducible refine Kp.setN ?_ ?_ _); rotate_left; (focus (first | omega | (simp; omega)))))); (first | done | fail))⟩
              · exact ⟨rfl, .inr (.inr ⟨by rw [HP6.out, hy]; rfl, rfl, HO6.out.trans ho⟩)⟩
            · have HE : Hid (RES = some none) := Lib.hid (by rw [HP5.out, hs])
              have hn6 := HN5.out.only ho (by omega)
              unfold SBox at hn6
              (have q0r := cell_of_block (o := 0) hn6; have q1r := cell_of_block (o := 1) hn6; have q2r := cell_of_block (o := 2) hn6; have q3r := cell_of_block (o := 3) hn6; have q4r := cell_of_block (o := 4) hn6; have q5r := cell_of_block (o := 5) hn6; have z0r := frozen_blk hn6 0; have z1r := frozen_blk hn6 1; have z2r := frozen_blk hn6 2; have z3r := frozen_blk hn6 3; have z4r := frozen_blk hn6 4; have z5r := frozen_blk hn6 5; simp only [List.getElem?_toArray, List.getElem?_cons_zero, List.getElem?_cons_succ] at q0r q1r q2r q3r q4r q5r)
              have HR6 := Lib.hid hr
              have HO6 := Lib.hid (HO5.out.trans ho)
              clear hs hr ho hn6 HR5 HO5 HN5 HP5
              go_wp2_with fail
              refine bodyPost_ret (v := .tuple #[smZ, .bool false]) (by simp [results, Tryz.results148, go_sem, q0r, q1r, q2r, q3r, q4r, q5r, smZ]) rfl ?_
              exact .inr (.inl ⟨HE.out, rfl, HR6.out.ends hgl (by (repeat' (first | with_reducible exact Kp.refl _ _ | (with_reducible refine Kp.alloc ?_ _) | (with_reducible refine Kp.drew ?_) | (with_reducible refine Kp.setN ?_ (Nat.le_refl _) _) | (with_reducible refine Kp.setN ?_ (Nat.le_succ _) _) | ((with_reducible refine Kp.setN ?_ ?_ _); rotate_left; (focus (first | omega | (simp; omega)))))); (first | done | fail)), HO6.out.ends (by (repeat' (first | with_reducible exact Kp.refl _ _ | (with_reducible refine Kp.alloc ?_ _) | (with_reducible refine Kp.drew ?_) | (with_reducible refine Kp.setN ?_ (Nat.le_refl _) _) | (with_reducible refine Kp.setN ?_ (Nat.le_succ _) _) | ((with_reducible refine Kp.setN ?_ ?_ _); rotate_left; (focus (first | omega | (simp; omega)))))); (first | done | fail))⟩)
          · have HE : Hid (RES = some none) := Lib.hid (by
              rw [HP4.out]
              have e := HSD.out
              rw [hsd] at e
              cases h58 : Wn.signF [58] f with
              | none => rfl
              | some r => rw [h58] at e; simp at e; simp only; rw [e])
            have hn5 := HN5.out
            unfold SBox at hn5
            (have q0r := cell_of_block (o := 0) hn5; have q1r := cell_of_block (o := 1) hn5; have q2r := cell_of_block (o := 2) hn5; have q3r := cell_of_block (o := 3) hn5; have q4r := cell_of_block (o := 4) hn5; have q5r := cell_of_block (o := 5) hn5; have z0r := frozen_blk hn5 0; have z1r := frozen_blk hn5 1; have z2r := frozen_blk hn5 2; have z3r := frozen_blk hn5 3; have z4r := frozen_blk hn5 4; have z5r := frozen_blk hn5 5; simp only [List.getElem?_toArray, List.getElem?_cons_zero, List.getElem?_cons_succ] at q0r q1r q2r q3r q4r q5r)
            clear hsd hn5 HSD HP4 HN5
            go_wp2_with fail
            refine bodyPost_ret (v := .tuple #[smZ, .bool false]) (by simp [results, Tryz.results148, go_sem, q0r, q1r, q2r, q3r, q4r, q5r, smZ]) rfl ?_
            exact .inr (.inl ⟨HE.out, rfl, HR5.out.ends hgl (by (repeat' (first | with_reducible exact Kp.refl _ _ | (with_reducible refine Kp.alloc ?_ _) | (with_reducible refine Kp.drew ?_) | (with_reducible refine Kp.setN ?_ (Nat.le_refl _) _) | (with_reducible refine Kp.setN ?_ (Nat.le_succ _) _) | ((with_reducible refine Kp.setN ?_ ?_ _); rotate_left; (focus (first | omega | (simp; omega)))))); (first | done | fail)), HO5.out.ends (by (repeat' (first | with_reducible exact Kp.refl _ _ | (with_reducible refine Kp.alloc ?_ _) | (with_reducible refine Kp.drew ?_) | (with_reducible refine Kp.setN ?_ (Nat.le_refl _) _) | (with_reducible refine Kp.setN ?_ (Nat.le_succ _) _) | ((with_reducible refine Kp.setN ?_ ?_ _); rotate_left; (focus (first | omega | (simp; omega)))))); (first | done | fail))⟩)
theorem simple_v (g n : Nat) (pl first : Bool) (f : Wn.Fs) (w : World) (hI : pl = false → NotSaid) (h : Rd w g n pl f) :
    Calls Tryz.prog 148 #[.pointer (some ⟨g, 0, none⟩), .bool first] w (SimpPost g n pl f (Wn.simpG (Wn.ntOf pl) first f) w) := by
  cases first
  · exact simple_no g n pl f w hI h
  · exact simple_yes g n pl f w hI h
end Go.Proofs.YtncknaagbafhhaaGreatDoor
set_option linter.unusedVariables false
set_option linter.unusedSimpArgs false
set_option maxRecDepth 20000
namespace Wn
theorem whole_some {α : Type} {p : Fs → Option (α × Fs)} {f : Fs} {x : α} (h : wholeF p f = some x) : ∃ r, p (dropB f) = some (x, r) ∧ dropB r = .nil := by
  unfold wholeF at h
  split at h
  · rename_i y r e
    split at h
    · simp at h; subst h; exact ⟨r, e, by assumption⟩
    · cases h
  · cases h
theorem attrF_nil {f : Fs} {x : Sm} (h : attrF f = some x) : x.l = .nil := by
  obtain ⟨r, h, _⟩ := whole_some h
  unfold attrR at h
  split at h
  · cases h
  · split at h
    · simp at h; rw [← h.1]; rfl
    · rw [Option.map_eq_some_iff] at h; obtain ⟨q, _, h⟩ := h; simp at h; rw [← h.1]
theorem stateW_nil' {n : List UInt8} {x : Sm} (h : stateW n = some x) : x.l = .nil := by
  unfold stateW at h
  repeat' (first | (split at h) | (cases h; rfl) | (cases h))
theorem simpG_plain {first : Bool} {f : Fs} {x : Sm} {r : Fs} (h : simpG notNo first f = some (some (x, r))) : x.l = .nil := by
  have hlater : ∀ {f : Fs}, laterG notNo f = some (some (x, r)) → x.l = .nil := by
    intro f h
    unfold laterG at h
    split at h
    · simp at h; rw [← h.1]; rfl
    · split at h
      · rw [Option.map_eq_some_iff] at h; obtain ⟨q, _, h⟩ := h; simp at h; rw [← h.1]; rfl
      · split at h
        · rw [Option.map_eq_some_iff] at h; obtain ⟨q, hq, h⟩ := h; simp at h; rw [← h.1]; exact attrF_nil hq
        · split at h
          · cases h
          · split at h
            · cases h
            · rw [Option.map_eq_some_iff] at h; obtain ⟨q, hq, h⟩ := h; simp at h; subst h
              unfold colonG at hq
              split at hq
              · rw [Option.map_eq_some_iff] at hq; obtain ⟨y, hy, h⟩ := hq; simp at h; rw [← h.1]
                unfold funcG at hy
                split at hy
                · rw [Option.map_eq_some_iff] at hy; obtain ⟨z, _, hz⟩ := hy; rw [← hz]
                · split at hy
                  · simp [notNo] at hy
                  · cases hy
              · split at hq
                · cases hq
                · rw [Option.map_eq_some_iff] at hq; obtain ⟨y, hy, h⟩ := hq; simp at h; rw [← h.1]; exact stateW_nil' hy
  unfold simpG at h
  split at h
  · split at h
    · rename_i p he
      simp at h
      subst h
      unfold elemF at he
      split at he
      · simp at he; rw [← he.1]; rfl
      · rw [Option.map_eq_some_iff] at he; obtain ⟨q, _, h⟩ := he; simp at h; rw [← h.1]; rfl
    · exact hlater h
  · exact hlater h
end Wn
namespace Go.Proofs.YtncknaagbafhhaaGreatDoor
open Go.RowKit Go.Sort
theorem Rd.plain {w : World} {g n : Nat} {pl : Bool} {f : Wn.Fs} (h : Rd w g n pl f) : Rd (w.setCell ⟨g, 1, none⟩ (.bool true)) g n true f := by
  obtain ⟨u, hb, hv⟩ := h.ex
  refine ⟨⟨u, by simp [World.setCell, Array.getElem?_modify, hb], hv.same (fun b hb _ => ?_) (fun _ h _ => h)⟩, h.le, h.tl⟩
  exact Below.heap_setCell _ _ _ _ (by have := h.le; show b ≠ g; omega)
set_option maxRecDepth 100000 in
set_option maxHeartbeats 1000000 in
theorem inNot1_v (g n X : Nat) (f : Wn.Fs) (w : World) (h : Rd w g n false f) (hX : SBox w X) (hXg : X ≠ g) (hn : n ≤ X) :
    Calls Tryz.prog 224 #[.pointer (some ⟨g, 0, none⟩), .pointer (some ⟨X, 0, none⟩)] w (ReadPost g n (fun b => b = X) (SmAt X) (Wn.notR f) w) := by
  obtain ⟨rv, hgb, _⟩ := h.ex
  have g1 := cell_of_block (o := 1) hgb
  have z1 := frozen_blk hgb 1
  simp only [List.getElem?_toArray, List.getElem?_cons_zero, List.getElem?_cons_succ] at g1
  have hgl := h.lt
  have HO0 : Hid (Only g w (w.setCell ⟨g, 1, none⟩ (.bool true))) := Lib.hid ((Only.refl g w).setCell (p := ⟨g, 1, none⟩) rfl _)
  have HX := Lib.hid (hX.only HO0.out hXg)
  have QS := Lib.hid (simple_v g n true true f _ (fun h => by cases h) h.plain)
  have HP : Hid (Wn.notR f = match Wn.simpG (Wn.ntOf true) true f with | some (some p) => some p | _ => none) := Lib.hid rfl
  have HPL : Hid (∀ x r, Wn.simpG (Wn.ntOf true) true f = some (some (x, r)) → x.l = .nil) := Lib.hid (fun x r h => Wn.simpG_plain (first := true) (f := f) (r := r) h)
  clear h hX hgb
  go_enter Tryz.func224, Tryz.ntmps224
  go_wp2_with fail
  clear g1 z1
  generalize w.setCell ⟨g, 1, none⟩ (.bool true) = W at *
  refine QS.out.mono ?_
  rintro e w1 (⟨x, u, r, hs, rfl, hsm, hr, ho⟩ | ⟨hs, rfl, hr, ho⟩ | ⟨hs, rfl, ho⟩)
  · have hxl := HPL.out x r hs
    obtain rfl := hsm.2 hxl
    have hb1 : Below w1.heap.size w1 (w1.alloc (.cells #[.int .i64 x.k, .string (Wn.str x.n), .string (Wn.str x.v), .int .i64 x.a, .int .i64 x.b, .slice none 0 0] 51)) := (Below.refl _ _).alloc (Nat.le_refl _) _
    have HE : Hid (Wn.notR f = some (x, r)) := Lib.hid (by rw [HP.out, hs])
    have hx1 := (HX.out.only ho hXg).below hb1
    unfold SBox at hx1
    (have q0r := cell_of_block (o := 0) hx1; have q1r := cell_of_block (o := 1) hx1; have q2r := cell_of_block (o := 2) hx1; have q3r := cell_of_block (o := 3) hx1; have q4r := cell_of_block (o := 4) hx1; have q5r := cell_of_block (o := 5) hx1; have z0r := frozen_blk hx1 0; have z1r := frozen_blk hx1 1; have z2r := frozen_blk hx1 2; have z3r := frozen_blk hx1 3; have z4r := frozen_blk hx1 4; have z5r := frozen_blk hx1 5; simp only [List.getElem?_toArray, List.getElem?_cons_zero, List.getElem?_cons_succ] at q0r q1r q2r q3r q4r q5r)
    have hs1 := heap_alloc_new w1 (.cells #[.int .i64 x.k, .string (Wn.str x.n), .string (Wn.str x.v), .int .i64 x.a, .int .i64 x.b, .slice none 0 0] 51)
    (have q0s := cell_of_block (o := 0) hs1; have q1s := cell_of_block (o := 1) hs1; have q2s := cell_of_block (o := 2) hs1; have q3s := cell_of_block (o := 3) hs1; have q4s := cell_of_block (o := 4) hs1; have q5s := cell_of_block (o := 5) hs1; have z0s := frozen_blk hs1 0; have z1s := frozen_blk hs1 1; have z2s := frozen_blk hs1 2; have z3s := frozen_blk hs1 3; have z4s := frozen_blk hs1 4; have z5s := frozen_blk hs1 5; simp only [List.getElem?_toArray, List.getElem?_cons_zero, List.getElem?_cons_succ] at q0s q1s q2s q3s q4s q5s)
    have HXL := Lib.hid hxl
    have HBX := Lib.hid hx1
    have HR1 := Lib.hid (hr.below hb1)
    have HO1 := Lib.hid ((HO0.out.trans ho).trans (Below.only hb1))
    clear hs hsm hr ho hb1 hx1 hs1 hxl QS HP HPL HX HO0
    go_wp2_with fail
    generalize w1.alloc (.cells #[.int .i64 x.k, .string (Wn.str x.n), .string (Wn.str x.v), .int .i64 x.a, .int .i64 x.b, .slice none 0 0] 51) = W1 at *
    refine (demand_t _).mono ?_
    rintro e w2 ⟨rfl, rfl⟩
    go_wp2_with fail
    refine ⟨rfl, .tuple #[], by simp [results, Tryz.results224], .inl ⟨x, r, true, HE.out, rfl, ?_, ?_, ?_, HXL.out⟩⟩
    · exact HR1.out.kp (Only.kp (set6_kp _ _ _ _ _ _ _ _)) (fun e => hXg e.symm) (fun b hb e => by subst e; omega)
    · exact ((Only.kp HO1.out).mono (fun b hb => Or.inr hb)).trans ((Only.kp (set6_kp _ _ _ _ _ _ _ _)).mono (fun b hb => Or.inl hb))
    · exact set6_blk HBX.out _ _ _ _ _ _
  · have HE : Hid (Wn.notR f = none) := Lib.hid (by rw [HP.out, hs])
    have HO1 := Lib.hid ((HO0.out.trans ho).alloc (.cells #[.int .i64 0, .string ⟨#[]⟩, .string ⟨#[]⟩, .int .i64 0, .int .i64 0, .slice none 0 0] 51))
    unfold smZ
    clear hs hr ho QS HP HPL HX HO0
    go_wp2_with fail
    refine (demand_f _).mono ?_
    rintro e w2 ⟨rfl, rfl⟩
    exact ⟨rfl, .inr ⟨HE.out, rfl, (Only.kp HO1.out).mono (fun b hb => Or.inr hb)⟩⟩
  · exact ⟨rfl, .inr ⟨by rw [HP.out, hs], rfl, (Only.kp (HO0.out.trans ho)).mono (fun b hb => Or.inr hb)⟩⟩
set_option maxRecDepth 100000 in
set_option maxHeartbeats 1000000 in
theorem inNot_v : NotSaid := by
  intro v f w hv ht
  have hE : Enters 224 := enters_of Tryz.func224 (by kernel_rfl) rfl
  have BX := Lib.hid (boxes2 w)
  have QW := Lib.hid (fun W (hb : Boxes2 w W) =>
    whole_v Wn.notR 224 #[.pointer (some ⟨w.heap.size + 1, 0, none⟩)] (fun b => b = w.heap.size + 1) (SmAt (w.heap.size + 1)) v f w.heap.size W
      (hv.old.below hb.below) ht (by have := hb.size; omega) (by rintro b rfl; have := hb.size; omega) hE
      (fun x W1 W2 hs ho => ⟨(ho.block _ (lt_of_block hs.1) (by have := hb.size; omega)).trans hs.1, hs.2⟩)
      (fun W1 hb1 hr1 => inNot1_v W.heap.size w.heap.size (w.heap.size + 1) (Wn.dropB f) W1 hr1 (hb.b1.below hb1) (by have := hb.size; omega) (by omega)))
  have hmf : ∀ (fn : Fn) (first cap : Array Value) (w : World), (Instr.makeFunc fn first cap).run Tryz.prog w = .ok (.func fn first cap) w := fun _ _ _ _ => rfl
  have hform : ∃ ao n c, v = .slice ao n c := by obtain ⟨ao, cap, hv, _⟩ := hv.form; exact ⟨_, _, _, hv⟩
  obtain ⟨vo, vn, vc, rfl⟩ := hform
  clear hv
  go_enter Tryz.func215, Tryz.ntmps215
  go_wp2_with fail
  generalize (w.alloc (.cells #[.int .i64 0, .string ⟨#[]⟩, .string ⟨#[]⟩, .int .i64 0, .int .i64 0, .slice none 0 0] 51)).alloc (.cells #[.int .i64 0, .string ⟨#[]⟩, .string ⟨#[]⟩, .int .i64 0, .int .i64 0, .slice none 0 0] 51) = W at *
  refine (QW.out W BX.out).mono ?_
  have hz := BX.out.size
  rintro e w1 (⟨x, hp, rfl, hk, h1, h2⟩ | ⟨hp, rfl, hk⟩)
  · have hb1 : Below w.heap.size w w1 := BX.out.below.trans (hk.below (by omega) (by rintro b rfl; omega))
    have hn0 : SBox w1 w.heap.size := (hk.block w.heap.size (by omega) (by show ¬ _ = _; omega)).trans BX.out.b0
    unfold SBox at hn0
    (have q0r := cell_of_block (o := 0) hn0; have q1r := cell_of_block (o := 1) hn0; have q2r := cell_of_block (o := 2) hn0; have q3r := cell_of_block (o := 3) hn0; have q4r := cell_of_block (o := 4) hn0; have q5r := cell_of_block (o := 5) hn0; have z0r := frozen_blk hn0 0; have z1r := frozen_blk hn0 1; have z2r := frozen_blk hn0 2; have z3r := frozen_blk hn0 3; have z4r := frozen_blk hn0 4; have z5r := frozen_blk hn0 5; simp only [List.getElem?_toArray, List.getElem?_cons_zero, List.getElem?_cons_succ] at q0r q1r q2r q3r q4r q5r)
    (have q0s := cell_of_block (o := 0) h1; have q1s := cell_of_block (o := 1) h1; have q2s := cell_of_block (o := 2) h1; have q3s := cell_of_block (o := 3) h1; have q4s := cell_of_block (o := 4) h1; have q5s := cell_of_block (o := 5) h1; have z0s := frozen_blk h1 0; have z1s := frozen_blk h1 1; have z2s := frozen_blk h1 2; have z3s := frozen_blk h1 3; have z4s := frozen_blk h1 4; have z5s := frozen_blk h1 5; simp only [List.getElem?_toArray, List.getElem?_cons_zero, List.getElem?_cons_succ] at q0s q1s q2s q3s q4s q5s)
    have HB1 := Lib.hid hb1
    have HP := Lib.hid hp
    have H2 := Lib.hid h2
    have hl0 := lt_of_block hn0
    have hl1 := lt_of_block h1
    clear hp hk h1 h2 hb1 QW BX hn0 hz
    go_wp2_with fail
    refine bodyPost_ret (v := .agg #[.int .i64 x.k, .string (Wn.str x.n), .string (Wn.str x.v), .int .i64 x.a, .int .i64 x.b, .slice none 0 0]) (by simp [results, Tryz.results215, go_sem, q0r, q1r, q2r, q3r, q4r, q5r]) rfl ?_
    exact .inl ⟨x, HP.out, H2.out, rfl, HB1.out.trans ((Only.kp (set6_kp _ _ _ _ _ _ _ _)).below (by omega) (by rintro b rfl; omega))⟩
  · have hb1 : Below w.heap.size w w1 := BX.out.below.trans (hk.below (by omega) (by rintro b rfl; omega))
    exact ⟨rfl, .inr ⟨hp, rfl, hb1⟩⟩
/-- simple, where a not may stand -/
theorem simple_r (g n : Nat) (first : Bool) (f : Wn.Fs) (w : World) (h : Rd w g n false f) :
    Calls Tryz.prog 148 #[.pointer (some ⟨g, 0, none⟩), .bool first] w (SimpPost g n false f (Wn.simpR first f) w) := simple_v g n false first f w (fun _ => inNot_v) h
end Go.Proofs.YtncknaagbafhhaaGreatDoor
