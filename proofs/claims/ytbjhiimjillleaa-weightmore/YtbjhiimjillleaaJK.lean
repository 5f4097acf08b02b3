/- The verifier's complex selectors: the walk. -/
import Derived.Test.YtbjhiimjillleaaJI
import Derived.Deep.RegionHeld3
set_option linter.unusedVariables false
set_option linter.unusedSimpArgs false
set_option maxRecDepth 20000
namespace Wn
theorem over_dbl {g : Fs} (h : overF g = true) : dblF g = false := by
  cases hd : dblF g with
  | false => rfl
  | true =>
    exfalso
    unfold dblF at hd
    cases h1 : signF [58] g with
    | none => rw [h1] at hd; cases hd
    | some r =>
      obtain ⟨x, rfl⟩ := sign_some h1
      revert h; simp [overF, blankV, combV, signV, dlm]
end Wn
namespace Go.Proofs.Ytbjhiimjillleaa
open Go.RowKit Go.Sort
def c4len (n : Nat) (w : World) : Nat := match w.cell? ⟨n, 0, none⟩ with | some (.slice _ k _) => k | _ => 0
def c4m (L g : Nat) (w : World) : Nat := match w.cell? ⟨g, 2, none⟩ with | some (.bool true) => 0 | _ => L + 1 - r4ix g w
theorem c4m_good {w : World} {g i : Nat} {rv : Value} {f : Wn.Fs} {L : Nat} (h : R4 w g rv f i false) : c4m L g w = L + 1 - i := by
  unfold c4m; rw [cell_of_block (o := 2) h.blk, h.ix]; rfl
theorem c4m_bad {w : World} {g i : Nat} {rv : Value} {f : Wn.Fs} {L : Nat} (h : R4 w g rv f i true) : c4m L g w = 0 := by
  unfold c4m; rw [cell_of_block (o := 2) h.blk]; rfl
theorem XI.len {w W1 W : World} {n : Nat} {rv v : Value} {f : Wn.Fs} {j : Nat} {b : Bool} {s : ByteArray} {es : List (List Value)} {ps : List (Int × List Wn.Sm)} (h : XI w W1 W n rv f j b v s es ps) : c4len (n + 2) W = ps.length := by
  unfold c4len; rw [cell_of_block (o := 0) h.cx]
  obtain ⟨ao, cap, rfl, _, _⟩ := own_shape h.own.own
  show es.length = _
  exact h.own.length
/-- what complex1 answers -/
def Cx4 (G : Wn.Fs) (w : World) (e : Ending) (w' : World) : Prop :=
  ∃ (v : Value) (s : ByteArray) (ok : Bool), e = .returned (.tuple #[.agg #[v, .string s], .bool ok]) ∧ Below w.heap.size w w' ∧ (∃ ao k c, v = .slice ao k c) ∧ (if ok = true then ∃ c : Wn.Cx, Wn.cxF G = some c ∧ s = Wn.str c.2 ∧ ptK.P w' (fun b => w.heap.size ≤ b) v c.1 else Wn.cxF G = none)
set_option maxRecDepth 100000 in
set_option maxHeartbeats 20000000 in
theorem r4complex (l : Value) (f : Wn.Fs) (w : World) (hv : Vals w l f) (hs : f.size ≤ 100000) (ht : Tl f) (hr : Wn.rtrim f = f) :
    Calls Try.prog 32 #[l] w (Cx4 f w) := by
  have hbB : Below w.heap.size w (w.alloc (.cells #[.slice none 0 0, .string ⟨#[]⟩] 31)) := (Below.refl _ _).alloc (Nat.le_refl _) _
  have hzB : (w.alloc (.cells #[.slice none 0 0, .string ⟨#[]⟩] 31)).heap.size = w.heap.size + 1 := by simp
  have hm := R4.made (hv.below hbB) hs
  have hz1 : ((w.alloc (.cells #[.slice none 0 0, .string ⟨#[]⟩] 31)).alloc (.cells #[l, .int .i64 0, .bool false] 84)).heap.size = w.heap.size + 2 := by simp
  have hb1 : Below w.heap.size w ((w.alloc (.cells #[.slice none 0 0, .string ⟨#[]⟩] 31)).alloc (.cells #[l, .int .i64 0, .bool false] 84)) := hbB.alloc (by simp) _
  have hres := block_alloc (heap_alloc_new w (.cells #[.slice none 0 0, .string ⟨#[]⟩] 31)) (.cells #[l, .int .i64 0, .bool false] 84)
  rw [hzB] at hm
  obtain ⟨lo, lc, rfl, _, _⟩ := hv.form
  have HX0 : Hid (XI w ((w.alloc (.cells #[.slice none 0 0, .string ⟨#[]⟩] 31)).alloc (.cells #[.slice lo f.len lc, .int .i64 0, .bool false] 84)) (((w.alloc (.cells #[.slice none 0 0, .string ⟨#[]⟩] 31)).alloc (.cells #[.slice lo f.len lc, .int .i64 0, .bool false] 84)).alloc (.cells #[.slice none 0 0, .string ⟨#[]⟩] 31)) w.heap.size (.slice lo f.len lc) f 0 false (.slice none 0 0) ⟨#[]⟩ [] []) := Lib.hid (by
    refine ⟨rfl, hz1, hb1, (CS.start hm).alloc _, block_alloc hres _, ?_, RK.Own.start _ _ _ _⟩
    have := heap_alloc_new ((w.alloc (.cells #[.slice none 0 0, .string ⟨#[]⟩] 31)).alloc (.cells #[.slice lo f.len lc, .int .i64 0, .bool false] 84)) (.cells #[.slice none 0 0, .string ⟨#[]⟩] 31)
    rw [hz1] at this; exact this)
  have HP0 := Lib.hid (Wn.PI4.start f)
  have HTR := Lib.hid hr
  clear hv hbB hzB hm hb1 hres hr
  go_enter Try.func32, Try.ntmps32
  go_wp2_with fail
  generalize (w.alloc (.cells #[.slice none 0 0, .string ⟨#[]⟩] 31)).alloc (.cells #[.slice lo f.len lc, .int .i64 0, .bool false] 84) = W1 at *
  have HX1 : Hid (∃ W2, W2 = W1.alloc (.cells #[.slice none 0 0, .string ⟨#[]⟩] 31)) := Lib.hid ⟨_, rfl⟩
  go_loopw [6] (fun v6 wr => ∃ (j : Nat) (comb : Int) (v : Value) (es : List (List Value)) (ps : List (Int × List Wn.Sm)), ps.length ≤ 16 ∧ v6 = .int .i64 comb ∧ Hid (XI w W1 wr w.heap.size (.slice lo f.len lc) f j false v ⟨#[]⟩ es ps) ∧ Hid (Wn.PI4 f ps comb (f.drop j))) (fun _ wr => 17 - c4len (w.heap.size + 2) wr)
  case atStart => exact ⟨0, 0, _, [], [], Nat.zero_le _, rfl, HX0, by rw [Wn.Fs.drop_zero]; exact HP0⟩
  case round =>
    clear HX0 HP0 HX1
    obtain ⟨j, comb, v, es, ps, hps, rfl, HX, HP⟩ := hrel
    obtain ⟨vo, vc, rfl, hc1, hc2⟩ := own_shape HX.out.own.own
    have hel := HX.out.own.length
    have HEL := Lib.hid hel
    have hblk := HX.out.cs.r.blk
    have q2 := cell_of_block (o := 2) hblk
    simp only [List.getElem?_toArray, List.getElem?_cons_zero, List.getElem?_cons_succ] at q2
    have hcx := HX.out.cx
    have c0 := cell_of_block (o := 0) hcx
    simp only [List.getElem?_toArray, List.getElem?_cons_zero] at c0
    have hL := HX.out.len
    have HM := Lib.hid hL
    have hnr := lt_of_block hcx
    unfold maxLen at hc2
    clear hblk hcx hL hel
    by_cases h16 : es.length < 16
    · have hi16 : (es.length : Int) < 16 := by omega
      obtain ⟨Wa, hWa⟩ : ∃ Wa, Wa = wr := ⟨_, rfl⟩
      subst hWa
      have hpb := heap_alloc_new Wa (.cells #[.int .i64 comb, .slice none 0 0] 43)
      have HY0 : Hid (YI W1 Wa (Wa.alloc (.cells #[.int .i64 comb, .slice none 0 0] 43)) w.heap.size Wa.heap.size (.slice lo f.len lc) f j false comb (.slice none 0 0) [] []) := Lib.hid ⟨(Kp.refl _ _).alloc _, HX.out.cs.alloc _, hpb, RK.Own.start _ _ _ _⟩
      have HC0 := Lib.hid (Wn.CJ.start (f.drop j))
      clear hpb
      go_wp2_with fail
      generalize hW0 : Wa.alloc (.cells #[.int .i64 comb, .slice none 0 0] 43) = W0 at *
      have hPn : w.heap.size + 3 ≤ Wa.heap.size := by omega
      go_loopw [] (fun wr => ∃ (j2 : Nat) (b : Bool) (q : Value) (es2 : List (List Value)) (acc : List Wn.Sm), acc.length ≤ f.len + 1 ∧ Hid (YI W1 Wa wr w.heap.size Wa.heap.size (.slice lo f.len lc) f j2 b comb q es2 acc) ∧ Hid (b = true → ∀ m c, Wn.cplxR m c (f.drop j) = none) ∧ Hid (b = false → Wn.CJ (f.drop j) acc (f.drop j2) ∧ acc.length ≤ j2)) (fun wr => c4m f.len (w.heap.size + 1) wr)
      case atStart => exact ⟨j, false, _, [], [], Nat.zero_le _, HY0, Lib.hid (fun h => by cases h), Lib.hid (fun _ => ⟨HC0.out, Nat.zero_le _⟩)⟩
      case round =>
        clear HY0 HC0 hW0
        obtain ⟨j2, b, q, es2, acc, hal, HY, HB, HG⟩ := hrel
        obtain ⟨qo, qc, rfl, hq1, hq2⟩ := own_shape HY.out.own.own
        have hel2 := HY.out.own.length
        rw [hel2] at hq1
        have HY2 : Hid (YI W1 Wa wr w.heap.size Wa.heap.size (.slice lo f.len lc) f j2 b comb (.slice qo acc.length qc) es2 acc) := Lib.hid (by have := HY.out; rw [hel2] at this; exact this)
        clear HY
        have HY := HY2
        have HEL2 := Lib.hid hel2
        unfold maxLen at hq2
        clear HY2 hel2
        have hll := HY.out.cs.r.len
        have hjl := HY.out.cs.r.hi
        cases b
        · have QO := Lib.hid (r4over (w.heap.size + 1) j2 f false wr HY.out.cs.r)
          have hbl := (HG.out rfl).2
          have HM2 := Lib.hid (c4m_good (L := f.len) HY.out.cs.r)
          have hblk := HY.out.cs.r.blk
          have q0 := cell_of_block (o := 0) hblk
          have q1 := cell_of_block (o := 1) hblk
          have q2 := cell_of_block (o := 2) hblk
          have qf1 := frozen_blk hblk 1
          have qf2 := frozen_blk hblk 2
          simp only [List.getElem?_toArray, List.getElem?_cons_zero, List.getElem?_cons_succ] at q0 q1 q2
          have hpb := HY.out.pb
          have p0 := cell_of_block (o := 0) hpb
          have p1 := cell_of_block (o := 1) hpb
          have pf1 := frozen_blk hpb 1
          simp only [List.getElem?_toArray, List.getElem?_cons_zero, List.getElem?_cons_succ] at p0 p1
          have hPl := lt_of_block hpb
          have hgl := lt_of_block hblk
          clear hblk hpb
          cases ho : Wn.overF (f.drop j2)
          · rw [ho] at QO
            have HOV := Lib.hid ho
            clear ho
            go_wp2_with fail
            refine QO.out.mono ?_
            rintro e w1 ⟨rfl, b1⟩
            have HY1 := Lib.hid (HY.out.below b1)
            clear HY b1 QO q0 q1 q2 qf1 qf2 p0 p1 pf1
            have QD := Lib.hid (r4double (w.heap.size + 1) j2 f false w1 HY1.out.cs.r)
            cases hd : Wn.dblF (f.drop j2)
            · rw [hd] at QD
              have HDV := Lib.hid hd
              clear hd
              go_wp2_with fail
              refine QD.out.mono ?_
              rintro e w2 ⟨rfl, b2⟩
              have HY := Lib.hid (HY1.out.below b2)
              clear HY1 b2 QD
              have hblk := HY.out.cs.r.blk
              have q0 := cell_of_block (o := 0) hblk
              have q1 := cell_of_block (o := 1) hblk
              have q2 := cell_of_block (o := 2) hblk
              have qf1 := frozen_blk hblk 1
              have qf2 := frozen_blk hblk 2
              simp only [List.getElem?_toArray, List.getElem?_cons_zero, List.getElem?_cons_succ] at q0 q1 q2
              have hpb := HY.out.pb
              have p0 := cell_of_block (o := 0) hpb
              have p1 := cell_of_block (o := 1) hpb
              have pf1 := frozen_blk hpb 1
              simp only [List.getElem?_toArray, List.getElem?_cons_zero, List.getElem?_cons_succ] at p0 p1
              have hPl := lt_of_block hpb
              have hgl := lt_of_block hblk
              clear hblk hpb
              have hfe : ((acc.length : Int) == 0) = decide (acc = []) := by cases acc with | nil => rfl | cons a b => simp; omega
              have QS : Hid (∀ V, R4 V (w.heap.size + 1) (.slice lo f.len lc) f j2 false → Calls Try.prog 40 #[.pointer (some ⟨w.heap.size + 1, 0, none⟩), .bool ((acc.length : Int) == 0)] V (Sim4 (.slice lo f.len lc) (Wn.simpS (decide (acc = [])) (f.drop j2)) (w.heap.size + 1) j2 f V)) := Lib.hid (fun V hV => by
                rw [hfe]
                cases decide (acc = [])
                · exact r4simple0 f.size _ j2 f V (Nat.le_refl _) (r4not_all _) ht hV
                · exact r4simple1 f.size _ j2 f V (Nat.le_refl _) (r4not_all _) ht hV)
              have HYd := Lib.hid (HY.out.below (Below.refl _ _).drew)
              have HRd := Lib.hid HYd.out.cs.r
              have hlo := HX.out.lo
              have hel2 : es2.length ≤ 100001 := by rw [HEL2.out]; omega
              have hPg : ¬ Wa.heap.size = w.heap.size + 1 := by omega
              clear hfe
              go_wp2_with fail
              go_region_law (first
                | (go_simp; go_at_call 40; (refine (QS.out _ HRd.out).mono ?_); rintro e w3 ⟨x, u, rfl, hu, ho, hx⟩; obtain ⟨nuo, nuc, rfl, _, _⟩ := hu.form; (have HSrc : Hid (∀ n, n = w3.heap.size → smK.Src (w3.alloc (.cells #[.int .i64 x.k, .string (Wn.str x.n), .string (Wn.str x.v), .int .i64 x.a, .int .i64 x.b, .slice nuo x.l.len nuc] 45)) (.slice (some ⟨n, 0, none⟩) 1 1) [smCells x (.slice nuo x.l.len nuc)]) := Lib.hid (fun n hn => RK.Src.one (K := smK) hn (ok := fun _ => True) ⟨_, rfl, hu.same (fun _ _ _ => rfl) (fun _ _ _ => trivial)⟩)); (have hpb3 := (ho.block Wa.heap.size hPl hPg).trans HYd.out.pb); (have p1' := cell_of_block (o := 1) hpb3); simp only [List.getElem?_toArray, List.getElem?_cons_zero, List.getElem?_cons_succ] at p1'; (have hPl3 := lt_of_block hpb3); (have hPn3 : ¬ Wa.heap.size = w3.heap.size := by omega); (have HOW : Hid (w3.ownsRow (Wa.heap.size + 1) 45 6 (.slice qo acc.length qc) es2.length es2.flatten) := Lib.hid (ownsRow_kept HYd.out.own.own (fun b hb hl => ho.block b hl (by have := (HYd.out.own.own.lt b hb).1; omega)))); (have HFin : Hid (∀ q8 w8, w8.ownsRow (Wa.heap.size + 1) smK.e smK.sz q8 (es2 ++ [smCells x (.slice nuo x.l.len nuc)]).length (es2 ++ [smCells x (.slice nuo x.l.len nuc)]).flatten → (w3.alloc (.cells #[.int .i64 x.k, .string (Wn.str x.n), .string (Wn.str x.v), .int .i64 x.a, .int .i64 x.b, .slice nuo x.l.len nuc] 45)).grownBy w8 (Value.slice qo acc.length qc).ownBlock → (q8.ownBlock = (Value.slice qo acc.length qc).ownBlock ∨ q8.ownBlock = some (w3.alloc (.cells #[.int .i64 x.k, .string (Wn.str x.n), .string (Wn.str x.v), .int .i64 x.a, .int .i64 x.b, .slice nuo x.l.len nuc] 45)).heap.size) → (∀ j' b', R4 w3 (w.heap.size + 1) (.slice lo f.len lc) f j' b' → YI W1 Wa (w8.setCell ⟨Wa.heap.size, 1, none⟩ q8) w.heap.size Wa.heap.size (.slice lo f.len lc) f j' b' comb q8 (es2 ++ [smCells x (.slice nuo x.l.len nuc)]) (acc ++ [x])) ∧ w8.heap[Wa.heap.size]? = some (.cells #[.int .i64 comb, .slice qo acc.length qc] 43)) := Lib.hid (fun q8 w8 h1 h2 h3 => ⟨fun j' b' hr => HYd.out.next hPn hlo hr ho hu ((Below.refl _ _).alloc (Nat.le_refl _) _) h1 h2 h3, (h2.block _ (by simp; omega) (fun e => by have := (HYd.out.own.own.lt _ e.symm).1; omega)).trans (block_alloc hpb3 _)⟩)); (have HXX := Lib.hid hx); clear hu ho hx hpb3)
                | (refine RK.step_append (K := smK) (by rfl) _ _ (by rfl) (Wa.heap.size + 1) (.slice qo acc.length qc) (.slice (some ⟨w3.heap.size, 0, none⟩) 1 1) es2 [smCells x (.slice nuo x.l.len nuc)] (by rfl) (by rfl) (ownsRow_later HOW.out ((Below.refl _ _).alloc (Nat.le_refl _) _)) (HSrc.out _ rfl) (by simp; omega) (by simp; omega) ?_; intro q8 w8 hown8 hgr8 hat8; obtain ⟨a8, c8, rfl, h81, h82⟩ := own_shape hown8; obtain ⟨hy8, hp8⟩ := HFin.out _ _ hown8 hgr8 hat8; (have HY8 := Lib.hid hy8); (have pf8 := frozen_blk hp8 1); (have p8 := cell_of_block (o := 1) hp8); simp only [List.getElem?_toArray, List.getElem?_cons_zero, List.getElem?_cons_succ] at p8; clear hown8 hgr8 hat8 hy8 hp8; unfold maxLen at h82))
              · skip
                have hy := HY8.out
                rw [show (es2 ++ [smCells x (.slice nuo x.l.len nuc)]).length = es2.length + 1 by simp] at hy
                have hel9 : es2.length + 1 = acc.length + 1 := by rw [HEL2.out]
                rcases HXX.out with ⟨j', hj', hs', hr'⟩ | ⟨hs', j', hr'⟩
                · have hgt := Wn.simp_next hs' hr'.hi
                  have hjl' := hr'.hi
                  have hg := (HG.out trivial).1.next hs'
                  have HYN := Lib.hid (hy j' false hr')
                  have HGN := Lib.hid hg
                  have HME : Hid (c4m f.len (w.heap.size + 1) (w8.setCell ⟨Wa.heap.size, 1, none⟩ (.slice a8 (es2.length + 1) c8)) < c4m f.len (w.heap.size + 1) wr) := Lib.hid (by rw [c4m_good HYN.out.cs.r, HM2.out]; omega)
                  clear hy hs' hr' hg HY8 HXX HFin HOW HSrc QS
                  go_wp2_with fail
                  exact ⟨⟨j', false, _, _, acc ++ [x], by simp; omega, HYN, Lib.hid (fun h => by cases h), Lib.hid (fun _ => ⟨HGN.out, by simp; omega⟩)⟩, HME.out⟩
                · have HYN := Lib.hid (hy j' true hr')
                  have HBN := Lib.hid (fun (m : Nat) (c : Int) => (HG.out trivial).1.bad HOV.out HDV.out hs' m c)
                  have HME : Hid (c4m f.len (w.heap.size + 1) (w8.setCell ⟨Wa.heap.size, 1, none⟩ (.slice a8 (es2.length + 1) c8)) < c4m f.len (w.heap.size + 1) wr) := Lib.hid (by rw [c4m_bad HYN.out.cs.r, HM2.out]; omega)
                  clear hy hs' hr' HY8 HXX HFin HOW HSrc QS
                  go_wp2_with fail
                  exact ⟨⟨j', true, _, _, acc ++ [x], by simp; omega, HYN, Lib.hid (fun _ => HBN.out), Lib.hid (fun h => by cases h)⟩, HME.out⟩
              · skip
                have hy := HY8.out
                rw [show (es2 ++ [smCells x (.slice nuo x.l.len nuc)]).length = es2.length + 1 by simp] at hy
                have hel9 : es2.length + 1 = acc.length + 1 := by rw [HEL2.out]
                rcases HXX.out with ⟨j', hj', hs', hr'⟩ | ⟨hs', j', hr'⟩
                · have hgt := Wn.simp_next hs' hr'.hi
                  have hjl' := hr'.hi
                  have hg := (HG.out trivial).1.next hs'
                  have HYN := Lib.hid (hy j' false hr')
                  have HGN := Lib.hid hg
                  have HME : Hid (c4m f.len (w.heap.size + 1) (w8.setCell ⟨Wa.heap.size, 1, none⟩ (.slice a8 (es2.length + 1) c8)) < c4m f.len (w.heap.size + 1) wr) := Lib.hid (by rw [c4m_good HYN.out.cs.r, HM2.out]; omega)
                  clear hy hs' hr' hg HY8 HXX HFin HOW HSrc QS
                  go_wp2_with fail
                  exact ⟨⟨j', false, _, _, acc ++ [x], by simp; omega, HYN, Lib.hid (fun h => by cases h), Lib.hid (fun _ => ⟨HGN.out, by simp; omega⟩)⟩, HME.out⟩
                · have HYN := Lib.hid (hy j' true hr')
                  have HBN := Lib.hid (fun (m : Nat) (c : Int) => (HG.out trivial).1.bad HOV.out HDV.out hs' m c)
                  have HME : Hid (c4m f.len (w.heap.size + 1) (w8.setCell ⟨Wa.heap.size, 1, none⟩ (.slice a8 (es2.length + 1) c8)) < c4m f.len (w.heap.size + 1) wr) := Lib.hid (by rw [c4m_bad HYN.out.cs.r, HM2.out]; omega)
                  clear hy hs' hr' HY8 HXX HFin HOW HSrc QS
                  go_wp2_with fail
                  exact ⟨⟨j', true, _, _, acc ++ [x], by simp; omega, HYN, Lib.hid (fun _ => HBN.out), Lib.hid (fun h => by cases h)⟩, HME.out⟩
              · skip
                have hy := HY8.out
                rw [show (es2 ++ [smCells x (.slice nuo x.l.len nuc)]).length = es2.length + 1 by simp] at hy
                have hel9 : es2.length + 1 = acc.length + 1 := by rw [HEL2.out]
                rcases HXX.out with ⟨j', hj', hs', hr'⟩ | ⟨hs', j', hr'⟩
                · have hgt := Wn.simp_next hs' hr'.hi
                  have hjl' := hr'.hi
                  have hg := (HG.out trivial).1.next hs'
                  have HYN := Lib.hid (hy j' false hr')
                  have HGN := Lib.hid hg
                  have HME : Hid (c4m f.len (w.heap.size + 1) (w8.setCell ⟨Wa.heap.size, 1, none⟩ (.slice a8 (es2.length + 1) c8)) < c4m f.len (w.heap.size + 1) wr) := Lib.hid (by rw [c4m_good HYN.out.cs.r, HM2.out]; omega)
                  clear hy hs' hr' hg HY8 HXX HFin HOW HSrc QS
                  go_wp2_with fail
                  exact ⟨⟨j', false, _, _, acc ++ [x], by simp; omega, HYN, Lib.hid (fun h => by cases h), Lib.hid (fun _ => ⟨HGN.out, by simp; omega⟩)⟩, HME.out⟩
                · have HYN := Lib.hid (hy j' true hr')
                  have HBN := Lib.hid (fun (m : Nat) (c : Int) => (HG.out trivial).1.bad HOV.out HDV.out hs' m c)
                  have HME : Hid (c4m f.len (w.heap.size + 1) (w8.setCell ⟨Wa.heap.size, 1, none⟩ (.slice a8 (es2.length + 1) c8)) < c4m f.len (w.heap.size + 1) wr) := Lib.hid (by rw [c4m_bad HYN.out.cs.r, HM2.out]; omega)
                  clear hy hs' hr' HY8 HXX HFin HOW HSrc QS
                  go_wp2_with fail
                  exact ⟨⟨j', true, _, _, acc ++ [x], by simp; omega, HYN, Lib.hid (fun _ => HBN.out), Lib.hid (fun h => by cases h)⟩, HME.out⟩
              · skip
                have hy := HY8.out
                rw [show (es2 ++ [smCells x (.slice nuo x.l.len nuc)]).length = es2.length + 1 by simp] at hy
                have hel9 : es2.length + 1 = acc.length + 1 := by rw [HEL2.out]
                rcases HXX.out with ⟨j', hj', hs', hr'⟩ | ⟨hs', j', hr'⟩
                · have hgt := Wn.simp_next hs' hr'.hi
                  have hjl' := hr'.hi
                  have hg := (HG.out trivial).1.next hs'
                  have HYN := Lib.hid (hy j' false hr')
                  have HGN := Lib.hid hg
                  have HME : Hid (c4m f.len (w.heap.size + 1) (w8.setCell ⟨Wa.heap.size, 1, none⟩ (.slice a8 (es2.length + 1) c8)) < c4m f.len (w.heap.size + 1) wr) := Lib.hid (by rw [c4m_good HYN.out.cs.r, HM2.out]; omega)
                  clear hy hs' hr' hg HY8 HXX HFin HOW HSrc QS
                  go_wp2_with fail
                  exact ⟨⟨j', false, _, _, acc ++ [x], by simp; omega, HYN, Lib.hid (fun h => by cases h), Lib.hid (fun _ => ⟨HGN.out, by simp; omega⟩)⟩, HME.out⟩
                · have HYN := Lib.hid (hy j' true hr')
                  have HBN := Lib.hid (fun (m : Nat) (c : Int) => (HG.out trivial).1.bad HOV.out HDV.out hs' m c)
                  have HME : Hid (c4m f.len (w.heap.size + 1) (w8.setCell ⟨Wa.heap.size, 1, none⟩ (.slice a8 (es2.length + 1) c8)) < c4m f.len (w.heap.size + 1) wr) := Lib.hid (by rw [c4m_bad HYN.out.cs.r, HM2.out]; omega)
                  clear hy hs' hr' HY8 HXX HFin HOW HSrc QS
                  go_wp2_with fail
                  exact ⟨⟨j', true, _, _, acc ++ [x], by simp; omega, HYN, Lib.hid (fun _ => HBN.out), Lib.hid (fun h => by cases h)⟩, HME.out⟩
            · rw [hd] at QD
              have HDV := Lib.hid hd
              clear hd
              obtain ⟨hj22, _⟩ := Wn.dbl_two' HDV.out
              have hPg : ¬ Wa.heap.size = w.heap.size + 1 := by omega
              go_wp2_with fail
              refine QD.out.mono ?_
              rintro e w2 ⟨rfl, b2⟩
              have HY2 := Lib.hid (HY1.out.below b2)
              clear HY1 b2 QD
              have QD := Lib.hid (r4double (w.heap.size + 1) j2 f false w2 HY2.out.cs.r)
              rw [HDV.out] at QD
              have hblk1 := HY2.out.cs.r.blk
              have q2 := cell_of_block (o := 2) hblk1
              simp only [List.getElem?_toArray, List.getElem?_cons_zero, List.getElem?_cons_succ] at q2
              clear hblk1
              go_wp2_with fail
              refine QD.out.mono ?_
              rintro e w3 ⟨rfl, b3⟩
              have HY3 := Lib.hid (HY2.out.below b3)
              clear HY2 b3 QD q2
              have hblk1 := HY3.out.cs.r.blk
              have q1 := cell_of_block (o := 1) hblk1
              have qf1 := frozen_blk hblk1 1
              simp only [List.getElem?_toArray, List.getElem?_cons_zero, List.getElem?_cons_succ] at q1
              have HYm := Lib.hid (HY3.out.move (by omega) (j' := j2 + 2) hj22 (z := (j2 : Int) + 2) (by omega))
              clear hblk1
              have hw2 : IntKind.i64.wrap ((j2 : Int) + 2) = (j2 : Int) + 2 := IntWalk.i64_in _ (by omega)
              go_wp2_with fail
              refine (r4name (w.heap.size + 1) (j2 + 2) f false _ HYm.out.cs.r).mono ?_
              rintro e w5 (⟨nm, hn, hn0, rfl, hr5, ho5⟩ | ⟨hn, rfl, hr5, ho5⟩)
              · have hy5 := HYm.out.go (by omega) hr5 ho5
                obtain ⟨j3, hj3⟩ : ∃ j3, j3 = j2 + 2 + 1 := ⟨_, rfl⟩
                rw [← hj3] at hy5
                have hj3l : j3 ≤ f.len := by omega
                have HY := Lib.hid hy5
                have HPD := Lib.hid (Wn.part_dbl (HG.out (by simp)).1 HDV.out)
                have HN : Hid (Wn.tokF 1 (f.drop (j2 + 2)) = some (nm, f.drop j3)) := Lib.hid (by rw [hj3]; exact hn)
                have HJ3 := Lib.hid hj3
                clear HY3 HYm hr5 ho5 hn q1 qf1 hw2 hy5 hj3
                have hblk := HY.out.cs.r.blk
                have q0 := cell_of_block (o := 0) hblk
                have q1 := cell_of_block (o := 1) hblk
                have q2 := cell_of_block (o := 2) hblk
                have qf1 := frozen_blk hblk 1
                have qf2 := frozen_blk hblk 2
                simp only [List.getElem?_toArray, List.getElem?_cons_zero, List.getElem?_cons_succ] at q0 q1 q2
                have hpb := HY.out.pb
                have p0 := cell_of_block (o := 0) hpb
                have p1 := cell_of_block (o := 1) hpb
                have pf1 := frozen_blk hpb 1
                simp only [List.getElem?_toArray, List.getElem?_cons_zero, List.getElem?_cons_succ] at p0 p1
                have hPl := lt_of_block hpb
                have hgl := lt_of_block hblk
                clear hblk hpb
                have HXT5 := Lib.hid (HX.out.to rfl HY.out)
                have HQ5 := Lib.hid (HY.out.own.p (fun b hb => hb))
                have HPB5 := Lib.hid HY.out.pb
                have hcx5 := HXT5.out.cx
                have c0 := cell_of_block (o := 0) hcx5
                have c1x := cell_of_block (o := 1) hcx5
                have cf1 := frozen_blk hcx5 1
                simp only [List.getElem?_toArray, List.getElem?_cons_zero, List.getElem?_cons_succ] at c0 c1x
                clear hcx5
                clear HY
                have hxl := str_list nm.2.1
                generalize hsx : Wn.str nm.2.1 = sx at *
                have HSX := Lib.hid hsx
                have HXL := Lib.hid hxl
                clear hsx hxl
                cases c1 : (sx.toList == [98, 101, 102, 111, 114, 101])
                · cases c2 : (sx.toList == [97, 102, 116, 101, 114])
                  · have c1b : (sx.toList != [98, 101, 102, 111, 114, 101]) = true := by simp [bne, c1]
                    have c2b : (sx.toList != [97, 102, 116, 101, 114]) = true := by simp [bne, c2]
                    have HE : Hid (Wn.cxF f = none) := Lib.hid (Wn.cx_none (HP.out.noPart (by
                      rw [HPD.out, HN.out]
                      dsimp only
                      rw [if_neg]
                      rintro ⟨_, h⟩
                      unfold Wn.isPseudo at h
                      rw [← HXL.out] at h
                      simp at h c1 c2
                      rcases h with h | h
                      · exact c1 h
                      · exact c2 h)))
                    clear HG HPD
                    go_wp2_with fail
                    go_region
                    all_goals
                      have HXT := Lib.hid (((HXT5.out.pseudo sx).go ((HXT5.out.pseudo sx).cs.r.spoil true) ((Only.refl (w.heap.size + 1) _).setCell (p := ⟨w.heap.size + 1, 2, none⟩) rfl (.bool true))).below (Below.refl _ _).drew)
                      have HQ := Lib.hid (HQ5.out.same (w' := ((w5.setCell ⟨w.heap.size + 2, 1, none⟩ (.string sx)).setCell ⟨w.heap.size + 1, 2, none⟩ (.bool true)).drew) (fun b hb _ => by
                        have hb' : Wa.heap.size + 1 ≤ b := hb
                        exact (Below.heap_setCell (w5.setCell ⟨w.heap.size + 2, 1, none⟩ (.string sx)) ⟨w.heap.size + 1, 2, none⟩ (.bool true) b (by show b ≠ w.heap.size + 1; omega)).trans (Below.heap_setCell w5 ⟨w.heap.size + 2, 1, none⟩ (.string sx) b (by show b ≠ w.heap.size + 2; omega))) (fun _ h _ => h))
                      have HPB : Hid (((w5.setCell ⟨w.heap.size + 2, 1, none⟩ (.string sx)).setCell ⟨w.heap.size + 1, 2, none⟩ (.bool true)).drew.heap[Wa.heap.size]? = some (.cells #[.int .i64 comb, .slice qo acc.length qc] 43)) := Lib.hid ((Below.heap_setCell (w5.setCell ⟨w.heap.size + 2, 1, none⟩ (.string sx)) ⟨w.heap.size + 1, 2, none⟩ (.bool true) Wa.heap.size (by show Wa.heap.size ≠ w.heap.size + 1; omega)).trans ((Below.heap_setCell w5 ⟨w.heap.size + 2, 1, none⟩ (.string sx) Wa.heap.size (by show Wa.heap.size ≠ w.heap.size + 2; omega)).trans HPB5.out))
                      have HPV : Hid (∀ r, (Value.slice vo es.length vc).ownBlock = some r → r < Wa.heap.size) := Lib.hid (fun r e => (HX.out.own.own.lt r e).2)
                      clear HXT5 HQ5 HPB5 q0 q1 q2 qf1 qf2 p0 p1 pf1 c0 c1x cf1
                      generalize ((w5.setCell ⟨w.heap.size + 2, 1, none⟩ (.string sx)).setCell ⟨w.heap.size + 1, 2, none⟩ (.bool true)).drew = W6 at *
                      have hblk6 := HXT.out.cs.r.blk
                      have q2 := cell_of_block (o := 2) hblk6
                      have p0 := cell_of_block (o := 0) HPB.out
                      have p1 := cell_of_block (o := 1) HPB.out
                      simp only [List.getElem?_toArray, List.getElem?_cons_zero, List.getElem?_cons_succ] at q2 p0 p1
                      clear hblk6
                      have hel16 : es.length + 1 ≤ 17 := by omega
                      have hxt := HXT.out
                      have HCELL : Hid (∀ w8 : World, (∀ k, k < W6.heap.size → (Value.slice vo es.length vc).ownBlock ≠ some k → w8.heap[k]? = W6.heap[k]?) →
                        w8.heap[w.heap.size]? = some (.cells #[.slice none 0 0, .string ⟨#[]⟩] 31) ∧ w8.heap[w.heap.size + 1]? = some (.cells #[.slice lo f.len lc, .int .i64 (j3 : Int), .bool true] 84) ∧ w8.heap[w.heap.size + 2]? = some (.cells #[.slice vo es.length vc, .string sx] 31) ∧ w8.heap[Wa.heap.size]? = some (.cells #[.int .i64 comb, .slice qo acc.length qc] 43)) := Lib.hid (fun w8 h => by
                          have ho := hxt.own.own.lt
                          have l2 := lt_of_block hxt.cx
                          have lP := lt_of_block HPB.out
                          exact ⟨(h _ (by omega) (fun e => by have := (ho _ e).1; omega)).trans hxt.res, (h _ (by omega) (fun e => by have := (ho _ e).1; omega)).trans hxt.cs.r.blk, (h _ l2 (fun e => by have := (ho _ e).1; omega)).trans hxt.cx, (h _ lP (fun e => by have := HPV.out _ e; omega)).trans HPB.out⟩)
                      have HSrc : Hid (ptK.Src (W6.alloc (.cells #[.int .i64 comb, .slice qo acc.length qc] 43)) (.slice (some ⟨W6.heap.size, 0, none⟩) 1 1) [([.int .i64 comb, .slice qo acc.length qc] : List Value)]) := Lib.hid (RK.Src.one (K := ptK) (x := (comb, acc)) (W := W6) rfl (ok := fun _ => True) ⟨_, rfl, HQ.out.any⟩)
                      have HOW := Lib.hid (ownsRow_later HXT.out.own.own ((Below.refl _ _).alloc (Nat.le_refl _) (.cells #[.int .i64 comb, .slice qo acc.length qc] 43)))
                      have hbase : w.heap.size + 3 ≤ (W6.alloc (.cells #[.int .i64 comb, .slice qo acc.length qc] 43)).heap.size := by have := lt_of_block hxt.cx; simp; omega
                      have HBase := Lib.hid hbase
                      have HFin : Hid (∀ v8 w8, w8.ownsRow (w.heap.size + 3) ptK.e ptK.sz v8 (es ++ [([.int .i64 comb, .slice qo acc.length qc] : List Value)]).length (es ++ [([.int .i64 comb, .slice qo acc.length qc] : List Value)]).flatten → (W6.alloc (.cells #[.int .i64 comb, .slice qo acc.length qc] 43)).grownBy w8 (Value.slice vo es.length vc).ownBlock → (v8.ownBlock = (Value.slice vo es.length vc).ownBlock ∨ v8.ownBlock = some (W6.alloc (.cells #[.int .i64 comb, .slice qo acc.length qc] 43)).heap.size) →
                        XI w W1 (w8.setCell ⟨w.heap.size + 2, 0, none⟩ v8) w.heap.size (.slice lo f.len lc) f j3 true v8 sx (es ++ [([.int .i64 comb, .slice qo acc.length qc] : List Value)]) (ps ++ [(comb, acc)]) ∧ (∀ k, k < W6.heap.size → (Value.slice vo es.length vc).ownBlock ≠ some k → w8.heap[k]? = W6.heap[k]?)) := Lib.hid (fun v8 w8 h1 h2 h3 => ⟨HXT.out.next HPV.out hPn HQ.out ((Below.refl _ _).alloc (Nat.le_refl _) _) h1 h2 h3, fun k hk hn => (h2.block k (by simp; omega) (fun e => hn e.symm)).trans (Below.heap_alloc _ _ _ hk)⟩)
                      have hcx := hxt.cx
                      have c0 := cell_of_block (o := 0) hcx
                      have c1 := cell_of_block (o := 1) hcx
                      have cl := lt_of_block hcx
                      simp only [List.getElem?_toArray, List.getElem?_cons_zero, List.getElem?_cons_succ] at c0 c1
                      have cn1 : ¬ w.heap.size + 2 = W6.heap.size := by omega
                      clear hbase hxt HPB hcx
                      go_wp2_with (at_builtin; refine RK.append (K := ptK) rfl _ _ rfl rfl rfl HOW.out HSrc.out (by simp; omega) HBase.out ?_; intro v8 w8 hown8 hgr8 hat8; obtain ⟨a8, c8, rfl, h81, h82⟩ := own_shape hown8; obtain ⟨hz8, hk8⟩ := HFin.out _ _ hown8 hgr8 hat8; obtain ⟨kr, kg, kc, kp⟩ := HCELL.out w8 hk8; (have HZ8 := Lib.hid hz8); (have q0 := cell_of_block (o := 0) kg); (have q1 := cell_of_block (o := 1) kg); (have q2 := cell_of_block (o := 2) kg); (have c0 := cell_of_block (o := 0) kc); (have c1 := cell_of_block (o := 1) kc); (have p1 := cell_of_block (o := 1) kp); (have a0 := cell_of_block (o := 0) kr); (have a1 := cell_of_block (o := 1) kr); (have cf0 := frozen_blk kc 0); (have af0 := frozen_blk kr 0); (have af1 := frozen_blk kr 1); simp only [List.getElem?_toArray, List.getElem?_cons_zero, List.getElem?_cons_succ] at q0 q1 q2 c0 c1 p1 a0 a1; clear hown8 hgr8 hat8 hz8 hk8 kr kg kc kp; unfold maxLen at h82)
                    all_goals
                      have hz := HZ8.out
                      rw [show (es ++ [([.int .i64 comb, .slice qo acc.length qc] : List Value)]).length = es.length + 1 by simp] at hz
                      have HB2 := Lib.hid hz.all
                      refine bodyPost_ret (v := .tuple #[.agg #[.slice none 0 0, .string ⟨#[]⟩], .bool false]) (by simp [results, Try.results32, go_sem, a0, a1]) rfl ⟨_, _, false, rfl, (by (repeat (first | with_reducible exact HB2.out | (with_reducible refine Below.drew ?_) | (with_reducible refine below_drewN' ?_ _) | ((with_reducible refine Below.setCell ?_ ?_ _); rotate_left; (focus (first | omega | (simp; done) | (simp; omega)))) | ((with_reducible refine Below.alloc ?_ ?_ _); rotate_left; (focus (first | omega | (simp; omega))))))), ⟨_, _, _, rfl⟩, by rw [if_neg (by decide)]; exact HE.out⟩
                  · have hx : sx.toList = [97, 102, 116, 101, 114] := by simpa using c2
                    have c5 : (sx.toList == []) = false := by rw [hx]; rfl
                    have c1b : (sx.toList != [98, 101, 102, 111, 114, 101]) = true := by rw [hx]; rfl
                    have c2b : (sx.toList != [97, 102, 116, 101, 114]) = false := by rw [hx]; rfl
                    have HPS : Hid (Wn.isPseudo nm.2.1 = true) := Lib.hid (by rw [← HXL.out, hx]; decide)
                    have hj3 := HJ3.out
                    clear hx
                    have hlj : ∀ c, acc.length ≤ 8 → c = ((acc, nm.2.1), f.drop j3) → Wn.partR (f.drop j) = some c := fun c h8 hc => by
                      rw [HPD.out, HN.out]
                      dsimp only
                      rw [if_pos ⟨h8, HPS.out⟩, hc, hj3]
                    have hlb : ¬ acc.length ≤ 8 → Wn.partR (f.drop j) = none := fun h8 => by
                      rw [HPD.out, HN.out]
                      dsimp only
                      rw [if_neg (fun h => h8 h.1)]
                    have HLJ := Lib.hid hlj
                    have HLB := Lib.hid hlb
                    have hps16 : ps.length < 16 := by rw [← HEL.out]; omega
                    clear hlj hlb HG HPD hj3
                    by_cases hje : j3 = f.len
                    · have hji : (j3 : Int) = (f.len : Int) := by omega
                      have hjn : ¬ (j3 : Int) < (f.len : Int) := by omega
                      by_cases g8 : acc.length ≤ 8
                      · have g8i : ¬ (8 : Int) < (acc.length : Int) := by omega
                        have g8j : (acc.length : Int) ≤ 8 := by omega
                        have HE : Hid (Wn.cxF f = some (ps ++ [(comb, acc)], nm.2.1)) := Lib.hid (Wn.cx_end (HP.out.pseudo hps16 (HLJ.out _ g8 (by rw [Wn.Fs.drop_len (by omega)])) (Wn.pseudo_ne HPS.out)))
                        have HJE := Lib.hid hje
                        clear hje
                        cases g0 : ((acc.length : Int) == 0)
                        · skip
                          go_wp2_with fail
                          go_region
                          all_goals
                            have HXT := Lib.hid (((HXT5.out.pseudo sx).go ((HXT5.out.pseudo sx).cs.r.spoil false) ((Only.refl (w.heap.size + 1) _).setCell (p := ⟨w.heap.size + 1, 2, none⟩) rfl (.bool false))).below (Below.refl _ _).drew)
                            have HQ := Lib.hid (HQ5.out.same (w' := ((w5.setCell ⟨w.heap.size + 2, 1, none⟩ (.string sx)).setCell ⟨w.heap.size + 1, 2, none⟩ (.bool false)).drew) (fun b hb _ => by
                              have hb' : Wa.heap.size + 1 ≤ b := hb
                              exact (Below.heap_setCell (w5.setCell ⟨w.heap.size + 2, 1, none⟩ (.string sx)) ⟨w.heap.size + 1, 2, none⟩ (.bool false) b (by show b ≠ w.heap.size + 1; omega)).trans (Below.heap_setCell w5 ⟨w.heap.size + 2, 1, none⟩ (.string sx) b (by show b ≠ w.heap.size + 2; omega))) (fun _ h _ => h))
                            have HPB : Hid (((w5.setCell ⟨w.heap.size + 2, 1, none⟩ (.string sx)).setCell ⟨w.heap.size + 1, 2, none⟩ (.bool false)).drew.heap[Wa.heap.size]? = some (.cells #[.int .i64 comb, .slice qo acc.length qc] 43)) := Lib.hid ((Below.heap_setCell (w5.setCell ⟨w.heap.size + 2, 1, none⟩ (.string sx)) ⟨w.heap.size + 1, 2, none⟩ (.bool false) Wa.heap.size (by show Wa.heap.size ≠ w.heap.size + 1; omega)).trans ((Below.heap_setCell w5 ⟨w.heap.size + 2, 1, none⟩ (.string sx) Wa.heap.size (by show Wa.heap.size ≠ w.heap.size + 2; omega)).trans HPB5.out))
                            have HPV : Hid (∀ r, (Value.slice vo es.length vc).ownBlock = some r → r < Wa.heap.size) := Lib.hid (fun r e => (HX.out.own.own.lt r e).2)
                            clear HXT5 HQ5 HPB5 q0 q1 q2 qf1 qf2 p0 p1 pf1 c0 c1x cf1
                            generalize ((w5.setCell ⟨w.heap.size + 2, 1, none⟩ (.string sx)).setCell ⟨w.heap.size + 1, 2, none⟩ (.bool false)).drew = W6 at *
                            have hblk6 := HXT.out.cs.r.blk
                            have q2 := cell_of_block (o := 2) hblk6
                            have p0 := cell_of_block (o := 0) HPB.out
                            have p1 := cell_of_block (o := 1) HPB.out
                            simp only [List.getElem?_toArray, List.getElem?_cons_zero, List.getElem?_cons_succ] at q2 p0 p1
                            clear hblk6
                            have hel16 : es.length + 1 ≤ 17 := by omega
                            have hxt := HXT.out
                            have HCELL : Hid (∀ w8 : World, (∀ k, k < W6.heap.size → (Value.slice vo es.length vc).ownBlock ≠ some k → w8.heap[k]? = W6.heap[k]?) →
                              w8.heap[w.heap.size]? = some (.cells #[.slice none 0 0, .string ⟨#[]⟩] 31) ∧ w8.heap[w.heap.size + 1]? = some (.cells #[.slice lo f.len lc, .int .i64 (j3 : Int), .bool false] 84) ∧ w8.heap[w.heap.size + 2]? = some (.cells #[.slice vo es.length vc, .string sx] 31) ∧ w8.heap[Wa.heap.size]? = some (.cells #[.int .i64 comb, .slice qo acc.length qc] 43)) := Lib.hid (fun w8 h => by
                                have ho := hxt.own.own.lt
                                have l2 := lt_of_block hxt.cx
                                have lP := lt_of_block HPB.out
                                exact ⟨(h _ (by omega) (fun e => by have := (ho _ e).1; omega)).trans hxt.res, (h _ (by omega) (fun e => by have := (ho _ e).1; omega)).trans hxt.cs.r.blk, (h _ l2 (fun e => by have := (ho _ e).1; omega)).trans hxt.cx, (h _ lP (fun e => by have := HPV.out _ e; omega)).trans HPB.out⟩)
                            have HSrc : Hid (ptK.Src (W6.alloc (.cells #[.int .i64 comb, .slice qo acc.length qc] 43)) (.slice (some ⟨W6.heap.size, 0, none⟩) 1 1) [([.int .i64 comb, .slice qo acc.length qc] : List Value)]) := Lib.hid (RK.Src.one (K := ptK) (x := (comb, acc)) (W := W6) rfl (ok := fun _ => True) ⟨_, rfl, HQ.out.any⟩)
                            have HOW := Lib.hid (ownsRow_later HXT.out.own.own ((Below.refl _ _).alloc (Nat.le_refl _) (.cells #[.int .i64 comb, .slice qo acc.length qc] 43)))
                            have hbase : w.heap.size + 3 ≤ (W6.alloc (.cells #[.int .i64 comb, .slice qo acc.length qc] 43)).heap.size := by have := lt_of_block hxt.cx; simp; omega
                            have HBase := Lib.hid hbase
                            have HFin : Hid (∀ v8 w8, w8.ownsRow (w.heap.size + 3) ptK.e ptK.sz v8 (es ++ [([.int .i64 comb, .slice qo acc.length qc] : List Value)]).length (es ++ [([.int .i64 comb, .slice qo acc.length qc] : List Value)]).flatten → (W6.alloc (.cells #[.int .i64 comb, .slice qo acc.length qc] 43)).grownBy w8 (Value.slice vo es.length vc).ownBlock → (v8.ownBlock = (Value.slice vo es.length vc).ownBlock ∨ v8.ownBlock = some (W6.alloc (.cells #[.int .i64 comb, .slice qo acc.length qc] 43)).heap.size) →
                              XI w W1 (w8.setCell ⟨w.heap.size + 2, 0, none⟩ v8) w.heap.size (.slice lo f.len lc) f j3 false v8 sx (es ++ [([.int .i64 comb, .slice qo acc.length qc] : List Value)]) (ps ++ [(comb, acc)]) ∧ (∀ k, k < W6.heap.size → (Value.slice vo es.length vc).ownBlock ≠ some k → w8.heap[k]? = W6.heap[k]?)) := Lib.hid (fun v8 w8 h1 h2 h3 => ⟨HXT.out.next HPV.out hPn HQ.out ((Below.refl _ _).alloc (Nat.le_refl _) _) h1 h2 h3, fun k hk hn => (h2.block k (by simp; omega) (fun e => hn e.symm)).trans (Below.heap_alloc _ _ _ hk)⟩)
                            have hcx := hxt.cx
                            have c0 := cell_of_block (o := 0) hcx
                            have c1 := cell_of_block (o := 1) hcx
                            have cl := lt_of_block hcx
                            simp only [List.getElem?_toArray, List.getElem?_cons_zero, List.getElem?_cons_succ] at c0 c1
                            have cn1 : ¬ w.heap.size + 2 = W6.heap.size := by omega
                            clear hbase hxt HPB hcx
                            go_wp2_with (at_builtin; refine RK.append (K := ptK) rfl _ _ rfl rfl rfl HOW.out HSrc.out (by simp; omega) HBase.out ?_; intro v8 w8 hown8 hgr8 hat8; obtain ⟨a8, c8, rfl, h81, h82⟩ := own_shape hown8; obtain ⟨hz8, hk8⟩ := HFin.out _ _ hown8 hgr8 hat8; obtain ⟨kr, kg, kc, kp⟩ := HCELL.out w8 hk8; (have HZ8 := Lib.hid hz8); (have q0 := cell_of_block (o := 0) kg); (have q1 := cell_of_block (o := 1) kg); (have q2 := cell_of_block (o := 2) kg); (have c0 := cell_of_block (o := 0) kc); (have c1 := cell_of_block (o := 1) kc); (have p1 := cell_of_block (o := 1) kp); (have a0 := cell_of_block (o := 0) kr); (have a1 := cell_of_block (o := 1) kr); (have cf0 := frozen_blk kc 0); (have af0 := frozen_blk kr 0); (have af1 := frozen_blk kr 1); simp only [List.getElem?_toArray, List.getElem?_cons_zero, List.getElem?_cons_succ] at q0 q1 q2 c0 c1 p1 a0 a1; clear hown8 hgr8 hat8 hz8 hk8 kr kg kc kp; unfold maxLen at h82)
                          all_goals go_region
                          all_goals go_wp2_with fail
                          all_goals
                            have hz := HZ8.out
                            rw [show (es ++ [([.int .i64 comb, .slice qo acc.length qc] : List Value)]).length = es.length + 1 by simp] at hz
                            have HB2 := Lib.hid hz.all
                            have hpp := hz.own.p (fun b hb => hb)
                            refine bodyPost_ret (v := .tuple #[.agg #[.slice a8 (es.length + 1) c8, .string sx], .bool true]) (by simp [results, Try.results32, go_sem, a0, a1, c0, c1]) rfl ⟨_, _, true, rfl, (by (repeat (first | with_reducible exact HB2.out | (with_reducible refine Below.drew ?_) | (with_reducible refine below_drewN' ?_ _) | ((with_reducible refine Below.setCell ?_ ?_ _); rotate_left; (focus (first | omega | (simp; done) | (simp; omega)))) | ((with_reducible refine Below.alloc ?_ ?_ _); rotate_left; (focus (first | omega | (simp; omega))))))), ⟨_, _, _, rfl⟩, ?_⟩
                            rw [if_pos rfl]
                            refine ⟨_, HE.out, HSX.out.symm, hpp.same (fun b hb hl => ?_) (fun b hb _ => by omega)⟩
                            refine Eq.trans (b := (World.setCell (World.setCell _ ⟨w.heap.size, 0, none⟩ _) ⟨w.heap.size, 1, none⟩ _).heap[b]?) rfl ?_
                            rw [Below.heap_setCell _ _ _ _ (by show b ≠ w.heap.size; omega), Below.heap_setCell _ _ _ _ (by show b ≠ w.heap.size; omega)]
                        · skip
                          go_wp2_with fail
                          go_region
                          all_goals
                            have HXT := Lib.hid (((HXT5.out.pseudo sx).go ((HXT5.out.pseudo sx).cs.r.spoil false) ((Only.refl (w.heap.size + 1) _).setCell (p := ⟨w.heap.size + 1, 2, none⟩) rfl (.bool false))).below (Below.refl _ _).drew)
                            have HQ := Lib.hid (HQ5.out.same (w' := ((w5.setCell ⟨w.heap.size + 2, 1, none⟩ (.string sx)).setCell ⟨w.heap.size + 1, 2, none⟩ (.bool false)).drew) (fun b hb _ => by
                              have hb' : Wa.heap.size + 1 ≤ b := hb
                              exact (Below.heap_setCell (w5.setCell ⟨w.heap.size + 2, 1, none⟩ (.string sx)) ⟨w.heap.size + 1, 2, none⟩ (.bool false) b (by show b ≠ w.heap.size + 1; omega)).trans (Below.heap_setCell w5 ⟨w.heap.size + 2, 1, none⟩ (.string sx) b (by show b ≠ w.heap.size + 2; omega))) (fun _ h _ => h))
                            have HPB : Hid (((w5.setCell ⟨w.heap.size + 2, 1, none⟩ (.string sx)).setCell ⟨w.heap.size + 1, 2, none⟩ (.bool false)).drew.heap[Wa.heap.size]? = some (.cells #[.int .i64 comb, .slice qo acc.length qc] 43)) := Lib.hid ((Below.heap_setCell (w5.setCell ⟨w.heap.size + 2, 1, none⟩ (.string sx)) ⟨w.heap.size + 1, 2, none⟩ (.bool false) Wa.heap.size (by show Wa.heap.size ≠ w.heap.size + 1; omega)).trans ((Below.heap_setCell w5 ⟨w.heap.size + 2, 1, none⟩ (.string sx) Wa.heap.size (by show Wa.heap.size ≠ w.heap.size + 2; omega)).trans HPB5.out))
                            have HPV : Hid (∀ r, (Value.slice vo es.length vc).ownBlock = some r → r < Wa.heap.size) := Lib.hid (fun r e => (HX.out.own.own.lt r e).2)
                            clear HXT5 HQ5 HPB5 q0 q1 q2 qf1 qf2 p0 p1 pf1 c0 c1x cf1
                            generalize ((w5.setCell ⟨w.heap.size + 2, 1, none⟩ (.string sx)).setCell ⟨w.heap.size + 1, 2, none⟩ (.bool false)).drew = W6 at *
                            have hblk6 := HXT.out.cs.r.blk
                            have q2 := cell_of_block (o := 2) hblk6
                            have p0 := cell_of_block (o := 0) HPB.out
                            have p1 := cell_of_block (o := 1) HPB.out
                            simp only [List.getElem?_toArray, List.getElem?_cons_zero, List.getElem?_cons_succ] at q2 p0 p1
                            clear hblk6
                            have hel16 : es.length + 1 ≤ 17 := by omega
                            have hxt := HXT.out
                            have HCELL : Hid (∀ w8 : World, (∀ k, k < W6.heap.size → (Value.slice vo es.length vc).ownBlock ≠ some k → w8.heap[k]? = W6.heap[k]?) →
                              w8.heap[w.heap.size]? = some (.cells #[.slice none 0 0, .string ⟨#[]⟩] 31) ∧ w8.heap[w.heap.size + 1]? = some (.cells #[.slice lo f.len lc, .int .i64 (j3 : Int), .bool false] 84) ∧ w8.heap[w.heap.size + 2]? = some (.cells #[.slice vo es.length vc, .string sx] 31) ∧ w8.heap[Wa.heap.size]? = some (.cells #[.int .i64 comb, .slice qo acc.length qc] 43)) := Lib.hid (fun w8 h => by
                                have ho := hxt.own.own.lt
                                have l2 := lt_of_block hxt.cx
                                have lP := lt_of_block HPB.out
                                exact ⟨(h _ (by omega) (fun e => by have := (ho _ e).1; omega)).trans hxt.res, (h _ (by omega) (fun e => by have := (ho _ e).1; omega)).trans hxt.cs.r.blk, (h _ l2 (fun e => by have := (ho _ e).1; omega)).trans hxt.cx, (h _ lP (fun e => by have := HPV.out _ e; omega)).trans HPB.out⟩)
                            have HSrc : Hid (ptK.Src (W6.alloc (.cells #[.int .i64 comb, .slice qo acc.length qc] 43)) (.slice (some ⟨W6.heap.size, 0, none⟩) 1 1) [([.int .i64 comb, .slice qo acc.length qc] : List Value)]) := Lib.hid (RK.Src.one (K := ptK) (x := (comb, acc)) (W := W6) rfl (ok := fun _ => True) ⟨_, rfl, HQ.out.any⟩)
                            have HOW := Lib.hid (ownsRow_later HXT.out.own.own ((Below.refl _ _).alloc (Nat.le_refl _) (.cells #[.int .i64 comb, .slice qo acc.length qc] 43)))
                            have hbase : w.heap.size + 3 ≤ (W6.alloc (.cells #[.int .i64 comb, .slice qo acc.length qc] 43)).heap.size := by have := lt_of_block hxt.cx; simp; omega
                            have HBase := Lib.hid hbase
                            have HFin : Hid (∀ v8 w8, w8.ownsRow (w.heap.size + 3) ptK.e ptK.sz v8 (es ++ [([.int .i64 comb, .slice qo acc.length qc] : List Value)]).length (es ++ [([.int .i64 comb, .slice qo acc.length qc] : List Value)]).flatten → (W6.alloc (.cells #[.int .i64 comb, .slice qo acc.length qc] 43)).grownBy w8 (Value.slice vo es.length vc).ownBlock → (v8.ownBlock = (Value.slice vo es.length vc).ownBlock ∨ v8.ownBlock = some (W6.alloc (.cells #[.int .i64 comb, .slice qo acc.length qc] 43)).heap.size) →
                              XI w W1 (w8.setCell ⟨w.heap.size + 2, 0, none⟩ v8) w.heap.size (.slice lo f.len lc) f j3 false v8 sx (es ++ [([.int .i64 comb, .slice qo acc.length qc] : List Value)]) (ps ++ [(comb, acc)]) ∧ (∀ k, k < W6.heap.size → (Value.slice vo es.length vc).ownBlock ≠ some k → w8.heap[k]? = W6.heap[k]?)) := Lib.hid (fun v8 w8 h1 h2 h3 => ⟨HXT.out.next HPV.out hPn HQ.out ((Below.refl _ _).alloc (Nat.le_refl _) _) h1 h2 h3, fun k hk hn => (h2.block k (by simp; omega) (fun e => hn e.symm)).trans (Below.heap_alloc _ _ _ hk)⟩)
                            have hcx := hxt.cx
                            have c0 := cell_of_block (o := 0) hcx
                            have c1 := cell_of_block (o := 1) hcx
                            have cl := lt_of_block hcx
                            simp only [List.getElem?_toArray, List.getElem?_cons_zero, List.getElem?_cons_succ] at c0 c1
                            have cn1 : ¬ w.heap.size + 2 = W6.heap.size := by omega
                            clear hbase hxt HPB hcx
                            go_wp2_with (at_builtin; refine RK.append (K := ptK) rfl _ _ rfl rfl rfl HOW.out HSrc.out (by simp; omega) HBase.out ?_; intro v8 w8 hown8 hgr8 hat8; obtain ⟨a8, c8, rfl, h81, h82⟩ := own_shape hown8; obtain ⟨hz8, hk8⟩ := HFin.out _ _ hown8 hgr8 hat8; obtain ⟨kr, kg, kc, kp⟩ := HCELL.out w8 hk8; (have HZ8 := Lib.hid hz8); (have q0 := cell_of_block (o := 0) kg); (have q1 := cell_of_block (o := 1) kg); (have q2 := cell_of_block (o := 2) kg); (have c0 := cell_of_block (o := 0) kc); (have c1 := cell_of_block (o := 1) kc); (have p1 := cell_of_block (o := 1) kp); (have a0 := cell_of_block (o := 0) kr); (have a1 := cell_of_block (o := 1) kr); (have cf0 := frozen_blk kc 0); (have af0 := frozen_blk kr 0); (have af1 := frozen_blk kr 1); simp only [List.getElem?_toArray, List.getElem?_cons_zero, List.getElem?_cons_succ] at q0 q1 q2 c0 c1 p1 a0 a1; clear hown8 hgr8 hat8 hz8 hk8 kr kg kc kp; unfold maxLen at h82)
                          all_goals go_region
                          all_goals go_wp2_with fail
                          all_goals
                            have hz := HZ8.out
                            rw [show (es ++ [([.int .i64 comb, .slice qo acc.length qc] : List Value)]).length = es.length + 1 by simp] at hz
                            have HB2 := Lib.hid hz.all
                            have hpp := hz.own.p (fun b hb => hb)
                            refine bodyPost_ret (v := .tuple #[.agg #[.slice a8 (es.length + 1) c8, .string sx], .bool true]) (by simp [results, Try.results32, go_sem, a0, a1, c0, c1]) rfl ⟨_, _, true, rfl, (by (repeat (first | with_reducible exact HB2.out | (with_reducible refine Below.drew ?_) | (with_reducible refine below_drewN' ?_ _) | ((with_reducible refine Below.setCell ?_ ?_ _); rotate_left; (focus (first | omega | (simp; done) | (simp; omega)))) | ((with_reducible refine Below.alloc ?_ ?_ _); rotate_left; (focus (first | omega | (simp; omega))))))), ⟨_, _, _, rfl⟩, ?_⟩
                            rw [if_pos rfl]
                            refine ⟨_, HE.out, HSX.out.symm, hpp.same (fun b hb hl => ?_) (fun b hb _ => by omega)⟩
                            refine Eq.trans (b := (World.setCell (World.setCell _ ⟨w.heap.size, 0, none⟩ _) ⟨w.heap.size, 1, none⟩ _).heap[b]?) rfl ?_
                            rw [Below.heap_setCell _ _ _ _ (by show b ≠ w.heap.size; omega), Below.heap_setCell _ _ _ _ (by show b ≠ w.heap.size; omega)]
                      · have g8i : (8 : Int) < (acc.length : Int) := by omega
                        have HE : Hid (Wn.cxF f = none) := Lib.hid (Wn.cx_none (HP.out.noPart (HLB.out g8)))
                        have HJE := Lib.hid hje
                        clear hje
                        go_wp2_with fail
                        go_region
                        all_goals
                          have HXT := Lib.hid (((HXT5.out.pseudo sx).go ((HXT5.out.pseudo sx).cs.r.spoil false) ((Only.refl (w.heap.size + 1) _).setCell (p := ⟨w.heap.size + 1, 2, none⟩) rfl (.bool false))).below (Below.refl _ _).drew)
                          have HQ := Lib.hid (HQ5.out.same (w' := ((w5.setCell ⟨w.heap.size + 2, 1, none⟩ (.string sx)).setCell ⟨w.heap.size + 1, 2, none⟩ (.bool false)).drew) (fun b hb _ => by
                            have hb' : Wa.heap.size + 1 ≤ b := hb
                            exact (Below.heap_setCell (w5.setCell ⟨w.heap.size + 2, 1, none⟩ (.string sx)) ⟨w.heap.size + 1, 2, none⟩ (.bool false) b (by show b ≠ w.heap.size + 1; omega)).trans (Below.heap_setCell w5 ⟨w.heap.size + 2, 1, none⟩ (.string sx) b (by show b ≠ w.heap.size + 2; omega))) (fun _ h _ => h))
                          have HPB : Hid (((w5.setCell ⟨w.heap.size + 2, 1, none⟩ (.string sx)).setCell ⟨w.heap.size + 1, 2, none⟩ (.bool false)).drew.heap[Wa.heap.size]? = some (.cells #[.int .i64 comb, .slice qo acc.length qc] 43)) := Lib.hid ((Below.heap_setCell (w5.setCell ⟨w.heap.size + 2, 1, none⟩ (.string sx)) ⟨w.heap.size + 1, 2, none⟩ (.bool false) Wa.heap.size (by show Wa.heap.size ≠ w.heap.size + 1; omega)).trans ((Below.heap_setCell w5 ⟨w.heap.size + 2, 1, none⟩ (.string sx) Wa.heap.size (by show Wa.heap.size ≠ w.heap.size + 2; omega)).trans HPB5.out))
                          have HPV : Hid (∀ r, (Value.slice vo es.length vc).ownBlock = some r → r < Wa.heap.size) := Lib.hid (fun r e => (HX.out.own.own.lt r e).2)
                          clear HXT5 HQ5 HPB5 q0 q1 q2 qf1 qf2 p0 p1 pf1 c0 c1x cf1
                          generalize ((w5.setCell ⟨w.heap.size + 2, 1, none⟩ (.string sx)).setCell ⟨w.heap.size + 1, 2, none⟩ (.bool false)).drew = W6 at *
                          have hblk6 := HXT.out.cs.r.blk
                          have q2 := cell_of_block (o := 2) hblk6
                          have p0 := cell_of_block (o := 0) HPB.out
                          have p1 := cell_of_block (o := 1) HPB.out
                          simp only [List.getElem?_toArray, List.getElem?_cons_zero, List.getElem?_cons_succ] at q2 p0 p1
                          clear hblk6
                          have hel16 : es.length + 1 ≤ 17 := by omega
                          have hxt := HXT.out
                          have HCELL : Hid (∀ w8 : World, (∀ k, k < W6.heap.size → (Value.slice vo es.length vc).ownBlock ≠ some k → w8.heap[k]? = W6.heap[k]?) →
                            w8.heap[w.heap.size]? = some (.cells #[.slice none 0 0, .string ⟨#[]⟩] 31) ∧ w8.heap[w.heap.size + 1]? = some (.cells #[.slice lo f.len lc, .int .i64 (j3 : Int), .bool false] 84) ∧ w8.heap[w.heap.size + 2]? = some (.cells #[.slice vo es.length vc, .string sx] 31) ∧ w8.heap[Wa.heap.size]? = some (.cells #[.int .i64 comb, .slice qo acc.length qc] 43)) := Lib.hid (fun w8 h => by
                              have ho := hxt.own.own.lt
                              have l2 := lt_of_block hxt.cx
                              have lP := lt_of_block HPB.out
                              exact ⟨(h _ (by omega) (fun e => by have := (ho _ e).1; omega)).trans hxt.res, (h _ (by omega) (fun e => by have := (ho _ e).1; omega)).trans hxt.cs.r.blk, (h _ l2 (fun e => by have := (ho _ e).1; omega)).trans hxt.cx, (h _ lP (fun e => by have := HPV.out _ e; omega)).trans HPB.out⟩)
                          have HSrc : Hid (ptK.Src (W6.alloc (.cells #[.int .i64 comb, .slice qo acc.length qc] 43)) (.slice (some ⟨W6.heap.size, 0, none⟩) 1 1) [([.int .i64 comb, .slice qo acc.length qc] : List Value)]) := Lib.hid (RK.Src.one (K := ptK) (x := (comb, acc)) (W := W6) rfl (ok := fun _ => True) ⟨_, rfl, HQ.out.any⟩)
                          have HOW := Lib.hid (ownsRow_later HXT.out.own.own ((Below.refl _ _).alloc (Nat.le_refl _) (.cells #[.int .i64 comb, .slice qo acc.length qc] 43)))
                          have hbase : w.heap.size + 3 ≤ (W6.alloc (.cells #[.int .i64 comb, .slice qo acc.length qc] 43)).heap.size := by have := lt_of_block hxt.cx; simp; omega
                          have HBase := Lib.hid hbase
                          have HFin : Hid (∀ v8 w8, w8.ownsRow (w.heap.size + 3) ptK.e ptK.sz v8 (es ++ [([.int .i64 comb, .slice qo acc.length qc] : List Value)]).length (es ++ [([.int .i64 comb, .slice qo acc.length qc] : List Value)]).flatten → (W6.alloc (.cells #[.int .i64 comb, .slice qo acc.length qc] 43)).grownBy w8 (Value.slice vo es.length vc).ownBlock → (v8.ownBlock = (Value.slice vo es.length vc).ownBlock ∨ v8.ownBlock = some (W6.alloc (.cells #[.int .i64 comb, .slice qo acc.length qc] 43)).heap.size) →
                            XI w W1 (w8.setCell ⟨w.heap.size + 2, 0, none⟩ v8) w.heap.size (.slice lo f.len lc) f j3 false v8 sx (es ++ [([.int .i64 comb, .slice qo acc.length qc] : List Value)]) (ps ++ [(comb, acc)]) ∧ (∀ k, k < W6.heap.size → (Value.slice vo es.length vc).ownBlock ≠ some k → w8.heap[k]? = W6.heap[k]?)) := Lib.hid (fun v8 w8 h1 h2 h3 => ⟨HXT.out.next HPV.out hPn HQ.out ((Below.refl _ _).alloc (Nat.le_refl _) _) h1 h2 h3, fun k hk hn => (h2.block k (by simp; omega) (fun e => hn e.symm)).trans (Below.heap_alloc _ _ _ hk)⟩)
                          have hcx := hxt.cx
                          have c0 := cell_of_block (o := 0) hcx
                          have c1 := cell_of_block (o := 1) hcx
                          have cl := lt_of_block hcx
                          simp only [List.getElem?_toArray, List.getElem?_cons_zero, List.getElem?_cons_succ] at c0 c1
                          have cn1 : ¬ w.heap.size + 2 = W6.heap.size := by omega
                          clear hbase hxt HPB hcx
                          go_wp2_with (at_builtin; refine RK.append (K := ptK) rfl _ _ rfl rfl rfl HOW.out HSrc.out (by simp; omega) HBase.out ?_; intro v8 w8 hown8 hgr8 hat8; obtain ⟨a8, c8, rfl, h81, h82⟩ := own_shape hown8; obtain ⟨hz8, hk8⟩ := HFin.out _ _ hown8 hgr8 hat8; obtain ⟨kr, kg, kc, kp⟩ := HCELL.out w8 hk8; (have HZ8 := Lib.hid hz8); (have q0 := cell_of_block (o := 0) kg); (have q1 := cell_of_block (o := 1) kg); (have q2 := cell_of_block (o := 2) kg); (have c0 := cell_of_block (o := 0) kc); (have c1 := cell_of_block (o := 1) kc); (have p1 := cell_of_block (o := 1) kp); (have a0 := cell_of_block (o := 0) kr); (have a1 := cell_of_block (o := 1) kr); (have cf0 := frozen_blk kc 0); (have af0 := frozen_blk kr 0); (have af1 := frozen_blk kr 1); simp only [List.getElem?_toArray, List.getElem?_cons_zero, List.getElem?_cons_succ] at q0 q1 q2 c0 c1 p1 a0 a1; clear hown8 hgr8 hat8 hz8 hk8 kr kg kc kp; unfold maxLen at h82)
                        all_goals
                          have hz := HZ8.out
                          rw [show (es ++ [([.int .i64 comb, .slice qo acc.length qc] : List Value)]).length = es.length + 1 by simp] at hz
                          have HB2 := Lib.hid hz.all
                          refine bodyPost_ret (v := .tuple #[.agg #[.slice none 0 0, .string ⟨#[]⟩], .bool false]) (by simp [results, Try.results32, go_sem, a0, a1]) rfl ⟨_, _, false, rfl, (by (repeat (first | with_reducible exact HB2.out | (with_reducible refine Below.drew ?_) | (with_reducible refine below_drewN' ?_ _) | ((with_reducible refine Below.setCell ?_ ?_ _); rotate_left; (focus (first | omega | (simp; done) | (simp; omega)))) | ((with_reducible refine Below.alloc ?_ ?_ _); rotate_left; (focus (first | omega | (simp; omega))))))), ⟨_, _, _, rfl⟩, by rw [if_neg (by decide)]; exact HE.out⟩
                    · have hjt : (j3 : Int) < (f.len : Int) := by omega
                      have HE : Hid (Wn.cxF f = none) := Lib.hid (by
                        by_cases g8 : acc.length ≤ 8
                        · exact Wn.cx_far (HP.out.pseudo hps16 (HLJ.out _ g8 rfl) (Wn.pseudo_ne HPS.out)) (fun h => hje ((Wn.drop_nil_iff (by omega)).1 h))
                        · exact Wn.cx_none (HP.out.noPart (HLB.out g8)))
                      go_wp2_with fail
                      go_region
                      all_goals
                        have HXT := Lib.hid (((HXT5.out.pseudo sx).go ((HXT5.out.pseudo sx).cs.r.spoil true) ((Only.refl (w.heap.size + 1) _).setCell (p := ⟨w.heap.size + 1, 2, none⟩) rfl (.bool true))).below (Below.refl _ _).drew)
                        have HQ := Lib.hid (HQ5.out.same (w' := ((w5.setCell ⟨w.heap.size + 2, 1, none⟩ (.string sx)).setCell ⟨w.heap.size + 1, 2, none⟩ (.bool true)).drew) (fun b hb _ => by
                          have hb' : Wa.heap.size + 1 ≤ b := hb
                          exact (Below.heap_setCell (w5.setCell ⟨w.heap.size + 2, 1, none⟩ (.string sx)) ⟨w.heap.size + 1, 2, none⟩ (.bool true) b (by show b ≠ w.heap.size + 1; omega)).trans (Below.heap_setCell w5 ⟨w.heap.size + 2, 1, none⟩ (.string sx) b (by show b ≠ w.heap.size + 2; omega))) (fun _ h _ => h))
                        have HPB : Hid (((w5.setCell ⟨w.heap.size + 2, 1, none⟩ (.string sx)).setCell ⟨w.heap.size + 1, 2, none⟩ (.bool true)).drew.heap[Wa.heap.size]? = some (.cells #[.int .i64 comb, .slice qo acc.length qc] 43)) := Lib.hid ((Below.heap_setCell (w5.setCell ⟨w.heap.size + 2, 1, none⟩ (.string sx)) ⟨w.heap.size + 1, 2, none⟩ (.bool true) Wa.heap.size (by show Wa.heap.size ≠ w.heap.size + 1; omega)).trans ((Below.heap_setCell w5 ⟨w.heap.size + 2, 1, none⟩ (.string sx) Wa.heap.size (by show Wa.heap.size ≠ w.heap.size + 2; omega)).trans HPB5.out))
                        have HPV : Hid (∀ r, (Value.slice vo es.length vc).ownBlock = some r → r < Wa.heap.size) := Lib.hid (fun r e => (HX.out.own.own.lt r e).2)
                        clear HXT5 HQ5 HPB5 q0 q1 q2 qf1 qf2 p0 p1 pf1 c0 c1x cf1
                        generalize ((w5.setCell ⟨w.heap.size + 2, 1, none⟩ (.string sx)).setCell ⟨w.heap.size + 1, 2, none⟩ (.bool true)).drew = W6 at *
                        have hblk6 := HXT.out.cs.r.blk
                        have q2 := cell_of_block (o := 2) hblk6
                        have p0 := cell_of_block (o := 0) HPB.out
                        have p1 := cell_of_block (o := 1) HPB.out
                        simp only [List.getElem?_toArray, List.getElem?_cons_zero, List.getElem?_cons_succ] at q2 p0 p1
                        clear hblk6
                        have hel16 : es.length + 1 ≤ 17 := by omega
                        have hxt := HXT.out
                        have HCELL : Hid (∀ w8 : World, (∀ k, k < W6.heap.size → (Value.slice vo es.length vc).ownBlock ≠ some k → w8.heap[k]? = W6.heap[k]?) →
                          w8.heap[w.heap.size]? = some (.cells #[.slice none 0 0, .string ⟨#[]⟩] 31) ∧ w8.heap[w.heap.size + 1]? = some (.cells #[.slice lo f.len lc, .int .i64 (j3 : Int), .bool true] 84) ∧ w8.heap[w.heap.size + 2]? = some (.cells #[.slice vo es.length vc, .string sx] 31) ∧ w8.heap[Wa.heap.size]? = some (.cells #[.int .i64 comb, .slice qo acc.length qc] 43)) := Lib.hid (fun w8 h => by
                            have ho := hxt.own.own.lt
                            have l2 := lt_of_block hxt.cx
                            have lP := lt_of_block HPB.out
                            exact ⟨(h _ (by omega) (fun e => by have := (ho _ e).1; omega)).trans hxt.res, (h _ (by omega) (fun e => by have := (ho _ e).1; omega)).trans hxt.cs.r.blk, (h _ l2 (fun e => by have := (ho _ e).1; omega)).trans hxt.cx, (h _ lP (fun e => by have := HPV.out _ e; omega)).trans HPB.out⟩)
                        have HSrc : Hid (ptK.Src (W6.alloc (.cells #[.int .i64 comb, .slice qo acc.length qc] 43)) (.slice (some ⟨W6.heap.size, 0, none⟩) 1 1) [([.int .i64 comb, .slice qo acc.length qc] : List Value)]) := Lib.hid (RK.Src.one (K := ptK) (x := (comb, acc)) (W := W6) rfl (ok := fun _ => True) ⟨_, rfl, HQ.out.any⟩)
                        have HOW := Lib.hid (ownsRow_later HXT.out.own.own ((Below.refl _ _).alloc (Nat.le_refl _) (.cells #[.int .i64 comb, .slice qo acc.length qc] 43)))
                        have hbase : w.heap.size + 3 ≤ (W6.alloc (.cells #[.int .i64 comb, .slice qo acc.length qc] 43)).heap.size := by have := lt_of_block hxt.cx; simp; omega
                        have HBase := Lib.hid hbase
                        have HFin : Hid (∀ v8 w8, w8.ownsRow (w.heap.size + 3) ptK.e ptK.sz v8 (es ++ [([.int .i64 comb, .slice qo acc.length qc] : List Value)]).length (es ++ [([.int .i64 comb, .slice qo acc.length qc] : List Value)]).flatten → (W6.alloc (.cells #[.int .i64 comb, .slice qo acc.length qc] 43)).grownBy w8 (Value.slice vo es.length vc).ownBlock → (v8.ownBlock = (Value.slice vo es.length vc).ownBlock ∨ v8.ownBlock = some (W6.alloc (.cells #[.int .i64 comb, .slice qo acc.length qc] 43)).heap.size) →
                          XI w W1 (w8.setCell ⟨w.heap.size + 2, 0, none⟩ v8) w.heap.size (.slice lo f.len lc) f j3 true v8 sx (es ++ [([.int .i64 comb, .slice qo acc.length qc] : List Value)]) (ps ++ [(comb, acc)]) ∧ (∀ k, k < W6.heap.size → (Value.slice vo es.length vc).ownBlock ≠ some k → w8.heap[k]? = W6.heap[k]?)) := Lib.hid (fun v8 w8 h1 h2 h3 => ⟨HXT.out.next HPV.out hPn HQ.out ((Below.refl _ _).alloc (Nat.le_refl _) _) h1 h2 h3, fun k hk hn => (h2.block k (by simp; omega) (fun e => hn e.symm)).trans (Below.heap_alloc _ _ _ hk)⟩)
                        have hcx := hxt.cx
                        have c0 := cell_of_block (o := 0) hcx
                        have c1 := cell_of_block (o := 1) hcx
                        have cl := lt_of_block hcx
                        simp only [List.getElem?_toArray, List.getElem?_cons_zero, List.getElem?_cons_succ] at c0 c1
                        have cn1 : ¬ w.heap.size + 2 = W6.heap.size := by omega
                        clear hbase hxt HPB hcx
                        go_wp2_with (at_builtin; refine RK.append (K := ptK) rfl _ _ rfl rfl rfl HOW.out HSrc.out (by simp; omega) HBase.out ?_; intro v8 w8 hown8 hgr8 hat8; obtain ⟨a8, c8, rfl, h81, h82⟩ := own_shape hown8; obtain ⟨hz8, hk8⟩ := HFin.out _ _ hown8 hgr8 hat8; obtain ⟨kr, kg, kc, kp⟩ := HCELL.out w8 hk8; (have HZ8 := Lib.hid hz8); (have q0 := cell_of_block (o := 0) kg); (have q1 := cell_of_block (o := 1) kg); (have q2 := cell_of_block (o := 2) kg); (have c0 := cell_of_block (o := 0) kc); (have c1 := cell_of_block (o := 1) kc); (have p1 := cell_of_block (o := 1) kp); (have a0 := cell_of_block (o := 0) kr); (have a1 := cell_of_block (o := 1) kr); (have cf0 := frozen_blk kc 0); (have af0 := frozen_blk kr 0); (have af1 := frozen_blk kr 1); simp only [List.getElem?_toArray, List.getElem?_cons_zero, List.getElem?_cons_succ] at q0 q1 q2 c0 c1 p1 a0 a1; clear hown8 hgr8 hat8 hz8 hk8 kr kg kc kp; unfold maxLen at h82)
                      all_goals
                        have hz := HZ8.out
                        rw [show (es ++ [([.int .i64 comb, .slice qo acc.length qc] : List Value)]).length = es.length + 1 by simp] at hz
                        have HB2 := Lib.hid hz.all
                        refine bodyPost_ret (v := .tuple #[.agg #[.slice none 0 0, .string ⟨#[]⟩], .bool false]) (by simp [results, Try.results32, go_sem, a0, a1]) rfl ⟨_, _, false, rfl, (by (repeat (first | with_reducible exact HB2.out | (with_reducible refine Below.drew ?_) | (with_reducible refine below_drewN' ?_ _) | ((with_reducible refine Below.setCell ?_ ?_ _); rotate_left; (focus (first | omega | (simp; done) | (simp; omega)))) | ((with_reducible refine Below.alloc ?_ ?_ _); rotate_left; (focus (first | omega | (simp; omega))))))), ⟨_, _, _, rfl⟩, by rw [if_neg (by decide)]; exact HE.out⟩
                · have hx : sx.toList = [98, 101, 102, 111, 114, 101] := by simpa using c1
                  have c5 : (sx.toList == []) = false := by rw [hx]; rfl
                  have c1b : (sx.toList != [98, 101, 102, 111, 114, 101]) = false := by rw [hx]; rfl
                  have HPS : Hid (Wn.isPseudo nm.2.1 = true) := Lib.hid (by rw [← HXL.out, hx]; decide)
                  have hj3 := HJ3.out
                  clear hx
                  have hlj : ∀ c, acc.length ≤ 8 → c = ((acc, nm.2.1), f.drop j3) → Wn.partR (f.drop j) = some c := fun c h8 hc => by
                    rw [HPD.out, HN.out]
                    dsimp only
                    rw [if_pos ⟨h8, HPS.out⟩, hc, hj3]
                  have hlb : ¬ acc.length ≤ 8 → Wn.partR (f.drop j) = none := fun h8 => by
                    rw [HPD.out, HN.out]
                    dsimp only
                    rw [if_neg (fun h => h8 h.1)]
                  have HLJ := Lib.hid hlj
                  have HLB := Lib.hid hlb
                  have hps16 : ps.length < 16 := by rw [← HEL.out]; omega
                  clear hlj hlb HG HPD hj3
                  by_cases hje : j3 = f.len
                  · have hji : (j3 : Int) = (f.len : Int) := by omega
                    have hjn : ¬ (j3 : Int) < (f.len : Int) := by omega
                    by_cases g8 : acc.length ≤ 8
                    · have g8i : ¬ (8 : Int) < (acc.length : Int) := by omega
                      have g8j : (acc.length : Int) ≤ 8 := by omega
                      have HE : Hid (Wn.cxF f = some (ps ++ [(comb, acc)], nm.2.1)) := Lib.hid (Wn.cx_end (HP.out.pseudo hps16 (HLJ.out _ g8 (by rw [Wn.Fs.drop_len (by omega)])) (Wn.pseudo_ne HPS.out)))
                      have HJE := Lib.hid hje
                      clear hje
                      cases g0 : ((acc.length : Int) == 0)
                      · skip
                        go_wp2_with fail
                        go_region
                        all_goals
                          have HXT := Lib.hid (((HXT5.out.pseudo sx).go ((HXT5.out.pseudo sx).cs.r.spoil false) ((Only.refl (w.heap.size + 1) _).setCell (p := ⟨w.heap.size + 1, 2, none⟩) rfl (.bool false))).below (Below.refl _ _).drew)
                          have HQ := Lib.hid (HQ5.out.same (w' := ((w5.setCell ⟨w.heap.size + 2, 1, none⟩ (.string sx)).setCell ⟨w.heap.size + 1, 2, none⟩ (.bool false)).drew) (fun b hb _ => by
                            have hb' : Wa.heap.size + 1 ≤ b := hb
                            exact (Below.heap_setCell (w5.setCell ⟨w.heap.size + 2, 1, none⟩ (.string sx)) ⟨w.heap.size + 1, 2, none⟩ (.bool false) b (by show b ≠ w.heap.size + 1; omega)).trans (Below.heap_setCell w5 ⟨w.heap.size + 2, 1, none⟩ (.string sx) b (by show b ≠ w.heap.size + 2; omega))) (fun _ h _ => h))
                          have HPB : Hid (((w5.setCell ⟨w.heap.size + 2, 1, none⟩ (.string sx)).setCell ⟨w.heap.size + 1, 2, none⟩ (.bool false)).drew.heap[Wa.heap.size]? = some (.cells #[.int .i64 comb, .slice qo acc.length qc] 43)) := Lib.hid ((Below.heap_setCell (w5.setCell ⟨w.heap.size + 2, 1, none⟩ (.string sx)) ⟨w.heap.size + 1, 2, none⟩ (.bool false) Wa.heap.size (by show Wa.heap.size ≠ w.heap.size + 1; omega)).trans ((Below.heap_setCell w5 ⟨w.heap.size + 2, 1, none⟩ (.string sx) Wa.heap.size (by show Wa.heap.size ≠ w.heap.size + 2; omega)).trans HPB5.out))
                          have HPV : Hid (∀ r, (Value.slice vo es.length vc).ownBlock = some r → r < Wa.heap.size) := Lib.hid (fun r e => (HX.out.own.own.lt r e).2)
                          clear HXT5 HQ5 HPB5 q0 q1 q2 qf1 qf2 p0 p1 pf1 c0 c1x cf1
                          generalize ((w5.setCell ⟨w.heap.size + 2, 1, none⟩ (.string sx)).setCell ⟨w.heap.size + 1, 2, none⟩ (.bool false)).drew = W6 at *
                          have hblk6 := HXT.out.cs.r.blk
                          have q2 := cell_of_block (o := 2) hblk6
                          have p0 := cell_of_block (o := 0) HPB.out
                          have p1 := cell_of_block (o := 1) HPB.out
                          simp only [List.getElem?_toArray, List.getElem?_cons_zero, List.getElem?_cons_succ] at q2 p0 p1
                          clear hblk6
                          have hel16 : es.length + 1 ≤ 17 := by omega
                          have hxt := HXT.out
                          have HCELL : Hid (∀ w8 : World, (∀ k, k < W6.heap.size → (Value.slice vo es.length vc).ownBlock ≠ some k → w8.heap[k]? = W6.heap[k]?) →
                            w8.heap[w.heap.size]? = some (.cells #[.slice none 0 0, .string ⟨#[]⟩] 31) ∧ w8.heap[w.heap.size + 1]? = some (.cells #[.slice lo f.len lc, .int .i64 (j3 : Int), .bool false] 84) ∧ w8.heap[w.heap.size + 2]? = some (.cells #[.slice vo es.length vc, .string sx] 31) ∧ w8.heap[Wa.heap.size]? = some (.cells #[.int .i64 comb, .slice qo acc.length qc] 43)) := Lib.hid (fun w8 h => by
                              have ho := hxt.own.own.lt
                              have l2 := lt_of_block hxt.cx
                              have lP := lt_of_block HPB.out
                              exact ⟨(h _ (by omega) (fun e => by have := (ho _ e).1; omega)).trans hxt.res, (h _ (by omega) (fun e => by have := (ho _ e).1; omega)).trans hxt.cs.r.blk, (h _ l2 (fun e => by have := (ho _ e).1; omega)).trans hxt.cx, (h _ lP (fun e => by have := HPV.out _ e; omega)).trans HPB.out⟩)
                          have HSrc : Hid (ptK.Src (W6.alloc (.cells #[.int .i64 comb, .slice qo acc.length qc] 43)) (.slice (some ⟨W6.heap.size, 0, none⟩) 1 1) [([.int .i64 comb, .slice qo acc.length qc] : List Value)]) := Lib.hid (RK.Src.one (K := ptK) (x := (comb, acc)) (W := W6) rfl (ok := fun _ => True) ⟨_, rfl, HQ.out.any⟩)
                          have HOW := Lib.hid (ownsRow_later HXT.out.own.own ((Below.refl _ _).alloc (Nat.le_refl _) (.cells #[.int .i64 comb, .slice qo acc.length qc] 43)))
                          have hbase : w.heap.size + 3 ≤ (W6.alloc (.cells #[.int .i64 comb, .slice qo acc.length qc] 43)).heap.size := by have := lt_of_block hxt.cx; simp; omega
                          have HBase := Lib.hid hbase
                          have HFin : Hid (∀ v8 w8, w8.ownsRow (w.heap.size + 3) ptK.e ptK.sz v8 (es ++ [([.int .i64 comb, .slice qo acc.length qc] : List Value)]).length (es ++ [([.int .i64 comb, .slice qo acc.length qc] : List Value)]).flatten → (W6.alloc (.cells #[.int .i64 comb, .slice qo acc.length qc] 43)).grownBy w8 (Value.slice vo es.length vc).ownBlock → (v8.ownBlock = (Value.slice vo es.length vc).ownBlock ∨ v8.ownBlock = some (W6.alloc (.cells #[.int .i64 comb, .slice qo acc.length qc] 43)).heap.size) →
                            XI w W1 (w8.setCell ⟨w.heap.size + 2, 0, none⟩ v8) w.heap.size (.slice lo f.len lc) f j3 false v8 sx (es ++ [([.int .i64 comb, .slice qo acc.length qc] : List Value)]) (ps ++ [(comb, acc)]) ∧ (∀ k, k < W6.heap.size → (Value.slice vo es.length vc).ownBlock ≠ some k → w8.heap[k]? = W6.heap[k]?)) := Lib.hid (fun v8 w8 h1 h2 h3 => ⟨HXT.out.next HPV.out hPn HQ.out ((Below.refl _ _).alloc (Nat.le_refl _) _) h1 h2 h3, fun k hk hn => (h2.block k (by simp; omega) (fun e => hn e.symm)).trans (Below.heap_alloc _ _ _ hk)⟩)
                          have hcx := hxt.cx
                          have c0 := cell_of_block (o := 0) hcx
                          have c1 := cell_of_block (o := 1) hcx
                          have cl := lt_of_block hcx
                          simp only [List.getElem?_toArray, List.getElem?_cons_zero, List.getElem?_cons_succ] at c0 c1
                          have cn1 : ¬ w.heap.size + 2 = W6.heap.size := by omega
                          clear hbase hxt HPB hcx
                          go_wp2_with (at_builtin; refine RK.append (K := ptK) rfl _ _ rfl rfl rfl HOW.out HSrc.out (by simp; omega) HBase.out ?_; intro v8 w8 hown8 hgr8 hat8; obtain ⟨a8, c8, rfl, h81, h82⟩ := own_shape hown8; obtain ⟨hz8, hk8⟩ := HFin.out _ _ hown8 hgr8 hat8; obtain ⟨kr, kg, kc, kp⟩ := HCELL.out w8 hk8; (have HZ8 := Lib.hid hz8); (have q0 := cell_of_block (o := 0) kg); (have q1 := cell_of_block (o := 1) kg); (have q2 := cell_of_block (o := 2) kg); (have c0 := cell_of_block (o := 0) kc); (have c1 := cell_of_block (o := 1) kc); (have p1 := cell_of_block (o := 1) kp); (have a0 := cell_of_block (o := 0) kr); (have a1 := cell_of_block (o := 1) kr); (have cf0 := frozen_blk kc 0); (have af0 := frozen_blk kr 0); (have af1 := frozen_blk kr 1); simp only [List.getElem?_toArray, List.getElem?_cons_zero, List.getElem?_cons_succ] at q0 q1 q2 c0 c1 p1 a0 a1; clear hown8 hgr8 hat8 hz8 hk8 kr kg kc kp; unfold maxLen at h82)
                        all_goals go_region
                        all_goals go_wp2_with fail
                        all_goals
                          have hz := HZ8.out
                          rw [show (es ++ [([.int .i64 comb, .slice qo acc.length qc] : List Value)]).length = es.length + 1 by simp] at hz
                          have HB2 := Lib.hid hz.all
                          have hpp := hz.own.p (fun b hb => hb)
                          refine bodyPost_ret (v := .tuple #[.agg #[.slice a8 (es.length + 1) c8, .string sx], .bool true]) (by simp [results, Try.results32, go_sem, a0, a1, c0, c1]) rfl ⟨_, _, true, rfl, (by (repeat (first | with_reducible exact HB2.out | (with_reducible refine Below.drew ?_) | (with_reducible refine below_drewN' ?_ _) | ((with_reducible refine Below.setCell ?_ ?_ _); rotate_left; (focus (first | omega | (simp; done) | (simp; omega)))) | ((with_reducible refine Below.alloc ?_ ?_ _); rotate_left; (focus (first | omega | (simp; omega))))))), ⟨_, _, _, rfl⟩, ?_⟩
                          rw [if_pos rfl]
                          refine ⟨_, HE.out, HSX.out.symm, hpp.same (fun b hb hl => ?_) (fun b hb _ => by omega)⟩
                          refine Eq.trans (b := (World.setCell (World.setCell _ ⟨w.heap.size, 0, none⟩ _) ⟨w.heap.size, 1, none⟩ _).heap[b]?) rfl ?_
                          rw [Below.heap_setCell _ _ _ _ (by show b ≠ w.heap.size; omega), Below.heap_setCell _ _ _ _ (by show b ≠ w.heap.size; omega)]
                      · skip
                        go_wp2_with fail
                        go_region
                        all_goals
                          have HXT := Lib.hid (((HXT5.out.pseudo sx).go ((HXT5.out.pseudo sx).cs.r.spoil false) ((Only.refl (w.heap.size + 1) _).setCell (p := ⟨w.heap.size + 1, 2, none⟩) rfl (.bool false))).below (Below.refl _ _).drew)
                          have HQ := Lib.hid (HQ5.out.same (w' := ((w5.setCell ⟨w.heap.size + 2, 1, none⟩ (.string sx)).setCell ⟨w.heap.size + 1, 2, none⟩ (.bool false)).drew) (fun b hb _ => by
                            have hb' : Wa.heap.size + 1 ≤ b := hb
                            exact (Below.heap_setCell (w5.setCell ⟨w.heap.size + 2, 1, none⟩ (.string sx)) ⟨w.heap.size + 1, 2, none⟩ (.bool false) b (by show b ≠ w.heap.size + 1; omega)).trans (Below.heap_setCell w5 ⟨w.heap.size + 2, 1, none⟩ (.string sx) b (by show b ≠ w.heap.size + 2; omega))) (fun _ h _ => h))
                          have HPB : Hid (((w5.setCell ⟨w.heap.size + 2, 1, none⟩ (.string sx)).setCell ⟨w.heap.size + 1, 2, none⟩ (.bool false)).drew.heap[Wa.heap.size]? = some (.cells #[.int .i64 comb, .slice qo acc.length qc] 43)) := Lib.hid ((Below.heap_setCell (w5.setCell ⟨w.heap.size + 2, 1, none⟩ (.string sx)) ⟨w.heap.size + 1, 2, none⟩ (.bool false) Wa.heap.size (by show Wa.heap.size ≠ w.heap.size + 1; omega)).trans ((Below.heap_setCell w5 ⟨w.heap.size + 2, 1, none⟩ (.string sx) Wa.heap.size (by show Wa.heap.size ≠ w.heap.size + 2; omega)).trans HPB5.out))
                          have HPV : Hid (∀ r, (Value.slice vo es.length vc).ownBlock = some r → r < Wa.heap.size) := Lib.hid (fun r e => (HX.out.own.own.lt r e).2)
                          clear HXT5 HQ5 HPB5 q0 q1 q2 qf1 qf2 p0 p1 pf1 c0 c1x cf1
                          generalize ((w5.setCell ⟨w.heap.size + 2, 1, none⟩ (.string sx)).setCell ⟨w.heap.size + 1, 2, none⟩ (.bool false)).drew = W6 at *
                          have hblk6 := HXT.out.cs.r.blk
                          have q2 := cell_of_block (o := 2) hblk6
                          have p0 := cell_of_block (o := 0) HPB.out
                          have p1 := cell_of_block (o := 1) HPB.out
                          simp only [List.getElem?_toArray, List.getElem?_cons_zero, List.getElem?_cons_succ] at q2 p0 p1
                          clear hblk6
                          have hel16 : es.length + 1 ≤ 17 := by omega
                          have hxt := HXT.out
                          have HCELL : Hid (∀ w8 : World, (∀ k, k < W6.heap.size → (Value.slice vo es.length vc).ownBlock ≠ some k → w8.heap[k]? = W6.heap[k]?) →
                            w8.heap[w.heap.size]? = some (.cells #[.slice none 0 0, .string ⟨#[]⟩] 31) ∧ w8.heap[w.heap.size + 1]? = some (.cells #[.slice lo f.len lc, .int .i64 (j3 : Int), .bool false] 84) ∧ w8.heap[w.heap.size + 2]? = some (.cells #[.slice vo es.length vc, .string sx] 31) ∧ w8.heap[Wa.heap.size]? = some (.cells #[.int .i64 comb, .slice qo acc.length qc] 43)) := Lib.hid (fun w8 h => by
                              have ho := hxt.own.own.lt
                              have l2 := lt_of_block hxt.cx
                              have lP := lt_of_block HPB.out
                              exact ⟨(h _ (by omega) (fun e => by have := (ho _ e).1; omega)).trans hxt.res, (h _ (by omega) (fun e => by have := (ho _ e).1; omega)).trans hxt.cs.r.blk, (h _ l2 (fun e => by have := (ho _ e).1; omega)).trans hxt.cx, (h _ lP (fun e => by have := HPV.out _ e; omega)).trans HPB.out⟩)
                          have HSrc : Hid (ptK.Src (W6.alloc (.cells #[.int .i64 comb, .slice qo acc.length qc] 43)) (.slice (some ⟨W6.heap.size, 0, none⟩) 1 1) [([.int .i64 comb, .slice qo acc.length qc] : List Value)]) := Lib.hid (RK.Src.one (K := ptK) (x := (comb, acc)) (W := W6) rfl (ok := fun _ => True) ⟨_, rfl, HQ.out.any⟩)
                          have HOW := Lib.hid (ownsRow_later HXT.out.own.own ((Below.refl _ _).alloc (Nat.le_refl _) (.cells #[.int .i64 comb, .slice qo acc.length qc] 43)))
                          have hbase : w.heap.size + 3 ≤ (W6.alloc (.cells #[.int .i64 comb, .slice qo acc.length qc] 43)).heap.size := by have := lt_of_block hxt.cx; simp; omega
                          have HBase := Lib.hid hbase
                          have HFin : Hid (∀ v8 w8, w8.ownsRow (w.heap.size + 3) ptK.e ptK.sz v8 (es ++ [([.int .i64 comb, .slice qo acc.length qc] : List Value)]).length (es ++ [([.int .i64 comb, .slice qo acc.length qc] : List Value)]).flatten → (W6.alloc (.cells #[.int .i64 comb, .slice qo acc.length qc] 43)).grownBy w8 (Value.slice vo es.length vc).ownBlock → (v8.ownBlock = (Value.slice vo es.length vc).ownBlock ∨ v8.ownBlock = some (W6.alloc (.cells #[.int .i64 comb, .slice qo acc.length qc] 43)).heap.size) →
                            XI w W1 (w8.setCell ⟨w.heap.size + 2, 0, none⟩ v8) w.heap.size (.slice lo f.len lc) f j3 false v8 sx (es ++ [([.int .i64 comb, .slice qo acc.length qc] : List Value)]) (ps ++ [(comb, acc)]) ∧ (∀ k, k < W6.heap.size → (Value.slice vo es.length vc).ownBlock ≠ some k → w8.heap[k]? = W6.heap[k]?)) := Lib.hid (fun v8 w8 h1 h2 h3 => ⟨HXT.out.next HPV.out hPn HQ.out ((Below.refl _ _).alloc (Nat.le_refl _) _) h1 h2 h3, fun k hk hn => (h2.block k (by simp; omega) (fun e => hn e.symm)).trans (Below.heap_alloc _ _ _ hk)⟩)
                          have hcx := hxt.cx
                          have c0 := cell_of_block (o := 0) hcx
                          have c1 := cell_of_block (o := 1) hcx
                          have cl := lt_of_block hcx
                          simp only [List.getElem?_toArray, List.getElem?_cons_zero, List.getElem?_cons_succ] at c0 c1
                          have cn1 : ¬ w.heap.size + 2 = W6.heap.size := by omega
                          clear hbase hxt HPB hcx
                          go_wp2_with (at_builtin; refine RK.append (K := ptK) rfl _ _ rfl rfl rfl HOW.out HSrc.out (by simp; omega) HBase.out ?_; intro v8 w8 hown8 hgr8 hat8; obtain ⟨a8, c8, rfl, h81, h82⟩ := own_shape hown8; obtain ⟨hz8, hk8⟩ := HFin.out _ _ hown8 hgr8 hat8; obtain ⟨kr, kg, kc, kp⟩ := HCELL.out w8 hk8; (have HZ8 := Lib.hid hz8); (have q0 := cell_of_block (o := 0) kg); (have q1 := cell_of_block (o := 1) kg); (have q2 := cell_of_block (o := 2) kg); (have c0 := cell_of_block (o := 0) kc); (have c1 := cell_of_block (o := 1) kc); (have p1 := cell_of_block (o := 1) kp); (have a0 := cell_of_block (o := 0) kr); (have a1 := cell_of_block (o := 1) kr); (have cf0 := frozen_blk kc 0); (have af0 := frozen_blk kr 0); (have af1 := frozen_blk kr 1); simp only [List.getElem?_toArray, List.getElem?_cons_zero, List.getElem?_cons_succ] at q0 q1 q2 c0 c1 p1 a0 a1; clear hown8 hgr8 hat8 hz8 hk8 kr kg kc kp; unfold maxLen at h82)
                        all_goals go_region
                        all_goals go_wp2_with fail
                        all_goals
                          have hz := HZ8.out
                          rw [show (es ++ [([.int .i64 comb, .slice qo acc.length qc] : List Value)]).length = es.length + 1 by simp] at hz
                          have HB2 := Lib.hid hz.all
                          have hpp := hz.own.p (fun b hb => hb)
                          refine bodyPost_ret (v := .tuple #[.agg #[.slice a8 (es.length + 1) c8, .string sx], .bool true]) (by simp [results, Try.results32, go_sem, a0, a1, c0, c1]) rfl ⟨_, _, true, rfl, (by (repeat (first | with_reducible exact HB2.out | (with_reducible refine Below.drew ?_) | (with_reducible refine below_drewN' ?_ _) | ((with_reducible refine Below.setCell ?_ ?_ _); rotate_left; (focus (first | omega | (simp; done) | (simp; omega)))) | ((with_reducible refine Below.alloc ?_ ?_ _); rotate_left; (focus (first | omega | (simp; omega))))))), ⟨_, _, _, rfl⟩, ?_⟩
                          rw [if_pos rfl]
                          refine ⟨_, HE.out, HSX.out.symm, hpp.same (fun b hb hl => ?_) (fun b hb _ => by omega)⟩
                          refine Eq.trans (b := (World.setCell (World.setCell _ ⟨w.heap.size, 0, none⟩ _) ⟨w.heap.size, 1, none⟩ _).heap[b]?) rfl ?_
                          rw [Below.heap_setCell _ _ _ _ (by show b ≠ w.heap.size; omega), Below.heap_setCell _ _ _ _ (by show b ≠ w.heap.size; omega)]
                    · have g8i : (8 : Int) < (acc.length : Int) := by omega
                      have HE : Hid (Wn.cxF f = none) := Lib.hid (Wn.cx_none (HP.out.noPart (HLB.out g8)))
                      have HJE := Lib.hid hje
                      clear hje
                      go_wp2_with fail
                      go_region
                      all_goals
                        have HXT := Lib.hid (((HXT5.out.pseudo sx).go ((HXT5.out.pseudo sx).cs.r.spoil false) ((Only.refl (w.heap.size + 1) _).setCell (p := ⟨w.heap.size + 1, 2, none⟩) rfl (.bool false))).below (Below.refl _ _).drew)
                        have HQ := Lib.hid (HQ5.out.same (w' := ((w5.setCell ⟨w.heap.size + 2, 1, none⟩ (.string sx)).setCell ⟨w.heap.size + 1, 2, none⟩ (.bool false)).drew) (fun b hb _ => by
                          have hb' : Wa.heap.size + 1 ≤ b := hb
                          exact (Below.heap_setCell (w5.setCell ⟨w.heap.size + 2, 1, none⟩ (.string sx)) ⟨w.heap.size + 1, 2, none⟩ (.bool false) b (by show b ≠ w.heap.size + 1; omega)).trans (Below.heap_setCell w5 ⟨w.heap.size + 2, 1, none⟩ (.string sx) b (by show b ≠ w.heap.size + 2; omega))) (fun _ h _ => h))
                        have HPB : Hid (((w5.setCell ⟨w.heap.size + 2, 1, none⟩ (.string sx)).setCell ⟨w.heap.size + 1, 2, none⟩ (.bool false)).drew.heap[Wa.heap.size]? = some (.cells #[.int .i64 comb, .slice qo acc.length qc] 43)) := Lib.hid ((Below.heap_setCell (w5.setCell ⟨w.heap.size + 2, 1, none⟩ (.string sx)) ⟨w.heap.size + 1, 2, none⟩ (.bool false) Wa.heap.size (by show Wa.heap.size ≠ w.heap.size + 1; omega)).trans ((Below.heap_setCell w5 ⟨w.heap.size + 2, 1, none⟩ (.string sx) Wa.heap.size (by show Wa.heap.size ≠ w.heap.size + 2; omega)).trans HPB5.out))
                        have HPV : Hid (∀ r, (Value.slice vo es.length vc).ownBlock = some r → r < Wa.heap.size) := Lib.hid (fun r e => (HX.out.own.own.lt r e).2)
                        clear HXT5 HQ5 HPB5 q0 q1 q2 qf1 qf2 p0 p1 pf1 c0 c1x cf1
                        generalize ((w5.setCell ⟨w.heap.size + 2, 1, none⟩ (.string sx)).setCell ⟨w.heap.size + 1, 2, none⟩ (.bool false)).drew = W6 at *
                        have hblk6 := HXT.out.cs.r.blk
                        have q2 := cell_of_block (o := 2) hblk6
                        have p0 := cell_of_block (o := 0) HPB.out
                        have p1 := cell_of_block (o := 1) HPB.out
                        simp only [List.getElem?_toArray, List.getElem?_cons_zero, List.getElem?_cons_succ] at q2 p0 p1
                        clear hblk6
                        have hel16 : es.length + 1 ≤ 17 := by omega
                        have hxt := HXT.out
                        have HCELL : Hid (∀ w8 : World, (∀ k, k < W6.heap.size → (Value.slice vo es.length vc).ownBlock ≠ some k → w8.heap[k]? = W6.heap[k]?) →
                          w8.heap[w.heap.size]? = some (.cells #[.slice none 0 0, .string ⟨#[]⟩] 31) ∧ w8.heap[w.heap.size + 1]? = some (.cells #[.slice lo f.len lc, .int .i64 (j3 : Int), .bool false] 84) ∧ w8.heap[w.heap.size + 2]? = some (.cells #[.slice vo es.length vc, .string sx] 31) ∧ w8.heap[Wa.heap.size]? = some (.cells #[.int .i64 comb, .slice qo acc.length qc] 43)) := Lib.hid (fun w8 h => by
                            have ho := hxt.own.own.lt
                            have l2 := lt_of_block hxt.cx
                            have lP := lt_of_block HPB.out
                            exact ⟨(h _ (by omega) (fun e => by have := (ho _ e).1; omega)).trans hxt.res, (h _ (by omega) (fun e => by have := (ho _ e).1; omega)).trans hxt.cs.r.blk, (h _ l2 (fun e => by have := (ho _ e).1; omega)).trans hxt.cx, (h _ lP (fun e => by have := HPV.out _ e; omega)).trans HPB.out⟩)
                        have HSrc : Hid (ptK.Src (W6.alloc (.cells #[.int .i64 comb, .slice qo acc.length qc] 43)) (.slice (some ⟨W6.heap.size, 0, none⟩) 1 1) [([.int .i64 comb, .slice qo acc.length qc] : List Value)]) := Lib.hid (RK.Src.one (K := ptK) (x := (comb, acc)) (W := W6) rfl (ok := fun _ => True) ⟨_, rfl, HQ.out.any⟩)
                        have HOW := Lib.hid (ownsRow_later HXT.out.own.own ((Below.refl _ _).alloc (Nat.le_refl _) (.cells #[.int .i64 comb, .slice qo acc.length qc] 43)))
                        have hbase : w.heap.size + 3 ≤ (W6.alloc (.cells #[.int .i64 comb, .slice qo acc.length qc] 43)).heap.size := by have := lt_of_block hxt.cx; simp; omega
                        have HBase := Lib.hid hbase
                        have HFin : Hid (∀ v8 w8, w8.ownsRow (w.heap.size + 3) ptK.e ptK.sz v8 (es ++ [([.int .i64 comb, .slice qo acc.length qc] : List Value)]).length (es ++ [([.int .i64 comb, .slice qo acc.length qc] : List Value)]).flatten → (W6.alloc (.cells #[.int .i64 comb, .slice qo acc.length qc] 43)).grownBy w8 (Value.slice vo es.length vc).ownBlock → (v8.ownBlock = (Value.slice vo es.length vc).ownBlock ∨ v8.ownBlock = some (W6.alloc (.cells #[.int .i64 comb, .slice qo acc.length qc] 43)).heap.size) →
                          XI w W1 (w8.setCell ⟨w.heap.size + 2, 0, none⟩ v8) w.heap.size (.slice lo f.len lc) f j3 false v8 sx (es ++ [([.int .i64 comb, .slice qo acc.length qc] : List Value)]) (ps ++ [(comb, acc)]) ∧ (∀ k, k < W6.heap.size → (Value.slice vo es.length vc).ownBlock ≠ some k → w8.heap[k]? = W6.heap[k]?)) := Lib.hid (fun v8 w8 h1 h2 h3 => ⟨HXT.out.next HPV.out hPn HQ.out ((Below.refl _ _).alloc (Nat.le_refl _) _) h1 h2 h3, fun k hk hn => (h2.block k (by simp; omega) (fun e => hn e.symm)).trans (Below.heap_alloc _ _ _ hk)⟩)
                        have hcx := hxt.cx
                        have c0 := cell_of_block (o := 0) hcx
                        have c1 := cell_of_block (o := 1) hcx
                        have cl := lt_of_block hcx
                        simp only [List.getElem?_toArray, List.getElem?_cons_zero, List.getElem?_cons_succ] at c0 c1
                        have cn1 : ¬ w.heap.size + 2 = W6.heap.size := by omega
                        clear hbase hxt HPB hcx
                        go_wp2_with (at_builtin; refine RK.append (K := ptK) rfl _ _ rfl rfl rfl HOW.out HSrc.out (by simp; omega) HBase.out ?_; intro v8 w8 hown8 hgr8 hat8; obtain ⟨a8, c8, rfl, h81, h82⟩ := own_shape hown8; obtain ⟨hz8, hk8⟩ := HFin.out _ _ hown8 hgr8 hat8; obtain ⟨kr, kg, kc, kp⟩ := HCELL.out w8 hk8; (have HZ8 := Lib.hid hz8); (have q0 := cell_of_block (o := 0) kg); (have q1 := cell_of_block (o := 1) kg); (have q2 := cell_of_block (o := 2) kg); (have c0 := cell_of_block (o := 0) kc); (have c1 := cell_of_block (o := 1) kc); (have p1 := cell_of_block (o := 1) kp); (have a0 := cell_of_block (o := 0) kr); (have a1 := cell_of_block (o := 1) kr); (have cf0 := frozen_blk kc 0); (have af0 := frozen_blk kr 0); (have af1 := frozen_blk kr 1); simp only [List.getElem?_toArray, List.getElem?_cons_zero, List.getElem?_cons_succ] at q0 q1 q2 c0 c1 p1 a0 a1; clear hown8 hgr8 hat8 hz8 hk8 kr kg kc kp; unfold maxLen at h82)
                      all_goals
                        have hz := HZ8.out
                        rw [show (es ++ [([.int .i64 comb, .slice qo acc.length qc] : List Value)]).length = es.length + 1 by simp] at hz
                        have HB2 := Lib.hid hz.all
                        refine bodyPost_ret (v := .tuple #[.agg #[.slice none 0 0, .string ⟨#[]⟩], .bool false]) (by simp [results, Try.results32, go_sem, a0, a1]) rfl ⟨_, _, false, rfl, (by (repeat (first | with_reducible exact HB2.out | (with_reducible refine Below.drew ?_) | (with_reducible refine below_drewN' ?_ _) | ((with_reducible refine Below.setCell ?_ ?_ _); rotate_left; (focus (first | omega | (simp; done) | (simp; omega)))) | ((with_reducible refine Below.alloc ?_ ?_ _); rotate_left; (focus (first | omega | (simp; omega))))))), ⟨_, _, _, rfl⟩, by rw [if_neg (by decide)]; exact HE.out⟩
                  · have hjt : (j3 : Int) < (f.len : Int) := by omega
                    have HE : Hid (Wn.cxF f = none) := Lib.hid (by
                      by_cases g8 : acc.length ≤ 8
                      · exact Wn.cx_far (HP.out.pseudo hps16 (HLJ.out _ g8 rfl) (Wn.pseudo_ne HPS.out)) (fun h => hje ((Wn.drop_nil_iff (by omega)).1 h))
                      · exact Wn.cx_none (HP.out.noPart (HLB.out g8)))
                    go_wp2_with fail
                    go_region
                    all_goals
                      have HXT := Lib.hid (((HXT5.out.pseudo sx).go ((HXT5.out.pseudo sx).cs.r.spoil true) ((Only.refl (w.heap.size + 1) _).setCell (p := ⟨w.heap.size + 1, 2, none⟩) rfl (.bool true))).below (Below.refl _ _).drew)
                      have HQ := Lib.hid (HQ5.out.same (w' := ((w5.setCell ⟨w.heap.size + 2, 1, none⟩ (.string sx)).setCell ⟨w.heap.size + 1, 2, none⟩ (.bool true)).drew) (fun b hb _ => by
                        have hb' : Wa.heap.size + 1 ≤ b := hb
                        exact (Below.heap_setCell (w5.setCell ⟨w.heap.size + 2, 1, none⟩ (.string sx)) ⟨w.heap.size + 1, 2, none⟩ (.bool true) b (by show b ≠ w.heap.size + 1; omega)).trans (Below.heap_setCell w5 ⟨w.heap.size + 2, 1, none⟩ (.string sx) b (by show b ≠ w.heap.size + 2; omega))) (fun _ h _ => h))
                      have HPB : Hid (((w5.setCell ⟨w.heap.size + 2, 1, none⟩ (.string sx)).setCell ⟨w.heap.size + 1, 2, none⟩ (.bool true)).drew.heap[Wa.heap.size]? = some (.cells #[.int .i64 comb, .slice qo acc.length qc] 43)) := Lib.hid ((Below.heap_setCell (w5.setCell ⟨w.heap.size + 2, 1, none⟩ (.string sx)) ⟨w.heap.size + 1, 2, none⟩ (.bool true) Wa.heap.size (by show Wa.heap.size ≠ w.heap.size + 1; omega)).trans ((Below.heap_setCell w5 ⟨w.heap.size + 2, 1, none⟩ (.string sx) Wa.heap.size (by show Wa.heap.size ≠ w.heap.size + 2; omega)).trans HPB5.out))
                      have HPV : Hid (∀ r, (Value.slice vo es.length vc).ownBlock = some r → r < Wa.heap.size) := Lib.hid (fun r e => (HX.out.own.own.lt r e).2)
                      clear HXT5 HQ5 HPB5 q0 q1 q2 qf1 qf2 p0 p1 pf1 c0 c1x cf1
                      generalize ((w5.setCell ⟨w.heap.size + 2, 1, none⟩ (.string sx)).setCell ⟨w.heap.size + 1, 2, none⟩ (.bool true)).drew = W6 at *
                      have hblk6 := HXT.out.cs.r.blk
                      have q2 := cell_of_block (o := 2) hblk6
                      have p0 := cell_of_block (o := 0) HPB.out
                      have p1 := cell_of_block (o := 1) HPB.out
                      simp only [List.getElem?_toArray, List.getElem?_cons_zero, List.getElem?_cons_succ] at q2 p0 p1
                      clear hblk6
                      have hel16 : es.length + 1 ≤ 17 := by omega
                      have hxt := HXT.out
                      have HCELL : Hid (∀ w8 : World, (∀ k, k < W6.heap.size → (Value.slice vo es.length vc).ownBlock ≠ some k → w8.heap[k]? = W6.heap[k]?) →
                        w8.heap[w.heap.size]? = some (.cells #[.slice none 0 0, .string ⟨#[]⟩] 31) ∧ w8.heap[w.heap.size + 1]? = some (.cells #[.slice lo f.len lc, .int .i64 (j3 : Int), .bool true] 84) ∧ w8.heap[w.heap.size + 2]? = some (.cells #[.slice vo es.length vc, .string sx] 31) ∧ w8.heap[Wa.heap.size]? = some (.cells #[.int .i64 comb, .slice qo acc.length qc] 43)) := Lib.hid (fun w8 h => by
                          have ho := hxt.own.own.lt
                          have l2 := lt_of_block hxt.cx
                          have lP := lt_of_block HPB.out
                          exact ⟨(h _ (by omega) (fun e => by have := (ho _ e).1; omega)).trans hxt.res, (h _ (by omega) (fun e => by have := (ho _ e).1; omega)).trans hxt.cs.r.blk, (h _ l2 (fun e => by have := (ho _ e).1; omega)).trans hxt.cx, (h _ lP (fun e => by have := HPV.out _ e; omega)).trans HPB.out⟩)
                      have HSrc : Hid (ptK.Src (W6.alloc (.cells #[.int .i64 comb, .slice qo acc.length qc] 43)) (.slice (some ⟨W6.heap.size, 0, none⟩) 1 1) [([.int .i64 comb, .slice qo acc.length qc] : List Value)]) := Lib.hid (RK.Src.one (K := ptK) (x := (comb, acc)) (W := W6) rfl (ok := fun _ => True) ⟨_, rfl, HQ.out.any⟩)
                      have HOW := Lib.hid (ownsRow_later HXT.out.own.own ((Below.refl _ _).alloc (Nat.le_refl _) (.cells #[.int .i64 comb, .slice qo acc.length qc] 43)))
                      have hbase : w.heap.size + 3 ≤ (W6.alloc (.cells #[.int .i64 comb, .slice qo acc.length qc] 43)).heap.size := by have := lt_of_block hxt.cx; simp; omega
                      have HBase := Lib.hid hbase
                      have HFin : Hid (∀ v8 w8, w8.ownsRow (w.heap.size + 3) ptK.e ptK.sz v8 (es ++ [([.int .i64 comb, .slice qo acc.length qc] : List Value)]).length (es ++ [([.int .i64 comb, .slice qo acc.length qc] : List Value)]).flatten → (W6.alloc (.cells #[.int .i64 comb, .slice qo acc.length qc] 43)).grownBy w8 (Value.slice vo es.length vc).ownBlock → (v8.ownBlock = (Value.slice vo es.length vc).ownBlock ∨ v8.ownBlock = some (W6.alloc (.cells #[.int .i64 comb, .slice qo acc.length qc] 43)).heap.size) →
                        XI w W1 (w8.setCell ⟨w.heap.size + 2, 0, none⟩ v8) w.heap.size (.slice lo f.len lc) f j3 true v8 sx (es ++ [([.int .i64 comb, .slice qo acc.length qc] : List Value)]) (ps ++ [(comb, acc)]) ∧ (∀ k, k < W6.heap.size → (Value.slice vo es.length vc).ownBlock ≠ some k → w8.heap[k]? = W6.heap[k]?)) := Lib.hid (fun v8 w8 h1 h2 h3 => ⟨HXT.out.next HPV.out hPn HQ.out ((Below.refl _ _).alloc (Nat.le_refl _) _) h1 h2 h3, fun k hk hn => (h2.block k (by simp; omega) (fun e => hn e.symm)).trans (Below.heap_alloc _ _ _ hk)⟩)
                      have hcx := hxt.cx
                      have c0 := cell_of_block (o := 0) hcx
                      have c1 := cell_of_block (o := 1) hcx
                      have cl := lt_of_block hcx
                      simp only [List.getElem?_toArray, List.getElem?_cons_zero, List.getElem?_cons_succ] at c0 c1
                      have cn1 : ¬ w.heap.size + 2 = W6.heap.size := by omega
                      clear hbase hxt HPB hcx
                      go_wp2_with (at_builtin; refine RK.append (K := ptK) rfl _ _ rfl rfl rfl HOW.out HSrc.out (by simp; omega) HBase.out ?_; intro v8 w8 hown8 hgr8 hat8; obtain ⟨a8, c8, rfl, h81, h82⟩ := own_shape hown8; obtain ⟨hz8, hk8⟩ := HFin.out _ _ hown8 hgr8 hat8; obtain ⟨kr, kg, kc, kp⟩ := HCELL.out w8 hk8; (have HZ8 := Lib.hid hz8); (have q0 := cell_of_block (o := 0) kg); (have q1 := cell_of_block (o := 1) kg); (have q2 := cell_of_block (o := 2) kg); (have c0 := cell_of_block (o := 0) kc); (have c1 := cell_of_block (o := 1) kc); (have p1 := cell_of_block (o := 1) kp); (have a0 := cell_of_block (o := 0) kr); (have a1 := cell_of_block (o := 1) kr); (have cf0 := frozen_blk kc 0); (have af0 := frozen_blk kr 0); (have af1 := frozen_blk kr 1); simp only [List.getElem?_toArray, List.getElem?_cons_zero, List.getElem?_cons_succ] at q0 q1 q2 c0 c1 p1 a0 a1; clear hown8 hgr8 hat8 hz8 hk8 kr kg kc kp; unfold maxLen at h82)
                    all_goals
                      have hz := HZ8.out
                      rw [show (es ++ [([.int .i64 comb, .slice qo acc.length qc] : List Value)]).length = es.length + 1 by simp] at hz
                      have HB2 := Lib.hid hz.all
                      refine bodyPost_ret (v := .tuple #[.agg #[.slice none 0 0, .string ⟨#[]⟩], .bool false]) (by simp [results, Try.results32, go_sem, a0, a1]) rfl ⟨_, _, false, rfl, (by (repeat (first | with_reducible exact HB2.out | (with_reducible refine Below.drew ?_) | (with_reducible refine below_drewN' ?_ _) | ((with_reducible refine Below.setCell ?_ ?_ _); rotate_left; (focus (first | omega | (simp; done) | (simp; omega)))) | ((with_reducible refine Below.alloc ?_ ?_ _); rotate_left; (focus (first | omega | (simp; omega))))))), ⟨_, _, _, rfl⟩, by rw [if_neg (by decide)]; exact HE.out⟩
              · have HY := Lib.hid (HYm.out.go (by omega) hr5 ho5)
                have HE : Hid (Wn.cxF f = none) := Lib.hid (Wn.cx_none (HP.out.noPart (by rw [Wn.part_dbl (HG.out (by simp)).1 HDV.out, hn])))
                clear HY3 HYm hr5 ho5 hn q1 qf1 hw2 HG
                have hblk := HY.out.cs.r.blk
                have q0 := cell_of_block (o := 0) hblk
                have q1 := cell_of_block (o := 1) hblk
                have q2 := cell_of_block (o := 2) hblk
                have qf1 := frozen_blk hblk 1
                have qf2 := frozen_blk hblk 2
                simp only [List.getElem?_toArray, List.getElem?_cons_zero, List.getElem?_cons_succ] at q0 q1 q2
                have hpb := HY.out.pb
                have p0 := cell_of_block (o := 0) hpb
                have p1 := cell_of_block (o := 1) hpb
                have pf1 := frozen_blk hpb 1
                simp only [List.getElem?_toArray, List.getElem?_cons_zero, List.getElem?_cons_succ] at p0 p1
                have hPl := lt_of_block hpb
                have hgl := lt_of_block hblk
                clear hblk hpb
                have HXT5 := Lib.hid (HX.out.to rfl HY.out)
                have HQ5 := Lib.hid (HY.out.own.p (fun b hb => hb))
                have HPB5 := Lib.hid HY.out.pb
                have hcx5 := HXT5.out.cx
                have c0 := cell_of_block (o := 0) hcx5
                have c1x := cell_of_block (o := 1) hcx5
                have cf1 := frozen_blk hcx5 1
                simp only [List.getElem?_toArray, List.getElem?_cons_zero, List.getElem?_cons_succ] at c0 c1x
                clear hcx5
                clear HY
                go_wp2_with fail
                go_region
                all_goals
                  have HXT := Lib.hid (((HXT5.out.pseudo ⟨#[]⟩).go ((HXT5.out.pseudo ⟨#[]⟩).cs.r.spoil true) ((Only.refl (w.heap.size + 1) _).setCell (p := ⟨w.heap.size + 1, 2, none⟩) rfl (.bool true))).below (Below.refl _ _).drew)
                  have HQ := Lib.hid (HQ5.out.same (w' := ((w5.setCell ⟨w.heap.size + 2, 1, none⟩ (.string ⟨#[]⟩)).setCell ⟨w.heap.size + 1, 2, none⟩ (.bool true)).drew) (fun b hb _ => by
                    have hb' : Wa.heap.size + 1 ≤ b := hb
                    exact (Below.heap_setCell (w5.setCell ⟨w.heap.size + 2, 1, none⟩ (.string ⟨#[]⟩)) ⟨w.heap.size + 1, 2, none⟩ (.bool true) b (by show b ≠ w.heap.size + 1; omega)).trans (Below.heap_setCell w5 ⟨w.heap.size + 2, 1, none⟩ (.string ⟨#[]⟩) b (by show b ≠ w.heap.size + 2; omega))) (fun _ h _ => h))
                  have HPB : Hid (((w5.setCell ⟨w.heap.size + 2, 1, none⟩ (.string ⟨#[]⟩)).setCell ⟨w.heap.size + 1, 2, none⟩ (.bool true)).drew.heap[Wa.heap.size]? = some (.cells #[.int .i64 comb, .slice qo acc.length qc] 43)) := Lib.hid ((Below.heap_setCell (w5.setCell ⟨w.heap.size + 2, 1, none⟩ (.string ⟨#[]⟩)) ⟨w.heap.size + 1, 2, none⟩ (.bool true) Wa.heap.size (by show Wa.heap.size ≠ w.heap.size + 1; omega)).trans ((Below.heap_setCell w5 ⟨w.heap.size + 2, 1, none⟩ (.string ⟨#[]⟩) Wa.heap.size (by show Wa.heap.size ≠ w.heap.size + 2; omega)).trans HPB5.out))
                  have HPV : Hid (∀ r, (Value.slice vo es.length vc).ownBlock = some r → r < Wa.heap.size) := Lib.hid (fun r e => (HX.out.own.own.lt r e).2)
                  clear HXT5 HQ5 HPB5 q0 q1 q2 qf1 qf2 p0 p1 pf1 c0 c1x cf1
                  generalize ((w5.setCell ⟨w.heap.size + 2, 1, none⟩ (.string ⟨#[]⟩)).setCell ⟨w.heap.size + 1, 2, none⟩ (.bool true)).drew = W6 at *
                  have hblk6 := HXT.out.cs.r.blk
                  have q2 := cell_of_block (o := 2) hblk6
                  have p0 := cell_of_block (o := 0) HPB.out
                  have p1 := cell_of_block (o := 1) HPB.out
                  simp only [List.getElem?_toArray, List.getElem?_cons_zero, List.getElem?_cons_succ] at q2 p0 p1
                  clear hblk6
                  have hel16 : es.length + 1 ≤ 17 := by omega
                  have hxt := HXT.out
                  have HCELL : Hid (∀ w8 : World, (∀ k, k < W6.heap.size → (Value.slice vo es.length vc).ownBlock ≠ some k → w8.heap[k]? = W6.heap[k]?) →
                    w8.heap[w.heap.size]? = some (.cells #[.slice none 0 0, .string ⟨#[]⟩] 31) ∧ w8.heap[w.heap.size + 1]? = some (.cells #[.slice lo f.len lc, .int .i64 ((j2 + 2) : Int), .bool true] 84) ∧ w8.heap[w.heap.size + 2]? = some (.cells #[.slice vo es.length vc, .string ⟨#[]⟩] 31) ∧ w8.heap[Wa.heap.size]? = some (.cells #[.int .i64 comb, .slice qo acc.length qc] 43)) := Lib.hid (fun w8 h => by
                      have ho := hxt.own.own.lt
                      have l2 := lt_of_block hxt.cx
                      have lP := lt_of_block HPB.out
                      exact ⟨(h _ (by omega) (fun e => by have := (ho _ e).1; omega)).trans hxt.res, (h _ (by omega) (fun e => by have := (ho _ e).1; omega)).trans hxt.cs.r.blk, (h _ l2 (fun e => by have := (ho _ e).1; omega)).trans hxt.cx, (h _ lP (fun e => by have := HPV.out _ e; omega)).trans HPB.out⟩)
                  have HSrc : Hid (ptK.Src (W6.alloc (.cells #[.int .i64 comb, .slice qo acc.length qc] 43)) (.slice (some ⟨W6.heap.size, 0, none⟩) 1 1) [([.int .i64 comb, .slice qo acc.length qc] : List Value)]) := Lib.hid (RK.Src.one (K := ptK) (x := (comb, acc)) (W := W6) rfl (ok := fun _ => True) ⟨_, rfl, HQ.out.any⟩)
                  have HOW := Lib.hid (ownsRow_later HXT.out.own.own ((Below.refl _ _).alloc (Nat.le_refl _) (.cells #[.int .i64 comb, .slice qo acc.length qc] 43)))
                  have hbase : w.heap.size + 3 ≤ (W6.alloc (.cells #[.int .i64 comb, .slice qo acc.length qc] 43)).heap.size := by have := lt_of_block hxt.cx; simp; omega
                  have HBase := Lib.hid hbase
                  have HFin : Hid (∀ v8 w8, w8.ownsRow (w.heap.size + 3) ptK.e ptK.sz v8 (es ++ [([.int .i64 comb, .slice qo acc.length qc] : List Value)]).length (es ++ [([.int .i64 comb, .slice qo acc.length qc] : List Value)]).flatten → (W6.alloc (.cells #[.int .i64 comb, .slice qo acc.length qc] 43)).grownBy w8 (Value.slice vo es.length vc).ownBlock → (v8.ownBlock = (Value.slice vo es.length vc).ownBlock ∨ v8.ownBlock = some (W6.alloc (.cells #[.int .i64 comb, .slice qo acc.length qc] 43)).heap.size) →
                    XI w W1 (w8.setCell ⟨w.heap.size + 2, 0, none⟩ v8) w.heap.size (.slice lo f.len lc) f (j2 + 2) true v8 ⟨#[]⟩ (es ++ [([.int .i64 comb, .slice qo acc.length qc] : List Value)]) (ps ++ [(comb, acc)]) ∧ (∀ k, k < W6.heap.size → (Value.slice vo es.length vc).ownBlock ≠ some k → w8.heap[k]? = W6.heap[k]?)) := Lib.hid (fun v8 w8 h1 h2 h3 => ⟨HXT.out.next HPV.out hPn HQ.out ((Below.refl _ _).alloc (Nat.le_refl _) _) h1 h2 h3, fun k hk hn => (h2.block k (by simp; omega) (fun e => hn e.symm)).trans (Below.heap_alloc _ _ _ hk)⟩)
                  have hcx := hxt.cx
                  have c0 := cell_of_block (o := 0) hcx
                  have c1 := cell_of_block (o := 1) hcx
                  have cl := lt_of_block hcx
                  simp only [List.getElem?_toArray, List.getElem?_cons_zero, List.getElem?_cons_succ] at c0 c1
                  have cn1 : ¬ w.heap.size + 2 = W6.heap.size := by omega
                  clear hbase hxt HPB hcx
                  go_wp2_with (at_builtin; refine RK.append (K := ptK) rfl _ _ rfl rfl rfl HOW.out HSrc.out (by simp; omega) HBase.out ?_; intro v8 w8 hown8 hgr8 hat8; obtain ⟨a8, c8, rfl, h81, h82⟩ := own_shape hown8; obtain ⟨hz8, hk8⟩ := HFin.out _ _ hown8 hgr8 hat8; obtain ⟨kr, kg, kc, kp⟩ := HCELL.out w8 hk8; (have HZ8 := Lib.hid hz8); (have q0 := cell_of_block (o := 0) kg); (have q1 := cell_of_block (o := 1) kg); (have q2 := cell_of_block (o := 2) kg); (have c0 := cell_of_block (o := 0) kc); (have c1 := cell_of_block (o := 1) kc); (have p1 := cell_of_block (o := 1) kp); (have a0 := cell_of_block (o := 0) kr); (have a1 := cell_of_block (o := 1) kr); (have cf0 := frozen_blk kc 0); (have af0 := frozen_blk kr 0); (have af1 := frozen_blk kr 1); simp only [List.getElem?_toArray, List.getElem?_cons_zero, List.getElem?_cons_succ] at q0 q1 q2 c0 c1 p1 a0 a1; clear hown8 hgr8 hat8 hz8 hk8 kr kg kc kp; unfold maxLen at h82)
                all_goals
                  have hz := HZ8.out
                  rw [show (es ++ [([.int .i64 comb, .slice qo acc.length qc] : List Value)]).length = es.length + 1 by simp] at hz
                  have HB2 := Lib.hid hz.all
                  refine bodyPost_ret (v := .tuple #[.agg #[.slice none 0 0, .string ⟨#[]⟩], .bool false]) (by simp [results, Try.results32, go_sem, a0, a1]) rfl ⟨_, _, false, rfl, (by (repeat (first | with_reducible exact HB2.out | (with_reducible refine Below.drew ?_) | (with_reducible refine below_drewN' ?_ _) | ((with_reducible refine Below.setCell ?_ ?_ _); rotate_left; (focus (first | omega | (simp; done) | (simp; omega)))) | ((with_reducible refine Below.alloc ?_ ?_ _); rotate_left; (focus (first | omega | (simp; omega))))))), ⟨_, _, _, rfl⟩, by rw [if_neg (by decide)]; exact HE.out⟩
          · rw [ho] at QO
            have HOV := Lib.hid ho
            have HDV := Lib.hid (Wn.over_dbl ho)
            have hPg : ¬ Wa.heap.size = w.heap.size + 1 := by omega
            clear ho
            go_wp2_with fail
            refine QO.out.mono ?_
            rintro e w1 ⟨rfl, b1⟩
            have HY1 := Lib.hid (HY.out.below b1)
            clear HY b1 QO q0 q1 q2 qf1 qf2 p0 p1 pf1
            have QD := Lib.hid (r4double (w.heap.size + 1) j2 f false w1 HY1.out.cs.r)
            rw [HDV.out] at QD
            have hblk1 := HY1.out.cs.r.blk
            have q2 := cell_of_block (o := 2) hblk1
            simp only [List.getElem?_toArray, List.getElem?_cons_zero, List.getElem?_cons_succ] at q2
            clear hblk1
            go_wp2_with fail
            refine QD.out.mono ?_
            rintro e w2 ⟨rfl, b2⟩
            have HY := Lib.hid (HY1.out.below b2)
            clear HY1 b2 QD q2
            have hblk := HY.out.cs.r.blk
            have q0 := cell_of_block (o := 0) hblk
            have q1 := cell_of_block (o := 1) hblk
            have q2 := cell_of_block (o := 2) hblk
            have qf1 := frozen_blk hblk 1
            have qf2 := frozen_blk hblk 2
            simp only [List.getElem?_toArray, List.getElem?_cons_zero, List.getElem?_cons_succ] at q0 q1 q2
            have hpb := HY.out.pb
            have p0 := cell_of_block (o := 0) hpb
            have p1 := cell_of_block (o := 1) hpb
            have pf1 := frozen_blk hpb 1
            simp only [List.getElem?_toArray, List.getElem?_cons_zero, List.getElem?_cons_succ] at p0 p1
            have hPl := lt_of_block hpb
            have hgl := lt_of_block hblk
            clear hblk hpb
            have HXT := Lib.hid (HX.out.to rfl HY.out)
            have HQ := Lib.hid (HY.out.own.p (fun b hb => hb))
            have HPV : Hid (∀ r, (Value.slice vo es.length vc).ownBlock = some r → r < Wa.heap.size) := Lib.hid (fun r e => (HX.out.own.own.lt r e).2)
            have HPB := Lib.hid HY.out.pb
            clear HY
            have hel16 : es.length + 1 ≤ 17 := by omega
            have hxt := HXT.out
            have HCELL : Hid (∀ w8 : World, (∀ k, k < w2.heap.size → (Value.slice vo es.length vc).ownBlock ≠ some k → w8.heap[k]? = w2.heap[k]?) →
              w8.heap[w.heap.size]? = some (.cells #[.slice none 0 0, .string ⟨#[]⟩] 31) ∧ w8.heap[w.heap.size + 1]? = some (.cells #[.slice lo f.len lc, .int .i64 (j2 : Int), .bool false] 84) ∧ w8.heap[w.heap.size + 2]? = some (.cells #[.slice vo es.length vc, .string ⟨#[]⟩] 31) ∧ w8.heap[Wa.heap.size]? = some (.cells #[.int .i64 comb, .slice qo acc.length qc] 43)) := Lib.hid (fun w8 h => by
                have ho := hxt.own.own.lt
                have l2 := lt_of_block hxt.cx
                have lP := lt_of_block HPB.out
                exact ⟨(h _ (by omega) (fun e => by have := (ho _ e).1; omega)).trans hxt.res, (h _ (by omega) (fun e => by have := (ho _ e).1; omega)).trans hxt.cs.r.blk, (h _ l2 (fun e => by have := (ho _ e).1; omega)).trans hxt.cx, (h _ lP (fun e => by have := HPV.out _ e; omega)).trans HPB.out⟩)
            have HSrc : Hid (ptK.Src (w2.alloc (.cells #[.int .i64 comb, .slice qo acc.length qc] 43)) (.slice (some ⟨w2.heap.size, 0, none⟩) 1 1) [([.int .i64 comb, .slice qo acc.length qc] : List Value)]) := Lib.hid (RK.Src.one (K := ptK) (x := (comb, acc)) (W := w2) rfl (ok := fun _ => True) ⟨_, rfl, HQ.out.any⟩)
            have HOW := Lib.hid (ownsRow_later HXT.out.own.own ((Below.refl _ _).alloc (Nat.le_refl _) (.cells #[.int .i64 comb, .slice qo acc.length qc] 43)))
            have hbase : w.heap.size + 3 ≤ (w2.alloc (.cells #[.int .i64 comb, .slice qo acc.length qc] 43)).heap.size := by have := lt_of_block hxt.cx; simp; omega
            have HBase := Lib.hid hbase
            have HFin : Hid (∀ v8 w8, w8.ownsRow (w.heap.size + 3) ptK.e ptK.sz v8 (es ++ [([.int .i64 comb, .slice qo acc.length qc] : List Value)]).length (es ++ [([.int .i64 comb, .slice qo acc.length qc] : List Value)]).flatten → (w2.alloc (.cells #[.int .i64 comb, .slice qo acc.length qc] 43)).grownBy w8 (Value.slice vo es.length vc).ownBlock → (v8.ownBlock = (Value.slice vo es.length vc).ownBlock ∨ v8.ownBlock = some (w2.alloc (.cells #[.int .i64 comb, .slice qo acc.length qc] 43)).heap.size) →
              XI w W1 (w8.setCell ⟨w.heap.size + 2, 0, none⟩ v8) w.heap.size (.slice lo f.len lc) f j2 false v8 ⟨#[]⟩ (es ++ [([.int .i64 comb, .slice qo acc.length qc] : List Value)]) (ps ++ [(comb, acc)]) ∧ (∀ k, k < w2.heap.size → (Value.slice vo es.length vc).ownBlock ≠ some k → w8.heap[k]? = w2.heap[k]?)) := Lib.hid (fun v8 w8 h1 h2 h3 => ⟨HXT.out.next HPV.out hPn HQ.out ((Below.refl _ _).alloc (Nat.le_refl _) _) h1 h2 h3, fun k hk hn => (h2.block k (by simp; omega) (fun e => hn e.symm)).trans (Below.heap_alloc _ _ _ hk)⟩)
            have hcx := hxt.cx
            have c0 := cell_of_block (o := 0) hcx
            have c1 := cell_of_block (o := 1) hcx
            have cl := lt_of_block hcx
            simp only [List.getElem?_toArray, List.getElem?_cons_zero, List.getElem?_cons_succ] at c0 c1
            have cn1 : ¬ w.heap.size + 2 = w2.heap.size := by omega
            clear hbase hxt HPB hcx
            have HPO := Lib.hid (Wn.part_over (HG.out (by simp)).1 HOV.out HDV.out)
            by_cases g8 : acc.length ≤ 8
            · have g8i : ¬ (8 : Int) < (acc.length : Int) := by omega
              have g8j : (acc.length : Int) ≤ 8 := by omega
              by_cases g0 : acc = []
              · have HE : Hid (Wn.cxF f = none) := Lib.hid (Wn.cx_none (HP.out.noPart (by rw [HPO.out, if_neg (fun h => h.2 g0)])))
                have g0i : ((acc.length : Int) == 0) = true := by rw [g0]; rfl
                clear HG HPO g0
                go_wp2_with (at_builtin; refine RK.append (K := ptK) rfl _ _ rfl rfl rfl HOW.out HSrc.out (by simp; omega) HBase.out ?_; intro v8 w8 hown8 hgr8 hat8; obtain ⟨a8, c8, rfl, h81, h82⟩ := own_shape hown8; obtain ⟨hz8, hk8⟩ := HFin.out _ _ hown8 hgr8 hat8; obtain ⟨kr, kg, kc, kp⟩ := HCELL.out w8 hk8; (have HZ8 := Lib.hid hz8); (have q0 := cell_of_block (o := 0) kg); (have q1 := cell_of_block (o := 1) kg); (have q2 := cell_of_block (o := 2) kg); (have c0 := cell_of_block (o := 0) kc); (have c1 := cell_of_block (o := 1) kc); (have p1 := cell_of_block (o := 1) kp); (have a0 := cell_of_block (o := 0) kr); (have a1 := cell_of_block (o := 1) kr); (have cf0 := frozen_blk kc 0); (have af0 := frozen_blk kr 0); (have af1 := frozen_blk kr 1); simp only [List.getElem?_toArray, List.getElem?_cons_zero, List.getElem?_cons_succ] at q0 q1 q2 c0 c1 p1 a0 a1; clear hown8 hgr8 hat8 hz8 hk8 kr kg kc kp; unfold maxLen at h82)
                have hz := HZ8.out
                rw [show (es ++ [([.int .i64 comb, .slice qo acc.length qc] : List Value)]).length = es.length + 1 by simp] at hz
                have HB2 := Lib.hid hz.all
                refine bodyPost_ret (v := .tuple #[.agg #[.slice none 0 0, .string ⟨#[]⟩], .bool false]) (by simp [results, Try.results32, go_sem, a0, a1]) rfl ⟨_, _, false, rfl, (by (repeat (first | with_reducible exact HB2.out | (with_reducible refine Below.drew ?_) | (with_reducible refine below_drewN' ?_ _) | ((with_reducible refine Below.setCell ?_ ?_ _); rotate_left; (focus (first | omega | (simp; done) | (simp; omega)))) | ((with_reducible refine Below.alloc ?_ ?_ _); rotate_left; (focus (first | omega | (simp; omega))))))), ⟨_, _, _, rfl⟩, by rw [if_neg (by decide)]; exact HE.out⟩
              · have hpart : Wn.partR (f.drop j) = some ((acc, []), f.drop j2) := by rw [HPO.out, if_pos ⟨g8, g0⟩]
                have HPT := Lib.hid hpart
                have g0i : ((acc.length : Int) == 0) = false := by cases acc with | nil => exact absurd rfl g0 | cons => simp; omega
                have hps16 : ps.length < 16 := by rw [← HEL.out]; omega
                by_cases hje : j2 = f.len
                · have hji : (j2 : Int) = (f.len : Int) := by omega
                  have HE : Hid (Wn.cxF f = some (ps ++ [(comb, acc)], [])) := Lib.hid (Wn.cx_end (HP.out.last hps16 (by rw [HPT.out, Wn.Fs.drop_len (by omega)])))
                  clear HG HPO hpart HPT g0
                  go_wp2_with (at_builtin; refine RK.append (K := ptK) rfl _ _ rfl rfl rfl HOW.out HSrc.out (by simp; omega) HBase.out ?_; intro v8 w8 hown8 hgr8 hat8; obtain ⟨a8, c8, rfl, h81, h82⟩ := own_shape hown8; obtain ⟨hz8, hk8⟩ := HFin.out _ _ hown8 hgr8 hat8; obtain ⟨kr, kg, kc, kp⟩ := HCELL.out w8 hk8; (have HZ8 := Lib.hid hz8); (have q0 := cell_of_block (o := 0) kg); (have q1 := cell_of_block (o := 1) kg); (have q2 := cell_of_block (o := 2) kg); (have c0 := cell_of_block (o := 0) kc); (have c1 := cell_of_block (o := 1) kc); (have p1 := cell_of_block (o := 1) kp); (have a0 := cell_of_block (o := 0) kr); (have a1 := cell_of_block (o := 1) kr); (have cf0 := frozen_blk kc 0); (have af0 := frozen_blk kr 0); (have af1 := frozen_blk kr 1); simp only [List.getElem?_toArray, List.getElem?_cons_zero, List.getElem?_cons_succ] at q0 q1 q2 c0 c1 p1 a0 a1; clear hown8 hgr8 hat8 hz8 hk8 kr kg kc kp; unfold maxLen at h82)
                  go_region
                  all_goals go_wp2_with fail
                  all_goals
                    have hz := HZ8.out
                    rw [show (es ++ [([.int .i64 comb, .slice qo acc.length qc] : List Value)]).length = es.length + 1 by simp] at hz
                    have HB2 := Lib.hid hz.all
                    have hpp := hz.own.p (fun b hb => hb)
                    refine bodyPost_ret (v := .tuple #[.agg #[.slice a8 (es.length + 1) c8, .string ⟨#[]⟩], .bool true]) (by simp [results, Try.results32, go_sem, a0, a1, c0, c1]) rfl ⟨_, _, true, rfl, (by (repeat (first | with_reducible exact HB2.out | (with_reducible refine Below.drew ?_) | (with_reducible refine below_drewN' ?_ _) | ((with_reducible refine Below.setCell ?_ ?_ _); rotate_left; (focus (first | omega | (simp; done) | (simp; omega)))) | ((with_reducible refine Below.alloc ?_ ?_ _); rotate_left; (focus (first | omega | (simp; omega))))))), ⟨_, _, _, rfl⟩, ?_⟩
                    rw [if_pos rfl]
                    refine ⟨_, HE.out, rfl, hpp.same (fun b hb hl => ?_) (fun b hb _ => by omega)⟩
                    refine Eq.trans (b := (World.setCell (World.setCell _ ⟨w.heap.size, 0, none⟩ _) ⟨w.heap.size, 1, none⟩ _).heap[b]?) rfl ?_
                    rw [Below.heap_setCell _ _ _ _ (by show b ≠ w.heap.size; omega), Below.heap_setCell _ _ _ _ (by show b ≠ w.heap.size; omega)]
                · have hji : ((j2 : Int) == (f.len : Int)) = false := by simp; omega
                  have hdn : Wn.dropB (f.drop j2) ≠ .nil := fun h => hje ((Wn.drop_nil_iff (by omega)).1 ((Wn.dropB_nil_of (Wn.rtrim_drop j2 HTR.out)).1 h))
                  have HCR := Lib.hid (Wn.rcomb_some HOV.out hdn)
                  clear HG hpart g0 hdn
                  go_wp2_with (at_builtin; refine RK.append (K := ptK) rfl _ _ rfl rfl rfl HOW.out HSrc.out (by simp; omega) HBase.out ?_; intro v8 w8 hown8 hgr8 hat8; obtain ⟨a8, c8, rfl, h81, h82⟩ := own_shape hown8; obtain ⟨hz8, hk8⟩ := HFin.out _ _ hown8 hgr8 hat8; obtain ⟨kr, kg, kc, kp⟩ := HCELL.out w8 hk8; (have HZ8 := Lib.hid hz8); (have q0 := cell_of_block (o := 0) kg); (have q1 := cell_of_block (o := 1) kg); (have q2 := cell_of_block (o := 2) kg); (have c0 := cell_of_block (o := 0) kc); (have c1 := cell_of_block (o := 1) kc); (have p1 := cell_of_block (o := 1) kp); (have a0 := cell_of_block (o := 0) kr); (have a1 := cell_of_block (o := 1) kr); (have cf0 := frozen_blk kc 0); (have af0 := frozen_blk kr 0); (have af1 := frozen_blk kr 1); simp only [List.getElem?_toArray, List.getElem?_cons_zero, List.getElem?_cons_succ] at q0 q1 q2 c0 c1 p1 a0 a1; clear hown8 hgr8 hat8 hz8 hk8 kr kg kc kp; unfold maxLen at h82)
                  go_region
                  all_goals go_wp2_with fail
                  all_goals
                    have hz := HZ8.out
                    rw [show (es ++ [([.int .i64 comb, .slice qo acc.length qc] : List Value)]).length = es.length + 1 by simp] at hz
                    have HZD := Lib.hid (hz.below (Below.refl _ _).drew)
                    clear hz HZ8 q0 q1 q2 c0 c1 p1 a0 a1 cf0 af0 af1 HCELL HSrc HOW HBase HFin
                    refine (r4comb (w.heap.size + 1) j2 f false _ HZD.out.cs.r).mono ?_
                    rintro e w3 ⟨j3, kc, hj3, hrc, rfl, hr3, ho3⟩
                    have HXN := Lib.hid (HZD.out.go hr3 ho3)
                    have HPN := Lib.hid (HP.out.next hps16 HPT.out (by rw [HCR.out, hrc]) (by have := Wn.rcomb_pos (f.drop j2); rw [hrc] at this; exact this))
                    have HME : Hid (17 - c4len (w.heap.size + 2) w3 < 17 - c4len (w.heap.size + 2) Wa) := Lib.hid (by rw [HXN.out.len, HM.out, List.length_append, List.length_singleton]; omega)
                    clear hr3 ho3 hrc
                    go_wp2_with fail
                    exact ⟨⟨j3, kc, _, _, ps ++ [(comb, acc)], by simp; omega, rfl, HXN, HPN⟩, HME.out⟩
            · have g8i : (8 : Int) < (acc.length : Int) := by omega
              have HE : Hid (Wn.cxF f = none) := Lib.hid (Wn.cx_none (HP.out.noPart (by rw [HPO.out, if_neg (fun h => g8 h.1)])))
              clear HG HPO
              go_wp2_with (at_builtin; refine RK.append (K := ptK) rfl _ _ rfl rfl rfl HOW.out HSrc.out (by simp; omega) HBase.out ?_; intro v8 w8 hown8 hgr8 hat8; obtain ⟨a8, c8, rfl, h81, h82⟩ := own_shape hown8; obtain ⟨hz8, hk8⟩ := HFin.out _ _ hown8 hgr8 hat8; obtain ⟨kr, kg, kc, kp⟩ := HCELL.out w8 hk8; (have HZ8 := Lib.hid hz8); (have q0 := cell_of_block (o := 0) kg); (have q1 := cell_of_block (o := 1) kg); (have q2 := cell_of_block (o := 2) kg); (have c0 := cell_of_block (o := 0) kc); (have c1 := cell_of_block (o := 1) kc); (have p1 := cell_of_block (o := 1) kp); (have a0 := cell_of_block (o := 0) kr); (have a1 := cell_of_block (o := 1) kr); (have cf0 := frozen_blk kc 0); (have af0 := frozen_blk kr 0); (have af1 := frozen_blk kr 1); simp only [List.getElem?_toArray, List.getElem?_cons_zero, List.getElem?_cons_succ] at q0 q1 q2 c0 c1 p1 a0 a1; clear hown8 hgr8 hat8 hz8 hk8 kr kg kc kp; unfold maxLen at h82)
              have hz := HZ8.out
              rw [show (es ++ [([.int .i64 comb, .slice qo acc.length qc] : List Value)]).length = es.length + 1 by simp] at hz
              have HB2 := Lib.hid hz.all
              refine bodyPost_ret (v := .tuple #[.agg #[.slice none 0 0, .string ⟨#[]⟩], .bool false]) (by simp [results, Try.results32, go_sem, a0, a1]) rfl ⟨_, _, false, rfl, (by (repeat (first | with_reducible exact HB2.out | (with_reducible refine Below.drew ?_) | (with_reducible refine below_drewN' ?_ _) | ((with_reducible refine Below.setCell ?_ ?_ _); rotate_left; (focus (first | omega | (simp; done) | (simp; omega)))) | ((with_reducible refine Below.alloc ?_ ?_ _); rotate_left; (focus (first | omega | (simp; omega))))))), ⟨_, _, _, rfl⟩, by rw [if_neg (by decide)]; exact HE.out⟩
        · skip
          have hblk := HY.out.cs.r.blk
          have q0 := cell_of_block (o := 0) hblk
          have q1 := cell_of_block (o := 1) hblk
          have q2 := cell_of_block (o := 2) hblk
          have qf1 := frozen_blk hblk 1
          have qf2 := frozen_blk hblk 2
          simp only [List.getElem?_toArray, List.getElem?_cons_zero, List.getElem?_cons_succ] at q0 q1 q2
          have hpb := HY.out.pb
          have p0 := cell_of_block (o := 0) hpb
          have p1 := cell_of_block (o := 1) hpb
          have pf1 := frozen_blk hpb 1
          simp only [List.getElem?_toArray, List.getElem?_cons_zero, List.getElem?_cons_succ] at p0 p1
          have hPl := lt_of_block hpb
          have hgl := lt_of_block hblk
          clear hblk hpb
          have HE : Hid (Wn.cxF f = none) := Lib.hid (Wn.cx_none (HP.out.none_of fun m c => HB.out rfl m c))
          have hPg : ¬ Wa.heap.size = w.heap.size + 1 := by omega
          have HXT := Lib.hid (HX.out.to rfl HY.out)
          have HQ := Lib.hid (HY.out.own.p (fun b hb => hb))
          have HPV : Hid (∀ r, (Value.slice vo es.length vc).ownBlock = some r → r < Wa.heap.size) := Lib.hid (fun r e => (HX.out.own.own.lt r e).2)
          have HPB := Lib.hid HY.out.pb
          clear HY
          have hel16 : es.length + 1 ≤ 17 := by omega
          have hxt := HXT.out
          have HCELL : Hid (∀ w8 : World, (∀ k, k < wr.heap.size → (Value.slice vo es.length vc).ownBlock ≠ some k → w8.heap[k]? = wr.heap[k]?) →
            w8.heap[w.heap.size]? = some (.cells #[.slice none 0 0, .string ⟨#[]⟩] 31) ∧ w8.heap[w.heap.size + 1]? = some (.cells #[.slice lo f.len lc, .int .i64 (j2 : Int), .bool true] 84) ∧ w8.heap[w.heap.size + 2]? = some (.cells #[.slice vo es.length vc, .string ⟨#[]⟩] 31) ∧ w8.heap[Wa.heap.size]? = some (.cells #[.int .i64 comb, .slice qo acc.length qc] 43)) := Lib.hid (fun w8 h => by
              have ho := hxt.own.own.lt
              have l2 := lt_of_block hxt.cx
              have lP := lt_of_block HPB.out
              exact ⟨(h _ (by omega) (fun e => by have := (ho _ e).1; omega)).trans hxt.res, (h _ (by omega) (fun e => by have := (ho _ e).1; omega)).trans hxt.cs.r.blk, (h _ l2 (fun e => by have := (ho _ e).1; omega)).trans hxt.cx, (h _ lP (fun e => by have := HPV.out _ e; omega)).trans HPB.out⟩)
          have HSrc : Hid (ptK.Src (wr.alloc (.cells #[.int .i64 comb, .slice qo acc.length qc] 43)) (.slice (some ⟨wr.heap.size, 0, none⟩) 1 1) [([.int .i64 comb, .slice qo acc.length qc] : List Value)]) := Lib.hid (RK.Src.one (K := ptK) (x := (comb, acc)) (W := wr) rfl (ok := fun _ => True) ⟨_, rfl, HQ.out.any⟩)
          have HOW := Lib.hid (ownsRow_later HXT.out.own.own ((Below.refl _ _).alloc (Nat.le_refl _) (.cells #[.int .i64 comb, .slice qo acc.length qc] 43)))
          have hbase : w.heap.size + 3 ≤ (wr.alloc (.cells #[.int .i64 comb, .slice qo acc.length qc] 43)).heap.size := by have := lt_of_block hxt.cx; simp; omega
          have HBase := Lib.hid hbase
          have HFin : Hid (∀ v8 w8, w8.ownsRow (w.heap.size + 3) ptK.e ptK.sz v8 (es ++ [([.int .i64 comb, .slice qo acc.length qc] : List Value)]).length (es ++ [([.int .i64 comb, .slice qo acc.length qc] : List Value)]).flatten → (wr.alloc (.cells #[.int .i64 comb, .slice qo acc.length qc] 43)).grownBy w8 (Value.slice vo es.length vc).ownBlock → (v8.ownBlock = (Value.slice vo es.length vc).ownBlock ∨ v8.ownBlock = some (wr.alloc (.cells #[.int .i64 comb, .slice qo acc.length qc] 43)).heap.size) →
            XI w W1 (w8.setCell ⟨w.heap.size + 2, 0, none⟩ v8) w.heap.size (.slice lo f.len lc) f j2 true v8 ⟨#[]⟩ (es ++ [([.int .i64 comb, .slice qo acc.length qc] : List Value)]) (ps ++ [(comb, acc)]) ∧ (∀ k, k < wr.heap.size → (Value.slice vo es.length vc).ownBlock ≠ some k → w8.heap[k]? = wr.heap[k]?)) := Lib.hid (fun v8 w8 h1 h2 h3 => ⟨HXT.out.next HPV.out hPn HQ.out ((Below.refl _ _).alloc (Nat.le_refl _) _) h1 h2 h3, fun k hk hn => (h2.block k (by simp; omega) (fun e => hn e.symm)).trans (Below.heap_alloc _ _ _ hk)⟩)
          have hcx := hxt.cx
          have c0 := cell_of_block (o := 0) hcx
          have c1 := cell_of_block (o := 1) hcx
          have cl := lt_of_block hcx
          simp only [List.getElem?_toArray, List.getElem?_cons_zero, List.getElem?_cons_succ] at c0 c1
          have cn1 : ¬ w.heap.size + 2 = wr.heap.size := by omega
          clear hbase hxt HPB hcx
          go_wp2_with (at_builtin; refine RK.append (K := ptK) rfl _ _ rfl rfl rfl HOW.out HSrc.out (by simp; omega) HBase.out ?_; intro v8 w8 hown8 hgr8 hat8; obtain ⟨a8, c8, rfl, h81, h82⟩ := own_shape hown8; obtain ⟨hz8, hk8⟩ := HFin.out _ _ hown8 hgr8 hat8; obtain ⟨kr, kg, kc, kp⟩ := HCELL.out w8 hk8; (have HZ8 := Lib.hid hz8); (have q0 := cell_of_block (o := 0) kg); (have q1 := cell_of_block (o := 1) kg); (have q2 := cell_of_block (o := 2) kg); (have c0 := cell_of_block (o := 0) kc); (have c1 := cell_of_block (o := 1) kc); (have p1 := cell_of_block (o := 1) kp); (have a0 := cell_of_block (o := 0) kr); (have a1 := cell_of_block (o := 1) kr); (have cf0 := frozen_blk kc 0); (have af0 := frozen_blk kr 0); (have af1 := frozen_blk kr 1); simp only [List.getElem?_toArray, List.getElem?_cons_zero, List.getElem?_cons_succ] at q0 q1 q2 c0 c1 p1 a0 a1; clear hown8 hgr8 hat8 hz8 hk8 kr kg kc kp; unfold maxLen at h82)
          have hz := HZ8.out
          rw [show (es ++ [([.int .i64 comb, .slice qo acc.length qc] : List Value)]).length = es.length + 1 by simp] at hz
          have HB2 := Lib.hid hz.all
          refine bodyPost_ret (v := .tuple #[.agg #[.slice none 0 0, .string ⟨#[]⟩], .bool false]) (by simp [results, Try.results32, go_sem, a0, a1]) rfl ⟨_, _, false, rfl, (by (repeat (first | with_reducible exact HB2.out | (with_reducible refine Below.drew ?_) | (with_reducible refine below_drewN' ?_ _) | ((with_reducible refine Below.setCell ?_ ?_ _); rotate_left; (focus (first | omega | (simp; done) | (simp; omega)))) | ((with_reducible refine Below.alloc ?_ ?_ _); rotate_left; (focus (first | omega | (simp; omega))))))), ⟨_, _, _, rfl⟩, by rw [if_neg (by decide)]; exact HE.out⟩
    · have hi16 : ¬ (es.length : Int) < 16 := by omega
      have HE : Hid (Wn.cxF f = none) := Lib.hid (Wn.cx_none (HP.out.full (by rw [← HEL.out]; omega)))
      have hrs := HX.out.res
      have a0 := cell_of_block (o := 0) hrs
      have a1 := cell_of_block (o := 1) hrs
      have af0 := frozen_blk hrs 0
      have af1 := frozen_blk hrs 1
      simp only [List.getElem?_toArray, List.getElem?_cons_zero, List.getElem?_cons_succ] at a0 a1
      have HB2 := Lib.hid HX.out.all
      clear hrs
      go_wp2_with fail
      refine bodyPost_ret (v := .tuple #[.agg #[.slice none 0 0, .string ⟨#[]⟩], .bool false]) (by simp [results, Try.results32, go_sem, a0, a1]) rfl ⟨_, _, false, rfl, (by (repeat (first | with_reducible exact HB2.out | (with_reducible refine Below.drew ?_) | (with_reducible refine below_drewN' ?_ _) | ((with_reducible refine Below.setCell ?_ ?_ _); rotate_left; (focus (first | omega | (simp; done) | (simp; omega)))) | ((with_reducible refine Below.alloc ?_ ?_ _); rotate_left; (focus (first | omega | (simp; omega))))))), ⟨_, _, _, rfl⟩, by rw [if_neg (by decide)]; exact HE.out⟩
end Go.Proofs.Ytbjhiimjillleaa
