/- The values that the fixed calls of the fourth layer's laws are about. What lies in memory where the fixed calls of the fourth layer's laws have read. What the fixed calls of the fourth layer's laws answer: true. -/
import Derived.Test.YtncknaagbafhhaaGreatDoorHJ
import Derived.Test.YtncknaagbafhhaaGreatDoorGU
set_option linter.unusedVariables false
set_option linter.unusedSimpArgs false
set_option maxRecDepth 20000
namespace Wn
def tL : List UInt8 := [97, 32, 62, 32, 46, 98, 58, 104, 111, 118, 101, 114, 32, 44, 32, 35, 99, 58, 58, 98, 101, 102, 111, 114, 101]
def tN : List UInt8 := [45, 50, 110, 45, 49, 51]
def tM : List UInt8 := [68, 73, 86, 58, 110, 116, 104, 45, 99, 104, 105, 108, 100, 40, 32, 50, 110, 43, 49, 32, 41, 91, 120, 61, 39, 121, 32, 122, 39, 93, 58, 110, 111, 116, 40, 42, 41, 32, 126, 32, 58, 58, 97, 102, 116, 101, 114]
def tH : List UInt8 := [97, 32, 62]
def tI : List UInt8 := [97, 44, 32]
def tJ : List UInt8 := [97, 32, 98, 42]
def tK : List UInt8 := [97, 58, 110, 111, 116, 40, 58, 110, 111, 116, 40, 98, 41, 41]
def tO : List UInt8 := [97, 58, 58, 98, 101, 102, 111, 114, 101, 32, 98]
def lL : List Cx := [([(0, [sNam 2 [97]]), (2, [sNam 4 [98], sNam 7 [104, 111, 118, 101, 114]])], []), ([(0, [sNam 3 [99]])], [98, 101, 102, 111, 114, 101])]
def lM : List Cx := [([(0, [sNam 2 [100, 105, 118], ⟨8, [], [], 2, 1, .nil⟩, ⟨6, [120], [121, 32, 122], 0, 0, .nil⟩, ⟨11, [], [], 0, 0, (sBare 1).on .nil⟩]), (4, [])], [97, 102, 116, 101, 114])]
set_option maxRecDepth 100000
theorem read_tL : selsRead tL = some lL := by decide +kernel
theorem read_tM : selsRead tM = some lM := by decide +kernel
theorem read_tH : selsRead tH = none := by decide +kernel
theorem read_tI : selsRead tI = none := by decide +kernel
theorem read_tJ : selsRead tJ = none := by decide +kernel
theorem read_tK : selsRead tK = none := by decide +kernel
theorem read_tO : selsRead tO = none := by decide +kernel
theorem may_lL : maySels lL = true := by decide +kernel
theorem may_lM : maySels lM = true := by decide +kernel
theorem may_no : maySels [] = false := by decide +kernel
theorem lL_ne : lL ≠ lM := by decide +kernel
end Wn
set_option linter.unusedVariables false
set_option linter.unusedSimpArgs false
set_option maxRecDepth 20000
namespace Go.Proofs.YtncknaagbafhhaaGreatDoor
open Go.RowKit Go.Sort
theorem SRead_some (s : ByteArray) (l : List Wn.Cx) (w : World) (hs : s.size ≤ 100000) (h : Wn.selsRead s.data.toList = some l) :
    Calls Tryz.prog 15 #[.string s] w fun e w' => ∃ v, e = .returned (.tuple #[v, .int .i64 0]) ∧ cxK.P w' (fun _ => True) v l ∧ Below w.heap.size w w' :=
  (SRead_v s w hs).mono (by
    rintro e w' ⟨hb, ⟨l', v, h', rfl, hp⟩ | ⟨h', _⟩⟩
    · rw [h] at h'; cases h'; exact ⟨v, rfl, hp.any, hb⟩
    · rw [h] at h'; cases h')
theorem SRead_none (s : ByteArray) (w : World) (hs : s.size ≤ 100000) (h : Wn.selsRead s.data.toList = none) :
    Calls Tryz.prog 15 #[.string s] w fun e w' => e = .returned (.tuple #[.slice none 0 0, .int .i64 40]) ∧ Below w.heap.size w w' :=
  (SRead_v s w hs).mono (by
    rintro e w' ⟨hb, ⟨l', v, h', rfl, hp⟩ | ⟨_, rfl⟩⟩
    · rw [h] at h'; cases h'
    · exact ⟨rfl, hb⟩)
/-- a complex selector of a list -/
theorem cx_at {w : World} {ao : Option Addr} {n cap : Nat} {l : List Wn.Cx} (h : cxK.P w (fun _ => True) (.slice ao n cap) l) {i : Nat} {x : Wn.Cx} (hi : l[i]? = some x) :
    ∃ b o po pc, ao = some ⟨b, o, none⟩ ∧ ptK.P w (fun _ => True) (.slice po x.1.length pc) x.1 ∧ w.cell? ⟨b, o + i * 2, none⟩ = some (.slice po x.1.length pc) ∧ w.cell? ⟨b, o + i * 2 + 1, none⟩ = some (.string (Wn.str x.2)) := by
  obtain ⟨b, o, cs, rfl, _, _, hR, hL⟩ := h.at hi
  obtain ⟨u, rfl, hu⟩ := hR
  obtain ⟨po, pc, rfl, _, _⟩ := hu.form
  exact ⟨b, o, po, pc, rfl, hu, hL 0 _ rfl, hL 1 _ rfl⟩
theorem pt_at {w : World} {ao : Option Addr} {n cap : Nat} {l : List (Int × List Wn.Sm)} (h : ptK.P w (fun _ => True) (.slice ao n cap) l) {i : Nat} {x : Int × List Wn.Sm} (hi : l[i]? = some x) :
    ∃ b o po pc, ao = some ⟨b, o, none⟩ ∧ smK.P w (fun _ => True) (.slice po x.2.length pc) x.2 ∧ w.cell? ⟨b, o + i * 2, none⟩ = some (.int .i64 x.1) ∧ w.cell? ⟨b, o + i * 2 + 1, none⟩ = some (.slice po x.2.length pc) := by
  obtain ⟨b, o, cs, rfl, _, _, hR, hL⟩ := h.at hi
  obtain ⟨u, rfl, hu⟩ := hR
  obtain ⟨po, pc, rfl, _, _⟩ := hu.form
  exact ⟨b, o, po, pc, rfl, hu, hL 0 _ rfl, hL 1 _ rfl⟩
theorem sm_at {w : World} {ao : Option Addr} {n cap : Nat} {l : List Wn.Sm} (h : smK.P w (fun _ => True) (.slice ao n cap) l) {i : Nat} {x : Wn.Sm} (hi : l[i]? = some x) :
    ∃ b o po pc, ao = some ⟨b, o, none⟩ ∧ smK.P w (fun _ => True) (.slice po x.l.len pc) x.l.toL ∧ w.cell? ⟨b, o + i * 6, none⟩ = some (.int .i64 x.k) ∧ w.cell? ⟨b, o + i * 6 + 1, none⟩ = some (.string (Wn.str x.n)) ∧ w.cell? ⟨b, o + i * 6 + 2, none⟩ = some (.string (Wn.str x.v)) ∧ w.cell? ⟨b, o + i * 6 + 3, none⟩ = some (.int .i64 x.a) ∧ w.cell? ⟨b, o + i * 6 + 5, none⟩ = some (.slice po x.l.len pc) := by
  obtain ⟨b, o, cs, rfl, _, _, hR, hL⟩ := h.at hi
  obtain ⟨u, rfl, hu⟩ := hR
  obtain ⟨po, pc, rfl, _, _⟩ := hu.form
  exact ⟨b, o, po, pc, rfl, SsP.k.1 hu, hL 0 _ rfl, hL 1 _ rfl, hL 2 _ rfl, hL 3 _ rfl, hL 5 _ rfl⟩
end Go.Proofs.YtncknaagbafhhaaGreatDoor
set_option linter.unusedVariables false
set_option linter.unusedSimpArgs false
set_option maxRecDepth 20000
namespace Wn
set_option maxRecDepth 100000 in
theorem read_tN : (readF tN).map (fun f => nthF (trimF f)) = some (some (-2, -13)) := by decide +kernel
def Ss.shortB : Ss → Bool
  | .nil => true
  | .cons _ n v _ _ x r => decide (n.length ≤ 1048576) && decide (v.length ≤ 1048576) && x.shortB && r.shortB
theorem Ss.short_of : ∀ {f : Ss}, f.shortB = true → f.short
  | .nil, _ => trivial
  | .cons _ n v _ _ x r, h => by
    simp only [shortB, Bool.and_eq_true, decide_eq_true_eq] at h
    exact ⟨h.1.1.1, h.1.1.2, short_of h.1.2, short_of h.2⟩
def Sm.shortB (x : Sm) : Bool := decide (x.n.length ≤ 1048576) && decide (x.v.length ≤ 1048576) && x.l.shortB
theorem Sm.short_of {x : Sm} (h : x.shortB = true) : x.short := by
  simp only [shortB, Bool.and_eq_true, decide_eq_true_eq] at h
  exact ⟨h.1.1, h.1.2, Ss.short_of h.2⟩
theorem short_all {l : List Cx} (h : l.all (fun c => c.1.all fun p => p.2.all Sm.shortB) = true) : ∀ c ∈ l, Cx.short c := by
  simp only [List.all_eq_true] at h
  exact fun c hc p hp x hx => Sm.short_of (h c hc p hp x hx)
theorem lL_short : ∀ c ∈ lL, Cx.short c := short_all (by decide +kernel)
theorem lM_short : ∀ c ∈ lM, Cx.short c := short_all (by decide +kernel)
end Wn
namespace Go.Proofs.YtncknaagbafhhaaGreatDoor
open Go.RowKit Go.Sort
set_option maxRecDepth 100000 in
set_option maxHeartbeats 2000000 in
theorem fixed04 (w : World) (ht : Tab w) :
    Calls Tryz.prog 12 #[] w fun e w' => e = .returned (.bool true) ∧ Below w.heap.size w w' := by
  have HT := Lib.hid ht; clear ht
  have QL := Lib.hid (fun w => SRead_some ⟨#[97, 32, 62, 32, 46, 98, 58, 104, 111, 118, 101, 114, 32, 44, 32, 35, 99, 58, 58, 98, 101, 102, 111, 114, 101]⟩ Wn.lL w (by show 25 ≤ _; omega) Wn.read_tL)
  have QM := Lib.hid (fun w => SRead_some ⟨#[68, 73, 86, 58, 110, 116, 104, 45, 99, 104, 105, 108, 100, 40, 32, 50, 110, 43, 49, 32, 41, 91, 120, 61, 39, 121, 32, 122, 39, 93, 58, 110, 111, 116, 40, 42, 41, 32, 126, 32, 58, 58, 97, 102, 116, 101, 114]⟩ Wn.lM w (by show 47 ≤ _; omega) Wn.read_tM)
  have QH := Lib.hid (fun w => SRead_none ⟨#[97, 32, 62]⟩ w (by show 3 ≤ _; omega) Wn.read_tH)
  have QI := Lib.hid (fun w => SRead_none ⟨#[97, 44, 32]⟩ w (by show 3 ≤ _; omega) Wn.read_tI)
  have QJ := Lib.hid (fun w => SRead_none ⟨#[97, 32, 98, 42]⟩ w (by show 4 ≤ _; omega) Wn.read_tJ)
  have QK := Lib.hid (fun w => SRead_none ⟨#[97, 58, 110, 111, 116, 40, 58, 110, 111, 116, 40, 98, 41, 41]⟩ w (by show 14 ≤ _; omega) Wn.read_tK)
  have QO := Lib.hid (fun w => SRead_none ⟨#[97, 58, 58, 98, 101, 102, 111, 114, 101, 32, 98]⟩ w (by show 11 ≤ _; omega) Wn.read_tO)
  go_enter Tryz.func12, Tryz.ntmps12
  go_wp2_with fail
  refine (QL.out _).mono ?_
  rintro e w1 ⟨v1, rfl, hp1, b1⟩
  obtain ⟨lo, lc, rfl, hc1, hc2⟩ := hp1.form
  unfold maxLen at hc2
  obtain ⟨b, o, po, pc, rfl, hpt, k0, _⟩ := cx_at hp1 (i := 0) rfl
  obtain ⟨b', o', _, _, hbo, _, _, k3⟩ := cx_at hp1 (i := 1) rfl
  cases hbo
  obtain ⟨c, d, so, sc, rfl, hsm, t0, t1⟩ := pt_at hpt (i := 1) rfl
  have K0 : w1.cell? ⟨b, o, none⟩ = some (.slice (some ⟨c, d, none⟩) 2 pc) := k0
  have K3 : w1.cell? ⟨b, o + 2 + 1, none⟩ = some (.string ⟨#[98, 101, 102, 111, 114, 101]⟩) := k3
  have T0 : w1.cell? ⟨c, d + 2, none⟩ = some (.int .i64 2) := t0
  have T1 : w1.cell? ⟨c, d + 2 + 1, none⟩ = some (.slice so 2 sc) := t1
  have HB1 := Lib.hid b1
  have HL1 := Lib.hid hp1
  have HP1 := Lib.hid hpt
  have HM1 : Hid (smK.P w1 (fun _ => True) (.slice so 2 sc) [Wn.sNam 4 [98], Wn.sNam 7 [104, 111, 118, 101, 114]]) := Lib.hid hsm
  rw [show Wn.lL.length = 2 from rfl] at hc1 ⊢
  clear k0 k3 t0 t1 b1 hp1 hpt hsm QL
  go_wp2_with fail
  have hb2 : Below w1.heap.size w1 (w1.alloc (Obj.cells #[.int .i64 2, .slice so 2 sc] 49)) := (Below.refl _ _).alloc (Nat.le_refl _) _
  have hbx := heap_alloc_new w1 (Obj.cells #[.int .i64 2, .slice so 2 sc] 49)
  have HB2 := Lib.hid (HB1.out.trans (hb2.mono HB1.out.size))
  have HL2 := Lib.hid (HL1.out.below hb2)
  have HM2 := Lib.hid (HM1.out.below hb2)
  have HX2 := Lib.hid hbx
  clear hb2 hbx HB1 HL1 HM1 HP1 K0 K3 T0 T1
  generalize (w1.alloc (Obj.cells #[.int .i64 2, .slice so 2 sc] 49)) = w2 at *
  generalize w1.heap.size = B at *
  refine (rRead_any ⟨#[45, 50, 110, 45, 49, 51]⟩ w2 (by show 6 ≤ _; omega)).mono ?_
  rintro e w3 ⟨r3, c3, rfl, b3, h3⟩
  have HN := Wn.read_tN
  have h3' : c3 = 0 ∧ ∃ f, Wn.nthF f = some (-2, -13) ∧ Tl f ∧ Vals w3 r3 f := by
    rcases h3 with ⟨_, _, h⟩ | ⟨h, f, hf, hvf⟩
    · exact absurd HN (by rw [show Wn.readF Wn.tN = none from h]; simp)
    · refine ⟨h, Wn.trimF f, ?_, read_tl hf (by show 6 ≤ _; omega), hvf⟩
      rw [show Wn.readF Wn.tN = some f from hf] at HN
      simpa using HN
  clear h3 HN
  obtain ⟨rfl, f, hf, htl, hvf⟩ := h3'
  have QN := Lib.hid (SNth_v r3 f w3 hvf htl)
  rw [hf] at QN
  have hform : ∃ ao n c, r3 = .slice ao n c := by obtain ⟨ao, cap, hv, _⟩ := hvf.form; exact ⟨_, _, _, hv⟩
  obtain ⟨ro, rn, rc, rfl⟩ := hform
  have hblt : B < w2.heap.size := lt_of_block HX2.out
  have HB3 := Lib.hid (HB2.out.trans (b3.mono HB2.out.size))
  have HL3 := Lib.hid (HL2.out.below b3)
  have HM3 := Lib.hid (HM2.out.below b3)
  have HX3 := Lib.hid ((b3.block B hblt).trans HX2.out)
  clear b3 hf htl hvf HB2 HL2 HM2 HX2 hblt
  go_wp2_with fail
  refine QN.out.mono ?_
  rintro e w4 ⟨b4, ⟨p, hp, rfl⟩ | ⟨h, _⟩⟩
  case inr => cases h
  cases hp
  have hblt : B < w3.heap.size := lt_of_block HX3.out
  have HB4 := Lib.hid (HB3.out.trans (b4.mono HB3.out.size))
  have HL4 := Lib.hid (HL3.out.below b4)
  have HM4 := Lib.hid (HM3.out.below b4)
  have HX4 := Lib.hid ((b4.block B hblt).trans HX3.out)
  clear b4 HB3 HL3 HM3 HX3 hblt QN
  go_wp2_with fail
  refine (QM.out _).mono ?_
  rintro e w5 ⟨v5, rfl, hp5, b5⟩
  obtain ⟨mo, mc, rfl, _, _⟩ := hp5.form
  rw [show Wn.lM.length = 1 from rfl] at hp5 ⊢
  have HG5 := Lib.hid hp5
  have hblt : B < w4.heap.size := lt_of_block HX4.out
  have HB5 := Lib.hid (HB4.out.trans (b5.mono HB4.out.size))
  have HL5 := Lib.hid (HL4.out.below b5)
  have HM5 := Lib.hid (HM4.out.below b5)
  have HX5 := Lib.hid ((b5.block B hblt).trans HX4.out)
  clear b5 hp5 HB4 HL4 HM4 HX4 hblt QM
  go_wp2_with fail
  refine (QH.out _).mono ?_
  rintro e w6 ⟨rfl, b6⟩
  have hblt : B < w5.heap.size := lt_of_block HX5.out
  have HB6 := Lib.hid (HB5.out.trans (b6.mono HB5.out.size))
  have HL6 := Lib.hid (HL5.out.below b6)
  have HM6 := Lib.hid (HM5.out.below b6)
  have HG6 := Lib.hid (HG5.out.below b6)
  have HX6 := Lib.hid ((b6.block B hblt).trans HX5.out)
  clear b6 HB5 HL5 HM5 HG5 HX5 hblt QH
  go_wp2_with fail
  refine (QI.out _).mono ?_
  rintro e w7 ⟨rfl, b7⟩
  have hblt : B < w6.heap.size := lt_of_block HX6.out
  have HB7 := Lib.hid (HB6.out.trans (b7.mono HB6.out.size))
  have HL7 := Lib.hid (HL6.out.below b7)
  have HM7 := Lib.hid (HM6.out.below b7)
  have HG7 := Lib.hid (HG6.out.below b7)
  have HX7 := Lib.hid ((b7.block B hblt).trans HX6.out)
  clear b7 HB6 HL6 HM6 HG6 HX6 hblt QI
  go_wp2_with fail
  refine (QJ.out _).mono ?_
  rintro e w8 ⟨rfl, b8⟩
  have hblt : B < w7.heap.size := lt_of_block HX7.out
  have HB8 := Lib.hid (HB7.out.trans (b8.mono HB7.out.size))
  have HL8 := Lib.hid (HL7.out.below b8)
  have HM8 := Lib.hid (HM7.out.below b8)
  have HG8 := Lib.hid (HG7.out.below b8)
  have HX8 := Lib.hid ((b8.block B hblt).trans HX7.out)
  clear b8 HB7 HL7 HM7 HG7 HX7 hblt QJ
  go_wp2_with fail
  refine (QK.out _).mono ?_
  rintro e w9 ⟨rfl, b9⟩
  have hblt : B < w8.heap.size := lt_of_block HX8.out
  have HB9 := Lib.hid (HB8.out.trans (b9.mono HB8.out.size))
  have HL9 := Lib.hid (HL8.out.below b9)
  have HM9 := Lib.hid (HM8.out.below b9)
  have HG9 := Lib.hid (HG8.out.below b9)
  have HX9 := Lib.hid ((b9.block B hblt).trans HX8.out)
  clear b9 HB8 HL8 HM8 HG8 HX8 hblt QK
  go_wp2_with fail
  refine (QO.out _).mono ?_
  rintro e w10 ⟨rfl, b10⟩
  have hblt : B < w9.heap.size := lt_of_block HX9.out
  have HB10 := Lib.hid (HB9.out.trans (b10.mono HB9.out.size))
  have HL10 := Lib.hid (HL9.out.below b10)
  have HM10 := Lib.hid (HM9.out.below b10)
  have HG10 := Lib.hid (HG9.out.below b10)
  have HX10 := Lib.hid ((b10.block B hblt).trans HX9.out)
  clear b10 HB9 HL9 HM9 HG9 HX9 hblt QO
  have p0 : w10.cell? ⟨B, 0, none⟩ = some (.int .i64 2) := cell_of_block (o := 0) HX10.out
  have p1 : w10.cell? ⟨B, 1, none⟩ = some (.slice so 2 sc) := cell_of_block (o := 1) HX10.out
  obtain ⟨x, y, _, _, rfl, _, _, n0, _⟩ := sm_at HM10.out (i := 0) rfl
  obtain ⟨x', y', _, _, hxy, _, n1, _⟩ := sm_at HM10.out (i := 1) rfl
  cases hxy
  have N0 : w10.cell? ⟨x, y + 1, none⟩ = some (.string ⟨#[98]⟩) := n0
  have N1 : w10.cell? ⟨x, y + 6, none⟩ = some (.int .i64 7) := n1
  obtain ⟨mb, mq, po, pk, rfl, hmp, m0, _⟩ := cx_at HG10.out (i := 0) rfl
  obtain ⟨pb, pq, so, sk, rfl, hms, _, m1⟩ := pt_at hmp (i := 0) rfl
  obtain ⟨pb', pq', _, _, hpp, _, m2, _⟩ := pt_at hmp (i := 1) rfl
  cases hpp
  obtain ⟨sb, sq, _, _, rfl, _, _, s0, _⟩ := sm_at hms (i := 0) rfl
  obtain ⟨sb1, sq1, _, _, hs1, _, _, _, _, s1, _⟩ := sm_at hms (i := 1) rfl
  cases hs1
  obtain ⟨sb2, sq2, _, _, hs2, _, _, _, s2, _⟩ := sm_at hms (i := 2) rfl
  cases hs2
  obtain ⟨sb3, sq3, no, nk, hs3, hmn, _, _, _, _, s3⟩ := sm_at hms (i := 3) rfl
  cases hs3
  obtain ⟨nb, nq, _, _, rfl, _, z0, _⟩ := sm_at hmn (i := 0) rfl
  have M0 : w10.cell? ⟨mb, mq, none⟩ = some (.slice (some ⟨pb, pq, none⟩) 2 pk) := m0
  have M1 : w10.cell? ⟨pb, pq + 1, none⟩ = some (.slice (some ⟨sb, sq, none⟩) 4 sk) := m1
  have M2 : w10.cell? ⟨pb, pq + 2, none⟩ = some (.int .i64 4) := m2
  have S0 : w10.cell? ⟨sb, sq + 1, none⟩ = some (.string ⟨#[100, 105, 118]⟩) := s0
  have S1 : w10.cell? ⟨sb, sq + 6 + 3, none⟩ = some (.int .i64 2) := s1
  have S2 : w10.cell? ⟨sb, sq + 12 + 2, none⟩ = some (.string ⟨#[121, 32, 122]⟩) := s2
  have S3 : w10.cell? ⟨sb, sq + 18 + 5, none⟩ = some (.slice (some ⟨nb, nq, none⟩) 1 nk) := s3
  have Z0 : w10.cell? ⟨nb, nq, none⟩ = some (.int .i64 1) := z0
  clear n0 n1 m0 m1 m2 s0 s1 s2 s3 z0 hmp hms hmn
  go_wp2_with fail
  clear p0 p1 N0 N1 M0 M1 M2 S0 S1 S2 S3 Z0 HM10 HX10
  have QA : Hid (∀ W, Tab W → cxK.P W (fun _ => True) (.slice (some ⟨b, o, none⟩) 2 lc) Wn.lL → Calls Tryz.prog 20 #[.slice (some ⟨b, o, none⟩) 2 lc] W fun e w' => e = .returned (.bool true) ∧ Below W.heap.size W w') := Lib.hid (fun W h1 h2 => by have := SMay_v Wn.lL _ W h2 h1 Wn.lL_short; rw [Wn.may_lL] at this; exact this)
  have QB : Hid (∀ W, Tab W → cxK.P W (fun _ => True) (.slice (some ⟨mb, mq, none⟩) 1 mc) Wn.lM → Calls Tryz.prog 20 #[.slice (some ⟨mb, mq, none⟩) 1 mc] W fun e w' => e = .returned (.bool true) ∧ Below W.heap.size W w') := Lib.hid (fun W h1 h2 => by have := SMay_v Wn.lM _ W h2 h1 Wn.lM_short; rw [Wn.may_lM] at this; exact this)
  have QC : Hid (∀ W, Tab W → Calls Tryz.prog 20 #[.slice none 0 0] W fun e w' => e = .returned (.bool false) ∧ Below W.heap.size W w') := Lib.hid (fun W h1 => by have := SMay_v [] _ W (RK.P.nil W _) h1 (fun c hc => by cases hc); rw [Wn.may_no] at this; exact this)
  have QD : Hid (∀ W, cxK.P W (fun _ => True) (.slice (some ⟨b, o, none⟩) 2 lc) Wn.lL → Calls Tryz.prog 32 #[.slice (some ⟨b, o, none⟩) 2 lc, .slice (some ⟨b, o, none⟩) 2 lc] W fun e w' => e = .returned (.bool true) ∧ Below W.heap.size W w') := Lib.hid (fun W h => by have := SSame_v Wn.lL Wn.lL _ _ W h h; rw [decide_eq_true rfl] at this; exact this)
  have QE : Hid (∀ W, cxK.P W (fun _ => True) (.slice (some ⟨b, o, none⟩) 2 lc) Wn.lL → cxK.P W (fun _ => True) (.slice (some ⟨mb, mq, none⟩) 1 mc) Wn.lM → Calls Tryz.prog 32 #[.slice (some ⟨b, o, none⟩) 2 lc, .slice (some ⟨mb, mq, none⟩) 1 mc] W fun e w' => e = .returned (.bool false) ∧ Below W.heap.size W w') := Lib.hid (fun W h h' => by have := SSame_v Wn.lL Wn.lM _ _ W h h'; rw [decide_eq_false Wn.lL_ne] at this; exact this)
  refine (QA.out _ (HT.out.below HB10.out) HL10.out).mono ?_
  rintro e w11 ⟨rfl, b11⟩
  have HB11 := Lib.hid (HB10.out.trans (b11.mono HB10.out.size))
  have HL11 := Lib.hid (HL10.out.below b11)
  have HG11 := Lib.hid (HG10.out.below b11)
  clear b11 HB10 HL10 HG10 QA
  go_wp2_with fail
  refine (QB.out _ (HT.out.below HB11.out) HG11.out).mono ?_
  rintro e w12 ⟨rfl, b12⟩
  have HB12 := Lib.hid (HB11.out.trans (b12.mono HB11.out.size))
  have HL12 := Lib.hid (HL11.out.below b12)
  have HG12 := Lib.hid (HG11.out.below b12)
  clear b12 HB11 HL11 HG11 QB
  go_wp2_with fail
  refine (QC.out _ (HT.out.below HB12.out)).mono ?_
  rintro e w13 ⟨rfl, b13⟩
  have HB13 := Lib.hid (HB12.out.trans (b13.mono HB12.out.size))
  have HL13 := Lib.hid (HL12.out.below b13)
  have HG13 := Lib.hid (HG12.out.below b13)
  clear b13 HB12 HL12 HG12 QC
  go_wp2_with fail
  refine (QD.out _ HL13.out).mono ?_
  rintro e w14 ⟨rfl, b14⟩
  have HB14 := Lib.hid (HB13.out.trans (b14.mono HB13.out.size))
  have HL14 := Lib.hid (HL13.out.below b14)
  have HG14 := Lib.hid (HG13.out.below b14)
  clear b14 HB13 HL13 HG13 QD
  go_wp2_with fail
  refine (QE.out _ HL14.out HG14.out).mono ?_
  rintro e w15 ⟨rfl, b15⟩
  have HB15 := Lib.hid (HB14.out.trans (b15.mono HB14.out.size))
  clear b15 HB14 HL14 HG14 QE
  go_wp2_with fail
  go_ret
  exact ⟨rfl, HB15.out⟩
end Go.Proofs.YtncknaagbafhhaaGreatDoor
