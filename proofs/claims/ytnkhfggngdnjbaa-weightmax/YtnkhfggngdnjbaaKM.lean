/- WeightMax: whatever the weights, the law answers true, and nothing that was there has turned. WeightMax holds for all lists of weights: the call returns true, and each argument reads afterwards as it read before. -/
import Derived.Test.YtnkhfggngdnjbaaKD
import Derived.Test.YtnkhfggngdnjbaaKE
import Derived.Lib.QuietBelow
import Derived.Test.YtnkhfggngdnjbaaGG
import Derived.Test.YtnkhfggngdnjbaaGH
set_option maxRecDepth 20000
namespace Go.Proofs.Ytnkhfggngdnjbaa
open Go.RowKit Go.Sort
set_option maxRecDepth 100000 in
set_option maxHeartbeats 2000000 in
theorem lwMax_any (a b : List Wn.W3) (va vb : Value) (w : World) (ha : vK.P w (fun _ => True) va a) (hb : vK.P w (fun _ => True) vb b) :
    Calls Try.prog 8 #[va, vb] w fun e w' => e = .returned (.bool true) ∧ Below w.heap.size w w' := by
  obtain ⟨ao, ac, rfl, ha1, ha2⟩ := ha.form
  obtain ⟨bo, bc, rfl, hb1, hb2⟩ := hb.form
  unfold maxLen at ha2 hb2
  have HA := Lib.hid ha
  have HB := Lib.hid hb
  clear ha hb
  by_cases h1 : 20 < a.length
  · have h1' : (20 : Int) < (a.length : Int) := by omega
    go_enter Try.func8, Try.ntmps8
    go_wp2_with fail
    refine (fixed06 _).mono ?_
    rintro e w1 ⟨rfl, b1⟩
    have HB1 := Lib.hid b1; clear b1
    go_wp2_with fail
    refine (fixed06 _).mono ?_
    rintro e w2 ⟨rfl, b2⟩
    have HB2 := Lib.hid (HB1.out.trans (b2.mono HB1.out.size)); clear b2 HB1
    go_wp2_with fail
    go_ret
    exact ⟨rfl, HB2.out⟩
  have h1' : ¬ (20 : Int) < (a.length : Int) := by omega
  by_cases h2 : 20 < b.length
  · have h2' : (20 : Int) < (b.length : Int) := by omega
    go_enter Try.func8, Try.ntmps8
    go_wp2_with fail
    refine (fixed06 _).mono ?_
    rintro e w1 ⟨rfl, b1⟩
    have HB1 := Lib.hid b1; clear b1
    go_wp2_with fail
    refine (fixed06 _).mono ?_
    rintro e w2 ⟨rfl, b2⟩
    have HB2 := Lib.hid (HB1.out.trans (b2.mono HB1.out.size)); clear b2 HB1
    go_wp2_with fail
    go_ret
    exact ⟨rfl, HB2.out⟩
  have h2' : ¬ (20 : Int) < (b.length : Int) := by omega
  by_cases h3 : a.length = 0
  · have h3' : ((a.length : Int) == 0) = true := by simp [h3]
    clear h3
    go_enter Try.func8, Try.ntmps8
    go_wp2_with fail
    refine (fixed06 _).mono ?_
    rintro e w1 ⟨rfl, b1⟩
    have HB1 := Lib.hid b1; clear b1
    go_wp2_with fail
    refine (fixed06 _).mono ?_
    rintro e w2 ⟨rfl, b2⟩
    have HB2 := Lib.hid (HB1.out.trans (b2.mono HB1.out.size)); clear b2 HB1
    go_wp2_with fail
    go_ret
    exact ⟨rfl, HB2.out⟩
  have h3' : ((a.length : Int) == 0) = false := beq_eq_false_iff_ne.2 (by omega)
  by_cases h4 : b.length = 0
  · have h4' : ((b.length : Int) == 0) = true := by simp [h4]
    clear h3 h4
    go_enter Try.func8, Try.ntmps8
    go_wp2_with fail
    refine (fixed06 _).mono ?_
    rintro e w1 ⟨rfl, b1⟩
    have HB1 := Lib.hid b1; clear b1
    go_wp2_with fail
    refine (fixed06 _).mono ?_
    rintro e w2 ⟨rfl, b2⟩
    have HB2 := Lib.hid (HB1.out.trans (b2.mono HB1.out.size)); clear b2 HB1
    go_wp2_with fail
    go_ret
    exact ⟨rfl, HB2.out⟩
  have h4' : ((b.length : Int) == 0) = false := beq_eq_false_iff_ne.2 (by omega)
  have HNA : Hid (a ≠ []) := Lib.hid (fun e => h3 (by rw [e]; rfl))
  have HNB : Hid (b ≠ []) := Lib.hid (fun e => h4 (by rw [e]; rfl))
  clear h3 h4
  go_enter Try.func8, Try.ntmps8
  go_wp2_with fail
  refine (fixed06 _).mono ?_
  rintro e w1 ⟨rfl, b1⟩
  have HA1 := Lib.hid (HA.out.below b1)
  have HB1 := Lib.hid (HB.out.below b1)
  have HW1 := Lib.hid b1
  clear b1 HA HB
  have e1 : (w1.alloc (.cells #[] 27)).heap.size = w1.heap.size + 1 := by simp
  have HU0 : Hid (OW ((w1.alloc (.cells #[] 27)).alloc (.cells #[] 27)) w1.heap.size (.slice (some ⟨w1.heap.size, 0, none⟩) 0 0) []) := Lib.hid ((OW.start w1 (Nat.le_refl _)).below ((Below.refl _ _).alloc (Nat.le_refl _) _))
  have HV0 : Hid (OW ((w1.alloc (.cells #[] 27)).alloc (.cells #[] 27)) w1.heap.size (.slice (some ⟨w1.heap.size + 1, 0, none⟩) 0 0) []) := Lib.hid (by
    have := OW.start (w1.alloc (.cells #[] 27)) (base := w1.heap.size) (by simp)
    rw [e1] at this
    exact this)
  have HB0 : Hid (Below w1.heap.size w1 ((w1.alloc (.cells #[] 27)).alloc (.cells #[] 27))) := Lib.hid (((Below.refl _ _).alloc (Nat.le_refl _) _).alloc (by simp) _)
  clear e1
  go_wp2_with fail
  generalize (w1.alloc (.cells #[] 27)).alloc (.cells #[] 27) = W0 at *
  go_loopw [5, 7] (fun v5 v7 wr => ∃ k : Nat, k ≤ a.length ∧ v7 = .int .i64 (k : Int) ∧ Hid (OW wr w1.heap.size v5 (a.take k)) ∧ Hid (v5.ownBlock ≠ some (w1.heap.size + 1)) ∧ Hid (OW wr w1.heap.size (.slice (some ⟨w1.heap.size + 1, 0, none⟩) 0 0) []) ∧ Hid (Below w1.heap.size w1 wr)) (fun _ v7 _ => a.length - (intOf v7).toNat)
  case atStart => exact ⟨0, by omega, rfl, HU0, Lib.hid (by simp [Value.ownBlock]), HV0, HB0⟩
  case round =>
    clear HU0 HV0 HB0
    obtain ⟨k, hk, rfl, HU, HD, HV, HW⟩ := hrel
    obtain ⟨uo, uc, hv5, hu1, hu2⟩ := HU.out.form
    subst hv5
    unfold maxLen at hu2
    by_cases hkl : k < a.length
    · have hki : (k : Int) < (a.length : Int) := by omega
      obtain ⟨x, hx⟩ : ∃ x, a[k]? = some x := ⟨a[k], List.getElem?_eq_getElem hkl⟩
      obtain ⟨g, o, hgo, _, hgl, j0, j1, j2⟩ := vK.cells (HA1.out.below HW.out) hx
      cases hgo
      have htk : a.take (k + 1) = a.take k ++ [x] := by rw [List.take_add_one, hx]; rfl
      have HTK := Lib.hid htk
      have hgn : ¬ g = wr.heap.size := by omega
      have hZ : Below wr.heap.size wr (wr.alloc (.cells #[.int .i64 x.1, .int .i64 x.2.1, .int .i64 x.2.2] 27)) := (Below.refl _ _).alloc (Nat.le_refl _) _
      have HOZ := Lib.hid (HU.out.below hZ)
      have HVZ := Lib.hid (HV.out.below hZ)
      have HWZ : Hid (Below w1.heap.size w1 (wr.alloc (.cells #[.int .i64 x.1, .int .i64 x.2.1, .int .i64 x.2.2] 27))) := Lib.hid (HW.out.alloc HW.out.size _)
      have HSZ : Hid (wK.Src (wr.alloc (.cells #[.int .i64 x.1, .int .i64 x.2.1, .int .i64 x.2.2] 27)) (.slice (some ⟨wr.heap.size, 0, none⟩) 1 1) [c3 x]) := Lib.hid (RK.Src.one (K := wK) (W := wr) (ok := fun _ => True) (x := x) rfl rfl)
      have hlen : ((a.take k).map c3).length + [c3 x].length ≤ 1048576 := by simp; omega
      have hbase : w1.heap.size ≤ (wr.alloc (.cells #[.int .i64 x.1, .int .i64 x.2.1, .int .i64 x.2.2] 27)).heap.size := HWZ.out.size
      have HFin : Hid (∀ v8 w8, w8.ownsRow w1.heap.size wK.e wK.sz v8 ((a.take k).map c3 ++ [c3 x]).length ((a.take k).map c3 ++ [c3 x]).flatten → (wr.alloc (.cells #[.int .i64 x.1, .int .i64 x.2.1, .int .i64 x.2.2] 27)).grownBy w8 (Value.slice uo (a.take k).length uc).ownBlock → (v8.ownBlock = (Value.slice uo (a.take k).length uc).ownBlock ∨ v8.ownBlock = some (wr.alloc (.cells #[.int .i64 x.1, .int .i64 x.2.1, .int .i64 x.2.2] 27)).heap.size) →
          OW w8 w1.heap.size v8 (a.take (k + 1)) ∧ v8.ownBlock ≠ some (w1.heap.size + 1) ∧ OW w8 w1.heap.size (.slice (some ⟨w1.heap.size + 1, 0, none⟩) 0 0) [] ∧ Below w1.heap.size w1 w8) := Lib.hid (fun v8 w8 h1 h2 h3 => by
        have hvl : w1.heap.size + 1 < wr.heap.size := (HV.out.lt _ rfl).2
        refine ⟨by rw [HTK.out]; exact OW.app (m := [x]) h1, ?_, HVZ.out.kept (fun b hb hl => ?_), Below.grown HWZ.out h2 HWZ.out.size (fun b hb => (HOZ.out.lt b hb).1)⟩
        · rcases h3 with h3 | h3
          · rw [h3]; exact HD.out
          · rw [h3]; intro e; simp at e; omega
        · refine h2.block b hl (fun e => HD.out ?_)
          simp only [Value.ownBlock, Option.some.injEq] at hb
          rw [← e, ← hb])
      clear hx htk hZ
      generalize hck : (a.take k).length = ck at *
      go_wp2_with (at_builtin; refine RK.append (K := wK) rfl _ _ rfl rfl rfl HOZ.out HSZ.out hlen hbase ?_; intro v8 w8 hown8 hgr8 hat8; (have HZ8 := Lib.hid (HFin.out _ _ hown8 hgr8 hat8)); clear hown8 hgr8 hat8)
      have hz := HZ8.out
      exact ⟨⟨k + 1, by omega, by go_num, Lib.hid hz.1, Lib.hid hz.2.1, Lib.hid hz.2.2.1, Lib.hid hz.2.2.2⟩, by simp [intOf]; try omega⟩
    · have hkn : ¬ (k : Int) < (a.length : Int) := by omega
      have hke : a.take k = a := List.take_of_length_le (by omega)
      rw [hke] at HU HD hu1 ⊢
      clear hke hk hkl
      go_wp2_with fail
      obtain ⟨W2, hW2⟩ : ∃ W2, W2 = wr := ⟨_, rfl⟩
      subst hW2
      have HUB : Hid (∀ c, (Value.slice uo a.length uc).ownBlock = some c → c ≠ w1.heap.size + 1 ∧ c < W2.heap.size) := Lib.hid (fun c hc => ⟨fun e => HD.out (by rw [hc, e]), (HU.out.lt c hc).2⟩)
      clear HD
      go_loopw [6, 8] (fun v6 v8 wr => ∃ k : Nat, k ≤ b.length ∧ v8 = .int .i64 (k : Int) ∧ Hid (OW wr w1.heap.size v6 (b.take k)) ∧ Hid (∀ c, v6.ownBlock = some c → c = w1.heap.size + 1 ∨ W2.heap.size ≤ c) ∧ Hid (OW wr w1.heap.size (.slice uo a.length uc) a) ∧ Hid (Below w1.heap.size w1 wr) ∧ W2.heap.size ≤ wr.heap.size) (fun _ v8 _ => b.length - (intOf v8).toNat)
      case atStart => exact ⟨0, by omega, rfl, HV, Lib.hid (fun c hc => .inl (by simp only [Value.ownBlock, Option.some.injEq] at hc; exact hc.symm)), HU, HW, Nat.le_refl _⟩
      case round =>
        clear HU HV HW
        obtain ⟨k, hk, rfl, HV, HD, HU, HW, hWs⟩ := hrel
        obtain ⟨vo, vc, hv6, hv1, hv2⟩ := HV.out.form
        subst hv6
        unfold maxLen at hv2
        by_cases hkl : k < b.length
        · have hki : (k : Int) < (b.length : Int) := by omega
          obtain ⟨x, hx⟩ : ∃ x, b[k]? = some x := ⟨b[k], List.getElem?_eq_getElem hkl⟩
          obtain ⟨g, o, hgo, _, hgl, j0, j1, j2⟩ := vK.cells (HB1.out.below HW.out) hx
          cases hgo
          have htk : b.take (k + 1) = b.take k ++ [x] := by rw [List.take_add_one, hx]; rfl
          have HTK := Lib.hid htk
          have hgn : ¬ g = wr.heap.size := by omega
          have hZ : Below wr.heap.size wr (wr.alloc (.cells #[.int .i64 x.1, .int .i64 x.2.1, .int .i64 x.2.2] 27)) := (Below.refl _ _).alloc (Nat.le_refl _) _
          have HOZ := Lib.hid (HV.out.below hZ)
          have HUZ := Lib.hid (HU.out.below hZ)
          have HWZ : Hid (Below w1.heap.size w1 (wr.alloc (.cells #[.int .i64 x.1, .int .i64 x.2.1, .int .i64 x.2.2] 27))) := Lib.hid (HW.out.alloc HW.out.size _)
          have HSZ : Hid (wK.Src (wr.alloc (.cells #[.int .i64 x.1, .int .i64 x.2.1, .int .i64 x.2.2] 27)) (.slice (some ⟨wr.heap.size, 0, none⟩) 1 1) [c3 x]) := Lib.hid (RK.Src.one (K := wK) (W := wr) (ok := fun _ => True) (x := x) rfl rfl)
          have hlen : ((b.take k).map c3).length + [c3 x].length ≤ 1048576 := by simp; omega
          have hbase : w1.heap.size ≤ (wr.alloc (.cells #[.int .i64 x.1, .int .i64 x.2.1, .int .i64 x.2.2] 27)).heap.size := HWZ.out.size
          have HFin : Hid (∀ v8 w8, w8.ownsRow w1.heap.size wK.e wK.sz v8 ((b.take k).map c3 ++ [c3 x]).length ((b.take k).map c3 ++ [c3 x]).flatten → (wr.alloc (.cells #[.int .i64 x.1, .int .i64 x.2.1, .int .i64 x.2.2] 27)).grownBy w8 (Value.slice vo (b.take k).length vc).ownBlock → (v8.ownBlock = (Value.slice vo (b.take k).length vc).ownBlock ∨ v8.ownBlock = some (wr.alloc (.cells #[.int .i64 x.1, .int .i64 x.2.1, .int .i64 x.2.2] 27)).heap.size) →
              OW w8 w1.heap.size v8 (b.take (k + 1)) ∧ (∀ c, v8.ownBlock = some c → c = w1.heap.size + 1 ∨ W2.heap.size ≤ c) ∧ OW w8 w1.heap.size (.slice uo a.length uc) a ∧ Below w1.heap.size w1 w8 ∧ W2.heap.size ≤ w8.heap.size) := Lib.hid (fun v8 w8 h1 h2 h3 => by
            have hs8 := h2.size
            simp at hs8
            refine ⟨by rw [HTK.out]; exact OW.app (m := [x]) h1, fun c hc => ?_, HUZ.out.kept (fun c hc hl => ?_), Below.grown HWZ.out h2 HWZ.out.size (fun c hc => (HOZ.out.lt c hc).1), by omega⟩
            · rcases h3 with h3 | h3
              · rw [h3] at hc; exact HD.out c hc
              · rw [h3] at hc; right; simp at hc; omega
            · refine h2.block c hl (fun e => ?_)
              have q1 := HUB.out c hc
              rcases HD.out c e.symm with q | q <;> omega)
          clear hx htk hZ
          generalize hck : (b.take k).length = ck at *
          go_wp2_with (at_builtin; refine RK.append (K := wK) rfl _ _ rfl rfl rfl HOZ.out HSZ.out hlen hbase ?_; intro v8 w8 hown8 hgr8 hat8; (have HZ8 := Lib.hid (HFin.out _ _ hown8 hgr8 hat8)); clear hown8 hgr8 hat8)
          have hz := HZ8.out
          exact ⟨⟨k + 1, by omega, by go_num, Lib.hid hz.1, Lib.hid hz.2.1, Lib.hid hz.2.2.1, Lib.hid hz.2.2.2.1, hz.2.2.2.2⟩, by simp [intOf]; try omega⟩
        · have hkn : ¬ (k : Int) < (b.length : Int) := by omega
          have hke : b.take k = b := List.take_of_length_le (by omega)
          rw [hke] at HV HD hv1 ⊢
          clear hke hk hkl HD HUB
          obtain ⟨W3, hW3⟩ : ∃ W3, W3 = wr := ⟨_, rfl⟩
          subst hW3
          have hs3 := HW.out.size
          have HUP := Lib.hid HU.out.p
          have HVP := Lib.hid HV.out.p
          have hX : Below W3.heap.size W3 (W3.alloc (.cells #[] 27)) := (Below.refl _ _).alloc (Nat.le_refl _) _
          have HX := Lib.hid (OW.start W3 (Nat.le_refl _))
          have HSU := Lib.hid (wK.srcs (HUP.out.below hX))
          have HSV : Hid (∀ W, Below W3.heap.size W3 W → wK.Src W (.slice vo b.length vc) (b.map c3)) := Lib.hid (fun W hW => wK.srcs (HVP.out.below hW))
          have HF1 : Hid (∀ v8 w8, w8.ownsRow W3.heap.size wK.e wK.sz v8 (([] : List Wn.W3).map c3 ++ a.map c3).length (([] : List Wn.W3).map c3 ++ a.map c3).flatten → (W3.alloc (.cells #[] 27)).grownBy w8 (Value.slice (some ⟨W3.heap.size, 0, none⟩) 0 0).ownBlock → OW w8 W3.heap.size v8 a ∧ Below W3.heap.size W3 w8) := Lib.hid (fun v8 w8 h1 h2 => ⟨OW.app (l := []) (m := a) h1, Below.grown hX h2 hX.size (fun c hc => (HX.out.lt c hc).1)⟩)
          have hl1 : (([] : List Wn.W3).map c3).length + (a.map c3).length ≤ 1048576 := by simp; omega
          have hl2 : (a.map c3).length + (b.map c3).length ≤ 1048576 := by simp; omega
          have hbX := hX.size
          clear hX
          go_wp2_with (first
            | (at_builtin; refine RK.append (K := wK) rfl _ _ rfl rfl rfl HX.out HSU.out hl1 hbX ?_; intro v8 w8 hown8 hgr8 hat8; (have HO8 := Lib.hid (HF1.out _ _ hown8 hgr8).1); (have HB8 := Lib.hid (HF1.out _ _ hown8 hgr8).2); (have HS8 := Lib.hid (HSV.out _ HB8.out)); (have hb8 := HB8.out.size); clear hown8 hgr8 hat8 HX HSU HF1 HSV)
            | (at_builtin; refine RK.append (K := wK) rfl _ _ rfl rfl rfl HO8.out HS8.out hl2 hb8 ?_; intro v9 w9 hown9 hgr9 hat9; (have HO9 : Hid (OW w9 W3.heap.size v9 (a ++ b)) := Lib.hid (OW.app hown9)); (have HB9 := Lib.hid (Below.grown HB8.out hgr9 hb8 (fun c hc => (HO8.out.lt c hc).1))); clear hown9 hgr9 hat9 HO8 HS8 HB8 hb8))
          have HP9 := Lib.hid HO9.out.p.old
          have hl9 : (a ++ b).length ≤ 1048576 := by simp; omega
          refine (wMax_v v9 (a ++ b) w9 (HP9.out.mono (fun _ h _ => h)) hl9).mono ?_
          rintro e w10 ⟨rfl, b10⟩
          have hM : Wn.IsMax (Wn.wmax (a ++ b)) (a ++ b) := Wn.wmax_is (by simp [HNA.out])
          have HM := Lib.hid hM
          have HMM : Hid (Wn.wmax [Wn.wmax a, Wn.wmax b] = Wn.wmax (a ++ b)) := Lib.hid (Wn.wmax_two HNA.out HNB.out).symm
          have HB10 := Lib.hid (HB9.out.trans (b10.mono HB9.out.size))
          have HU10 := Lib.hid (HUP.out.below HB10.out)
          have HV10 := Lib.hid (HVP.out.below HB10.out)
          have HW10 := Lib.hid (HW.out.trans (HB10.out.mono HW.out.size))
          clear hM b10 HP9 HO9 HB9 HUP HVP HU HV hl9 HNA HNB
          generalize hm : Wn.wmax (a ++ b) = m at *
          clear hm
          obtain ⟨m0, m1, m2⟩ := m
          go_wp2_with fail
          have hs10 := HB10.out.size
          have hAl : Below w10.heap.size w10 (w10.alloc (w3w (m0, m1, m2))) := (Below.refl _ _).alloc (Nat.le_refl _) _
          have HD11 := Lib.hid (heap_alloc_new w10 (w3w (m0, m1, m2)))
          have HU11 := Lib.hid (HU10.out.below hAl)
          have HV11 := Lib.hid (HV10.out.below hAl)
          have HW11 := Lib.hid (HW10.out.trans (hAl.mono HW10.out.size))
          clear hAl HU10 HV10 HW10 HB10
          generalize w10.alloc (w3w (m0, m1, m2)) = W4 at *
          generalize w10.heap.size = D at *
          go_loopw [10, 11] (fun v10 v11 wr => ∃ k : Nat, k ≤ a.length ∧ v11 = .int .i64 (k : Int) ∧ v10 = .bool ((a.take k).any fun x => Wn.weq x (m0, m1, m2)) ∧ Hid (Below W4.heap.size W4 wr)) (fun _ v11 _ => a.length - (intOf v11).toNat)
          case atStart => exact ⟨0, by omega, rfl, rfl, Lib.hid (Below.refl _ _)⟩
          case round =>
            obtain ⟨k, hk, rfl, rfl, HB⟩ := hrel
            by_cases hkl : k < a.length
            · have hki : (k : Int) < (a.length : Int) := by omega
              obtain ⟨x, hx⟩ : ∃ x, a[k]? = some x := ⟨a[k], List.getElem?_eq_getElem hkl⟩
              have HST := Lib.hid (Wn.any_step (m := (m0, m1, m2)) hx)
              obtain ⟨g, o, rfl, _, hgl, j0, j1, j2⟩ := wK.cells (HU11.out.below HB.out) hx
              (have q0 := cell_regrown j0; have q1 := cell_regrown j1; have q2 := cell_regrown j2; have hD := block_lat HB.out HD11.out; have d0 := cell_regrown (cell_of_block (o := 0) hD : wr.cell? ⟨D, 0, none⟩ = some (.int .i64 m0)); have d1 := cell_regrown (cell_of_block (o := 1) hD : wr.cell? ⟨D, 0 + 1, none⟩ = some (.int .i64 m1)); have d2 := cell_regrown (cell_of_block (o := 2) hD : wr.cell? ⟨D, 0 + 2, none⟩ = some (.int .i64 m2)); clear hD)
              have HEQ : ∀ W : World, (Op.equalIn 10000 27 (wV x) (wV (m0, m1, m2))).run Try.prog W = .ok (Wn.weq x (m0, m1, m2)) W := fun W => eq3_run _ _ _ _ _ _ W
              generalize Wn.weq x (m0, m1, m2) = E at *
              generalize ((a.take k).any fun x => Wn.weq x (m0, m1, m2)) = q at *
              clear hx j0 j1 j2
              cases q
              · go_wp2_with fail
                (refine wp_region_quiet_below (by kernel_rfl) (by kernel_rfl) ?_); (repeat (first | go_big_quiet_skip | quiet_step (fail))); (refine wpQuiet_nil ?_); intro _ hw'; obtain ⟨⟨dq, osq⟩, hw''⟩ := hw'; subst hw''
                have HB2 := Lib.hid (HB.out.trans ((below_regrown wr dq osq).mono HB.out.size))
                go_wp2_with fail
                exact ⟨⟨k + 1, by omega, by go_num, by rw [HST.out]; rfl, HB2⟩, by simp [intOf]; try omega⟩
              · clear HEQ
                go_wp2_with fail
                (refine wp_region_quiet_below (by kernel_rfl) (by kernel_rfl) ?_); (repeat (first | go_big_quiet_skip | quiet_step (fail))); (refine wpQuiet_nil ?_); intro _ hw'; obtain ⟨⟨dq, osq⟩, hw''⟩ := hw'; subst hw''
                have HB2 := Lib.hid (HB.out.trans ((below_regrown wr dq osq).mono HB.out.size))
                go_wp2_with fail
                exact ⟨⟨k + 1, by omega, by go_num, by rw [HST.out]; rfl, HB2⟩, by simp [intOf]; try omega⟩
            · have hkn : ¬ (k : Int) < (a.length : Int) := by omega
              have hke : a.take k = a := List.take_of_length_le (by omega)
              rw [hke] at *
              clear hke
              generalize hqa : (a.any fun x => Wn.weq x (m0, m1, m2)) = qa at *
              have HQA := Lib.hid hqa
              clear hqa hkl hk
              go_wp2_with fail
              obtain ⟨W5, hW5⟩ : ∃ W5, W5 = wr := ⟨_, rfl⟩
              subst hW5
              go_loopw [10, 12] (fun v10 v12 wr => ∃ k : Nat, k ≤ b.length ∧ v12 = .int .i64 (k : Int) ∧ v10 = .bool (qa || ((b.take k).any fun x => Wn.weq x (m0, m1, m2))) ∧ Hid (Below W4.heap.size W4 wr)) (fun _ v12 _ => b.length - (intOf v12).toNat)
              case atStart => exact ⟨0, by omega, rfl, by simp, HB⟩
              case round =>
                clear HB
                obtain ⟨k, hk, rfl, rfl, HB⟩ := hrel
                by_cases hkl : k < b.length
                · have hki : (k : Int) < (b.length : Int) := by omega
                  obtain ⟨x, hx⟩ : ∃ x, b[k]? = some x := ⟨b[k], List.getElem?_eq_getElem hkl⟩
                  have HST := Lib.hid (Wn.any_step (m := (m0, m1, m2)) hx)
                  obtain ⟨g, o, rfl, _, hgl, j0, j1, j2⟩ := wK.cells (HV11.out.below HB.out) hx
                  (have q0 := cell_regrown j0; have q1 := cell_regrown j1; have q2 := cell_regrown j2; have hD := block_lat HB.out HD11.out; have d0 := cell_regrown (cell_of_block (o := 0) hD : wr.cell? ⟨D, 0, none⟩ = some (.int .i64 m0)); have d1 := cell_regrown (cell_of_block (o := 1) hD : wr.cell? ⟨D, 0 + 1, none⟩ = some (.int .i64 m1)); have d2 := cell_regrown (cell_of_block (o := 2) hD : wr.cell? ⟨D, 0 + 2, none⟩ = some (.int .i64 m2)); clear hD)
                  have HEQ : ∀ W : World, (Op.equalIn 10000 27 (wV x) (wV (m0, m1, m2))).run Try.prog W = .ok (Wn.weq x (m0, m1, m2)) W := fun W => eq3_run _ _ _ _ _ _ W
                  generalize Wn.weq x (m0, m1, m2) = E at *
                  generalize ((b.take k).any fun x => Wn.weq x (m0, m1, m2)) = r at *
                  have HQ : Hid ((qa || ((b.take (k + 1)).any fun x => Wn.weq x (m0, m1, m2))) = ((qa || r) || E)) := Lib.hid (by rw [HST.out, Bool.or_assoc])
                  clear hx j0 j1 j2
                  generalize (qa || r) = q at *
                  cases q
                  · go_wp2_with fail
                    (refine wp_region_quiet_below (by kernel_rfl) (by kernel_rfl) ?_); (repeat (first | go_big_quiet_skip | quiet_step (fail))); (refine wpQuiet_nil ?_); intro _ hw'; obtain ⟨⟨dq, osq⟩, hw''⟩ := hw'; subst hw''
                    have HB2 := Lib.hid (HB.out.trans ((below_regrown wr dq osq).mono HB.out.size))
                    go_wp2_with fail
                    exact ⟨⟨k + 1, by omega, by go_num, by rw [HQ.out]; rfl, HB2⟩, by simp [intOf]; try omega⟩
                  · clear HEQ
                    go_wp2_with fail
                    (refine wp_region_quiet_below (by kernel_rfl) (by kernel_rfl) ?_); (repeat (first | go_big_quiet_skip | quiet_step (fail))); (refine wpQuiet_nil ?_); intro _ hw'; obtain ⟨⟨dq, osq⟩, hw''⟩ := hw'; subst hw''
                    have HB2 := Lib.hid (HB.out.trans ((below_regrown wr dq osq).mono HB.out.size))
                    go_wp2_with fail
                    exact ⟨⟨k + 1, by omega, by go_num, by rw [HQ.out]; rfl, HB2⟩, by simp [intOf]; try omega⟩
                · have hkn : ¬ (k : Int) < (b.length : Int) := by omega
                  have hke : b.take k = b := List.take_of_length_le (by omega)
                  have hq : (qa || ((b.take k).any fun x => Wn.weq x (m0, m1, m2))) = true := by
                    rw [hke, ← HQA.out]
                    have := Wn.any_mem HM.out.1
                    rw [List.any_append] at this
                    exact this
                  rw [hq]
                  clear hke hq hkl hk
                  go_wp2_with fail
                  have HMU : Hid (∀ W, Below W4.heap.size W4 W → Calls Try.prog 15 #[.slice uo a.length uc] W fun e w' => e = .returned (wV (Wn.wmax a)) ∧ Below W.heap.size W w') := Lib.hid (fun W hW => wMax_v _ a W (HU11.out.below hW).old (by omega))
                  have HMV : Hid (∀ W, Below W4.heap.size W4 W → Calls Try.prog 15 #[.slice vo b.length vc] W fun e w' => e = .returned (wV (Wn.wmax b)) ∧ Below W.heap.size W w') := Lib.hid (fun W hW => wMax_v _ b W (HV11.out.below hW).old (by omega))
                  generalize Wn.wmax a = p at *
                  generalize Wn.wmax b = q at *
                  obtain ⟨p0, p1, p2⟩ := p
                  obtain ⟨q0, q1, q2⟩ := q
                  have HX : Hid (∀ (X : World) (t : Nat), Calls Try.prog 15 #[.slice (some ⟨X.heap.size, 0, none⟩) 2 2] (X.alloc (.cells #[.int .i64 p0, .int .i64 p1, .int .i64 p2, .int .i64 q0, .int .i64 q1, .int .i64 q2] t)) fun e w' => e = .returned (wV (m0, m1, m2)) ∧ Below (X.alloc (.cells #[.int .i64 p0, .int .i64 p1, .int .i64 p2, .int .i64 q0, .int .i64 q1, .int .i64 q2] t)).heap.size (X.alloc (.cells #[.int .i64 p0, .int .i64 p1, .int .i64 p2, .int .i64 q0, .int .i64 q1, .int .i64 q2] t)) w') := Lib.hid (fun X t => by
                    refine (wMax_v (.slice (some ⟨X.heap.size, 0, none⟩) 2 2) [(p0, p1, p2), (q0, q1, q2)] (X.alloc _) (RK.P.mk (K := wK) (es := [[.int .i64 p0, .int .i64 p1, .int .i64 p2], [.int .i64 q0, .int .i64 q1, .int .i64 q2]]) (heap_alloc_new X _) ⟨rfl, rfl, trivial⟩ rfl rfl (by simp) (by simp)) (by simp)).mono ?_
                    rintro e w' ⟨he, hb⟩
                    rw [HMM.out] at he
                    exact ⟨he, hb⟩)
                  have HE0 : ∀ W : World, (Op.equalIn 10000 27 (wV (m0, m1, m2)) (wV (m0, m1, m2))).run Try.prog W = .ok true W := fun W => by have := eq3_run m0 m1 m2 m0 m1 m2 W; simpa using this
                  have HSM : Hid (∀ W W' : World, (Below W4.heap.size W4 W ∧ W.cell? ⟨D, 0, none⟩ = some (.int .i64 m0) ∧ W.cell? ⟨D, 0 + 1, none⟩ = some (.int .i64 m1) ∧ W.cell? ⟨D, 0 + 2, none⟩ = some (.int .i64 m2)) → Below W.heap.size W W' → (Below W4.heap.size W4 W' ∧ W'.cell? ⟨D, 0, none⟩ = some (.int .i64 m0) ∧ W'.cell? ⟨D, 0 + 1, none⟩ = some (.int .i64 m1) ∧ W'.cell? ⟨D, 0 + 2, none⟩ = some (.int .i64 m2))) := Lib.hid (fun W W' h hb => by
                    obtain ⟨h0, h1, h2, h3⟩ := h
                    exact ⟨h0.trans (hb.mono h0.size), cell_latq hb h1, cell_latq hb h2, cell_latq hb h3⟩)
                  have hD := block_lat HB.out HD11.out
                  have HS9 : Hid (Below W4.heap.size W4 wr ∧ wr.cell? ⟨D, 0, none⟩ = some (.int .i64 m0) ∧ wr.cell? ⟨D, 0 + 1, none⟩ = some (.int .i64 m1) ∧ wr.cell? ⟨D, 0 + 2, none⟩ = some (.int .i64 m2)) := Lib.hid ⟨HB.out, cell_of_block (o := 0) hD, cell_of_block (o := 1) hD, cell_of_block (o := 2) hD⟩
                  have HF : ∀ W : World, (Below W4.heap.size W4 W ∧ W.cell? ⟨D, 0, none⟩ = some (.int .i64 m0) ∧ W.cell? ⟨D, 0 + 1, none⟩ = some (.int .i64 m1) ∧ W.cell? ⟨D, 0 + 2, none⟩ = some (.int .i64 m2)) → Below W4.heap.size W4 W := fun _ h => h.1
                  clear HMM HM HU11 HV11 HD11 hD HB HQA
                  go_region_held3 (fun W' => Below W4.heap.size W4 W' ∧ W'.cell? ⟨D, 0, none⟩ = some (.int .i64 m0) ∧ W'.cell? ⟨D, 0 + 1, none⟩ = some (.int .i64 m1) ∧ W'.cell? ⟨D, 0 + 2, none⟩ = some (.int .i64 m2))
                    (first | exact HSM.out _ _ HS9.out (Below.refl _ _).drew | exact HSM.out _ _ (by assumption) (by assumption) | exact HSM.out _ _ (by assumption) ((Below.refl _ _).alloc (Nat.le_refl _) _) | assumption)
                    (first
                      | (go_at_call 15; (with_reducible refine (HMU.out _ (HF _ (by assumption))).mono ?_); rintro e w' ⟨rfl, b⟩)
                      | (go_at_call 15; (with_reducible refine (HMV.out _ (HF _ (by assumption))).mono ?_); rintro e w' ⟨rfl, b⟩)
                      | (go_at_call 15; (with_reducible refine (HX.out _ _).mono ?_); rintro e w' ⟨rfl, b⟩))
                  go_wp2_with fail
                  go_ret
                  exact ⟨rfl, HW1.out.trans ((HW11.out.trans ((HF _ (by assumption)).mono HW11.out.size)).mono HW1.out.size)⟩
end Go.Proofs.Ytnkhfggngdnjbaa
set_option maxRecDepth 20000
namespace Go.Proofs.Ytnkhfggngdnjbaa.WMax
open Go.ChangeShapes Go.WideShapes Go.ChangeAt Go.RowKit
open Go.ChangeMaps (open_string shut_string)
noncomputable def laidWorld (os : Os) : World := World.holding Try.prog os ⟨#[], #[], []⟩
theorem contract (H : Type) (enc : TypeId × Value → H) (W : World) (base : Nat) (args : Array Value) (ds gs : List (DataW H)) (before : List MemPlace)
    (hval : ∀ (j : Nat) t v, Try.f8.params[j]? = some t → args[j]? = some v → Value.okWide Try.prog W .any base t v)
    (hW : DataW.Whole enc Try.prog Try.f8.params.toList Rows.weightMaxSpec.vars false W args.toList ds gs before) (_hL : laidMetH Try.prog Rows.weightMaxRow.laid W) :
    Calls Try.prog 8 args W fun e W' => ∃ v, e = .returned v ∧ Rows.weightMaxSpec.post enc Try.prog Try.f8 false true false false W args v W' := by
  have hW' := hW
  obtain ⟨p, q, hA0, hV, rfl, hfz, hnd⟩ := hW
  have hA : DataW.TrodAll enc Try.prog W 0 (fun _ => true) true Try.f8.params.toList args.toList ds p := hA0
  rw [Try.params8] at hA hval
  obtain ⟨v0, vs0, d0, ds0, p0, q0, hargs, rfl, rfl, h0, r0⟩ := trodAll_cons hA
  obtain ⟨v1, vs1, d1, ds1, p1, q1, rfl, rfl, rfl, h1, r1⟩ := trodAll_cons r0
  obtain ⟨rfl, rfl, rfl⟩ := trodAll_nil r1
  obtain rfl : args = #[v0, v1] := by cases args; simp_all
  obtain ⟨rfl, rfl⟩ := trodVars_none hV
  obtain ⟨l0, hl0⟩ := open_w3s (hval 0 23 v0 rfl rfl) h0
  obtain ⟨l1, hl1⟩ := open_w3s (hval 1 23 v1 rfl rfl) h1
  clear hA0
  simp only [List.append_nil] at hW'
  have hlt : ∀ x ∈ (p0 ++ p1), x.block < W.heap.size := fun x hx => hW'.lt x hx
  refine (lwMax_any l0 l1 v0 v1 W hl0 hl1).mono fun e W' ⟨he, hb⟩ => ?_
  subst he
  exact ⟨_, rfl, post_of_below (pa := (p0 ++ (p1 ++ []))) (pv := []) hW' (fun _ _ _ => trodAll_cons_mk (shut_bool Try.underlying4 _) trodAll_mk0)
    (fun sp hsp => (trodAll_cons_mk (again (t := 23) (by kernel_rfl) (by decide) h0 hb (fun x hx => hlt x (by simp [hx])) (fun x hx => hsp x (by simp [hx])))
      (trodAll_cons_mk (again (t := 23) (by kernel_rfl) (by decide) h1 hb (fun x hx => hlt x (by simp [hx])) (fun x hx => hsp x (by simp [hx])))
      trodAll_mk0))) (fun _ _ => rfl) (by simp) hb
    (ok_one (by kernel_rfl) rfl (okWide_bool_mk Try.underlying4 _))⟩
theorem laid_met (os : Os) : laidMet Try.prog Rows.weightMaxRow.laid ((laidWorld os).forCall (fun _ _ => 0) ⟨#[], #[.slice none 0 0, .slice none 0 0], []⟩).memory :=
  laidMet_of_run' 8 (by kernel_rfl) (by kernel_rfl)
theorem reads (os : Os) {H : Type} (enc : TypeId × Value → H) : ∃ places, DataW.whole enc Try.prog ((laidWorld os).forCall (fun _ _ => 0) ⟨#[], #[.slice none 0 0, .slice none 0 0], []⟩).memory Try.f8.params.toList Rows.weightMaxSpec.vars false #[Value.slice none 0 0, Value.slice none 0 0].toList 8 = some ([.nil, .nil], [], places) :=
  ⟨[], by kernel_rfl⟩
set_option maxRecDepth 100000 in
theorem lifted (os : Os) (started : os.Started) (H : Type) (enc : TypeId × Value → H) (F : Stop.Interp) :
    ReturnsInHanded {} Try.checked os 8 .any ((OpenSpec.ofChange Rows.weightMaxSpec).preRow enc Try.prog Try.f8 Rows.weightMaxRow.domain false Rows.weightMaxRow.laid) (((OpenSpec.ofChange Rows.weightMaxSpec).at F).post enc Try.prog Try.f8 false true false false) := by
  obtain ⟨places, hx⟩ := reads os enc
  refine returnsInHanded_of_row (C := Try.checked) (s := OpenSpec.ofChange Rows.weightMaxSpec) own started (by kernel_rfl) Try.func8
    (witness_row_at (enc := enc) (C := Try.checked) false (laidWorld os) #[.slice none 0 0, .slice none 0 0] rfl (by kernel_rfl) (by kernel_rfl) (by kernel_rfl)
      (OpenSpec.preRow_of_cond 8 hx (by kernel_rfl) (fun k hk => by cases hk) (by kernel_rfl) (laid_met os))) ?_
  intro W base args ds gs before hval hW _ _ _ hL _ _
  exact contract H enc W base args ds gs before hval hW hL
theorem said : Rows.WeightMaxSaid :=
  OpenClaim.holds_of_cond 8 Try.f8 rfl rfl rfl rfl rfl rfl rfl ⟨rfl, rfl, rfl, rfl, rfl⟩ rfl rfl rfl rfl rfl (by kernel_rfl) Try.func8 (by kernel_rfl)
    (of_decide_eq_true (by kernel_rfl)) (by unfold Func.isWrapper; first | (rw [if_pos (by decide +kernel)]; kernel_rfl) | (rw [if_neg (by decide +kernel)]; exact ⟨rfl, rfl⟩))
    (fun os started H enc _ F => by rw [OpenClaim.pre_eq_preRow]; exact lifted os started H enc F)
end Go.Proofs.Ytnkhfggngdnjbaa.WMax
namespace Go.Proofs.Ytnkhfggngdnjbaa
open Go
theorem weightMax_holds : Rows.WeightMaxSaid := WMax.said
end Go.Proofs.Ytnkhfggngdnjbaa
