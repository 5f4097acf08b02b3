/- What selectorList answers: the function that stores each selector. What selectorList answers. What attempt answers, whatever it is handed; sels.Parse, Nth, Read. What sels.Parse, Nth, Read answer. What sels.Nth and sels.Read answer. -/
import Derived.Test.YtncknaagbafhhaaGreatDoorHG
import Derived.Test.YtncknaagbafhhaaGreatDoorHA
import Derived.Test.YtncknaagbafhhaaGreatDoorGZ
import Derived.Test.YtncknaagbafhhaaGreatDoorSplPM
import Derived.Recover
set_option linter.unusedVariables false
set_option linter.unusedSimpArgs false
set_option maxRecDepth 20000
namespace Go.Proofs.YtncknaagbafhhaaGreatDoor
open Go.RowKit Go.Sort
/-- the selector c is stored at place i of the array -/
def CxStored (A : Nat) (es : List (List Value)) (i base : Nat) (c : Wn.Cx) (w : World) : Prop := ∃ v, Arr2 w A 46 (es.set i [v, .string (Wn.str c.2)]) ∧ ptK.P w (fun b => base ≤ b) v c.1
set_option maxRecDepth 100000 in
set_option maxHeartbeats 2000000 in
theorem selList1_v (g n A Lb Ib N i : Nat) (es : List (List Value)) (f : Wn.Fs) (w : World) (h : Rd w g n false f) (hA : Arr2 w A 46 es) (hN : es.length = N) (hi : i < N) (hN2 : N ≤ 1000)
    (hL : w.heap[Lb]? = some (.cells #[.slice (some ⟨A, 0, none⟩) N N] 23)) (hI : w.heap[Ib]? = some (.cells #[.int .i64 (i : Int)] 3)) (hAg : A ≠ g) (hLg : Lb ≠ g) (hIg : Ib ≠ g) (hAL : A ≠ Lb) (hAI : A ≠ Ib) (hn : n ≤ A) (hgA : A < g) :
    Calls Tryz.prog 61 #[.pointer (some ⟨g, 0, none⟩), .pointer (some ⟨Lb, 0, none⟩), .pointer (some ⟨Ib, 0, none⟩)] w (ReadPost g n (fun b => b = A) (CxStored A es i w.heap.size) (Wn.cplxR 16 0 f) w) := by
  have QC := Lib.hid (fun w h => complexSelector_v g n f w h)
  have HR := Lib.hid h
  have HA := Lib.hid hA
  have k0 := cell_of_block (o := 0) hL
  have k1 := cell_of_block (o := 0) hI
  simp only [List.getElem?_toArray, List.getElem?_cons_zero] at k0 k1
  have hgl := h.lt
  have hi0 : (0 : Int) ≤ (i : Int) := by omega
  have hi1 : (i : Int) < (N : Int) := by omega
  have hitn : ((i : Int)).toNat = i := by omega
  have HL := Lib.hid hL
  have HI := Lib.hid hI
  clear h hA hL hI
  have hdrew : Rd w.drew g n false f := HR.out.below ((Below.refl _ _).drew)
  have HRd := Lib.hid hdrew
  clear hdrew
  cases hc : Wn.cplxR 16 0 f with
  | none =>
    have QC2 : Hid (∀ w, Rd w g n false f → Calls Tryz.prog 62 #[.pointer (some ⟨g, 0, none⟩)] w fun e w' => e = .panicked invalidP ∧ Only g w w') := Lib.hid (fun w h => (QC.out w h).mono fun e w' h => by rw [hc] at h; rcases h with ⟨_, _, _, h, _⟩ | ⟨_, h1, h2⟩; cases h; exact ⟨h1, h2⟩)
    clear QC hc
    go_enter Tryz.func61, Tryz.ntmps61
    go_wp2_with fail
    refine wp_region_any (by kernel_rfl) ?_
    try (change wpAny _ _ _ _ _ _ _ (World.drew _))
    refine wpAny_take (i := 2) (v := .pointer (some ⟨g, 0, none⟩)) rfl (by kernel_rfl) (by kernel_rfl) (by kernel_rfl) (fun _ _ _ h => h) (Or.inl ⟨by rfl, by intro w; go_simp⟩) ?_
    (refine wpAny_ready (rs := [0, 1, 3]) (by kernel_rfl) (by simp) ?_); (refine AllReady.cons rfl (fun K hK => ?_) (AllReady.cons rfl (fun K hK => ?_) (AllReady.cons rfl (fun K hK => ?_) AllReady.nil)))
    · (go_simp; (refine hK _ _ ?_); clear hK K)
      (refine wpAny_ready (rs := [1, 3]) (by kernel_rfl) (by simp) ?_); (refine AllReady.cons rfl (fun K hK => ?_) (AllReady.cons rfl (fun K hK => ?_) AllReady.nil))
      · (go_simp; (refine hK _ _ ?_); clear hK K)
        (refine wpAny_ready (rs := [3]) (by kernel_rfl) (by simp) ?_); (refine AllReady.cons rfl (fun K hK => ?_) AllReady.nil)
        go_simp
        ((refine (QC2.out _ HRd.out).mono ?_); rintro e w4 ⟨rfl, ho4⟩; exact ⟨rfl, .inr ⟨rfl, rfl, ((Only.kp ((Only.refl g w).drew.trans ho4)).mono (fun b hb => Or.inr hb))⟩⟩)
      · go_simp
        ((refine (QC2.out _ HRd.out).mono ?_); rintro e w4 ⟨rfl, ho4⟩; exact ⟨rfl, .inr ⟨rfl, rfl, ((Only.kp ((Only.refl g w).drew.trans ho4)).mono (fun b hb => Or.inr hb))⟩⟩)
    · (go_simp; (refine hK _ _ ?_); clear hK K)
      (refine wpAny_ready (rs := [0, 3]) (by kernel_rfl) (by simp) ?_); (refine AllReady.cons rfl (fun K hK => ?_) (AllReady.cons rfl (fun K hK => ?_) AllReady.nil))
      · (go_simp; (refine hK _ _ ?_); clear hK K)
        (refine wpAny_ready (rs := [3]) (by kernel_rfl) (by simp) ?_); (refine AllReady.cons rfl (fun K hK => ?_) AllReady.nil)
        go_simp
        ((refine (QC2.out _ HRd.out).mono ?_); rintro e w4 ⟨rfl, ho4⟩; exact ⟨rfl, .inr ⟨rfl, rfl, ((Only.kp ((Only.refl g w).drew.trans ho4)).mono (fun b hb => Or.inr hb))⟩⟩)
      · go_simp
        ((refine (QC2.out _ HRd.out).mono ?_); rintro e w4 ⟨rfl, ho4⟩; exact ⟨rfl, .inr ⟨rfl, rfl, ((Only.kp ((Only.refl g w).drew.trans ho4)).mono (fun b hb => Or.inr hb))⟩⟩)
    · go_simp
      ((refine (QC2.out _ HRd.out).mono ?_); rintro e w4 ⟨rfl, ho4⟩; exact ⟨rfl, .inr ⟨rfl, rfl, ((Only.kp ((Only.refl g w).drew.trans ho4)).mono (fun b hb => Or.inr hb))⟩⟩)
  | some q =>
    obtain ⟨c, r⟩ := q
    have QC2 : Hid (∀ w, Rd w g n false f → Calls Tryz.prog 62 #[.pointer (some ⟨g, 0, none⟩)] w fun e w' => ∃ v, e = .returned (.agg #[v, .string (Wn.str c.2)]) ∧ ptK.P w' (fun b => w.heap.size ≤ b) v c.1 ∧ Rd w' g n false r ∧ Only g w w') := Lib.hid (fun w h => (QC.out w h).mono fun e w' h => by rw [hc] at h; rcases h with ⟨_, _, v, h, h1⟩ | ⟨h, _⟩; cases h; exact ⟨v, h1⟩; cases h)
    clear QC hc
    obtain ⟨x0, x1, hpair⟩ := HA.out.pair (i := i) (by omega)
    have HPair := Lib.hid hpair
    clear hpair
    go_enter Tryz.func61, Tryz.ntmps61
    go_wp2_with fail
    go_region_with (first | (go_at_call 62; (refine (QC2.out _ HRd.out).mono ?_); rintro e w4 ⟨v, rfl, hv4, hr4, ho4⟩; obtain ⟨vo, vc, rfl, _, _⟩ := hv4.form; (have hA4 : Arr2 w4 A 46 es := HA.out.block (ho4.block A HA.out.lt hAg)); (have m := hA4.cell HPair.out); (have m0 := m.1); (have m1 := m.2); (have z0 := hA4.frozen (i * 2)); (have z1 := hA4.frozen (i * 2 + 1)); (have l0 : w4.cell? ⟨Lb, 0, none⟩ = some (.slice (some ⟨A, 0, none⟩) N N) := ho4.cell (a := ⟨Lb, 0, none⟩) hLg k0); (have l1 : w4.cell? ⟨Ib, 0, none⟩ = some (.int .i64 (i : Int)) := ho4.cell (a := ⟨Ib, 0, none⟩) hIg k1); (have HV4 := Lib.hid hv4); (have HR4 := Lib.hid hr4); (have HO4 := Lib.hid ((Only.refl g w).drew.trans ho4)); (have HA4 := Lib.hid hA4); clear hv4 hr4 ho4 hA4 m))
    all_goals
      have ho : Only A w4 ((w4.setCell ⟨A, i * 2, none⟩ (.slice vo c.1.length vc)).setCell ⟨A, i * 2 + 1, none⟩ (.string (Wn.str c.2))) := ((Only.refl _ _).setCell (p := ⟨A, i * 2, none⟩) rfl _).setCell (p := ⟨A, i * 2 + 1, none⟩) rfl _
      refine ⟨rfl, .tuple #[], by simp [results, Tryz.results61], .inl ⟨c, r, false, rfl, rfl, HR4.out.kp (Only.kp ho) (fun e => hAg e.symm) (fun b hb e => by omega), ((Only.kp HO4.out).mono (fun b hb => Or.inr hb)).trans ((Only.kp ho).mono (fun b hb => Or.inl hb)), _, HA4.out.set (by omega) _ _, ?_⟩⟩
      exact HV4.out.same (fun b hb hl => ho.block b hl (by have : w.heap.size ≤ b := hb; omega)) (fun b hb _ => hb)
end Go.Proofs.YtncknaagbafhhaaGreatDoor
set_option linter.unusedVariables false
set_option linter.unusedSimpArgs false
set_option maxRecDepth 20000
namespace Wn
theorem cuts_all {q : Tok → Prop} {p : Int → Tok → Bool} : ∀ {f : Fs}, f.all q → ∀ g ∈ cuts p f, g.all q
  | .nil, _, g, hg => by simp [cuts] at hg; subst hg; trivial
  | .cons k t x r, h, g, hg => by
    have ih := cuts_all (p := p) h.2.2
    rw [cuts] at hg
    split at hg
    · simp at hg
      rcases hg with rfl | hg
      · trivial
      · exact ih g hg
    · split at hg
      · simp at hg; subst hg; exact ⟨h.1, h.2.1, trivial⟩
      · rename_i a l e
        simp at hg
        rcases hg with rfl | hg
        · exact ⟨h.1, h.2.1, ih a (by rw [e]; simp)⟩
        · exact ih g (by rw [e]; simp [hg])
theorem allF_drop {α : Type} {p : Fs → Option α} {gs : List Fs} {i : Nat} {g : Fs} (h : gs[i]? = some g) : allF p (gs.drop i) = match p g with
    | none => none
    | some x => (allF p (gs.drop (i + 1))).map fun y => x :: y := by
  obtain ⟨hl, rfl⟩ := List.getElem?_eq_some_iff.1 h
  rw [List.drop_eq_getElem_cons hl, allF]
  cases p gs[i] <;> rfl
end Wn
namespace Go.Proofs.YtncknaagbafhhaaGreatDoor
open Go.RowKit Go.Sort
theorem CxStored.mono {A : Nat} {es : List (List Value)} {i base base' : Nat} {c : Wn.Cx} {w : World} (h : CxStored A es i base c w) (hb : base' ≤ base) : CxStored A es i base' c w := by
  obtain ⟨v, h1, h2⟩ := h; exact ⟨v, h1, h2.mono (fun b hb' _ => by omega)⟩
theorem ReadPost.mono {α : Type} {g n : Nat} {S : Nat → Prop} {St St' : α → World → Prop} {res : Option (α × Wn.Fs)} {w : World} {e : Ending} {w' : World} (h : ReadPost g n S St res w e w') (hs : ∀ x W, St x W → St' x W) : ReadPost g n S St' res w e w' := by
  rcases h with ⟨x, r, pl, h1, h2, h3, h4, h5⟩ | h
  · exact .inl ⟨x, r, pl, h1, h2, h3, h4, hs _ _ h5⟩
  · exact .inr h
/-- the state of selectorList -/
structure SI (w W : World) (A N : Nat) (pv : Value) (gs : List Wn.Fs) (es : List (List Value)) (done : List Wn.Cx) : Prop where
  below : Below w.heap.size w W
  lo : w.heap.size ≤ A
  arr : Arr2 W A 46 es
  len : es.length = N
  list : W.heap[A + 1]? = some (.cells #[.slice (some ⟨A, 0, none⟩) N N] 23)
  parts : ListP W (fun b => b < A) pv gs
  row : cxK.Row W (fun b => A + 2 ≤ b) es (done ++ List.replicate (N - done.length) ([], []))
theorem SI.below' {w W W' : World} {A N : Nat} {pv : Value} {gs : List Wn.Fs} {es : List (List Value)} {done : List Wn.Cx} (h : SI w W A N pv gs es done) (hb : Below W.heap.size W W') : SI w W' A N pv gs es done :=
  ⟨h.below.trans (hb.mono h.below.size), h.lo, h.arr.block (hb.block A h.arr.lt), h.len, block_lat hb h.list, h.parts.below hb, h.row.same (fun b _ hl => hb.block b hl) (fun _ h _ => h)⟩
theorem SI.next {w W W' : World} {A N base : Nat} {pv : Value} {gs : List Wn.Fs} {es : List (List Value)} {done : List Wn.Cx} {c : Wn.Cx} (h : SI w W A N pv gs es done) (hk : Kp (fun b => b = A) W W') (hd : done.length < N) (hs : CxStored A es done.length base c W') (hb : W.heap.size ≤ base) (hA : A + 2 ≤ W.heap.size) : ∃ es', SI w W' A N pv gs es' (done ++ [c]) := by
  obtain ⟨v, h1, h2⟩ := hs
  have hlo := h.lo
  refine ⟨_, h.below.trans (hk.below h.below.size (by rintro b rfl; exact hlo)), hlo, h1, by rw [List.length_set]; exact h.len, (hk.block _ (lt_of_block h.list) (by omega)).trans h.list, h.parts.same (fun b hb hl => hk.block b hl (by omega)) (fun _ h _ => h), ?_⟩
  have hrow := (h.row.same (w' := W') (fun b hb hl => hk.block b hl (by omega)) (fun _ h _ => h)).set (i := done.length) (c := [v, .string (Wn.str c.2)]) (x := c) ⟨v, rfl, h2.mono (fun b hb' _ => by omega)⟩
  have e : (done ++ List.replicate (N - done.length) (([], []) : Wn.Cx)).set done.length c = (done ++ [c]) ++ List.replicate (N - (done ++ [c]).length) ([], []) := by
    rw [List.set_append_right _ _ (Nat.le_refl _), Nat.sub_self, show N - done.length = (N - (done ++ [c]).length) + 1 by simp only [List.length_append, List.length_singleton]; omega, List.replicate_succ, List.set_cons_zero, List.append_assoc]; rfl
  rw [e] at hrow
  exact hrow
def SelPost (res : Option (List Wn.Cx)) (w : World) (e : Ending) (w' : World) : Prop :=
  (∃ l v, res = some l ∧ e = .returned v ∧ cxK.P w' (fun b => w.heap.size ≤ b) v l ∧ Below w.heap.size w w') ∨ (res = none ∧ e = .panicked invalidP ∧ Below w.heap.size w w')
theorem list_z : cxK.z.cells = #[.slice none 0 0, .string ⟨#[]⟩] := by
  show (Value.agg #[.slice none 0 0, .string ⟨#[]⟩]).cells = _
  simp [Value.cells]
set_option maxRecDepth 100000 in
set_option maxHeartbeats 2000000 in
theorem selectorList_v (v : Value) (f : Wn.Fs) (w : World) (hv : Vals w v f) (ht : Tl f) (hf : f.size ≤ 100000) :
    Calls Tryz.prog 35 #[v] w (SelPost (Wn.selsF f) w) := by
  have QA := Lib.hid (At_list [44] v f w hv hf)
  have hE : Enters 61 := enters_of Tryz.func61 (by kernel_rfl) rfl
  have HE := Lib.hid hE
  have hform : ∃ ao n c, v = .slice ao n c := by obtain ⟨ao, cap, hv, _⟩ := hv.form; exact ⟨_, _, _, hv⟩
  obtain ⟨vo, vn, vc, rfl⟩ := hform
  have HTL : Hid (∀ g ∈ Wn.cuts (Wn.signV [44]) f, Tl g) := Lib.hid (fun g hg => Wn.cuts_all ht g hg)
  have HSF : Hid (Wn.selsF f = if (Wn.cuts (Wn.signV [44]) f).length ≤ 32 then Wn.allF Wn.cplxF (Wn.cuts (Wn.signV [44]) f) else none) := Lib.hid rfl
  have hmf : ∀ (fn : Fn) (first cap : Array Value) (w : World), (Instr.makeFunc fn first cap).run Tryz.prog w = .ok (.func fn first cap) w := fun _ _ _ _ => rfl
  clear hv ht hE
  generalize hRes : Wn.selsF f = RES at *
  clear hRes
  generalize Wn.cuts (Wn.signV [44]) f = gs at *
  go_enter Tryz.func35, Tryz.ntmps35
  go_wp2_with fail
  refine QA.out.mono ?_
  rintro e w1 ⟨r1, rfl, hl1, b1⟩
  obtain ⟨po, pc, rfl, hc1, hc2⟩ := hl1.form
  unfold maxLen at hc2
  have HL1 := Lib.hid hl1
  have HB1 := Lib.hid b1
  clear hl1 b1 QA
  by_cases h32 : gs.length ≤ 32
  · have HS2 : Hid (RES = Wn.allF Wn.cplxF gs) := Lib.hid (by rw [HSF.out, if_pos h32])
    obtain ⟨W2, hmk, harr, hb2, hz2⟩ := made2_run cxK (.slice none 0 0) (.string ⟨#[]⟩) list_z gs.length (by omega) w1 rfl
    have hmk' : (Instr.makeSlice 23 (.int .i64 (gs.length : Int)) (.int .i64 (gs.length : Int))).run Tryz.prog w1 = .ok (.slice (some ⟨w1.heap.size, 0, none⟩) gs.length gs.length) W2 := hmk
    have hb3 : Below W2.heap.size W2 (W2.alloc (.cells #[.slice (some ⟨w1.heap.size, 0, none⟩) gs.length gs.length] 23)) := (Below.refl _ _).alloc (Nat.le_refl _) _
    have HSI : Hid (SI w (W2.alloc (.cells #[.slice (some ⟨w1.heap.size, 0, none⟩) gs.length gs.length] 23)) w1.heap.size gs.length (.slice po gs.length pc) gs (List.replicate gs.length [.slice none 0 0, .string ⟨#[]⟩]) []) := Lib.hid (by
      refine ⟨(HB1.out.trans (hb2.mono HB1.out.size)).trans (hb3.mono (by have := HB1.out.size; omega)), HB1.out.size, harr.block (hb3.block _ harr.lt), by simp, ?_, (HL1.out.old.below hb2).below hb3, ?_⟩
      · have := heap_alloc_new W2 (.cells #[.slice (some ⟨w1.heap.size, 0, none⟩) gs.length gs.length] 23)
        rw [hz2] at this; exact this
      · exact RK.Row.replicate (K := cxK) (x := ([], [])) ⟨.slice none 0 0, rfl, RK.P.nil _ _⟩ gs.length)
    have hsz3 : (W2.alloc (.cells #[.slice (some ⟨w1.heap.size, 0, none⟩) gs.length gs.length] 23)).heap.size = w1.heap.size + 2 := by simp; omega
    have HZ3 := Lib.hid hsz3
    have HZ2 := Lib.hid hz2
    clear hmk harr hb2 hb3 HSF hsz3 hz2
    go_wp2_with fail
    refine (demand_y _ (by simp; omega)).mono ?_
    rintro e w2 ⟨rfl, rfl⟩
    go_wp2_with fail
    rw [HZ2.out]
    generalize W2.alloc (.cells #[.slice (some ⟨w1.heap.size, 0, none⟩) gs.length gs.length] 23) = W3 at *
    clear hmk'
    generalize hA : w1.heap.size = A at *
    go_loopw [18] (fun v18 wr => ∃ (i : Nat) (es : List (List Value)) (done : List Wn.Cx), i ≤ gs.length ∧ done.length = i ∧ v18 = .int .i64 (i : Int) ∧ A + 2 ≤ wr.heap.size ∧ Hid (SI w wr A gs.length (.slice po gs.length pc) gs es done) ∧ Hid (RES = (Wn.allF Wn.cplxF (gs.drop i)).map fun y => done ++ y)) (fun v18 _ => gs.length - (intOf v18).toNat)
    case atStart => exact ⟨0, _, [], Nat.zero_le _, rfl, rfl, by rw [HZ3.out]; exact Nat.le_refl _, HSI, Lib.hid (by rw [HS2.out, List.drop_zero]; cases Wn.allF Wn.cplxF gs <;> rfl)⟩
    case round =>
      clear HSI HZ3 HS2 HL1 HB1 hA
      obtain ⟨i, es, done, hi, hdi, rfl, hAsz, HSI, HRes⟩ := hrel
      have HDI := Lib.hid hdi
      clear hdi
      by_cases hil : i < gs.length
      · obtain ⟨gi, hgi⟩ : ∃ g, gs[i]? = some g := ⟨gs[i], List.getElem?_eq_getElem hil⟩
        obtain ⟨pb, poff, u, rfl, j0, hu⟩ := HSI.out.parts.at hgi
        obtain ⟨uo, uc, rfl, _, _⟩ := hu.form
        have hgm : gi ∈ gs := List.mem_of_getElem? hgi
        have HRes2 : Hid (RES = match Wn.cplxF gi with | none => none | some x => (Wn.allF Wn.cplxF (gs.drop (i + 1))).map fun y => done ++ x :: y) := Lib.hid (by
          rw [HRes.out, Wn.allF_drop hgi]
          cases Wn.cplxF gi with
          | none => rfl
          | some x => simp only; cases Wn.allF Wn.cplxF (gs.drop (i + 1)) <;> rfl)
        have hbI : Below wr.heap.size wr (wr.alloc (.cells #[.int .i64 (i : Int)] 3)) := (Below.refl _ _).alloc (Nat.le_refl _) _
        have hsI := HSI.out.below' hbI
        have hIb := heap_alloc_new wr (.cells #[.int .i64 (i : Int)] 3)
        have hzI : (wr.alloc (.cells #[.int .i64 (i : Int)] 3)).heap.size = wr.heap.size + 1 := by simp
        have QW := Lib.hid (fun W (hsI : SI w W A gs.length (.slice (some ⟨pb, poff, none⟩) gs.length pc) gs es done) (hIb : W.heap[wr.heap.size]? = some (.cells #[.int .i64 (i : Int)] 3)) (hzI : W.heap.size = wr.heap.size + 1) (hu : ValsP W (fun b => b < A) (.slice uo gi.len uc) gi) =>
          whole_v (Wn.cplxR 16 0) 61 #[.pointer (some ⟨A + 1, 0, none⟩), .pointer (some ⟨wr.heap.size, 0, none⟩)] (fun b => b = A) (CxStored A es i (W.heap.size + 1)) (.slice uo gi.len uc) gi A W
            hu (HTL.out gi hgm) (by omega) (by rintro b rfl; omega) HE.out
            (fun x W1 W2 hs ho => by
              obtain ⟨v, h1, h2⟩ := hs
              exact ⟨v, h1.block (ho.block A h1.lt (by omega)), h2.same (fun b hb hl => ho.block b hl (by omega)) (fun _ h _ => h)⟩)
            (fun W1 hb1 hr1 => by
              have hlt := hr1.lt
              refine (selList1_v W.heap.size A A (A + 1) wr.heap.size gs.length i es (Wn.dropB gi) W1 hr1 (hsI.arr.block (hb1.block A hsI.arr.lt)) hsI.len hil (by omega) (block_lat hb1 hsI.list) (block_lat hb1 hIb) (by omega) (by omega) (by omega) (by omega) (by omega) (Nat.le_refl _) (by omega)).mono fun e w' h => h.mono (fun x W h => h.mono (by omega))))
        have HSI2 := Lib.hid hsI
        have HIB := Lib.hid hIb
        have HZI := Lib.hid hzI
        have HU := Lib.hid (hu.below hbI)
        have hi1 : (i : Int) < (gs.length : Int) := by omega
        clear hu hbI hsI hIb hzI hgi hgm HRes HSI
        go_wp2_with fail
        generalize wr.alloc (.cells #[.int .i64 (i : Int)] 3) = W at *
        refine (QW.out W HSI2.out HIB.out HZI.out HU.out).mono ?_
        rintro e w5 (⟨c, hc, rfl, hk, hs⟩ | ⟨hc, rfl, hk⟩)
        · have hdl := HDI.out
          have hzi := HZI.out
          have hs' : CxStored A es done.length (W.heap.size + 1) c w5 := by rw [hdl]; exact hs
          obtain ⟨es', hnext⟩ := HSI2.out.next hk (by rw [hdl]; exact hil) hs' (by omega) (by omega)
          have HSI5 := Lib.hid hnext
          have HRes5 : Hid (RES = (Wn.allF Wn.cplxF (gs.drop (i + 1))).map fun y => (done ++ [c]) ++ y) := Lib.hid (by
            rw [HRes2.out]
            have hc' : Wn.cplxF gi = some c := hc
            rw [hc']
            simp only [List.append_assoc, List.singleton_append])
          have hsz5 : A + 2 ≤ w5.heap.size := by have := hk.size; omega
          have HDL : Hid ((done ++ [c]).length = i + 1) := Lib.hid (by rw [List.length_append, hdl]; rfl)
          clear hc hk hs hs' hnext hdl hzi QW HSI2 HIB HU HZI
          go_wp2_with fail
          exact ⟨⟨i + 1, es', done ++ [c], by omega, HDL.out, by go_num, hsz5, HSI5, HRes5⟩, by simp [intOf]; omega⟩
        · have HEr : Hid (RES = none) := Lib.hid (by rw [HRes2.out]; have hc' : Wn.cplxF gi = none := hc; rw [hc'])
          exact ⟨rfl, .inr ⟨HEr.out, rfl, HSI2.out.below.trans (hk.below HSI2.out.below.size (by rintro b rfl; exact HSI2.out.lo))⟩⟩
      · have hin : i = gs.length := by omega
        have k0 := cell_of_block (o := 0) HSI.out.list
        simp only [List.getElem?_toArray, List.getElem?_cons_zero] at k0
        have HEr : Hid (RES = some done) := Lib.hid (by rw [HRes.out, List.drop_of_length_le (by omega)]; simp [Wn.allF])
        have hP : cxK.P wr (fun b => w.heap.size ≤ b) (.slice (some ⟨A, 0, none⟩) gs.length gs.length) done := by
          have hrow := HSI.out.row
          rw [HDI.out, hin, Nat.sub_self, List.replicate_zero, List.append_nil] at hrow
          have hdl := HDI.out
          rw [show gs.length = done.length by omega]
          refine RK.P.ofCells (es := es) (hrow.mono (fun b hb _ => by have := HSI.out.lo; omega)) (Nat.le_refl _) (by unfold maxLen; omega) HSI.out.lo HSI.out.arr.lt (fun j u hj => ?_)
          rw [cell_of_block HSI.out.arr.1, Nat.zero_add]
          simpa using hj
        have HP := Lib.hid hP
        have hi1 : ¬ (i : Int) < (gs.length : Int) := by omega
        clear hP hin
        go_wp2_with fail
        go_ret
        exact .inl ⟨done, _, HEr.out, rfl, HP.out, HSI.out.below⟩
  · have HEr : Hid (RES = none) := Lib.hid (by rw [HSF.out, if_neg h32])
    go_wp2_with fail
    refine (demand_n _ (by simp; omega)).mono ?_
    rintro e w2 ⟨rfl, rfl⟩
    exact ⟨rfl, .inr ⟨HEr.out, rfl, HB1.out⟩⟩
end Go.Proofs.YtncknaagbafhhaaGreatDoor
set_option linter.unusedVariables false
set_option linter.unusedSimpArgs false
set_option maxRecDepth 20000
namespace Go.Proofs.YtncknaagbafhhaaGreatDoor
open Go.RowKit Go.Sort
theorem run_inv (w : World) : (Instr.typeAssert (.iface 93 (.agg #[])) 20 93 true).run Tryz.prog w = .ok (.tuple #[.agg #[], .bool true]) w := by
  simp [Instr.typeAssert, run_underlying Tryz.underlying93]
theorem att_idle (p : Addr) (w : World) :
    CallsD Tryz.prog 57 #[.pointer (some p)] .returning w fun e u' w' => e = .returned (.tuple #[]) ∧ u' = .returning ∧ w' = w := by
  refine callsD_of_wpS Tryz.func57 rfl fun c₀ cs hu => ?_
  apply wpS_seq
  apply wpS_region
  simp [wpOpsS, go_sem, recoverD, hu, Tryz.ntmps57, Exit.thenS]
  rw [show (#[Value.pointer (some p)] ++ ((Array.replicate 14 undef).setIfInBounds 3 Value.nilIface).setIfInBounds 0 Value.nilIface : Array Value) = #[Value.pointer (some p), Value.nilIface, undef, undef, Value.nilIface, undef, undef, undef, undef, undef, undef, undef, undef, undef, undef] from rfl]
  refine wpS_of_wp ?_
  go_wp2_with fail
  cases c₀
  simp_all [bodyPostS, results, Tryz.results57]
theorem att_panicking (b : Nat) (w : World) (x : Value) (hp : w.cell? ⟨b, 0, none⟩ = some x) (zp : w.frozen? ⟨b, 0, none⟩ = false) (hb : b < w.heap.size) :
    CallsD Tryz.prog 57 #[.pointer (some ⟨b, 0, none⟩)] (.panicking invalidP) w fun e u' w' =>
      e = .returned (.tuple #[]) ∧ u' = .panicking [{ v := .iface 93 (.agg #[]), recovered := true }] ∧ w' = (w.setCell ⟨b, 0, none⟩ (.int .i64 40)).alloc (.cells #[] 93) := by
  unfold invalidP
  have n0 : ¬ b = w.heap.size := by omega
  refine callsD_of_wpS Tryz.func57 rfl fun c₀ cs hu => ?_
  apply wpS_seq
  apply wpS_region
  simp [wpOpsS, go_sem, recoverD, hu, Tryz.ntmps57, Exit.thenS]
  rw [show (#[Value.pointer (some ⟨b, 0, none⟩)] ++ ((Array.replicate 14 undef).setIfInBounds 3 (Value.iface 93 (Value.agg #[]))).setIfInBounds 0 (Value.iface 93 (Value.agg #[])) : Array Value) = #[Value.pointer (some ⟨b, 0, none⟩), (Value.iface 93 (Value.agg #[])), undef, undef, (Value.iface 93 (Value.agg #[])), undef, undef, undef, undef, undef, undef, undef, undef, undef, undef] from rfl]
  refine wpS_of_wp ?_
  have hta := run_inv w
  go_wp2_with fail
  simp [bodyPostS, results, Tryz.results57]
/-- what is handed to attempt: it stores, or panics, and has stored nothing -/
def CPost {α : Type} (S : Nat → Prop) (Stored : α → World → Prop) (res : Option α) (w : World) (e : Ending) (w' : World) : Prop :=
  (∃ x, res = some x ∧ e = .returned (.tuple #[]) ∧ Kp S w w' ∧ Stored x w') ∨ (res = none ∧ e = .panicked invalidP ∧ Below w.heap.size w w')
def AttPost {α : Type} (S : Nat → Prop) (Stored : α → World → Prop) (res : Option α) (w : World) (e : Ending) (w' : World) : Prop :=
  (∃ x, res = some x ∧ e = .returned (.int .i64 0) ∧ Kp S w w' ∧ Stored x w') ∨ (res = none ∧ e = .returned (.int .i64 40) ∧ Below w.heap.size w w')
set_option maxRecDepth 100000 in
set_option maxHeartbeats 1000000 in
theorem attempt_v {α : Type} (res : Option α) (K : Nat) (caps : Array Value) (S : Nat → Prop) (Stored : α → World → Prop) (w : World) (hE : Enters K) (hS : ∀ b, S b → b < w.heap.size)
    (hst : ∀ x W W', Stored x W → Only w.heap.size W W' → Stored x W') (hc : ∀ W, Below w.heap.size w W → w.heap.size < W.heap.size → Calls Tryz.prog K caps W (CPost S Stored res W)) :
    Calls Tryz.prog 33 #[.func (.func K) #[] caps] w (AttPost S Stored res w) := by
  have hmf : ∀ (fn : Fn) (first cap : Array Value) (w : World), (Instr.makeFunc fn first cap).run Tryz.prog w = .ok (.func fn first cap) w := fun _ _ _ _ => rfl
  have HB : Hid (Below w.heap.size w (w.alloc (.cells #[.int .i64 0] 27))) := Lib.hid ((Below.refl _ _).alloc (Nat.le_refl _) _)
  have HC := Lib.hid (hc _ HB.out (by simp))
  have HBX := Lib.hid (heap_alloc_new w (.cells #[.int .i64 0] 27))
  have HST := Lib.hid hst
  have HSS := Lib.hid hS
  clear hc hst hS
  go_enter_defers Tryz.func33, Tryz.ntmps33
  go_wp2_with fail
  rw [hE, Oper.upon_enter]
  generalize w.alloc (.cells #[.int .i64 0] 27) = W at *
  have hcaps : (#[] ++ caps : Array Value) = caps := by simp
  refine HC.out.mono ?_
  rintro e w1 (⟨x, hx, rfl, hk, hs⟩ | ⟨hx, rfl, hk⟩)
  · have hb1 := (hk.block w.heap.size (lt_of_block HBX.out) (fun h => by have := HSS.out _ h; omega)).trans HBX.out
    have q0 := cell_of_block (o := 0) hb1
    have z0 := frozen_blk hb1 0
    simp only [List.getElem?_toArray, List.getElem?_cons_zero] at q0
    have HK : Hid (Kp S w w1) := Lib.hid ((Below.kp HB.out).trans hk)
    have HS := Lib.hid hs
    have HX := Lib.hid hx
    clear hk hs hx hb1 HC
    go_wp2_with fail
    refine leaves_cons (f := 57) (args := #[.pointer (some ⟨w.heap.size, 0, none⟩)]) (by simp) (by simp [go_sem]) ?_
    refine (att_idle _ _).mono ?_
    rintro e u' w'' ⟨rfl, rfl, rfl⟩
    refine ⟨.int .i64 0, by simp [results, Tryz.results33, go_sem, q0], .inl ⟨x, HX.out, rfl, HK.out.setCell (p := ⟨w.heap.size, 0, none⟩) (.inr (Nat.le_refl _)) _, HST.out x _ _ HS.out ((Only.refl _ _).setCell (p := ⟨w.heap.size, 0, none⟩) rfl _)⟩⟩
  · have hb1 := block_lat hk HBX.out
    have q0 := cell_of_block (o := 0) hb1
    have z0 := frozen_blk hb1 0
    simp only [List.getElem?_toArray, List.getElem?_cons_zero] at q0
    have hl := lt_of_block hb1
    have n0 : ¬ w.heap.size = w1.heap.size := by omega
    refine leaves_cons (f := 57) (args := #[.pointer (some ⟨w.heap.size, 0, none⟩)]) (by simp) (by simp [go_sem]) ?_
    refine (att_panicking w.heap.size w1 _ q0 z0 hl).mono ?_
    rintro e u' w'' ⟨rfl, rfl, rfl⟩
    refine ⟨.int .i64 40, by simp [results, Tryz.results33, go_sem, q0, hl, n0], .inr ⟨hx, rfl, ?_⟩⟩
    exact ((HB.out.trans (hk.mono HB.out.size)).setCell (p := ⟨w.heap.size, 0, none⟩) (Nat.le_refl _) _).alloc (by simp [World.setCell]; omega) _
end Go.Proofs.YtncknaagbafhhaaGreatDoor
set_option linter.unusedVariables false
set_option linter.unusedSimpArgs false
set_option maxRecDepth 20000
namespace Go.Proofs.YtncknaagbafhhaaGreatDoor
open Go.RowKit Go.Sort
/-- block b is the list l of selectors -/
def CxsAt (b base : Nat) (l : List Wn.Cx) (w : World) : Prop := ∃ v, w.heap[b]? = some (.cells #[v] 23) ∧ cxK.P w (fun k => base ≤ k) v l
set_option maxHeartbeats 1000000 in
theorem Parse1_v (B C : Nat) (v : Value) (f : Wn.Fs) (w : World) (hB : w.heap[B]? = some (.cells #[v] 22)) (hC : w.heap[C]? = some (.cells #[.slice none 0 0] 23)) (hv : Vals w v f) (ht : Tl f) (hf : f.size ≤ 100000) :
    Calls Tryz.prog 34 #[.pointer (some ⟨B, 0, none⟩), .pointer (some ⟨C, 0, none⟩)] w (CPost (fun b => b = C) (CxsAt C w.heap.size) (Wn.selsF f) w) := by
  have QS := Lib.hid (selectorList_v v f w hv ht hf)
  have k0 := cell_of_block (o := 0) hB
  simp only [List.getElem?_toArray, List.getElem?_cons_zero] at k0
  have HC := Lib.hid hC
  have hform : ∃ ao n c, v = .slice ao n c := by obtain ⟨ao, cap, hv, _⟩ := hv.form; exact ⟨_, _, _, hv⟩
  obtain ⟨vo, vn, vc, rfl⟩ := hform
  clear hB hC hv
  go_enter Tryz.func34, Tryz.ntmps34
  go_wp2_with fail
  refine QS.out.mono ?_
  rintro e w1 (⟨l, u, hl, rfl, hp, b1⟩ | ⟨hl, rfl, b1⟩)
  · have hC1 := block_lat b1 HC.out
    have hCl := lt_of_block HC.out
    have q0 := cell_of_block (o := 0) hC1
    have z0 := frozen_blk hC1 0
    simp only [List.getElem?_toArray, List.getElem?_cons_zero] at q0
    obtain ⟨uo, uc, rfl, _, _⟩ := hp.form
    have HC1 := Lib.hid hC1
    have HL := Lib.hid hl
    have HP := Lib.hid hp
    have HB1 := Lib.hid b1
    clear hC1 hl hp b1 QS k0
    go_wp2_with fail
    have ho : Only C w1 (w1.setCell ⟨C, 0, none⟩ (.slice uo l.length uc)) := (Only.refl _ _).setCell (p := ⟨C, 0, none⟩) rfl _
    refine ⟨rfl, .tuple #[], by simp [results, Tryz.results34], .inl ⟨l, HL.out, rfl, ((Below.kp HB1.out)).trans (Only.kp ho), _, ?_, HP.out.same (fun b hb hl => ho.block b hl (by have : w.heap.size ≤ b := hb; omega)) (fun b hb _ => hb)⟩⟩
    have := HC1.out
    simp [World.setCell, Array.getElem?_modify, this]
  · exact ⟨rfl, .inr ⟨hl, rfl, b1⟩⟩
/-- what sels.Parse answers -/
def PPost (res : Option (List Wn.Cx)) (w : World) (e : Ending) (w' : World) : Prop :=
  Below w.heap.size w w' ∧ ((∃ l v, res = some l ∧ e = .returned (.tuple #[v, .int .i64 0]) ∧ cxK.P w' (fun b => w.heap.size ≤ b) v l) ∨ (res = none ∧ e = .returned (.tuple #[.slice none 0 0, .int .i64 40])))
set_option maxRecDepth 100000 in
set_option maxHeartbeats 1000000 in
theorem SParse_v (v : Value) (f : Wn.Fs) (w : World) (hv : Vals w v f) (ht : Tl f) (hf : f.size ≤ 100000) :
    Calls Tryz.prog 13 #[v] w (PPost (Wn.selsF f) w) := by
  have hform : ∃ ao n c, v = .slice ao n c := by obtain ⟨ao, cap, hv, _⟩ := hv.form; exact ⟨_, _, _, hv⟩
  obtain ⟨vo, vn, vc, rfl⟩ := hform
  have hE : Enters 34 := enters_of Tryz.func34 (by kernel_rfl) rfl
  have hz1 : (w.alloc (.cells #[.slice vo vn vc] 22)).heap.size = w.heap.size + 1 := by simp
  have hb : Below w.heap.size w ((w.alloc (.cells #[.slice vo vn vc] 22)).alloc (.cells #[.slice none 0 0] 23)) := ((Below.refl _ _).alloc (Nat.le_refl _) _).alloc (by simp) _
  have hz : ((w.alloc (.cells #[.slice vo vn vc] 22)).alloc (.cells #[.slice none 0 0] 23)).heap.size = w.heap.size + 2 := by simp
  have h1 := block_alloc (heap_alloc_new w (.cells #[.slice vo vn vc] 22)) (.cells #[.slice none 0 0] 23)
  have h2 := heap_alloc_new (w.alloc (.cells #[.slice vo vn vc] 22)) (.cells #[.slice none 0 0] 23)
  rw [hz1] at h2
  have QT := Lib.hid (fun W (hb : Below w.heap.size w W) (hz : W.heap.size = w.heap.size + 2) (h1 : W.heap[w.heap.size]? = some (.cells #[.slice vo vn vc] 22)) (h2 : W.heap[w.heap.size + 1]? = some (.cells #[.slice none 0 0] 23)) =>
    attempt_v (Wn.selsF f) 34 #[.pointer (some ⟨w.heap.size, 0, none⟩), .pointer (some ⟨w.heap.size + 1, 0, none⟩)] (fun b => b = w.heap.size + 1) (CxsAt (w.heap.size + 1) (W.heap.size + 1)) W hE (by rintro b rfl; omega)
      (fun x W1 W2 hs ho => by
        obtain ⟨u, hu, hp⟩ := hs
        exact ⟨u, (ho.block _ (lt_of_block hu) (by omega)).trans hu, hp.same (fun b hb hl => ho.block b hl (by omega)) (fun _ h _ => h)⟩)
      (fun W1 hb1 hlt1 => by
        refine (Parse1_v w.heap.size (w.heap.size + 1) (.slice vo vn vc) f W1 (block_lat hb1 h1) (block_lat hb1 h2) ((hv.below hb).below hb1) ht hf).mono fun e w' h => ?_
        rcases h with ⟨x, h1, h2, h3, u, h4, h5⟩ | h
        · exact .inl ⟨x, h1, h2, h3, u, h4, h5.mono (fun b hb _ => by omega)⟩
        · exact .inr h))
  have hmf : ∀ (fn : Fn) (first cap : Array Value) (w : World), (Instr.makeFunc fn first cap).run Tryz.prog w = .ok (.func fn first cap) w := fun _ _ _ _ => rfl
  have HB := Lib.hid hb
  have HZ := Lib.hid hz
  have H1 := Lib.hid h1
  have H2 := Lib.hid h2
  clear hb hz h1 h2 hz1 hv
  go_enter Tryz.func13, Tryz.ntmps13
  go_wp2_with fail
  generalize (w.alloc (.cells #[.slice vo vn vc] 22)).alloc (.cells #[.slice none 0 0] 23) = W at *
  refine (QT.out W HB.out HZ.out H1.out H2.out).mono ?_
  rintro e w1 (⟨l, hl, rfl, hk, u, hu, hp⟩ | ⟨hl, rfl, hk⟩)
  · have hb1 : Below w.heap.size w w1 := HB.out.trans (hk.below HB.out.size (by rintro b rfl; omega))
    have q0 := cell_of_block (o := 0) hu
    simp only [List.getElem?_toArray, List.getElem?_cons_zero] at q0
    obtain ⟨uo, uc, rfl, _, _⟩ := hp.form
    have HB1 := Lib.hid hb1
    have HL := Lib.hid hl
    have HP : Hid (cxK.P w1 (fun b => w.heap.size ≤ b) (.slice uo l.length uc) l) := Lib.hid (hp.mono (fun b hb _ => by have := HB.out.size; omega))
    clear hb1 hl hk hu hp QT
    go_wp2_with fail
    exact bodyPost_ret (v := .tuple #[.slice uo l.length uc, .int .i64 0]) (by simp [results, Tryz.results13, go_sem]) rfl ⟨HB1.out, .inl ⟨l, _, HL.out, rfl, HP.out⟩⟩
  · have hu := block_lat hk H2.out
    have q0 := cell_of_block (o := 0) hu
    simp only [List.getElem?_toArray, List.getElem?_cons_zero] at q0
    have HB1 := Lib.hid (HB.out.trans (hk.mono HB.out.size))
    have HL := Lib.hid hl
    clear hl hk hu QT
    go_wp2_with fail
    exact bodyPost_ret (v := .tuple #[.slice none 0 0, .int .i64 40]) (by simp [results, Tryz.results13, go_sem]) rfl ⟨HB1.out, .inr ⟨HL.out, rfl⟩⟩
end Go.Proofs.YtncknaagbafhhaaGreatDoor
set_option linter.unusedVariables false
set_option linter.unusedSimpArgs false
set_option maxRecDepth 20000
namespace Wn
theorem parsed_all {p : Tok → Prop} (h0 : p (0, [], 0)) {l : List Tok} {f : Fs} {n : Nat} (h : parse l n = some f) (hl : ∀ t ∈ l, p t) : f.all p := by
  obtain ⟨l', hv⟩ := parse_some h
  refine (valsL_ind (M := fun _ _ l f l' => (∀ t ∈ l, p t) → f.all p ∧ ∀ t ∈ l', p t) (fun _ _ _ => ⟨trivial, fun t ht => by cases ht⟩) (fun _ _ l _ h => ⟨trivial, fun t ht => h t (by simp [ht])⟩)
    (fun k left t l f l' _ _ _ ih h => ⟨⟨h t (by simp), trivial, (ih fun u hu => h u (by simp [hu])).1⟩, (ih fun u hu => h u (by simp [hu])).2⟩)
    (fun k left t l x l1 f l' _ _ _ _ ih1 _ ih2 h => ?_) _ _ _ _ _ _ (Nat.le_refl _) hv hl).1
  have a := ih1 fun u hu => h u (by simp [hu])
  have b := ih2 a.2
  refine ⟨⟨?_, a.1, b.1⟩, b.2⟩
  unfold blockTok
  split
  · exact h t (by simp)
  · exact h0
end Wn
namespace Go.Proofs.YtncknaagbafhhaaGreatDoor
open Go.RowKit Go.Sort
theorem read_tl {s : List UInt8} {f : Wn.Fs} (h : Wn.readF s = some f) (hs : s.length ≤ 1048576) : Tl (Wn.trimF f) :=
  Wn.trim_all (Wn.parsed_all (p := fun t => t.2.1.length ≤ 1048576) (by simp) h (fun t ht => (lex_fine hs t ht).1))
/-- Read in one word, of a text of not too many tokens -/
theorem Read_g (s : ByteArray) (w : World) (hs : s.size ≤ 1099511627776) (hll : (Wn.lex s.data.toList).length ≤ 100000) :
    Calls Tryz.prog 38 #[.string s] w fun e w' => ∃ r c, e = .returned (.tuple #[r, .int .i64 c]) ∧ Below w.heap.size w w' ∧ ((c = 20 ∧ r = .slice Option.none 0 0 ∧ Wn.readF s.data.toList = none) ∨ (c = 0 ∧ ∃ f, Wn.readF s.data.toList = some f ∧ ValsP w' (fun b => w.heap.size ≤ b) r (Wn.trimF f))) := by
  cases hp : Wn.readF s.data.toList with
  | none => exact (Read_none s w hs hll hp).mono fun e w' ⟨he, hb⟩ => ⟨_, _, he, hb, .inl ⟨rfl, rfl, rfl⟩⟩
  | some f => exact (Read_some s f w hs hll hp).mono fun e w' ⟨r, he, hv, hb⟩ => ⟨_, _, he, hb, .inr ⟨rfl, f, rfl, hv⟩⟩
set_option maxHeartbeats 1000000 in
theorem SRead_g (s : ByteArray) (w : World) (hs : s.size ≤ 1099511627776) (hll : (Wn.lex s.data.toList).length ≤ 100000) (hlt : ∀ t ∈ Wn.lex s.data.toList, t.2.1.length ≤ 1048576) :
    Calls Tryz.prog 15 #[.string s] w (PPost (Wn.selsRead s.data.toList) w) := by
  have QR := Lib.hid (Read_g s w hs hll)
  have HP : Hid (Wn.selsRead s.data.toList = match Wn.readF s.data.toList with | none => none | some f => Wn.selsF (Wn.trimF f)) := Lib.hid rfl
  go_enter Tryz.func15, Tryz.ntmps15
  go_wp2_with fail
  refine QR.out.mono ?_
  rintro e w1 ⟨r, c, rfl, b1, (⟨rfl, rfl, hr⟩ | ⟨rfl, f, hr, hv⟩)⟩
  · have HE : Hid (Wn.selsRead s.data.toList = none) := Lib.hid (by rw [HP.out, hr])
    have HB := Lib.hid b1
    clear hr b1 QR
    go_wp2_with fail
    exact bodyPost_ret (v := .tuple #[.slice none 0 0, .int .i64 40]) (by simp [results, Tryz.results15, go_sem]) rfl ⟨HB.out, .inr ⟨HE.out, rfl⟩⟩
  · have HE : Hid (Wn.selsRead s.data.toList = Wn.selsF (Wn.trimF f)) := Lib.hid (by rw [HP.out, hr])
    have hsz : (Wn.trimF f).size ≤ 100000 := by
      have h1 := Wn.parse_size hr
      have h3 := Wn.trim_size f
      omega
    have htl : Tl (Wn.trimF f) := Wn.trim_all (Wn.parsed_all (p := fun t => t.2.1.length ≤ 1048576) (by simp) hr hlt)
    have QP := Lib.hid (SParse_v r (Wn.trimF f) w1 hv.any htl hsz)
    have HB := Lib.hid b1
    obtain ⟨ro, rc, rfl, _, _⟩ := hv.form
    clear hr hv b1 QR hsz htl
    go_wp2_with fail
    refine QP.out.mono ?_
    rintro e w2 ⟨b2, (⟨l, v, h1, rfl, h2⟩ | ⟨h1, rfl⟩)⟩
    · have HB2 := Lib.hid (HB.out.trans (b2.mono HB.out.size))
      have H1 := Lib.hid h1
      have H2 : Hid (cxK.P w2 (fun b => w.heap.size ≤ b) v l) := Lib.hid (h2.mono (fun b hb _ => by have := HB.out.size; omega))
      clear b2 h1 h2 QP
      go_wp2_with fail
      exact bodyPost_ret (v := .tuple #[v, .int .i64 0]) (by simp [results, Tryz.results15, go_sem]) rfl ⟨HB2.out, .inl ⟨l, v, by rw [HE.out]; exact H1.out, rfl, H2.out⟩⟩
    · have HB2 := Lib.hid (HB.out.trans (b2.mono HB.out.size))
      have H1 := Lib.hid h1
      clear b2 h1 QP
      go_wp2_with fail
      exact bodyPost_ret (v := .tuple #[.slice none 0 0, .int .i64 40]) (by simp [results, Tryz.results15, go_sem]) rfl ⟨HB2.out, .inr ⟨by rw [HE.out]; exact H1.out, rfl⟩⟩
theorem SRead_v (s : ByteArray) (w : World) (hs : s.size ≤ 100000) :
    Calls Tryz.prog 15 #[.string s] w (PPost (Wn.selsRead s.data.toList) w) :=
  SRead_g s w (by omega) (lex_short hs) (fun t ht => (lex_fine (by simp; omega) t ht).1)
set_option maxHeartbeats 1000000 in
theorem Nth1_v (B A C : Nat) (v : Value) (f : Wn.Fs) (w : World) (hB : w.heap[B]? = some (.cells #[v] 22)) (hA : NumAt w A 0) (hC : NumAt w C 0) (hAC : A ≠ C) (hv : Vals w v f) (ht : Tl f) :
    Calls Tryz.prog 39 #[.pointer (some ⟨B, 0, none⟩), .pointer (some ⟨A, 0, none⟩), .pointer (some ⟨C, 0, none⟩)] w (CPost (fun b => b = A ∨ b = C) (Two A C) (Wn.nthF f) w) := by
  have QS := Lib.hid (nth_v v f w hv ht)
  have k0 := cell_of_block (o := 0) hB
  simp only [List.getElem?_toArray, List.getElem?_cons_zero] at k0
  have HA := Lib.hid hA
  have HC := Lib.hid hC
  have hform : ∃ ao n c, v = .slice ao n c := by obtain ⟨ao, cap, hv, _⟩ := hv.form; exact ⟨_, _, _, hv⟩
  obtain ⟨vo, vn, vc, rfl⟩ := hform
  clear hB hA hC hv
  go_enter Tryz.func39, Tryz.ntmps39
  go_wp2_with fail
  refine QS.out.mono ?_
  rintro e w1 (⟨p, hl, rfl, b1⟩ | ⟨hl, rfl, b1⟩)
  · have hA1 : NumAt w1 A 0 := block_lat b1 HA.out
    have hC1 : NumAt w1 C 0 := block_lat b1 HC.out
    have kA := hA1.cell
    have kC := hC1.cell
    have fA := frozen_blk hA1 0
    have fC := frozen_blk hC1 0
    have HA1 := Lib.hid hA1
    have HC1 := Lib.hid hC1
    have HL := Lib.hid hl
    have HB1 := Lib.hid b1
    have hn : ¬ C = A := fun e => hAC e.symm
    clear hA1 hC1 hl b1 QS k0
    go_wp2_with fail
    refine ⟨rfl, .tuple #[], by simp [results, Tryz.results39], .inl ⟨p, HL.out, rfl, ?_, (HA1.out.set).other hAC _, (HC1.out.other (a := ⟨A, 0, none⟩) hn _).set⟩⟩
    exact ((Below.kp HB1.out).setCell (p := ⟨A, 0, none⟩) (.inl (.inl rfl)) _).setCell (p := ⟨C, 0, none⟩) (.inl (.inr rfl)) _
  · exact ⟨rfl, .inr ⟨hl, rfl, b1⟩⟩
/-- what sels.Nth answers -/
def NPost (res : Option (Int × Int)) (w : World) (e : Ending) (w' : World) : Prop :=
  Below w.heap.size w w' ∧ ((∃ p, res = some p ∧ e = .returned (.tuple #[.int .i64 p.1, .int .i64 p.2, .int .i64 0])) ∨ (res = none ∧ e = .returned (.tuple #[.int .i64 0, .int .i64 0, .int .i64 40])))
/-- the boxes of Nth -/
structure Boxes3 (w W : World) (v : Value) : Prop where
  below : Below w.heap.size w W
  size : W.heap.size = w.heap.size + 3
  b0 : W.heap[w.heap.size]? = some (.cells #[v] 22)
  b1 : NumAt W (w.heap.size + 1) 0
  b2 : NumAt W (w.heap.size + 2) 0
theorem boxes3 (w : World) (v : Value) : Boxes3 w (((w.alloc (.cells #[v] 22)).alloc (.cells #[.int .i64 0] 3)).alloc (.cells #[.int .i64 0] 3)) v := by
  have s1 : (w.alloc (.cells #[v] 22)).heap.size = w.heap.size + 1 := by simp
  have s2 : ((w.alloc (.cells #[v] 22)).alloc (.cells #[.int .i64 0] 3)).heap.size = w.heap.size + 2 := by simp
  have n1 := heap_alloc_new (w.alloc (.cells #[v] 22)) (.cells #[.int .i64 0] 3)
  have n2 := heap_alloc_new ((w.alloc (.cells #[v] 22)).alloc (.cells #[.int .i64 0] 3)) (.cells #[.int .i64 0] 3)
  rw [s1] at n1
  rw [s2] at n2
  exact ⟨(((Below.refl _ _).alloc (Nat.le_refl _) _).alloc (by simp) _).alloc (by simp; omega) _, by simp, block_alloc (block_alloc (heap_alloc_new w _) _) _, block_alloc n1 _, n2⟩
set_option maxRecDepth 100000 in
set_option maxHeartbeats 1000000 in
theorem SNth_v (v : Value) (f : Wn.Fs) (w : World) (hv : Vals w v f) (ht : Tl f) :
    Calls Tryz.prog 17 #[v] w (NPost (Wn.nthF f) w) := by
  have hform : ∃ ao n c, v = .slice ao n c := by obtain ⟨ao, cap, hv, _⟩ := hv.form; exact ⟨_, _, _, hv⟩
  obtain ⟨vo, vn, vc, rfl⟩ := hform
  have hE : Enters 39 := enters_of Tryz.func39 (by kernel_rfl) rfl
  have BX := Lib.hid (boxes3 w (.slice vo vn vc))
  have QT := Lib.hid (fun W (hb : Boxes3 w W (.slice vo vn vc)) =>
    attempt_v (Wn.nthF f) 39 #[.pointer (some ⟨w.heap.size, 0, none⟩), .pointer (some ⟨w.heap.size + 1, 0, none⟩), .pointer (some ⟨w.heap.size + 2, 0, none⟩)] (fun b => b = w.heap.size + 1 ∨ b = w.heap.size + 2) (Two (w.heap.size + 1) (w.heap.size + 2)) W hE (by have := hb.size; rintro b (rfl | rfl) <;> omega)
      (fun x W1 W2 hs ho => ⟨(ho.block _ (lt_of_block hs.1) (by have := hb.size; omega)).trans hs.1, (ho.block _ (lt_of_block hs.2) (by have := hb.size; omega)).trans hs.2⟩)
      (fun W1 hb1 _ => Nth1_v w.heap.size (w.heap.size + 1) (w.heap.size + 2) (.slice vo vn vc) f W1 (block_lat hb1 hb.b0) (block_lat hb1 hb.b1) (block_lat hb1 hb.b2) (by omega) ((hv.below hb.below).below hb1) ht))
  have hmf : ∀ (fn : Fn) (first cap : Array Value) (w : World), (Instr.makeFunc fn first cap).run Tryz.prog w = .ok (.func fn first cap) w := fun _ _ _ _ => rfl
  clear hv
  go_enter Tryz.func17, Tryz.ntmps17
  go_wp2_with fail
  generalize ((w.alloc (.cells #[.slice vo vn vc] 22)).alloc (.cells #[.int .i64 0] 3)).alloc (.cells #[.int .i64 0] 3) = W at *
  refine (QT.out W BX.out).mono ?_
  rintro e w1 (⟨p, hl, rfl, hk, h1, h2⟩ | ⟨hl, rfl, hk⟩)
  · have hb1 : Below w.heap.size w w1 := BX.out.below.trans (hk.below BX.out.below.size (by rintro b (rfl | rfl) <;> omega))
    have k1 := h1.cell
    have k2 := h2.cell
    have HB1 := Lib.hid hb1
    have HL := Lib.hid hl
    clear hb1 hl hk h1 h2 QT
    go_wp2_with fail
    go_quiet (fail)
    go_wp2_with fail
    exact bodyPost_ret (v := .tuple #[.int .i64 p.1, .int .i64 p.2, .int .i64 0]) (by simp [results, Tryz.results17, go_sem]) rfl ⟨below_drewN' HB1.out _, .inl ⟨p, HL.out, rfl⟩⟩
  · have k1 := (show NumAt w1 (w.heap.size + 1) 0 from block_lat hk BX.out.b1).cell
    have k2 := (show NumAt w1 (w.heap.size + 2) 0 from block_lat hk BX.out.b2).cell
    have HB1 := Lib.hid (BX.out.below.trans (hk.mono BX.out.below.size))
    have HL := Lib.hid hl
    clear hl hk QT
    go_wp2_with fail
    go_quiet (fail)
    go_wp2_with fail
    exact bodyPost_ret (v := .tuple #[.int .i64 0, .int .i64 0, .int .i64 40]) (by simp [results, Tryz.results17, go_sem]) rfl ⟨below_drewN' HB1.out _, .inr ⟨HL.out, rfl⟩⟩
end Go.Proofs.YtncknaagbafhhaaGreatDoor
