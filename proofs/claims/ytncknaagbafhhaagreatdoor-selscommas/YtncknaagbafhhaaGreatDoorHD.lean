/- What the reader's nth answers, and sels.nth. What sels.nth answers; lower. Rows of bytes; what lower answers, and the verifier's Low. -/
import Derived.Test.YtncknaagbafhhaaGreatDoorHC
import Derived.Deep.RegionWith
import Derived.BigQuiet
import Derived.IntWalk
import Derived.Test.YtncknaagbafhhaaGreatDoorHA
import Derived.Test.YtncknaagbafhhaaGreatDoorGP
import Derived.Test.YtncknaagbafhhaaGreatDoorGL
import Derived.Lib.ConvBytes
set_option linter.unusedVariables false
set_option linter.unusedSimpArgs false
set_option maxRecDepth 20000
namespace Go.Proofs.YtncknaagbafhhaaGreatDoor
open Go.RowKit Go.Sort
def PairPost (g n : Nat) (pl : Bool) (res : Option ((Int × Int) × Wn.Fs)) (w : World) (e : Ending) (w' : World) : Prop :=
  (∃ p r, res = some (p, r) ∧ e = .returned (.tuple #[.int .i64 p.1, .int .i64 p.2]) ∧ Rd w' g n pl r ∧ Only g w w') ∨ (res = none ∧ e = .panicked invalidP ∧ Only g w w')
theorem tokF_tl {f : Wn.Fs} {kind : Int} {t : Wn.Tok} {r : Wn.Fs} (h : Wn.tokF kind f = some (t, r)) (ht : Tl f) : t.2.1.length ≤ 1048576 ∧ Tl r := by
  cases f with
  | nil => cases h
  | cons k t' x r' =>
    simp only [Wn.tokF] at h
    split at h
    · simp only [Option.some.injEq, Prod.mk.injEq] at h; obtain ⟨rfl, rfl⟩ := h; exact ⟨ht.cons.1, ht.cons.2.2⟩
    · cases h
set_option maxRecDepth 100000 in
set_option maxHeartbeats 2000000 in
theorem rnth_v (g n : Nat) (pl : Bool) (f : Wn.Fs) (w : World) (h : Rd w g n pl f) :
    Calls Tryz.prog 73 #[.pointer (some ⟨g, 0, none⟩)] w (PairPost g n pl (Wn.nthR f) w) := by
  have QT := Lib.hid (token_v g n pl f 5 w h)
  have HTL := Lib.hid h.tl
  have hgl := h.lt
  clear h
  go_enter Tryz.func73, Tryz.ntmps73
  go_wp2_with fail
  refine QT.out.mono ?_
  rintro e w1 (⟨t, r, hf, rfl, hr, ho⟩ | ⟨hf, rfl, hr, ho⟩)
  · have hlen := (tokF_tl hf HTL.out).1
    have HP : Hid (Wn.nthR f = Wn.nthT t r) := Lib.hid (by unfold Wn.nthR; rw [hf])
    have HTT : Hid (Wn.nthT t r = if t.2.1.isEmpty then some ((0, t.2.2), r) else if (t.2.1 == [110]) then (Wn.plusR r).map fun p => ((t.2.2, p.1), p.2) else (Wn.nthC t.2.1).map fun n => ((t.2.2, -n), r)) := Lib.hid (by unfold Wn.nthT; simp)
    have hB1 : Below w1.heap.size w1 (w1.alloc (.cells #[.int .i64 t.1, .string (Wn.str t.2.1), .int .i64 t.2.2] 78)) := (Below.refl _ _).alloc (Nat.le_refl _) _
    have hbx := heap_alloc_new w1 (.cells #[.int .i64 t.1, .string (Wn.str t.2.1), .int .i64 t.2.2] 78)
    have c1 := cell_of_block (o := 1) hbx
    have c2 := cell_of_block (o := 2) hbx
    simp only [List.getElem?_toArray, List.getElem?_cons_zero, List.getElem?_cons_succ] at c1 c2
    have HO := Lib.hid (ho.trans (Below.only hB1))
    have HR := Lib.hid (hr.below hB1)
    have hgw : g < w1.heap.size := hr.lt
    have hx := str_list t.2.1
    have hlen2 : t.2.1.length ≤ maxLen := by unfold maxLen; omega
    have QC := Lib.hid (fun w => CutPrefix_v t.2.1 w hlen2)
    have HSL := Lib.hid (Wn.str_size t.2.1)
    clear hf hr ho QT hB1 hbx hlen2
    generalize ht2 : t.2.2 = tn at *
    generalize ht1 : t.1 = tk at *
    generalize htl : t.2.1 = tl at *
    generalize hxs : Wn.str tl = x at *
    have HXS := Lib.hid hxs
    clear ht2 ht1 htl hxs
    subst hx
    cases h0 : x.toList.isEmpty
    · cases h1 : (x.toList == [110])
      · have HT2 : Hid (Wn.nthR f = (Wn.nthC x.toList).map fun n => ((tn, -n), r)) := Lib.hid (by rw [HP.out, HTT.out, h0, h1]; rfl)
        go_wp2_with fail
        generalize hg1 : w1.heap.size = n1 at *
        generalize hW : w1.alloc (.cells #[.int .i64 tk, .string x, .int .i64 tn] 78) = W at *
        clear hW hg1
        refine (QC.out _).mono ?_
        rintro e w2 (⟨l, hl, rfl, rfl⟩ | ⟨hl, rfl, rfl⟩)
        · have HL : Hid (Wn.nthC x.toList = Wn.num4 l) := Lib.hid (by unfold Wn.nthC; rw [hl])
          obtain ⟨hd, _⟩ := cutN_drop hl
          have hll : l.length ≤ maxLen := by rw [← hd, List.length_drop]; unfold maxLen; omega
          have QN := Lib.hid (fun w => number_v l w hll)
          clear hl hd hll QC
          go_wp2_with fail
          refine (demand_t _).mono ?_
          rintro e w3 ⟨rfl, rfl⟩
          go_wp2_with fail
          cases hn : Wn.num4 l with
          | none =>
            have HE : Hid (Wn.nthR f = none) := Lib.hid (by rw [HT2.out, HL.out, hn]; rfl)
            have QN2 : Hid (∀ w, Calls Tryz.prog 119 #[.string (Wn.str l)] w fun e w' => e = .panicked invalidP ∧ w = w') := Lib.hid (fun w => (QN.out w).mono fun e w' h => by rw [hn] at h; rcases h with ⟨_, h, _⟩ | ⟨_, h1, h2⟩; cases h; exact ⟨h1, h2⟩)
            clear hn QN
            refine wp_region_any (by kernel_rfl) ?_
            try (change wpAny _ _ _ _ _ _ _ (World.drew _))
            (refine wpAny_ready (rs := [0, 2]) (by kernel_rfl) (by simp) ?_); (refine AllReady.cons rfl (fun K hK => ?_) (AllReady.cons rfl (fun K hK => ?_) AllReady.nil))
            · (go_simp; (refine hK _ _ ?_); clear hK K)
              (refine wpAny_ready (rs := [1, 2]) (by kernel_rfl) (by simp) ?_); (refine AllReady.cons rfl (fun K hK => ?_) (AllReady.cons rfl (fun K hK => ?_) AllReady.nil))
              · (go_simp; (refine hK _ _ ?_); clear hK K)
                (refine wpAny_ready (rs := [2]) (by kernel_rfl) (by simp) ?_); (refine AllReady.cons rfl (fun K hK => ?_) AllReady.nil)
                (go_simp; (refine hK _ _ ?_); clear hK K)
                (refine wpAny_ready (rs := [3]) (by kernel_rfl) (by simp) ?_); (refine AllReady.cons rfl (fun K hK => ?_) AllReady.nil)
                go_simp
                ((refine (QN2.out _).mono ?_); rintro e w4 ⟨rfl, rfl⟩; exact ⟨rfl, .inr ⟨HE.out, rfl, HO.out.drew⟩⟩)
              · (go_simp; (refine hK _ _ ?_); clear hK K)
                (refine wpAny_ready (rs := [1, 3]) (by kernel_rfl) (by simp) ?_); (refine AllReady.cons rfl (fun K hK => ?_) (AllReady.cons rfl (fun K hK => ?_) AllReady.nil))
                · (go_simp; (refine hK _ _ ?_); clear hK K)
                  (refine wpAny_ready (rs := [3]) (by kernel_rfl) (by simp) ?_); (refine AllReady.cons rfl (fun K hK => ?_) AllReady.nil)
                  go_simp
                  ((refine (QN2.out _).mono ?_); rintro e w4 ⟨rfl, rfl⟩; exact ⟨rfl, .inr ⟨HE.out, rfl, HO.out.drew⟩⟩)
                · go_simp
                  ((refine (QN2.out _).mono ?_); rintro e w4 ⟨rfl, rfl⟩; exact ⟨rfl, .inr ⟨HE.out, rfl, HO.out.drew⟩⟩)
            · (go_simp; (refine hK _ _ ?_); clear hK K)
              (refine wpAny_ready (rs := [0, 3]) (by kernel_rfl) (by simp) ?_); (refine AllReady.cons rfl (fun K hK => ?_) (AllReady.cons rfl (fun K hK => ?_) AllReady.nil))
              · (go_simp; (refine hK _ _ ?_); clear hK K)
                (refine wpAny_ready (rs := [1, 3]) (by kernel_rfl) (by simp) ?_); (refine AllReady.cons rfl (fun K hK => ?_) (AllReady.cons rfl (fun K hK => ?_) AllReady.nil))
                · (go_simp; (refine hK _ _ ?_); clear hK K)
                  (refine wpAny_ready (rs := [3]) (by kernel_rfl) (by simp) ?_); (refine AllReady.cons rfl (fun K hK => ?_) AllReady.nil)
                  go_simp
                  ((refine (QN2.out _).mono ?_); rintro e w4 ⟨rfl, rfl⟩; exact ⟨rfl, .inr ⟨HE.out, rfl, HO.out.drew⟩⟩)
                · go_simp
                  ((refine (QN2.out _).mono ?_); rintro e w4 ⟨rfl, rfl⟩; exact ⟨rfl, .inr ⟨HE.out, rfl, HO.out.drew⟩⟩)
              · go_simp
                ((refine (QN2.out _).mono ?_); rintro e w4 ⟨rfl, rfl⟩; exact ⟨rfl, .inr ⟨HE.out, rfl, HO.out.drew⟩⟩)
          | some k =>
            have HE : Hid (Wn.nthR f = some ((tn, -k), r)) := Lib.hid (by rw [HT2.out, HL.out, hn]; rfl)
            have QN2 : Hid (∀ w, Calls Tryz.prog 119 #[.string (Wn.str l)] w fun e w' => e = .returned (.int .i64 k) ∧ w = w') := Lib.hid (fun w => (QN.out w).mono fun e w' h => by rw [hn] at h; rcases h with ⟨_, h, _, _, h1, h2⟩ | ⟨h, _⟩; cases h; exact ⟨h1, h2⟩; cases h)
            have hk : 0 ≤ k ∧ k ≤ 9999 := by
              obtain ⟨e, w', fr, hR, _⟩ := QN.out W []
              rw [hn] at hR
              rcases hR with ⟨_, h, h1, h2, _⟩ | ⟨h, _⟩
              · cases h; exact ⟨h1, h2⟩
              · cases h
            obtain ⟨hk0, hk9⟩ := hk
            have hwr : IntKind.i64.wrap (-k) = -k := IntWalk.i64_in _ (by omega)
            clear hn QN
            go_region_with (first | (go_at_call 119; (refine (QN2.out _).mono ?_); rintro e w4 ⟨rfl, rfl⟩))
            all_goals
              go_wp2_with fail
              go_ret2
              exact .inl ⟨_, _, HE.out, rfl, HR.out.ends hgl (Kp.drew (Kp.refl _ _)), HO.out.drew⟩
        · have HE : Hid (Wn.nthR f = none) := Lib.hid (by rw [HT2.out]; unfold Wn.nthC; rw [hl]; rfl)
          clear hl QC
          go_wp2_with fail
          refine (demand_f _).mono ?_
          rintro e w3 ⟨rfl, rfl⟩
          exact ⟨rfl, .inr ⟨HE.out, rfl, HO.out⟩⟩
      · have HT2 : Hid (Wn.nthR f = (Wn.plusR r).map fun p => ((tn, p.1), p.2)) := Lib.hid (by rw [HP.out, HTT.out, h0, h1]; rfl)
        go_wp2_with fail
        have QP := Lib.hid (fun w hr => plus_v g n pl r w hr)
        have hgn : w1.heap.size ≠ g := by omega
        generalize hg1 : w1.heap.size = n1 at *
        generalize hW : w1.alloc (.cells #[.int .i64 tk, .string x, .int .i64 tn] 78) = W at *
        clear hW hg1 QC
        cases hp : Wn.plusR r with
        | none =>
          have HE : Hid (Wn.nthR f = none) := Lib.hid (by rw [HT2.out, hp]; rfl)
          have QP2 : Hid (∀ w, Rd w g n pl r → Calls Tryz.prog 117 #[.pointer (some ⟨g, 0, none⟩)] w fun e w' => e = .panicked invalidP ∧ Only g w w') := Lib.hid (fun w hr => (QP.out w hr).mono fun e w' h => by rw [hp] at h; rcases h with ⟨_, _, h, _⟩ | ⟨_, h1, h2⟩; cases h; exact ⟨h1, h2⟩)
          clear hp QP
          refine wp_region_any (by kernel_rfl) ?_
          try (change wpAny _ _ _ _ _ _ _ (World.drew _))
          (refine wpAny_ready (rs := [0, 2]) (by kernel_rfl) (by simp) ?_); (refine AllReady.cons rfl (fun K hK => ?_) (AllReady.cons rfl (fun K hK => ?_) AllReady.nil))
          · (go_simp; (refine hK _ _ ?_); clear hK K)
            (refine wpAny_ready (rs := [1, 2]) (by kernel_rfl) (by simp) ?_); (refine AllReady.cons rfl (fun K hK => ?_) (AllReady.cons rfl (fun K hK => ?_) AllReady.nil))
            · (go_simp; (refine hK _ _ ?_); clear hK K)
              (refine wpAny_ready (rs := [2]) (by kernel_rfl) (by simp) ?_); (refine AllReady.cons rfl (fun K hK => ?_) AllReady.nil)
              (go_simp; (refine hK _ _ ?_); clear hK K)
              (refine wpAny_ready (rs := [3]) (by kernel_rfl) (by simp) ?_); (refine AllReady.cons rfl (fun K hK => ?_) AllReady.nil)
              go_simp
              ((refine (QP2.out _ (HR.out.ends hgl (Kp.drew (Kp.refl _ _)))).mono ?_); rintro e w4 ⟨rfl, ho4⟩; exact ⟨rfl, .inr ⟨HE.out, rfl, HO.out.drew.trans ho4⟩⟩)
            · (go_simp; (refine hK _ _ ?_); clear hK K)
              (refine wpAny_ready (rs := [1, 3]) (by kernel_rfl) (by simp) ?_); (refine AllReady.cons rfl (fun K hK => ?_) (AllReady.cons rfl (fun K hK => ?_) AllReady.nil))
              · (go_simp; (refine hK _ _ ?_); clear hK K)
                (refine wpAny_ready (rs := [3]) (by kernel_rfl) (by simp) ?_); (refine AllReady.cons rfl (fun K hK => ?_) AllReady.nil)
                go_simp
                ((refine (QP2.out _ (HR.out.ends hgl (Kp.drew (Kp.refl _ _)))).mono ?_); rintro e w4 ⟨rfl, ho4⟩; exact ⟨rfl, .inr ⟨HE.out, rfl, HO.out.drew.trans ho4⟩⟩)
              · go_simp
                ((refine (QP2.out _ (HR.out.ends hgl (Kp.drew (Kp.refl _ _)))).mono ?_); rintro e w4 ⟨rfl, ho4⟩; exact ⟨rfl, .inr ⟨HE.out, rfl, HO.out.drew.trans ho4⟩⟩)
          · (go_simp; (refine hK _ _ ?_); clear hK K)
            (refine wpAny_ready (rs := [0, 3]) (by kernel_rfl) (by simp) ?_); (refine AllReady.cons rfl (fun K hK => ?_) (AllReady.cons rfl (fun K hK => ?_) AllReady.nil))
            · (go_simp; (refine hK _ _ ?_); clear hK K)
              (refine wpAny_ready (rs := [1, 3]) (by kernel_rfl) (by simp) ?_); (refine AllReady.cons rfl (fun K hK => ?_) (AllReady.cons rfl (fun K hK => ?_) AllReady.nil))
              · (go_simp; (refine hK _ _ ?_); clear hK K)
                (refine wpAny_ready (rs := [3]) (by kernel_rfl) (by simp) ?_); (refine AllReady.cons rfl (fun K hK => ?_) AllReady.nil)
                go_simp
                ((refine (QP2.out _ (HR.out.ends hgl (Kp.drew (Kp.refl _ _)))).mono ?_); rintro e w4 ⟨rfl, ho4⟩; exact ⟨rfl, .inr ⟨HE.out, rfl, HO.out.drew.trans ho4⟩⟩)
              · go_simp
                ((refine (QP2.out _ (HR.out.ends hgl (Kp.drew (Kp.refl _ _)))).mono ?_); rintro e w4 ⟨rfl, ho4⟩; exact ⟨rfl, .inr ⟨HE.out, rfl, HO.out.drew.trans ho4⟩⟩)
            · go_simp
              ((refine (QP2.out _ (HR.out.ends hgl (Kp.drew (Kp.refl _ _)))).mono ?_); rintro e w4 ⟨rfl, ho4⟩; exact ⟨rfl, .inr ⟨HE.out, rfl, HO.out.drew.trans ho4⟩⟩)
        | some q =>
          have HE : Hid (Wn.nthR f = some ((tn, q.1), q.2)) := Lib.hid (by rw [HT2.out, hp]; rfl)
          have QP2 : Hid (∀ w, Rd w g n pl r → Calls Tryz.prog 117 #[.pointer (some ⟨g, 0, none⟩)] w fun e w' => e = .returned (.int .i64 q.1) ∧ Rd w' g n pl q.2 ∧ Only g w w') := Lib.hid (fun w hr => (QP.out w hr).mono fun e w' h => by rw [hp] at h; rcases h with ⟨_, _, h, h1, h2, h3⟩ | ⟨h, _⟩; cases h; exact ⟨h1, h2, h3⟩; cases h)
          clear hp QP
          go_region_with (first | (go_at_call 117; (refine (QP2.out _ (by first | exact HR.out | exact HR.out.ends hgl (Kp.drew (Kp.refl _ _)))).mono ?_); rintro e w4 ⟨rfl, hr4, ho4⟩; (have k2 := ho4.cell (a := ⟨n1, 2, none⟩) hgn (u := .int .i64 tn) (by first | exact c2 | (simp; exact c2))); (have HR4 := Lib.hid hr4); (have HO4 : Hid (Only g w w4) := Lib.hid (by first | exact HO.out.trans ho4 | exact HO.out.drew.trans ho4)); clear hr4 ho4))
          all_goals
            go_wp2_with fail
            go_ret2
            exact .inl ⟨_, _, HE.out, rfl, HR4.out, HO4.out⟩
    · have HE : Hid (Wn.nthR f = some ((0, tn), r)) := Lib.hid (by rw [HP.out, HTT.out, h0]; rfl)
      go_wp2_with fail
      generalize hg1 : w1.heap.size = n1 at *
      generalize hW : w1.alloc (.cells #[.int .i64 tk, .string x, .int .i64 tn] 78) = W at *
      clear hW hg1
      go_quiet (fail)
      go_wp2_with fail
      go_ret2
      exact .inl ⟨_, _, HE.out, rfl, HR.out.ends hgl (Kp.drewN (Kp.refl _ _) _), HO.out.drewN _⟩
  · have HB1 : Hid (Below w1.heap.size w1 (w1.alloc (.cells #[.int .i64 0, .string ⟨#[]⟩, .int .i64 0] 78))) := Lib.hid ((Below.refl _ _).alloc (Nat.le_refl _) _)
    have HP : Hid (Wn.nthR f = match Wn.tokF 1 f with | none => none | some p => (Wn.nthW p.1.2.1).map fun q => (q, p.2)) := Lib.hid (by unfold Wn.nthR; rw [hf]; rfl)
    have QM := Lib.hid (name_v g n pl f _ (hr.below HB1.out))
    have HO := Lib.hid (ho.trans (Below.only HB1.out))
    clear hf hr ho QT
    go_wp2_with fail
    generalize w1.alloc (.cells #[.int .i64 0, .string ⟨#[]⟩, .int .i64 0] 78) = W at *
    refine QM.out.mono ?_
    rintro e w2 (⟨t, r, hf, rfl, hr, ho⟩ | ⟨hf, rfl, ho⟩)
    · have HP2 : Hid (Wn.nthR f = (Wn.nthW t.2.1).map fun q => (q, r)) := Lib.hid (by rw [HP.out, hf])
      have HR2 := Lib.hid hr
      have HO2 := Lib.hid (HO.out.trans ho)
      clear hf hr ho QM HO
      go_wp2_with fail
      refine (nthWord_v t.2.1 _).mono ?_
      rintro e w3 (⟨p, hp, rfl, rfl⟩ | ⟨hp, rfl, rfl⟩)
      · have HE : Hid (Wn.nthR f = some (p, r)) := Lib.hid (by rw [HP2.out, hp]; rfl)
        clear hp
        go_wp2_with fail
        go_ret2
        exact .inl ⟨_, _, HE.out, rfl, HR2.out, HO2.out⟩
      · have HE : Hid (Wn.nthR f = none) := Lib.hid (by rw [HP2.out, hp]; rfl)
        exact ⟨rfl, .inr ⟨HE.out, rfl, HO2.out⟩⟩
    · have HE : Hid (Wn.nthR f = none) := Lib.hid (by rw [HP.out, hf])
      exact ⟨rfl, .inr ⟨HE.out, rfl, HO.out.trans ho⟩⟩
end Go.Proofs.YtncknaagbafhhaaGreatDoor
set_option linter.unusedVariables false
set_option linter.unusedSimpArgs false
set_option maxRecDepth 20000
namespace Go.Proofs.YtncknaagbafhhaaGreatDoor
open Go.RowKit Go.Sort
/-- block b is one number -/
def NumAt (w : World) (b : Nat) (x : Int) : Prop := w.heap[b]? = some (.cells #[.int .i64 x] 3)
theorem NumAt.cell {w : World} {b : Nat} {x : Int} (h : NumAt w b x) : w.cell? ⟨b, 0, none⟩ = some (.int .i64 x) := cell_of_block (o := 0) h
theorem NumAt.set {w : World} {b : Nat} {x y : Int} (h : NumAt w b x) : NumAt (w.setCell ⟨b, 0, none⟩ (.int .i64 y)) b y := by unfold NumAt at *; simp [World.setCell, Array.getElem?_modify, h]
theorem NumAt.other {w : World} {b : Nat} {x : Int} {a : Addr} (h : NumAt w b x) (ha : b ≠ a.block) (v : Value) : NumAt (w.setCell a v) b x := by unfold NumAt at *; rw [Below.heap_setCell _ _ _ _ ha]; exact h
def Two (A B : Nat) (p : Int × Int) (w : World) : Prop := NumAt w A p.1 ∧ NumAt w B p.2
set_option maxHeartbeats 1000000 in
theorem nth1_v (g n A B : Nat) (f : Wn.Fs) (w : World) (a b : Int) (h : Rd w g n false f) (hA : NumAt w A a) (hB : NumAt w B b) (hAB : A ≠ B) (hAg : A ≠ g) (hBg : B ≠ g) (hn1 : n ≤ A) (hn2 : n ≤ B) :
    Calls Tryz.prog 72 #[.pointer (some ⟨g, 0, none⟩), .pointer (some ⟨A, 0, none⟩), .pointer (some ⟨B, 0, none⟩)] w (ReadPost g n (fun b => b = A ∨ b = B) (Two A B) (Wn.nthR f) w) := by
  have QN := Lib.hid (rnth_v g n false f w h)
  have HA := Lib.hid hA
  have HB := Lib.hid hB
  have hAl := lt_of_block hA
  have hBl := lt_of_block hB
  clear h hA hB
  go_enter Tryz.func72, Tryz.ntmps72
  go_wp2_with fail
  refine QN.out.mono ?_
  rintro e w1 (⟨p, r, hp, rfl, hr, ho⟩ | ⟨hp, rfl, ho⟩)
  · have hA1 : NumAt w1 A a := (ho.block A hAl hAg).trans HA.out
    have hB1 : NumAt w1 B b := (ho.block B hBl hBg).trans HB.out
    have kA := hA1.cell
    have kB := hB1.cell
    have fA := frozen_blk hA1 0
    have fB := frozen_blk hB1 0
    have HP := Lib.hid hp
    have HR := Lib.hid hr
    have HO := Lib.hid ho
    have HA1 := Lib.hid hA1
    have HB1 := Lib.hid hB1
    have hn : ¬ B = A := fun e => hAB e.symm
    clear hp hr ho hA1 hB1 QN
    go_wp2_with fail
    refine ⟨rfl, .tuple #[], by simp [results, Tryz.results72], .inl ⟨p, r, false, HP.out, rfl, ?_, ?_, ?_, ?_⟩⟩
    · have hle := HR.out.le
      exact HR.out.kp (S := fun b => b = A ∨ b = B) (((Kp.refl _ _).setCell (.inl (.inl rfl)) _).setCell (.inl (.inr rfl)) _) (by rintro (e | e); exact hAg e.symm; exact hBg e.symm) (by rintro b hb (rfl | rfl) <;> omega)
    · exact (((Only.kp HO.out).mono (fun b hb => Or.inr hb)).setCell (.inl (.inl (.inl rfl))) _).setCell (.inl (.inl (.inr rfl))) _
    · exact (HA1.out.set).other hAB _
    · exact (HB1.out.other (a := ⟨A, 0, none⟩) hn _).set
  · exact ⟨rfl, .inr ⟨hp, rfl, (Only.kp ho).mono (fun b hb => Or.inr hb)⟩⟩
def NthPost (res : Option (Int × Int)) (w : World) (e : Ending) (w' : World) : Prop :=
  (∃ p, res = some p ∧ e = .returned (.tuple #[.int .i64 p.1, .int .i64 p.2]) ∧ Below w.heap.size w w') ∨ (res = none ∧ e = .panicked invalidP ∧ Below w.heap.size w w')
set_option maxHeartbeats 1000000 in
theorem nth_v (v : Value) (f : Wn.Fs) (w : World) (hv : Vals w v f) (ht : Tl f) :
    Calls Tryz.prog 40 #[v] w (NthPost (Wn.nthF f) w) := by
  have hB : Below w.heap.size w ((w.alloc (.cells #[.int .i64 0] 3)).alloc (.cells #[.int .i64 0] 3)) := ((Below.refl _ _).alloc (Nat.le_refl _) _).alloc (by simp) _
  have hz : ((w.alloc (.cells #[.int .i64 0] 3)).alloc (.cells #[.int .i64 0] 3)).heap.size = w.heap.size + 2 := by simp
  have hA : NumAt ((w.alloc (.cells #[.int .i64 0] 3)).alloc (.cells #[.int .i64 0] 3)) w.heap.size 0 := block_alloc (heap_alloc_new w _) _
  have hA2 : NumAt ((w.alloc (.cells #[.int .i64 0] 3)).alloc (.cells #[.int .i64 0] 3)) (w.heap.size + 1) 0 := by
    have := heap_alloc_new (w.alloc (.cells #[.int .i64 0] 3)) (.cells #[.int .i64 0] 3)
    rw [show (w.alloc (.cells #[.int .i64 0] 3)).heap.size = w.heap.size + 1 by simp] at this; exact this
  have hE : Enters 72 := enters_of Tryz.func72 (by kernel_rfl) rfl
  have QW := Lib.hid (fun W (hb : Below w.heap.size w W) (hz : W.heap.size = w.heap.size + 2) (h1 : NumAt W w.heap.size 0) (h2 : NumAt W (w.heap.size + 1) 0) =>
    whole_v Wn.nthR 72 #[.pointer (some ⟨w.heap.size, 0, none⟩), .pointer (some ⟨w.heap.size + 1, 0, none⟩)] (fun b => b = w.heap.size ∨ b = w.heap.size + 1) (Two w.heap.size (w.heap.size + 1)) v f w.heap.size W
      (hv.old.below hb) ht (by omega) (by rintro b (rfl | rfl) <;> omega) hE
      (fun x W1 W2 hs ho => ⟨(ho.block _ (lt_of_block hs.1) (by omega)).trans hs.1, (ho.block _ (lt_of_block hs.2) (by omega)).trans hs.2⟩)
      (fun W1 hb1 hr1 => nth1_v W.heap.size w.heap.size w.heap.size (w.heap.size + 1) (Wn.dropB f) W1 0 0 hr1 (block_lat hb1 h1) (block_lat hb1 h2) (by omega) (by omega) (by omega) (by omega) (by omega)))
  have hmf : ∀ (fn : Fn) (first cap : Array Value) (w : World), (Instr.makeFunc fn first cap).run Tryz.prog w = .ok (.func fn first cap) w := fun _ _ _ _ => rfl
  have HB := Lib.hid hB
  have HZ := Lib.hid hz
  have HA := Lib.hid hA
  have HA2 := Lib.hid hA2
  have hform : ∃ ao n c, v = .slice ao n c := by obtain ⟨ao, cap, hv, _⟩ := hv.form; exact ⟨_, _, _, hv⟩
  obtain ⟨vo, vn, vc, rfl⟩ := hform
  clear hB hz hA hA2 hv
  go_enter Tryz.func40, Tryz.ntmps40
  go_wp2_with fail
  generalize (w.alloc (.cells #[.int .i64 0] 3)).alloc (.cells #[.int .i64 0] 3) = W at *
  refine (QW.out W HB.out HZ.out HA.out HA2.out).mono ?_
  rintro e w1 (⟨p, hp, rfl, hk, h1, h2⟩ | ⟨hp, rfl, hk⟩)
  · have hb1 : Below w.heap.size w w1 := HB.out.trans (hk.below HB.out.size (by rintro b (rfl | rfl) <;> omega))
    have k1 := h1.cell
    have k2 := h2.cell
    have HB1 := Lib.hid hb1
    have HP : Hid (Wn.nthF f = if Wn.few p.1 && Wn.few p.2 then some p else none) := Lib.hid (by unfold Wn.nthF; rw [hp])
    clear hp hk h1 h2 hb1 QW HB HZ HA HA2
    cases hf1 : Wn.few p.1
    · have HE : Hid (Wn.nthF f = none) := Lib.hid (by rw [HP.out, hf1]; rfl)
      go_wp2_with fail
      refine (inNthLimit_v _ _).mono ?_
      rintro e w2 ⟨rfl, rfl⟩
      rw [hf1]
      go_wp2_with fail
      refine (demand_f _).mono ?_
      rintro e w2 ⟨rfl, rfl⟩
      exact ⟨rfl, .inr ⟨HE.out, rfl, HB1.out⟩⟩
    · go_wp2_with fail
      refine (inNthLimit_v _ _).mono ?_
      rintro e w2 ⟨rfl, rfl⟩
      rw [hf1]
      go_wp2_with fail
      refine (inNthLimit_v _ _).mono ?_
      rintro e w2 ⟨rfl, rfl⟩
      cases hf2 : Wn.few p.2
      · have HE : Hid (Wn.nthF f = none) := Lib.hid (by rw [HP.out, hf2, Bool.and_false]; rfl)
        go_wp2_with fail
        refine (demand_f _).mono ?_
        rintro e w2 ⟨rfl, rfl⟩
        exact ⟨rfl, .inr ⟨HE.out, rfl, HB1.out⟩⟩
      · have HE : Hid (Wn.nthF f = some p) := Lib.hid (by rw [HP.out, hf1, hf2]; rfl)
        go_wp2_with fail
        refine (demand_t _).mono ?_
        rintro e w2 ⟨rfl, rfl⟩
        go_wp2_with fail
        go_quiet (fail)
        go_wp2_with fail
        go_ret2
        exact .inl ⟨p, HE.out, rfl, below_drewN' HB1.out _⟩
  · have hb1 : Below w.heap.size w w1 := HB.out.trans (hk.below HB.out.size (by rintro b (rfl | rfl) <;> omega))
    exact ⟨rfl, .inr ⟨by unfold Wn.nthF; rw [hp], rfl, hb1⟩⟩
end Go.Proofs.YtncknaagbafhhaaGreatDoor
set_option linter.unusedVariables false
set_option linter.unusedSimpArgs false
set_option maxRecDepth 20000
namespace Wn
theorem lowB_yes {c : UInt8} (h1 : 65 ≤ c.toNat) (h2 : c.toNat ≤ 90) : (lowB c).toNat = c.toNat + 32 := by
  unfold lowB; rw [if_pos ⟨h1, h2⟩, UInt8.toNat_add]; simp; omega
theorem lowB_no {c : UInt8} (h : ¬ (65 ≤ c.toNat ∧ c.toNat ≤ 90)) : lowB c = c := by unfold lowB; rw [if_neg h]
/-- the first i in small letters -/
def lowTo (i : Nat) (l : List UInt8) : List UInt8 := low (l.take i) ++ l.drop i
theorem lowTo_zero (l : List UInt8) : lowTo 0 l = l := by simp [lowTo, low]
theorem lowTo_all {i : Nat} {l : List UInt8} (h : l.length ≤ i) : lowTo i l = low l := by unfold lowTo; rw [List.take_of_length_le h, List.drop_of_length_le h, List.append_nil]
theorem lowTo_length (i : Nat) (l : List UInt8) : (lowTo i l).length = l.length := by simp [lowTo, low]; omega
theorem lowTo_at {i : Nat} {l : List UInt8} (h : i < l.length) : (lowTo i l)[i]'(by rw [lowTo_length]; exact h) = l[i] := by
  unfold lowTo; rw [List.getElem_append_right (by simp [low]; omega)]; simp [low]; congr 1; omega
theorem lowTo_succ {i : Nat} {l : List UInt8} (h : i < l.length) : lowTo (i + 1) l = (lowTo i l).set i (lowB l[i]) := by
  unfold lowTo low
  rw [List.take_succ_eq_append_getElem h, List.map_append, List.drop_eq_getElem_cons h, List.set_append_right _ _ (by simp; omega)]
  simp
  rw [show i - min i l.length = 0 by omega, List.drop_eq_getElem_cons h]; rfl
theorem lowTo_same {i : Nat} {l : List UInt8} (h : i < l.length) (hc : lowB l[i] = l[i]) : lowTo (i + 1) l = lowTo i l := by
  rw [lowTo_succ h, hc]
  apply List.ext_getElem (by simp)
  intro j h1 h2
  rw [List.getElem_set]
  split
  · rename_i e; subst e; exact (lowTo_at h).symm
  · rfl
end Wn
namespace Go.Proofs.YtncknaagbafhhaaGreatDoor
open Go.RowKit Go.Sort
/-- block n is a row of bytes, of which the first are l -/
def BAt (w : World) (n : Nat) (l : List UInt8) : Prop := ∃ cs : Array Value, w.heap[n]? = some (.cells cs 5 (cs.size, cs.size + 1)) ∧ l.length ≤ cs.size ∧ ∀ j (h : j < l.length), cs[j]? = some (.int .u8 (l[j].toNat : Int))
section
variable {w w' : World} {n : Nat} {l : List UInt8}
theorem BAt.lt (h : BAt w n l) : n < w.heap.size := by obtain ⟨cs, hb, _⟩ := h; exact lt_of_block hb
theorem BAt.cell (h : BAt w n l) {j : Nat} (hj : j < l.length) : w.cell? ⟨n, j, none⟩ = some (.int .u8 (l[j].toNat : Int)) := by
  obtain ⟨cs, hb, _, hc⟩ := h; rw [cell_of_block hb]; exact hc j hj
theorem BAt.frozen (h : BAt w n l) {j : Nat} (hj : j < l.length) : w.frozen? ⟨n, j, none⟩ = false := by
  obtain ⟨cs, hb, hl, _⟩ := h
  simp [World.frozen?, hb]; omega
theorem BAt.set (h : BAt w n l) {j : Nat} (c : UInt8) {x : Int} (hx : x = (c.toNat : Int)) : BAt (w.setCell ⟨n, j, none⟩ (.int .u8 x)) n (l.set j c) := by
  obtain ⟨cs, hb, hl, hc⟩ := h
  refine ⟨cs.setIfInBounds j (.int .u8 x), by simp [World.setCell, Array.getElem?_modify, hb], by simpa using hl, fun i hi => ?_⟩
  rw [List.length_set] at hi
  rw [Array.getElem?_setIfInBounds, List.getElem_set]
  by_cases e : j = i
  · subst e; simp [hx]; omega
  · rw [if_neg e, if_neg e]; exact hc i hi
theorem BAt.below (h : BAt w n l) (hb : Below w.heap.size w w') : BAt w' n l := by obtain ⟨cs, h1, h2⟩ := h; exact ⟨cs, block_lat hb h1, h2⟩
theorem BAt.back (h : BAt w n l) (cap N : Nat) (hN : N = l.length) : (convert 82 9 (.slice (some ⟨n, 0, none⟩) N cap)).run Tryz.prog w = .ok (.string (Wn.str l)) w := by
  subst hN
  exact run_convert_bytes_back (P := Tryz.prog) _ 82 9 5 ⟨n, 0, none⟩ cap l Tryz.underlying82 Tryz.underlying5 Tryz.underlying9 (fun j hj => by rw [addr_add, Nat.zero_add]; exact h.cell hj)
end
/-- a string's bytes in a row of their own -/
theorem bytes_of (s : List UInt8) (w : World) : ∃ C W, (convert 9 82 (.string (Wn.str s))).run Tryz.prog w = .ok (.slice (some ⟨w.heap.size, 0, none⟩) s.length C) W ∧ BAt W w.heap.size s ∧ Below w.heap.size w W ∧ s.length ≤ C := by
  refine ⟨_, _, (by rw [Lib.run_convert_string_bytes (P := Tryz.prog) w 9 82 5 (Wn.str s) Tryz.underlying9 Tryz.underlying82 Tryz.underlying5, Wn.str_size]), ?_, ?_, ?_⟩
  · refine ⟨_, Lib.bytesWorld_at_new w _ _, ?_, fun j hj => ?_⟩
    · unfold Lib.bytesCells; simp [Wn.str]
    · unfold Lib.bytesCells
      rw [Array.getElem?_append_left (by simpa [Wn.str] using hj)]
      simp [Wn.str, hj]
  · refine ⟨?_, ?_, ?_, ?_, fun k hk => Lib.bytesWorld_at_old w _ _ k hk⟩
    · simp [Lib.bytesWorld, World.freeze]; rfl
    · simp [Lib.bytesWorld, World.freeze]
    · simp [Lib.bytesWorld, World.freeze]; rfl
    · rw [Lib.bytesWorld_size]; omega
  · have := grownCap_ge w (Wn.str s).size 0 5; rw [Wn.str_size] at this; simpa [Wn.str_size] using this
set_option maxRecDepth 100000 in
set_option maxHeartbeats 1000000 in
theorem lower_v (s : List UInt8) (w : World) (hs : s.length ≤ 1048576) :
    Calls Tryz.prog 201 #[.string (Wn.str s)] w fun e w' => e = .returned (.string (Wn.str (Wn.low s))) ∧ Below w.heap.size w w' := by
  obtain ⟨C, W, hrun, hB, hW, hC⟩ := bytes_of s w
  have HB := Lib.hid hB
  have HW := Lib.hid hW
  have HLN := Lib.hid (Wn.lowTo_length (l := s))
  clear hB hW
  generalize hn : w.heap.size = n at *
  clear hn
  generalize Wn.str s = x at *
  go_enter Tryz.func201, Tryz.ntmps201
  go_wp2_with fail
  go_loopw [10] (fun v10 wr => ∃ i : Nat, i ≤ s.length ∧ v10 = .int .i64 (i : Int) ∧ Hid (BAt wr n (Wn.lowTo i s)) ∧ Hid (Below n w wr)) (fun v10 _ => s.length - (intOf v10).toNat)
  case atStart => exact ⟨0, Nat.zero_le _, rfl, Lib.hid (by rw [Wn.lowTo_zero]; exact HB.out), HW⟩
  case round =>
    clear hrun
    obtain ⟨i, hi, rfl, HBi, HWi⟩ := hrel
    by_cases hil : i < s.length
    · have hl' : i < (Wn.lowTo i s).length := by rw [HLN.out]; exact hil
      have k0 := HBi.out.cell hl'
      have f0 := HBi.out.frozen hl'
      rw [Wn.lowTo_at hil] at k0
      have hu8 := (s[i]).toNat_lt
      have hi1 : (i : Int) < (s.length : Int) := by omega
      have HSame : Hid (¬ (65 ≤ s[i].toNat ∧ s[i].toNat ≤ 90) → BAt wr n (Wn.lowTo (i + 1) s)) := Lib.hid (fun h => by rw [Wn.lowTo_same hil (Wn.lowB_no h)]; exact HBi.out)
      have HSet : Hid (65 ≤ s[i].toNat → s[i].toNat ≤ 90 → ∀ x : Int, x = (s[i].toNat : Int) + 32 → BAt (wr.setCell ⟨n, i, none⟩ (.int .u8 x)) n (Wn.lowTo (i + 1) s)) := Lib.hid (fun h1 h2 x hx => by rw [Wn.lowTo_succ hil]; exact HBi.out.set _ (by rw [Wn.lowB_yes h1 h2, hx]; rfl))
      clear hl' HBi HB
      generalize s[i].toNat = c at *
      by_cases h65 : 65 ≤ c
      · by_cases h90 : c ≤ 90
        · have h65' : (65 : Int) ≤ (c : Int) := by omega
          have h90' : (c : Int) ≤ 90 := by omega
          go_wp2_with fail
          exact ⟨⟨i + 1, by omega, by go_num, Lib.hid (HSet.out h65 h90 _ (by omega)), Lib.hid (HWi.out.setCell (p := ⟨n, i, none⟩) (Nat.le_refl _) _)⟩, by simp [intOf]; omega⟩
        · have h90' : ¬ (c : Int) ≤ 90 := by omega
          go_wp2_with fail
          exact ⟨⟨i + 1, by omega, by go_num, Lib.hid (HSame.out (fun h => h90 h.2)), HWi⟩, by simp [intOf]; omega⟩
      · have h65' : ¬ (65 : Int) ≤ (c : Int) := by omega
        go_wp2_with fail
        exact ⟨⟨i + 1, by omega, by go_num, Lib.hid (HSame.out (fun h => h65 h.1)), HWi⟩, by simp [intOf]; omega⟩
    · have hback := HBi.out.back C s.length (HLN.out i).symm
      have HE : Hid (Wn.lowTo i s = Wn.low s) := Lib.hid (Wn.lowTo_all (by omega))
      have hi1 : ¬ (i : Int) < (s.length : Int) := by omega
      go_wp2_with fail
      go_ret
      rw [← HE.out]
      exact ⟨rfl, HWi.out⟩
end Go.Proofs.YtncknaagbafhhaaGreatDoor
