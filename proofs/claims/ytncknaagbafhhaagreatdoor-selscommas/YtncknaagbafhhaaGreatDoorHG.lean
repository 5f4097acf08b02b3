/- What the reader's compound answers. What the reader's pseudoElement and combinator answer. What the reader's complexSelector answers. What the reader's complexSelector answers: the walk. -/
import Derived.Test.YtncknaagbafhhaaGreatDoorHF
set_option linter.unusedVariables false
set_option linter.unusedSimpArgs false
set_option maxRecDepth 20000
namespace Wn
theorem comp_none {n : Nat} {first : Bool} {f : Fs} (h : simpR first f = none) : compR n first f = none := by rw [compR, h]
theorem comp_end {n : Nat} {first : Bool} {f : Fs} (h : simpR first f = some none) : compR n first f = some ([], f) := by rw [compR, h]
theorem comp_zero {first : Bool} {f : Fs} {p : Sm × Fs} (h : simpR first f = some (some p)) : compR 0 first f = none := by rw [compR, h]
theorem comp_more {n : Nat} {first : Bool} {f : Fs} {p : Sm × Fs} (h : simpR first f = some (some p)) : compR (n + 1) first f = (compR n false p.2).map fun q => (p.1 :: q.1, q.2) := by rw [compR, h]
end Wn
namespace Go.Proofs.YtncknaagbafhhaaGreatDoor
open Go.RowKit Go.Sort
def ListPost {α : Type} (K : RK α) (g n : Nat) (pl : Bool) (res : Option (List α × Wn.Fs)) (w : World) (e : Ending) (w' : World) : Prop :=
  (∃ l r v, res = some (l, r) ∧ e = .returned v ∧ K.P w' (fun b => w.heap.size ≤ b) v l ∧ Rd w' g n pl r ∧ Only g w w') ∨ (res = none ∧ e = .panicked invalidP ∧ Only g w w')
theorem own_shape {w : World} {base : Nat} {e : TypeId} {size : Nat} {v : Value} {n : Nat} {xs : List Value} (h : w.ownsRow base e size v n xs) : ∃ ao cap, v = .slice ao n cap ∧ n ≤ cap ∧ cap ≤ maxLen := by
  rcases h.2 with ⟨hv, hn⟩ | ⟨g, cap, cur, hv, _, _, h1, h2, _⟩
  · exact ⟨none, 0, by rw [hv, hn], by omega, by unfold maxLen; omega⟩
  · exact ⟨_, cap, hv, h1, h2⟩
set_option maxRecDepth 100000 in
set_option maxHeartbeats 2000000 in
theorem compound_v (g n : Nat) (f : Wn.Fs) (w : World) (h : Rd w g n false f) :
    Calls Tryz.prog 100 #[.pointer (some ⟨g, 0, none⟩)] w (ListPost smK g n false (Wn.compR 8 true f) w) := by
  have hgl := h.lt
  generalize hres : Wn.compR 8 true f = RES
  have HRes : Hid (RES = (Wn.compR (8 - ([] : List Wn.Sm).length) ([] : List Wn.Sm).isEmpty f).map fun q => ([] ++ q.1, q.2)) := Lib.hid (by rw [← hres]; show _ = (Wn.compR 8 true f).map _; cases Wn.compR 8 true f with | none => rfl | some q => rfl)
  have HR0 := Lib.hid h
  clear h hres
  go_enter Tryz.func100, Tryz.ntmps100
  go_wp2_with fail
  go_loopw [3] (fun v3 wr => ∃ (es : List (List Value)) (l : List Wn.Sm) (f' : Wn.Fs), l.length ≤ 8 ∧ Hid (smK.Own w.heap.size (fun b => w.heap.size ≤ b) wr v3 es l) ∧ Hid (Rd wr g n false f') ∧ Hid (Only g w wr) ∧ Hid (RES = (Wn.compR (8 - l.length) l.isEmpty f').map fun q => (l ++ q.1, q.2))) (fun v3 _ => 9 - lenOf v3)
  case atStart => exact ⟨[], [], f, by simp, Lib.hid (RK.Own.start _ _ _ _), HR0, Lib.hid (Only.refl _ _), HRes⟩
  case round =>
    clear HRes HR0
    obtain ⟨es, l, f', hl8, HOwn, HR, HO, HRes⟩ := hrel
    have hel := HOwn.out.length
    obtain ⟨ao, cap, rfl, hc1, hc2⟩ := own_shape HOwn.out.own
    rw [hel] at hc1 ⊢
    have HOwn' : Hid (smK.Own w.heap.size (fun b => w.heap.size ≤ b) wr (.slice ao l.length cap) es l) := Lib.hid (by have := HOwn.out; rw [hel] at this; exact this)
    clear HOwn
    have HEL := Lib.hid hel
    clear hel
    have hfe : ((l.length : Int) == 0) = l.isEmpty := by cases l with | nil => rfl | cons a b => simp; omega
    have QS := Lib.hid (simple_r g n ((l.length : Int) == 0) f' wr HR.out)
    rw [hfe] at QS
    have HQS : Hid (Calls Tryz.prog 148 #[.pointer (some ⟨g, 0, none⟩), .bool ((l.length : Int) == 0)] wr (SimpPost g n false f' (Wn.simpR l.isEmpty f') wr)) := Lib.hid (by rw [hfe]; exact QS.out)
    have hsz := HO.out.size
    have hll : (l.length : Int) ≤ 8 := by omega
    unfold maxLen at hc2
    clear hfe QS
    go_wp2_with fail
    refine HQS.out.mono ?_
    rintro e w1 (⟨x, u, r, hs, rfl, hsm, hr, ho⟩ | ⟨hs, rfl, hr, ho⟩ | ⟨hs, rfl, ho⟩)
    · obtain ⟨uo, un, uc, rfl⟩ := hsm.slice
      have hs1 := ho.size
      have hob : ∀ b, (Value.slice ao l.length cap).ownBlock = some b → w.heap.size ≤ b ∧ b < wr.heap.size := fun b hb => HOwn'.out.own.lt b hb
      have hown1 : smK.Own w.heap.size (fun b => w.heap.size ≤ b) w1 (.slice ao l.length cap) es l := HOwn'.out.kp (Only.kp ho) (fun b hb e => by have := (hob b hb).1; omega) (fun b hb _ e => by omega)
      have hc : smK.R w1 (fun b => w.heap.size ≤ b ∧ (Value.slice ao l.length cap).ownBlock ≠ some b) (smCells x (.slice uo un uc)) x := ⟨_, rfl, hsm.1.same (fun _ _ _ => rfl) (fun b hb _ => ⟨by omega, fun e => by have := (hob b e).2; omega⟩)⟩
      have HB1 : Hid (Below w1.heap.size w1 (w1.alloc (.cells #[.int .i64 x.k, .string (Wn.str x.n), .string (Wn.str x.v), .int .i64 x.a, .int .i64 x.b, .slice uo un uc] 51))) := Lib.hid ((Below.refl _ _).alloc (Nat.le_refl _) _)
      have HB2 : Hid (Below w1.heap.size w1 ((w1.alloc (.cells #[.int .i64 x.k, .string (Wn.str x.n), .string (Wn.str x.v), .int .i64 x.a, .int .i64 x.b, .slice uo un uc] 51)).alloc (.cells #[.int .i64 x.k, .string (Wn.str x.n), .string (Wn.str x.v), .int .i64 x.a, .int .i64 x.b, .slice uo un uc] 51))) := Lib.hid (HB1.out.alloc (by simp) _)
      have HSrc : Hid (smK.Src ((w1.alloc (.cells #[.int .i64 x.k, .string (Wn.str x.n), .string (Wn.str x.v), .int .i64 x.a, .int .i64 x.b, .slice uo un uc] 51)).alloc (.cells #[.int .i64 x.k, .string (Wn.str x.n), .string (Wn.str x.v), .int .i64 x.a, .int .i64 x.b, .slice uo un uc] 51)) (.slice (some ⟨w1.heap.size + 1, 0, none⟩) 1 1) [smCells x (.slice uo un uc)]) := Lib.hid (RK.Src.one (by simp) hc)
      have HOW2 := Lib.hid (hown1.below HB2.out)
      have HC := Lib.hid hc
      have HOW1 := Lib.hid hown1
      have HS := Lib.hid hs
      have HR1 := Lib.hid hr
      have HO1 := Lib.hid (HO.out.trans ho)
      have hbase : w.heap.size ≤ ((w1.alloc (.cells #[.int .i64 x.k, .string (Wn.str x.n), .string (Wn.str x.v), .int .i64 x.a, .int .i64 x.b, .slice uo un uc] 51)).alloc (.cells #[.int .i64 x.k, .string (Wn.str x.n), .string (Wn.str x.v), .int .i64 x.a, .int .i64 x.b, .slice uo un uc] 51)).heap.size := by simp; omega
      have HBase := Lib.hid hbase
      have hel2 : es.length ≤ 8 := by rw [HEL.out]; exact hl8
      clear hs hsm hr ho hown1 hc hob hbase HQS HOwn'
      have hn8 : (es ++ [smCells x (.slice uo un uc)]).length = l.length + 1 := by rw [List.length_append, HEL.out]; rfl
      have HN8 := Lib.hid hn8
      clear hn8
      have HFin : Hid (∀ v8 w8, w8.ownsRow w.heap.size smK.e smK.sz v8 (es ++ [smCells x (.slice uo un uc)]).length (es ++ [smCells x (.slice uo un uc)]).flatten → ((w1.alloc (.cells #[.int .i64 x.k, .string (Wn.str x.n), .string (Wn.str x.v), .int .i64 x.a, .int .i64 x.b, .slice uo un uc] 51)).alloc (.cells #[.int .i64 x.k, .string (Wn.str x.n), .string (Wn.str x.v), .int .i64 x.a, .int .i64 x.b, .slice uo un uc] 51)).grownBy w8 (Value.slice ao l.length cap).ownBlock → (v8.ownBlock = (Value.slice ao l.length cap).ownBlock ∨ v8.ownBlock = some ((w1.alloc (.cells #[.int .i64 x.k, .string (Wn.str x.n), .string (Wn.str x.v), .int .i64 x.a, .int .i64 x.b, .slice uo un uc] 51)).alloc (.cells #[.int .i64 x.k, .string (Wn.str x.n), .string (Wn.str x.v), .int .i64 x.a, .int .i64 x.b, .slice uo un uc] 51)).heap.size) →
          smK.Own w.heap.size (fun b => w.heap.size ≤ b) w8 v8 (es ++ [smCells x (.slice uo un uc)]) (l ++ [x]) ∧ Rd w8 g n false r ∧ Only g w w8) := Lib.hid (fun v8 w8 h1 h2 h3 => by
        have hk : Kp (fun b => w.heap.size ≤ b) w1 w8 := (Below.kp HB2.out).grown h2 (fun b hb _ => (HOW1.out.own.lt b hb).1)
        exact ⟨HOW1.out.next HB2.out HC.out h1 h2 h3, HR1.out.ends hgl hk, HO1.out.ends hk⟩)
      go_wp2_with (at_builtin; refine RK.append (K := smK) rfl _ _ rfl rfl rfl HOW2.out.own HSrc.out (by simp; omega) HBase.out ?_; intro v8 w8 hown8 hgr8 hat8; obtain ⟨a8, c8, rfl, h81, h82⟩ := own_shape hown8; (have HZ8 := Lib.hid (HFin.out _ _ hown8 hgr8 hat8)); clear hown8 hgr8 hat8; rw [HN8.out] at h81 ⊢; unfold maxLen at h82)
      obtain ⟨hW8, hr8, ho8⟩ := HZ8.out
      rw [HN8.out] at hW8
      have HW8 := Lib.hid hW8
      have HR8 := Lib.hid hr8
      have HO8 := Lib.hid ho8
      clear HZ8 hW8 hr8 ho8 HFin HOW1 HOW2 HSrc HC HB1 HB2 HBase HR1 HO1
      by_cases h8 : l.length < 8
      · refine (demand_y _ (by simp; omega)).mono ?_
        rintro e w9 ⟨rfl, rfl⟩
        have HRes2 : Hid (RES = (Wn.compR (8 - (l ++ [x]).length) (l ++ [x]).isEmpty r).map fun q => ((l ++ [x]) ++ q.1, q.2)) := Lib.hid (by
          rw [HRes.out, show 8 - l.length = (8 - (l ++ [x]).length) + 1 by simp; omega, Wn.comp_more HS.out]
          have he : (l ++ [x]).isEmpty = false := by cases l <;> rfl
          rw [he]
          cases Wn.compR (8 - (l ++ [x]).length) false r with
          | none => rfl
          | some q => simp)
        go_wp2_with fail
        exact ⟨⟨_, l ++ [x], r, by simp; omega, HW8, HR8, HO8, HRes2⟩, by simp [lenOf]; omega⟩
      · refine (demand_n _ (by simp; omega)).mono ?_
        rintro e w9 ⟨rfl, rfl⟩
        exact ⟨rfl, .inr ⟨by rw [HRes.out, show 8 - l.length = 0 by omega, Wn.comp_zero HS.out]; rfl, rfl, HO8.out⟩⟩
    · have HE : Hid (RES = some (l, f')) := Lib.hid (by rw [HRes.out, Wn.comp_end hs]; simp)
      have HR1 := Lib.hid hr
      have HO1 := Lib.hid (HO.out.trans ho)
      have HP1 : Hid (smK.P w1 (fun b => w.heap.size ≤ b) (.slice ao l.length cap) l) := Lib.hid (((HOwn'.out.kp (Only.kp ho) (fun b hb e => by have := (HOwn'.out.own.lt b hb).1; omega) (fun b hb _ e => by omega))).p (fun b hb => hb))
      clear hs hr ho HQS HRes
      unfold smZ
      go_wp2_with fail
      go_ret
      exact .inl ⟨l, f', _, HE.out, rfl, HP1.out.below ((Below.refl _ _).alloc (Nat.le_refl _) _), HR1.out.below ((Below.refl _ _).alloc (Nat.le_refl _) _), HO1.out.alloc _⟩
    · exact ⟨rfl, .inr ⟨by rw [HRes.out, Wn.comp_none hs]; rfl, rfl, HO.out.trans ho⟩⟩
end Go.Proofs.YtncknaagbafhhaaGreatDoor
set_option linter.unusedVariables false
set_option linter.unusedSimpArgs false
set_option maxRecDepth 20000
namespace Wn
def pseudoT (r : Fs) : Option (List UInt8 × Fs) := match tokF 1 r with
  | none => none
  | some p => if isPseudo p.1.2.1 then some (p.1.2.1, p.2) else none
theorem pseudoR_two (f : Fs) : pseudoR f = match (signF [58] f).bind (fun r => signF [58] r) with
    | none => some ([], f)
    | some r => pseudoT r := by
  unfold pseudoR
  cases signF [58] f with
  | none => rfl
  | some r =>
    simp only [Option.bind_some]
    cases signF [58] r <;> rfl
end Wn
namespace Go.Proofs.YtncknaagbafhhaaGreatDoor
open Go.RowKit Go.Sort
set_option maxHeartbeats 1000000 in
theorem pseudoElement_v (g n : Nat) (pl : Bool) (f : Wn.Fs) (w : World) (h : Rd w g n pl f) :
    Calls Tryz.prog 101 #[.pointer (some ⟨g, 0, none⟩)] w (StrPost g n pl (Wn.pseudoR f) w) := by
  have QD := Lib.hid (delim2_v g n pl f [58] [58] w _ rfl h)
  have HP := Lib.hid (Wn.pseudoR_two f)
  clear h
  go_enter Tryz.func101, Tryz.ntmps101
  go_wp2_with fail
  refine QD.out.mono ?_
  rintro e w1 (⟨r, hs, rfl, hr, ho⟩ | ⟨hs, rfl, hr, ho⟩)
  · have HP1 : Hid (Wn.pseudoR f = Wn.pseudoT r) := Lib.hid (by rw [HP.out, hs])
    have HO := Lib.hid ho
    have QM := Lib.hid (name_v g n pl r w1 hr)
    clear hs hr ho QD HP
    go_wp2_with fail
    refine QM.out.mono ?_
    rintro e w2 (⟨t, r', hf, rfl, hr, ho⟩ | ⟨hf, rfl, ho⟩)
    · have HP2 : Hid (Wn.pseudoR f = if Wn.isPseudo t.2.1 then some (t.2.1, r') else none) := Lib.hid (by rw [HP1.out]; unfold Wn.pseudoT; rw [hf])
      have HR := Lib.hid hr
      have HO2 := Lib.hid (HO.out.trans ho)
      clear hf hr ho QM HO HP1
      go_wp2_with fail
      refine (isPseudo_v t.2.1 _).mono ?_
      rintro e w3 ⟨rfl, rfl⟩
      cases hp : Wn.isPseudo t.2.1
      · have HE : Hid (Wn.pseudoR f = none) := Lib.hid (by rw [HP2.out, hp]; rfl)
        clear hp
        go_wp2_with fail
        refine (demand_f _).mono ?_
        rintro e w3 ⟨rfl, rfl⟩
        exact ⟨rfl, .inr ⟨HE.out, rfl, HO2.out⟩⟩
      · have HE : Hid (Wn.pseudoR f = some (t.2.1, r')) := Lib.hid (by rw [HP2.out, hp]; rfl)
        clear hp
        go_wp2_with fail
        refine (demand_t _).mono ?_
        rintro e w3 ⟨rfl, rfl⟩
        go_wp2_with fail
        go_ret
        exact .inl ⟨_, _, HE.out, rfl, HR.out, HO2.out⟩
    · exact ⟨rfl, .inr ⟨by rw [HP1.out]; unfold Wn.pseudoT; rw [hf], rfl, HO.out.trans ho⟩⟩
  · have HE : Hid (Wn.pseudoR f = some ([], f)) := Lib.hid (by rw [HP.out, hs])
    have HR := Lib.hid hr
    have HO := Lib.hid ho
    clear hs hr ho QD HP
    go_wp2_with fail
    go_ret
    exact .inl ⟨_, _, HE.out, rfl, HR.out, HO.out⟩
set_option maxRecDepth 100000 in
set_option maxHeartbeats 1000000 in
theorem combinator_v (g n : Nat) (f : Wn.Fs) (w : World) (h : Rd w g n false f) :
    Calls Tryz.prog 102 #[.pointer (some ⟨g, 0, none⟩)] w (IntPost g n false (Wn.combR f) w) := by
  have QB := Lib.hid (blanks_v g n false f w h)
  have HP : Hid (Wn.combR f = if Wn.dropB f = .nil then some (0, .nil) else match Wn.combS (Wn.dropB f) with | some p => some (p.1, Wn.dropB p.2) | none => if (Wn.dropB f).len < f.len then some (1, Wn.dropB f) else none) := Lib.hid rfl
  have HDD : Hid (Wn.dropB (Wn.dropB f) = Wn.dropB f) := Lib.hid (Wn.dropB_self fun k t x r e => Wn.blank_head e)
  clear h
  go_enter Tryz.func102, Tryz.ntmps102
  go_wp2_with fail
  refine QB.out.mono ?_
  rintro e w1 ⟨rfl, hr1, ho1⟩
  have HR1 := Lib.hid hr1
  have HO1 := Lib.hid ho1
  clear hr1 ho1 QB
  generalize hd : Wn.dropB f = d at *
  generalize hap : decide (d.len < f.len) = ap at *
  have HAP := Lib.hid hap
  clear hd hap
  cases d with
  | nil =>
    have HE : Hid (Wn.combR f = some (0, .nil)) := Lib.hid (by rw [HP.out, if_pos rfl])
    go_wp2_with fail
    refine (ended_v g n false .nil w1 HR1.out).mono ?_
    rintro e w2 ⟨rfl, rfl⟩
    simp only [endB]
    go_wp2_with fail
    go_ret
    exact .inl ⟨_, _, HE.out, rfl, HR1.out, HO1.out⟩
  | cons k t x r0 =>
    have HP1 : Hid (Wn.combR f = match Wn.combS (.cons k t x r0) with | some p => some (p.1, Wn.dropB p.2) | none => if ((Wn.Fs.cons k t x r0).len < f.len) then some (1, .cons k t x r0) else none) := Lib.hid (by rw [HP.out, if_neg (by simp)])
    clear HP
    generalize hd : Wn.Fs.cons k t x r0 = d at *
    have hend : endB d = false := by rw [← hd]; rfl
    have QE := Lib.hid (ended_v g n false d w1 HR1.out)
    rw [hend] at QE
    clear hd hend
    go_wp2_with fail
    refine QE.out.mono ?_
    rintro e w2 ⟨rfl, rfl⟩
    go_wp2_with fail
    refine (delim1_v g n false d [62] w1 _ rfl HR1.out).mono ?_
    rintro e w2 (⟨r, hs, rfl, hr, ho⟩ | ⟨hs, rfl, hr, ho⟩)
    · have HE : Hid (Wn.combR f = some (2, Wn.dropB r)) := Lib.hid (by rw [HP1.out]; unfold Wn.combS; rw [hs])
      have HO2 := Lib.hid (HO1.out.trans ho)
      have QB := Lib.hid (blanks_v g n false r w2 hr)
      clear hs hr ho HP1 HO1 HR1 QE
      go_wp2_with fail
      refine QB.out.mono ?_
      rintro e w3 ⟨rfl, hr3, ho3⟩
      have HR3 := Lib.hid hr3
      have HO3 := Lib.hid (HO2.out.trans ho3)
      clear hr3 ho3 QB HO2
      go_wp2_with fail
      go_ret
      exact .inl ⟨_, _, HE.out, rfl, HR3.out, HO3.out⟩
    · have H62 := Lib.hid hs
      have HR2 := Lib.hid hr
      have HO2 := Lib.hid (HO1.out.trans ho)
      clear hs hr ho HR1 HO1 QE
      go_wp2_with fail
      refine (delim1_v g n false d [43] w2 _ rfl HR2.out).mono ?_
      rintro e w3 (⟨r, hs, rfl, hr, ho⟩ | ⟨hs, rfl, hr, ho⟩)
      · have HE : Hid (Wn.combR f = some (3, Wn.dropB r)) := Lib.hid (by rw [HP1.out]; unfold Wn.combS; rw [H62.out, hs])
        have HO3 := Lib.hid (HO2.out.trans ho)
        have QB := Lib.hid (blanks_v g n false r w3 hr)
        clear hs hr ho HP1 HO2 HR2 H62
        go_wp2_with fail
        refine QB.out.mono ?_
        rintro e w4 ⟨rfl, hr4, ho4⟩
        have HR4 := Lib.hid hr4
        have HO4 := Lib.hid (HO3.out.trans ho4)
        clear hr4 ho4 QB HO3
        go_wp2_with fail
        go_ret
        exact .inl ⟨_, _, HE.out, rfl, HR4.out, HO4.out⟩
      · have H43 := Lib.hid hs
        have HR3 := Lib.hid hr
        have HO3 := Lib.hid (HO2.out.trans ho)
        clear hs hr ho HR2 HO2
        go_wp2_with fail
        refine (delim1_v g n false d [126] w3 _ rfl HR3.out).mono ?_
        rintro e w4 (⟨r, hs, rfl, hr, ho⟩ | ⟨hs, rfl, hr, ho⟩)
        · have HE : Hid (Wn.combR f = some (4, Wn.dropB r)) := Lib.hid (by rw [HP1.out]; unfold Wn.combS; rw [H62.out, H43.out, hs])
          have HO4 := Lib.hid (HO3.out.trans ho)
          have QB := Lib.hid (blanks_v g n false r w4 hr)
          clear hs hr ho HP1 HO3 HR3 H62 H43
          go_wp2_with fail
          refine QB.out.mono ?_
          rintro e w5 ⟨rfl, hr5, ho5⟩
          have HR5 := Lib.hid hr5
          have HO5 := Lib.hid (HO4.out.trans ho5)
          clear hr5 ho5 QB HO4
          go_wp2_with fail
          go_ret
          exact .inl ⟨_, _, HE.out, rfl, HR5.out, HO5.out⟩
        · have HP2 : Hid (Wn.combR f = if d.len < f.len then some (1, d) else none) := Lib.hid (by rw [HP1.out]; unfold Wn.combS; rw [H62.out, H43.out, hs])
          have HR4 := Lib.hid hr
          have HO4 := Lib.hid (HO3.out.trans ho)
          clear hs hr ho HP1 HO3 HR3 H62 H43
          cases ap
          · have HE : Hid (Wn.combR f = none) := Lib.hid (by rw [HP2.out, if_neg (by have := HAP.out; simpa using this)])
            go_wp2_with fail
            refine (demand_f _).mono ?_
            rintro e w5 ⟨rfl, rfl⟩
            exact ⟨rfl, .inr ⟨HE.out, rfl, HO4.out⟩⟩
          · have HE : Hid (Wn.combR f = some (1, d)) := Lib.hid (by rw [HP2.out, if_pos (by have := HAP.out; simpa using this)])
            go_wp2_with fail
            refine (demand_t _).mono ?_
            rintro e w5 ⟨rfl, rfl⟩
            go_wp2_with fail
            refine (blanks_v g n false d w4 HR4.out).mono ?_
            rintro e w5 ⟨rfl, hr5, ho5⟩
            rw [HDD.out] at hr5
            have HR5 := Lib.hid hr5
            have HO5 := Lib.hid (HO4.out.trans ho5)
            clear hr5 ho5 HO4
            go_wp2_with fail
            go_ret
            exact .inl ⟨_, _, HE.out, rfl, HR5.out, HO5.out⟩
end Go.Proofs.YtncknaagbafhhaaGreatDoor
set_option linter.unusedVariables false
set_option linter.unusedSimpArgs false
set_option maxRecDepth 20000
namespace Wn
theorem cplx_part {n : Nat} {c : Int} {f : Fs} (h : partR f = none) : cplxR (n + 1) c f = none := by rw [cplxR, h]
theorem cplx_pseudo {n : Nat} {c : Int} {f : Fs} {l : List Sm} {ps : List UInt8} {r : Fs} (h : partR f = some ((l, ps), r)) (hp : ps ≠ []) : cplxR (n + 1) c f = some (([(c, l)], ps), r) := by
  rw [cplxR, h]; simp only; rw [if_pos hp]
theorem cplx_comb {n : Nat} {c : Int} {f : Fs} {l : List Sm} {r : Fs} (h : partR f = some ((l, []), r)) (hc : combR r = none) : cplxR (n + 1) c f = none := by
  rw [cplxR, h]; simp only; rw [if_neg (by simp), hc]
theorem cplx_end {n : Nat} {c : Int} {f : Fs} {l : List Sm} {r r' : Fs} (h : partR f = some ((l, []), r)) (hc : combR r = some (0, r')) : cplxR (n + 1) c f = some (([(c, l)], []), r') := by
  rw [cplxR, h]; simp only; rw [if_neg (by simp), hc]; rfl
theorem cplx_more {n : Nat} {c k : Int} {f : Fs} {l : List Sm} {r r' : Fs} (h : partR f = some ((l, []), r)) (hc : combR r = some (k, r')) (hk : k ≠ 0) : cplxR (n + 1) c f = (cplxR n k r').map fun q => (((c, l) :: q.1.1, q.1.2), q.2) := by
  rw [cplxR, h]; simp only; rw [if_neg (by simp), hc]; simp only; rw [if_neg hk]
theorem part_comp {f : Fs} (h : compR 8 true f = none) : partR f = none := by unfold partR; rw [h]
theorem part_ps {f : Fs} {l : List Sm} {r : Fs} (h : compR 8 true f = some (l, r)) (hp : pseudoR r = none) : partR f = none := by unfold partR; rw [h]; simp only; rw [hp]
theorem part_empty {f : Fs} {r r' : Fs} (h : compR 8 true f = some ([], r)) (hp : pseudoR r = some ([], r')) : partR f = none := by unfold partR; rw [h]; simp only; rw [hp]; simp
theorem part_some {f : Fs} {l : List Sm} {ps : List UInt8} {r r' : Fs} (h : compR 8 true f = some (l, r)) (hp : pseudoR r = some (ps, r')) (hne : ¬ (l = [] ∧ ps = [])) : partR f = some ((l, ps), r') := by unfold partR; rw [h]; simp only; rw [hp]; simp only; rw [if_neg hne]
end Wn
namespace Go.Proofs.YtncknaagbafhhaaGreatDoor
open Go.RowKit Go.Sort
/-- the state of complexSelector -/
structure CI (g n : Nat) (w W : World) (v : Value) (ps : List UInt8) (es : List (List Value)) (parts : List (Int × List Wn.Sm)) (f : Wn.Fs) : Prop where
  rd : Rd W g n false f
  only : Only g w W
  gl : g < w.heap.size
  res : W.heap[w.heap.size]? = some (.cells #[.slice none 0 0, .string ⟨#[]⟩] 46)
  cx : W.heap[w.heap.size + 1]? = some (.cells #[v, .string (Wn.str ps)] 46)
  own : ptK.Own (w.heap.size + 2) (fun b => w.heap.size + 2 ≤ b) W v es parts
section
variable {g n : Nat} {w W W' : World} {v v' : Value} {ps : List UInt8} {es : List (List Value)} {parts : List (Int × List Wn.Sm)} {f f' : Wn.Fs}
theorem CI.stepOnly (h : CI g n w W v ps es parts f) (ho : Only g W W') (hr : Rd W' g n false f') : CI g n w W' v ps es parts f' := by
  have hgl := h.gl
  refine ⟨hr, h.only.trans ho, hgl, (ho.block _ (lt_of_block h.res) (by omega)).trans h.res, (ho.block _ (lt_of_block h.cx) (by omega)).trans h.cx, h.own.kp (Only.kp ho) (fun b hb e => ?_) (fun b hb _ e => by omega)⟩
  have := (h.own.own.lt b hb).1; omega
theorem CI.below (h : CI g n w W v ps es parts f) (hb : Below W.heap.size W W') : CI g n w W' v ps es parts f := h.stepOnly (Below.only hb) (h.rd.below hb)
theorem CI.setPs (h : CI g n w W v ps es parts f) (qs : List UInt8) : CI g n w (W.setCell ⟨w.heap.size + 1, 1, none⟩ (.string (Wn.str qs))) v qs es parts f := by
  have hgl := h.gl
  have ho : Only (w.heap.size + 1) W (W.setCell ⟨w.heap.size + 1, 1, none⟩ (.string (Wn.str qs))) := (Only.refl _ _).setCell (p := ⟨w.heap.size + 1, 1, none⟩) rfl _
  have hle := h.rd.le
  refine ⟨h.rd.kp (Only.kp ho) (by omega) (fun b hb e => by omega), h.only.fresh (a := ⟨w.heap.size + 1, 1, none⟩) (Nat.le_succ _) _, hgl, (ho.block _ (lt_of_block h.res) (by omega)).trans h.res, ?_, h.own.kp (Only.kp ho) (fun b hb e => ?_) (fun b hb _ e => by omega)⟩
  · have := h.cx; simp [World.setCell, Array.getElem?_modify, this]
  · have := (h.own.own.lt b hb).1; omega
/-- one part more -/
theorem CI.push {W1 : World} {c : List Value} {x : Int × List Wn.Sm} (h : CI g n w W v ps es parts f) (hb : Below W.heap.size W W1) (hc : ptK.R W (fun b => w.heap.size + 2 ≤ b ∧ v.ownBlock ≠ some b) c x)
    (hown : W'.ownsRow (w.heap.size + 2) ptK.e ptK.sz v' (es ++ [c]).length (es ++ [c]).flatten) (hg : W1.grownBy W' v.ownBlock) (hat : v'.ownBlock = v.ownBlock ∨ v'.ownBlock = some W1.heap.size) :
    CI g n w (W'.setCell ⟨w.heap.size + 1, 0, none⟩ v') v' ps (es ++ [c]) (parts ++ [x]) f := by
  have hgl := h.gl
  have hle := h.rd.le
  have hk : Kp (fun b => w.heap.size + 2 ≤ b) W W' := (Below.kp hb).grown hg (fun b hb _ => (h.own.own.lt b hb).1)
  have ho : Only (w.heap.size + 1) W' (W'.setCell ⟨w.heap.size + 1, 0, none⟩ v') := (Only.refl _ _).setCell (p := ⟨w.heap.size + 1, 0, none⟩) rfl _
  have hcx : W'.heap[w.heap.size + 1]? = some (.cells #[v, .string (Wn.str ps)] 46) := (hk.block _ (lt_of_block h.cx) (by show ¬ _ ≤ _; omega)).trans h.cx
  have hres : W'.heap[w.heap.size]? = some (.cells #[.slice none 0 0, .string ⟨#[]⟩] 46) := (hk.block _ (lt_of_block h.res) (by show ¬ _ ≤ _; omega)).trans h.res
  have hown' := h.own.next hb hc hown hg hat
  refine ⟨(h.rd.kp hk (by show ¬ _ ≤ _; omega) (fun b hb => by show ¬ _ ≤ _; omega)).kp (Only.kp ho) (by omega) (fun b hb e => by omega), ?_, hgl, (ho.block _ (lt_of_block hres) (by omega)).trans hres, ?_, hown'.kp (Only.kp ho) (fun b hb e => ?_) (fun b hb _ e => by omega)⟩
  · exact (h.only.ends (hk.mono (fun b hb => by omega))).fresh (a := ⟨w.heap.size + 1, 0, none⟩) (Nat.le_succ _) _
  · simp [World.setCell, Array.getElem?_modify, hcx]
  · have := (hown'.own.lt b hb).1; omega
end
def ptCells (c : Int) (u : Value) : List Value := [.int .i64 c, u]
def cxLen (b : Nat) (w : World) : Nat := match w.cell? ⟨b, 0, none⟩ with | some (.slice _ n _) => n | _ => 0
theorem cxLen_at {w : World} {b n cap : Nat} {ao : Option Addr} {x : Value} (h : w.heap[b]? = some (.cells #[.slice ao n cap, x] 46)) : cxLen b w = n := by
  unfold cxLen; rw [cell_of_block (o := 0) h]; rfl
def CplxPost (g n : Nat) (res : Option (Wn.Cx × Wn.Fs)) (w : World) (e : Ending) (w' : World) : Prop :=
  (∃ c r v, res = some (c, r) ∧ e = .returned (.agg #[v, .string (Wn.str c.2)]) ∧ ptK.P w' (fun b => w.heap.size ≤ b) v c.1 ∧ Rd w' g n false r ∧ Only g w w') ∨ (res = none ∧ e = .panicked invalidP ∧ Only g w w')
/-- the result is stored -/
theorem CI.fin {g n : Nat} {w W : World} {v : Value} {ps : List UInt8} {es : List (List Value)} {parts : List (Int × List Wn.Sm)} {f : Wn.Fs} (h : CI g n w W v ps es parts f) {res : Option (Wn.Cx × Wn.Fs)} (hres : res = some ((parts, ps), f)) :
    CplxPost g n res w (.returned (.agg #[v, .string (Wn.str ps)])) ((W.setCell ⟨w.heap.size, 0, none⟩ v).setCell ⟨w.heap.size, 1, none⟩ (.string (Wn.str ps))) := by
  have hgl := h.gl
  have hle := h.rd.le
  have ho : Only w.heap.size W ((W.setCell ⟨w.heap.size, 0, none⟩ v).setCell ⟨w.heap.size, 1, none⟩ (.string (Wn.str ps))) := ((Only.refl _ _).setCell (p := ⟨w.heap.size, 0, none⟩) rfl _).setCell (p := ⟨w.heap.size, 1, none⟩) rfl _
  refine .inl ⟨(parts, ps), f, v, hres, rfl, ?_, h.rd.kp (Only.kp ho) (by omega) (fun b hb e => by omega), (h.only.fresh (a := ⟨w.heap.size, 0, none⟩) (Nat.le_refl _) _).fresh (a := ⟨w.heap.size, 1, none⟩) (Nat.le_refl _) _⟩
  refine RK.P.same (h.own.p (fun b hb => hb)) (fun b hb hl => ho.block b hl (by omega)) (fun b hb _ => by omega)
end Go.Proofs.YtncknaagbafhhaaGreatDoor
set_option linter.unusedVariables false
set_option linter.unusedSimpArgs false
set_option maxRecDepth 20000
namespace Go.Proofs.YtncknaagbafhhaaGreatDoor
open Go.RowKit Go.Sort
/-- what is asked of the parts so far, and what is to come -/
def Asks (RES : Option (Wn.Cx × Wn.Fs)) (parts : List (Int × List Wn.Sm)) (comb : Int) (f : Wn.Fs) : Prop := RES = (Wn.cplxR (16 - parts.length) comb f).map fun q => ((parts ++ q.1.1, q.1.2), q.2)
theorem Asks.none {RES : Option (Wn.Cx × Wn.Fs)} {parts : List (Int × List Wn.Sm)} {comb : Int} {f : Wn.Fs} (h : Asks RES parts comb f) (hp : Wn.partR f = Option.none) : RES = Option.none := by
  unfold Asks at h; rw [h]
  cases hk : 16 - parts.length with
  | zero => rfl
  | succ k => rw [Wn.cplx_part hp]; rfl
theorem Asks.full {RES : Option (Wn.Cx × Wn.Fs)} {parts : List (Int × List Wn.Sm)} {comb : Int} {f : Wn.Fs} (h : Asks RES parts comb f) (hp : 16 ≤ parts.length) : RES = Option.none := by
  unfold Asks at h; rw [h, show 16 - parts.length = 0 by omega]; rfl
theorem Asks.pseudo {RES : Option (Wn.Cx × Wn.Fs)} {parts : List (Int × List Wn.Sm)} {comb : Int} {f : Wn.Fs} (h : Asks RES parts comb f) {l : List Wn.Sm} {ps : List UInt8} {r : Wn.Fs} (hl : parts.length < 16) (hp : Wn.partR f = some ((l, ps), r)) (hne : ps ≠ []) : RES = some ((parts ++ [(comb, l)], ps), r) := by
  unfold Asks at h; rw [h, show 16 - parts.length = (15 - parts.length) + 1 by omega, Wn.cplx_pseudo hp hne]; rfl
theorem Asks.comb {RES : Option (Wn.Cx × Wn.Fs)} {parts : List (Int × List Wn.Sm)} {comb : Int} {f : Wn.Fs} (h : Asks RES parts comb f) {l : List Wn.Sm} {r : Wn.Fs} (hl : parts.length < 16) (hp : Wn.partR f = some ((l, []), r)) (hc : Wn.combR r = Option.none) : RES = Option.none := by
  unfold Asks at h; rw [h, show 16 - parts.length = (15 - parts.length) + 1 by omega, Wn.cplx_comb hp hc]; rfl
theorem Asks.ends {RES : Option (Wn.Cx × Wn.Fs)} {parts : List (Int × List Wn.Sm)} {comb : Int} {f : Wn.Fs} (h : Asks RES parts comb f) {l : List Wn.Sm} {r r' : Wn.Fs} (hl : parts.length < 16) (hp : Wn.partR f = some ((l, []), r)) (hc : Wn.combR r = some (0, r')) : RES = some ((parts ++ [(comb, l)], []), r') := by
  unfold Asks at h; rw [h, show 16 - parts.length = (15 - parts.length) + 1 by omega, Wn.cplx_end hp hc]; rfl
theorem Asks.more {RES : Option (Wn.Cx × Wn.Fs)} {parts : List (Int × List Wn.Sm)} {comb k : Int} {f : Wn.Fs} (h : Asks RES parts comb f) {l : List Wn.Sm} {r r' : Wn.Fs} (hl : parts.length < 16) (hp : Wn.partR f = some ((l, []), r)) (hc : Wn.combR r = some (k, r')) (hk : k ≠ 0) : Asks RES (parts ++ [(comb, l)]) k r' := by
  unfold Asks at *; rw [h, show 16 - parts.length = (15 - parts.length) + 1 by omega, Wn.cplx_more hp hc hk, show 16 - (parts ++ [(comb, l)]).length = 15 - parts.length by simp only [List.length_append, List.length_singleton]; omega]
  cases Wn.cplxR (15 - parts.length) k r' with
  | none => rfl
  | some q => simp
set_option maxRecDepth 100000 in
set_option maxHeartbeats 2000000 in
theorem complexSelector_v (g n : Nat) (f : Wn.Fs) (w : World) (h : Rd w g n false f) :
    Calls Tryz.prog 62 #[.pointer (some ⟨g, 0, none⟩)] w (CplxPost g n (Wn.cplxR 16 0 f) w) := by
  have hgl := h.lt
  have hz1 : (w.alloc (.cells #[.slice none 0 0, .string ⟨#[]⟩] 46)).heap.size = w.heap.size + 1 := by simp
  have hb : Below w.heap.size w ((w.alloc (.cells #[.slice none 0 0, .string ⟨#[]⟩] 46)).alloc (.cells #[.slice none 0 0, .string ⟨#[]⟩] 46)) := ((Below.refl _ _).alloc (Nat.le_refl _) _).alloc (by simp) _
  have hcx := heap_alloc_new (w.alloc (.cells #[.slice none 0 0, .string ⟨#[]⟩] 46)) (.cells #[.slice none 0 0, .string ⟨#[]⟩] 46)
  rw [hz1] at hcx
  have HCI : Hid (CI g n w ((w.alloc (.cells #[.slice none 0 0, .string ⟨#[]⟩] 46)).alloc (.cells #[.slice none 0 0, .string ⟨#[]⟩] 46)) (.slice none 0 0) [] [] [] f) := Lib.hid ⟨h.below hb, Below.only hb, hgl, block_alloc (heap_alloc_new w _) _, hcx, RK.Own.start _ _ _ _⟩
  generalize hres : Wn.cplxR 16 0 f = RES
  have HA : Hid (Asks RES [] 0 f) := Lib.hid (by unfold Asks; rw [← hres]; show _ = (Wn.cplxR 16 0 f).map _; cases Wn.cplxR 16 0 f with | none => rfl | some q => rfl)
  clear h hz1 hb hcx hres
  go_enter Tryz.func62, Tryz.ntmps62
  go_wp2_with fail
  generalize (w.alloc (.cells #[.slice none 0 0, .string ⟨#[]⟩] 46)).alloc (.cells #[.slice none 0 0, .string ⟨#[]⟩] 46) = W0 at *
  go_loopw [4] (fun v4 wr => ∃ (v : Value) (es : List (List Value)) (parts : List (Int × List Wn.Sm)) (f' : Wn.Fs) (comb : Int), parts.length ≤ 16 ∧ v4 = .int .i64 comb ∧ Hid (CI g n w wr v [] es parts f') ∧ Hid (Asks RES parts comb f')) (fun _ wr => 17 - cxLen (w.heap.size + 1) wr)
  case atStart => exact ⟨_, [], [], f, 0, by simp, rfl, HCI, HA⟩
  case round =>
    clear HCI HA
    obtain ⟨v, es, parts, f', comb, hp16, rfl, HCI, HA⟩ := hrel
    have QC := Lib.hid (compound_v g n f' wr HCI.out.rd)
    obtain ⟨vo, vc, hvf, hc1, hc2⟩ := own_shape HCI.out.own.own
    have hel := HCI.out.own.length
    rw [hel] at hvf hc1
    have HEL := Lib.hid hel
    subst hvf
    have HM : Hid (cxLen (w.heap.size + 1) wr = parts.length) := Lib.hid (cxLen_at HCI.out.cx)
    clear hel
    unfold maxLen at hc2
    go_wp2_with fail
    refine QC.out.mono ?_
    rintro e w1 (⟨l, r, v1, hc, rfl, hl, hr, ho⟩ | ⟨hc, rfl, ho⟩)
    · have hci1 := HCI.out.stepOnly ho hr
      obtain ⟨lo, lc, rfl, hlc1, hlc2⟩ := hl.form
      have HC := Lib.hid hc
      have hsz : w.heap.size + 2 ≤ wr.heap.size := lt_of_block HCI.out.cx
      have hob : ∀ b, (Value.slice vo parts.length vc).ownBlock = some b → w.heap.size + 2 ≤ b ∧ b < wr.heap.size := fun b hb => HCI.out.own.own.lt b hb
      have hrow : ptK.R w1 (fun b => w.heap.size + 2 ≤ b ∧ (Value.slice vo parts.length vc).ownBlock ≠ some b) (ptCells comb (.slice lo l.length lc)) (comb, l) := ⟨_, rfl, hl.mono (fun b hb _ => ⟨by omega, fun e => by have := (hob b e).2; omega⟩)⟩
      have HB1 : Hid (Below w1.heap.size w1 (w1.alloc (.cells #[.int .i64 comb, .slice lo l.length lc] 49))) := Lib.hid ((Below.refl _ _).alloc (Nat.le_refl _) _)
      have HB2 : Hid (Below w1.heap.size w1 ((w1.alloc (.cells #[.int .i64 comb, .slice lo l.length lc] 49)).alloc (.cells #[.int .i64 comb, .slice lo l.length lc] 49))) := Lib.hid (HB1.out.alloc (by simp) _)
      have HSrc : Hid (ptK.Src ((w1.alloc (.cells #[.int .i64 comb, .slice lo l.length lc] 49)).alloc (.cells #[.int .i64 comb, .slice lo l.length lc] 49)) (.slice (some ⟨w1.heap.size + 1, 0, none⟩) 1 1) [ptCells comb (.slice lo l.length lc)]) := Lib.hid (RK.Src.one (by simp) hrow)
      have HCI2 := Lib.hid (hci1.below HB2.out)
      have HCI1 := Lib.hid hci1
      have HRow := Lib.hid hrow
      have hbase : w.heap.size + 2 ≤ ((w1.alloc (.cells #[.int .i64 comb, .slice lo l.length lc] 49)).alloc (.cells #[.int .i64 comb, .slice lo l.length lc] 49)).heap.size := by have := ho.size; simp; omega
      have HBase := Lib.hid hbase
      have k0 := cell_of_block (o := 0) HCI1.out.cx
      have k1 := cell_of_block (o := 1) HCI1.out.cx
      have kf := frozen_blk HCI1.out.cx 0
      simp only [List.getElem?_toArray, List.getElem?_cons_zero, List.getElem?_cons_succ] at k0 k1
      have hel2 : es.length ≤ 16 := by rw [HEL.out]; exact hp16
      have hn8 : (es ++ [ptCells comb (.slice lo l.length lc)]).length = parts.length + 1 := by rw [List.length_append, HEL.out]; rfl
      have HN8 := Lib.hid hn8
      have hs1 := ho.size
      have hne1 : ¬ w.heap.size + 1 = w1.heap.size := by omega
      have hne2 : ¬ w.heap.size + 1 = w1.heap.size + 1 := by omega
      have hlt1 : w.heap.size + 1 < w1.heap.size := by omega
      have HFin : Hid (∀ v8 w8, w8.ownsRow (w.heap.size + 2) ptK.e ptK.sz v8 (es ++ [ptCells comb (.slice lo l.length lc)]).length (es ++ [ptCells comb (.slice lo l.length lc)]).flatten → ((w1.alloc (.cells #[.int .i64 comb, .slice lo l.length lc] 49)).alloc (.cells #[.int .i64 comb, .slice lo l.length lc] 49)).grownBy w8 (Value.slice vo parts.length vc).ownBlock → (v8.ownBlock = (Value.slice vo parts.length vc).ownBlock ∨ v8.ownBlock = some ((w1.alloc (.cells #[.int .i64 comb, .slice lo l.length lc] 49)).alloc (.cells #[.int .i64 comb, .slice lo l.length lc] 49)).heap.size) →
          CI g n w (w8.setCell ⟨w.heap.size + 1, 0, none⟩ v8) v8 [] (es ++ [ptCells comb (.slice lo l.length lc)]) (parts ++ [(comb, l)]) r ∧ w8.heap[w1.heap.size]? = some (.cells #[.int .i64 comb, .slice lo l.length lc] 49) ∧ w8.heap[w.heap.size + 1]? = some (.cells #[.slice vo parts.length vc, .string (Wn.str [])] 46)) := Lib.hid (fun v8 w8 h1 h2 h3 => by
        refine ⟨HCI1.out.push HB2.out HRow.out h1 h2 h3, ?_, ?_⟩
        · refine (h2.block _ (by simp; omega) (fun e => by have := (hob _ e.symm).2; omega)).trans ?_
          exact block_alloc (heap_alloc_new w1 _) _
        · refine (h2.block _ (by simp; omega) (fun e => by have := (hob _ e.symm).1; omega)).trans ?_
          exact block_lat HB2.out HCI1.out.cx)
      clear hc hl hr ho hci1 hob hrow hbase hn8 QC
      go_wp2_with (at_builtin; refine RK.append (K := ptK) rfl _ _ rfl rfl rfl HCI2.out.own.own HSrc.out (by simp; omega) HBase.out ?_; intro v8 w8 hown8 hgr8 hat8; obtain ⟨a8, c8, rfl, h81, h82⟩ := own_shape hown8; obtain ⟨hz8, hp8, hx8⟩ := HFin.out _ _ hown8 hgr8 hat8; (have HZ8 := Lib.hid hz8); (have HP8 := Lib.hid hp8); (have f8 := frozen_blk hx8 0); (have g8 := cell_of_block (o := 0) hx8); simp only [List.getElem?_toArray, List.getElem?_cons_zero] at g8; clear hown8 hgr8 hat8 hz8 hp8 hx8; rw [HN8.out] at h81 ⊢; unfold maxLen at h82)
      have hz := HZ8.out
      rw [HN8.out] at hz
      have hpb : (w8.setCell ⟨w.heap.size + 1, 0, none⟩ (.slice a8 (parts.length + 1) c8)).heap[w1.heap.size]? = some (.cells #[.int .i64 comb, .slice lo l.length lc] 49) := (Below.heap_setCell _ _ _ _ (by show w1.heap.size ≠ w.heap.size + 1; omega)).trans HP8.out
      have HCI8 := Lib.hid hz
      have HPB := Lib.hid hpb
      clear hz hpb HZ8 HP8 HFin HCI1 HCI2 HRow HSrc HB1 HB2 HBase f8 g8 k0 k1 kf
      generalize w8.setCell ⟨w.heap.size + 1, 0, none⟩ (.slice a8 (parts.length + 1) c8) = W9 at *
      by_cases hp : parts.length < 16
      · refine (demand_y _ (by simp; omega)).mono ?_
        rintro e w10 ⟨rfl, rfl⟩
        go_wp2_with fail
        refine (pseudoElement_v g n false r W9 HCI8.out.rd).mono ?_
        rintro e w10 (⟨ps, r', hps, rfl, hr, ho⟩ | ⟨hps, rfl, ho⟩)
        · have hci10 := HCI8.out.stepOnly ho hr
          have k0 := cell_of_block (o := 0) hci10.cx
          have k1 := cell_of_block (o := 1) hci10.cx
          have f1 := frozen_blk hci10.cx 1
          simp only [List.getElem?_toArray, List.getElem?_cons_zero, List.getElem?_cons_succ] at k0 k1
          have m0 := cell_of_block (o := 0) hci10.res
          have m1 := cell_of_block (o := 1) hci10.res
          have mf0 := frozen_blk hci10.res 0
          have mf1 := frozen_blk hci10.res 1
          simp only [List.getElem?_toArray, List.getElem?_cons_zero, List.getElem?_cons_succ] at m0 m1
          have p1 := cell_of_block (o := 1) ((ho.block w1.heap.size (lt_of_block HPB.out) (by omega)).trans HPB.out)
          simp only [List.getElem?_toArray, List.getElem?_cons_zero, List.getElem?_cons_succ] at p1
          have HC10 := Lib.hid (hci10.setPs ps)
          have HPSE := Lib.hid hps
          have hx := str_list ps
          have hnw : ¬ w.heap.size + 1 = w1.heap.size := hne1
          have hlen1 : w.heap.size + 1 < w10.heap.size := lt_of_block hci10.cx
          have hlen0 : w.heap.size < w10.heap.size := by omega
          clear hps hr ho hci10 HCI8 HPB
          generalize hxs : Wn.str ps = x at *
          have HX := Lib.hid hxs
          clear hxs
          by_cases hps0 : ps = []
          · subst hps0
            obtain rfl : x = ⟨#[]⟩ := HX.out.symm
            cases l with
            | nil =>
              have HE : Hid (RES = none) := Lib.hid (HA.out.none (Wn.part_empty HC.out HPSE.out))
              simp only [List.length_nil] at p1
              go_wp2_with fail
              refine (demand_f _).mono ?_
              rintro e w11 ⟨rfl, rfl⟩
              exact ⟨rfl, .inr ⟨HE.out, rfl, HC10.out.only⟩⟩
            | cons y l' =>
              have HPart : Hid (Wn.partR f' = some ((y :: l', []), r')) := Lib.hid (Wn.part_some HC.out HPSE.out (by simp))
              simp only [List.length_cons] at p1 hlc1
              unfold maxLen at hlc2
              go_wp2_with fail
              refine (demand_y _ (by simp)).mono ?_
              rintro e w11 ⟨rfl, rfl⟩
              clear k0 k1 f1 m0 m1 mf0 mf1 p1
              generalize w10.setCell ⟨w.heap.size + 1, 1, none⟩ (.string ⟨#[]⟩) = W10 at *
              have k1 := cell_of_block (o := 1) HC10.out.cx
              simp only [List.getElem?_toArray, List.getElem?_cons_zero, List.getElem?_cons_succ] at k1
              have k1' : W10.cell? ⟨w.heap.size + 1, 1, none⟩ = some (.string ⟨#[]⟩) := k1
              clear k1
              go_wp2_with fail
              refine (combinator_v g n r' W10 HC10.out.rd).mono ?_
              rintro e w12 (⟨k, r12, hcb, rfl, hr, ho⟩ | ⟨hcb, rfl, ho⟩)
              · have hci := HC10.out.stepOnly ho hr
                by_cases hk0 : k = 0
                · subst hk0
                  have HE := Lib.hid (HA.out.ends hp HPart.out hcb)
                  have HC12 := Lib.hid hci
                  have k0 := cell_of_block (o := 0) hci.cx
                  have k1 := cell_of_block (o := 1) hci.cx
                  simp only [List.getElem?_toArray, List.getElem?_cons_zero, List.getElem?_cons_succ] at k0 k1
                  have k1'' : w12.cell? ⟨w.heap.size + 1, 1, none⟩ = some (.string ⟨#[]⟩) := k1
                  have m0 := cell_of_block (o := 0) hci.res
                  have m1 := cell_of_block (o := 1) hci.res
                  have mf0 := frozen_blk hci.res 0
                  have mf1 := frozen_blk hci.res 1
                  simp only [List.getElem?_toArray, List.getElem?_cons_zero, List.getElem?_cons_succ] at m0 m1
                  clear hcb hr ho hci HC10 k1' k1
                  go_wp2_with fail
                  refine bodyPost_ret (v := .agg #[.slice a8 (parts.length + 1) c8, .string ⟨#[]⟩]) (by simp [results, Tryz.results62, go_sem, m0, m1]) rfl ?_
                  exact HC12.out.fin HE.out
                · have HA2 := Lib.hid (HA.out.more hp HPart.out hcb hk0)
                  have HC12 := Lib.hid hci
                  have hk0' : (k == 0) = false := by simpa using hk0
                  have HM2 : Hid (cxLen (w.heap.size + 1) w12 = parts.length + 1) := Lib.hid (cxLen_at hci.cx)
                  clear hcb hr ho hci HC10 k1' hk0
                  go_wp2_with fail
                  exact ⟨⟨_, _, _, r12, k, by simp; omega, rfl, HC12, HA2⟩, by rw [HM2.out, HM.out]; omega⟩
              · exact ⟨rfl, .inr ⟨HA.out.comb hp HPart.out hcb, rfl, HC10.out.only.trans ho⟩⟩
          · have hne1b : x.toList.isEmpty = false := by rw [hx]; cases ps with | nil => exact absurd rfl hps0 | cons => rfl
            have HPS := Lib.hid hps0
            have HPart : Hid (Wn.partR f' = some ((l, ps), r')) := Lib.hid (Wn.part_some HC.out HPSE.out (fun h => hps0 h.2))
            clear hx hps0
            cases l with
            | nil =>
              simp only [List.length_nil] at p1
              go_wp2_with fail
              refine (demand_y _ (by simp [hne1b])).mono ?_
              rintro e w11 ⟨rfl, rfl⟩
              go_wp2_with fail
              refine bodyPost_ret (v := .agg #[.slice a8 (parts.length + 1) c8, .string x]) (by simp [results, Tryz.results62, go_sem, m0, m1]) rfl ?_
              have := HC10.out.fin (HA.out.pseudo hp HPart.out HPS.out)
              rw [HX.out] at this
              exact this
            | cons y l' =>
              simp only [List.length_cons] at p1 hlc1
              unfold maxLen at hlc2
              go_wp2_with fail
              refine (demand_y _ (by simp [hne1b])).mono ?_
              rintro e w11 ⟨rfl, rfl⟩
              go_wp2_with fail
              refine bodyPost_ret (v := .agg #[.slice a8 (parts.length + 1) c8, .string x]) (by simp [results, Tryz.results62, go_sem, m0, m1]) rfl ?_
              have := HC10.out.fin (HA.out.pseudo hp HPart.out HPS.out)
              rw [HX.out] at this
              exact this
        · exact ⟨rfl, .inr ⟨HA.out.none (Wn.part_ps HC.out hps), rfl, HCI8.out.only.trans ho⟩⟩
      · refine (demand_n _ (by simp; omega)).mono ?_
        rintro e w10 ⟨rfl, rfl⟩
        exact ⟨rfl, .inr ⟨HA.out.full (by omega), rfl, HCI8.out.only⟩⟩
    · exact ⟨rfl, .inr ⟨HA.out.none (Wn.part_comp hc), rfl, HCI.out.only.trans ho⟩⟩
end Go.Proofs.YtncknaagbafhhaaGreatDoor
