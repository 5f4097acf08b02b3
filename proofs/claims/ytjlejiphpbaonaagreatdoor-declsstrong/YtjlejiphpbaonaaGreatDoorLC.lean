/- A value without the mark of important ones; a declaration. The declarations of values, as decls.Parse has them. -/
import Derived.Test.YtjlejiphpbaonaaGreatDoorLB
import Derived.Test.YtjlejiphpbaonaaGreatDoorGX
import Derived.Test.YtjlejiphpbaonaaGreatDoorGY
set_option linter.unusedVariables false
set_option linter.unusedSimpArgs false
set_option maxRecDepth 20000
namespace Wn
theorem all_at {p : Tok → Prop} : ∀ {f : Fs} {i : Nat} {k : Int} {t : Tok} {x r : Fs}, f.all p → f.drop i = .cons k t x r → p t
  | .nil, i, _, _, _, _, _, h => by cases i <;> simp [Fs.drop] at h
  | .cons k' t' x' r', 0, _, _, _, _, ha, h => by rw [Fs.drop_zero] at h; cases h; exact ha.1
  | .cons k' t' x' r', i + 1, _, _, _, _, ha, h => all_at (f := r') (i := i) ha.2.2 (by rw [Fs.drop] at h; exact h)
theorem all_dropF {p : Tok → Prop} : ∀ {f : Fs} (i : Nat), f.all p → (f.drop i).all p
  | f, 0, h => by rw [Fs.drop_zero]; exact h
  | .nil, i + 1, _ => trivial
  | .cons k t x r, i + 1, h => by rw [Fs.drop]; exact all_dropF i h.2.2
theorem all_takeF {p : Tok → Prop} : ∀ {f : Fs} (i : Nat), f.all p → (f.take i).all p
  | .nil, i, _ => by rw [Fs.take_nil]; trivial
  | .cons k t x r, 0, _ => by rw [Fs.take_zero]; trivial
  | .cons k t x r, i + 1, h => by rw [Fs.take]; exact ⟨h.1, h.2.1, all_takeF i h.2.2⟩
theorem declF_no {k : Int} {t : Tok} (x r : Fs) (h : idv k t = false) : declF (.cons k t x r) = none := by rw [declF, if_neg (by rw [h]; decide)]
theorem declF_nil {k : Int} {t : Tok} {x r : Fs} (h : idv k t = true) (hr : trimF r = .nil) : declF (.cons k t x r) = none := by rw [declF, if_pos h, hr]
theorem declF_cons {k : Int} {t : Tok} {x r : Fs} {k2 : Int} {t2 : Tok} {x2 r2 : Fs} (h : idv k t = true) (hr : trimF r = .cons k2 t2 x2 r2) : declF (.cons k t x r) = if signV [58] k2 t2 then valueF t.2.1 (trimF r2) else none := by rw [declF, if_pos h, hr]
theorem cutF_size (g : Fs) : (cutF g).1.size ≤ g.size := by
  unfold cutF
  split
  · have h1 := trim_size (initF (trimF (initF g)))
    have h2 := Fs.size_take (trimF (initF g)) ((trimF (initF g)).len - 1)
    have h3 := trim_size (initF g)
    have h4 := Fs.size_take g (g.len - 1)
    unfold initF at *
    dsimp only
    omega
  · exact Nat.le_refl _
end Wn
namespace Go.Proofs.YtjlejiphpbaonaaGreatDoor
open Go.RowKit Go.Sort
set_option maxRecDepth 100000 in
set_option maxHeartbeats 2000000 in
theorem cutD_v (ok : Nat → Prop) (v : Value) (f : Wn.Fs) (w : World) (hv : ValsP w ok v f) (hf : f.size ≤ 1000000) (hs : f.all fun t => t.2.1.length ≤ 1048576) :
    Calls Tryz.prog 59 #[v] w fun e w' => ∃ r, e = .returned (.tuple #[r, .bool (Wn.cutF f).2]) ∧ ValsP w' (fun b => ok b ∨ w.heap.size ≤ b) r (Wn.cutF f).1 ∧ Below w.heap.size w w' := by
  have HV := Lib.hid hv
  obtain ⟨ao, cap, rfl, c1, c2⟩ := hv.form
  unfold maxLen at c2
  by_cases h0 : f.len = 0
  · have e : Wn.cutF f = (f, false) := by rw [Wn.Fs.len_zero h0]; rfl
    rw [e]
    rw [h0] at HV ⊢
    clear hv hf hs e c1 h0
    go_enter Tryz.func59, Tryz.ntmps59
    go_wp2_with fail
    go_ret2
    exact ⟨_, rfl, HV.out.mono (fun _ h _ => .inl h), Below.refl _ _⟩
  obtain ⟨n, hn⟩ : ∃ n, f.len = n + 1 := ⟨f.len - 1, by omega⟩
  obtain ⟨k, t, x, hd⟩ := Wn.Fs.drop_cons (f := f) (i := n) (by omega)
  have hsl : t.2.1.length ≤ 1048576 := Wn.all_at hs hd
  have hlast : ∀ p, Wn.lastIs p f = p k t := fun p => by
    have := Wn.lastIs_at (p := p) hd
    rw [Wn.Fs.take_all f (by omega)] at this
    exact this
  have hin : Wn.initF f = f.take n := by unfold Wn.initF; rw [hn]; rfl
  have hfl : f.len ≤ 1000000 := by have := Wn.Fs.len_le_size f; omega
  obtain ⟨b, o, rfl, j0, ⟨j1, j2, j3⟩, u, j4, hu⟩ := hv.at hd
  rw [show o + n * 5 + 1 + 1 = o + n * 5 + 2 by omega] at j2
  rw [show o + n * 5 + 1 + 2 = o + n * 5 + 3 by omega] at j3
  obtain ⟨uo, uc, rfl, _, _⟩ := hu.form
  have hsub := hv.sub 0 n (by omega) (by omega)
  rw [Wn.Fs.drop_zero, Nat.sub_zero, Nat.sub_zero, Nat.zero_mul, Nat.add_zero] at hsub
  have hsz : (f.take n).size ≤ 1000000 := Nat.le_trans (Wn.Fs.size_take f n) hf
  have QT := Lib.hid (fun (W : World) (hW : Below w.heap.size w W) => Trim_any _ (f.take n) W (ValsP.below hsub hW).any hsz)
  have QN := Lib.hid (fun w => isNameD_v k t (.slice uo x.len uc) w ⟨_, _, _, rfl⟩)
  have QL := Lib.hid (fun w => lower_v t.2.1 w hsl)
  have HCF : Hid (Wn.cutF f = if (Wn.idv k t && decide (Wn.low t.2.1 = Wn.importantB)) && Wn.lastIs (Wn.signV [33]) (Wn.trimF (f.take n)) then (Wn.trimF (Wn.initF (Wn.trimF (f.take n))), true) else (f, false)) := Lib.hid (by
    unfold Wn.cutF
    rw [hlast, hin]
    rfl)
  have HA := Lib.hid (Wn.trim_all (Wn.all_takeF n hs))
  clear hv hs hd hu hsub hlast hin hsz h0
  rw [hn] at c1 HV ⊢
  generalize Wn.cutF f = C at *
  have hnv : ((n + 1 : Nat) : Int) - 1 = (n : Int) := by omega
  have hni : (n : Int) < ((n + 1 : Nat) : Int) := by omega
  have hn0 : ¬ (n : Int) < 0 := by omega
  generalize hlow : Wn.low t.2.1 = L at *
  clear hlow
  generalize Wn.str t.2.1 = y at *
  generalize Wn.idv k t = q at *
  go_enter Tryz.func59, Tryz.ntmps59
  go_wp2_with fail
  have hbl : b < w.heap.size := World.block_lt_of_cell? _ _ j0
  refine (QN.out _).mono ?_
  rintro e w1 ⟨rfl, b1⟩
  have HB1 := Lib.hid b1
  have HV1 := Lib.hid (ValsP.below HV.out b1)
  have k2 := (b1.cell (p := ⟨b, o + n * 5 + 2, none⟩) hbl).trans j2
  clear b1 j0 j1 j2 j3 j4 hbl QN HV
  cases q
  · have HE : Hid (C = (f, false)) := Lib.hid (by rw [HCF.out]; rfl)
    go_wp2_with fail
    go_ret2
    exact ⟨_, by rw [HE.out]; rfl, by rw [HE.out]; exact HV1.out.mono (fun _ h _ => .inl h), HB1.out⟩
  go_wp2_with fail
  refine (QL.out _).mono ?_
  rintro e w2 ⟨rfl, b2⟩
  have HB2 := Lib.hid (HB1.out.trans (b2.mono HB1.out.size))
  have HV2 := Lib.hid (ValsP.below HV1.out b2)
  have HL := Lib.hid (str_list L)
  clear b2 HB1 HV1 k2 QL
  generalize Wn.str L = z at *
  by_cases hl : L = Wn.importantB
  case neg =>
    have hz : (z.toList == [105, 109, 112, 111, 114, 116, 97, 110, 116]) = false := by rw [HL.out, beq_eq_false_iff_ne]; exact hl
    have HE : Hid (C = (f, false)) := Lib.hid (by rw [HCF.out, decide_eq_false hl]; rfl)
    go_wp2_with fail
    go_ret2
    exact ⟨_, by rw [HE.out]; rfl, by rw [HE.out]; exact HV2.out.mono (fun _ h _ => .inl h), HB2.out⟩
  have hz : (z.toList == [105, 109, 112, 111, 114, 116, 97, 110, 116]) = true := by rw [HL.out, beq_iff_eq]; exact hl
  have HCF2 : Hid (C = if Wn.lastIs (Wn.signV [33]) (Wn.trimF (f.take n)) then (Wn.trimF (Wn.initF (Wn.trimF (f.take n))), true) else (f, false)) := Lib.hid (by rw [HCF.out, decide_eq_true hl]; rfl)
  clear HCF hl HL
  have hgz : (Wn.trimF (f.take n)).size ≤ 1000000 := by have := Wn.trim_size (f.take n); have := Wn.Fs.size_take f n; omega
  go_wp2_with fail
  refine (QT.out _ HB2.out).mono ?_
  rintro e w3 ⟨r, rfl, hr, b3⟩
  have HB3 := Lib.hid (HB2.out.trans (b3.mono HB2.out.size))
  have HV3 := Lib.hid (ValsP.below HV2.out b3)
  have hr := hr.any
  obtain ⟨ro, rc, rfl, d1, d2⟩ := hr.form
  unfold maxLen at d2
  clear b3 HB2 HV2 QT HA
  generalize Wn.trimF (f.take n) = g at *
  by_cases hg0 : g.len = 0
  · have HE : Hid (C = (f, false)) := Lib.hid (by rw [HCF2.out, Wn.Fs.len_zero hg0]; rfl)
    rw [hg0] at d1 ⊢
    clear hr
    go_wp2_with fail
    go_ret2
    exact ⟨_, by rw [HE.out]; rfl, by rw [HE.out]; exact HV3.out.mono (fun _ h _ => .inl h), HB3.out⟩
  obtain ⟨m, hm⟩ : ∃ m, g.len = m + 1 := ⟨g.len - 1, by omega⟩
  obtain ⟨k2, t2, x2, hd2⟩ := Wn.Fs.drop_cons (f := g) (i := m) (by omega)
  have hl2 : Wn.lastIs (Wn.signV [33]) g = Wn.signV [33] k2 t2 := by
    have := Wn.lastIs_at (p := Wn.signV [33]) hd2
    rw [Wn.Fs.take_all g (by omega)] at this
    exact this
  have hi2 : Wn.initF g = g.take m := by unfold Wn.initF; rw [hm]; rfl
  obtain ⟨b', o', rfl, j0, ⟨j1, j2, j3⟩, u2, j4, hu2⟩ := hr.at hd2
  rw [show o' + m * 5 + 1 + 1 = o' + m * 5 + 2 by omega] at j2
  rw [show o' + m * 5 + 1 + 2 = o' + m * 5 + 3 by omega] at j3
  obtain ⟨uo2, uc2, rfl, _, _⟩ := hu2.form
  have hsub := hr.sub 0 m (by omega) (by omega)
  rw [Wn.Fs.drop_zero, Nat.sub_zero, Nat.sub_zero, Nat.zero_mul, Nat.add_zero] at hsub
  have hsz2 : (g.take m).size ≤ 1000000 := Nat.le_trans (Wn.Fs.size_take g m) hgz
  have QT2 := Lib.hid (fun (W : World) (hW : Below w3.heap.size w3 W) => Trim_any _ (g.take m) W (ValsP.below hsub hW) hsz2)
  have QD := Lib.hid (fun w => isDelimD_v k2 t2 (.slice uo2 x2.len uc2) [33] w ⟨_, _, _, rfl⟩)
  have hgl : g.len ≤ 1000000 := by have := Wn.Fs.len_le_size g; omega
  rw [hm] at hgl
  have HCF3 : Hid (C = if Wn.signV [33] k2 t2 then (Wn.trimF (g.take m), true) else (f, false)) := Lib.hid (by rw [HCF2.out, hl2, hi2])
  have hnv2 : ((m + 1 : Nat) : Int) - 1 = (m : Int) := by omega
  have hni2 : (m : Int) < ((m + 1 : Nat) : Int) := by omega
  have hn02 : ¬ (m : Int) < 0 := by omega
  rw [hm] at d1 ⊢
  clear hr hd2 hu2 hsub hl2 hi2 hsz2 HCF2 hg0 hm hgz
  have HP : Hid (Wn.str [33] = ⟨#[33]⟩) := Lib.hid rfl
  rw [HP.out] at QD
  generalize Wn.signV [33] k2 t2 = q2 at *
  generalize Wn.str t2.2.1 = y2 at *
  go_wp2_with fail
  refine (QD.out _).mono ?_
  rintro e w4 ⟨rfl, b4⟩
  have HB4 := Lib.hid (HB3.out.trans (b4.mono HB3.out.size))
  have HV4 := Lib.hid (ValsP.below HV3.out b4)
  have HB34 := Lib.hid b4
  clear b4 HB3 HV3 QD j0 j1 j2 j3 j4
  cases q2
  · have HE : Hid (C = (f, false)) := Lib.hid (by rw [HCF3.out]; rfl)
    go_wp2_with fail
    go_ret2
    exact ⟨_, by rw [HE.out]; rfl, by rw [HE.out]; exact HV4.out.mono (fun _ h _ => .inl h), HB4.out⟩
  have HE : Hid (C = (Wn.trimF (g.take m), true)) := Lib.hid (by rw [HCF3.out]; rfl)
  go_wp2_with fail
  refine (QT2.out _ HB34.out).mono ?_
  rintro e w5 ⟨r2, rfl, hr2, b5⟩
  have HR2 := Lib.hid hr2
  have HB5 := Lib.hid (HB4.out.trans (b5.mono HB4.out.size))
  clear b5 hr2
  go_wp2_with fail
  go_ret2
  exact ⟨_, by rw [HE.out]; rfl, by rw [HE.out]; exact HR2.out.mono (fun _ h _ => .inr (Nat.le_trans HB4.out.size h)), HB5.out⟩
/-- a declaration is stored, cell by cell -/
def stD (W : World) (A : Nat) (x y z : Value) : World := ((W.setCell ⟨A, 0, none⟩ x).setCell ⟨A, 1, none⟩ y).setCell ⟨A, 2, none⟩ z
theorem stD_below {w1 W : World} {N A : Nat} (h : Below N w1 W) (hA : N ≤ A) (x y z : Value) : Below N w1 (stD W A x y z) := ((h.setCell (p := ⟨A, 0, none⟩) hA _).setCell (p := ⟨A, 1, none⟩) hA _).setCell (p := ⟨A, 2, none⟩) hA _
theorem stD_same {W : World} {A : Nat} {a b c x y z : Value} {t : TypeId} (h : W.heap[A]? = some (.cells #[a, b, c] t)) : (stD W A x y z).heap[A]? = some (.cells #[x, y, z] t) := by simp [stD, World.setCell, Array.getElem?_modify, h]
theorem stD_other {W : World} {A B : Nat} {x y z : Value} (h : A ≠ B) : (stD W A x y z).heap[B]? = W.heap[B]? := by
  unfold stD
  rw [Below.heap_setCell _ _ _ _ (Ne.symm h), Below.heap_setCell _ _ _ _ (Ne.symm h), Below.heap_setCell _ _ _ _ (Ne.symm h)]
/-- what declaration answers -/
def DeclPost (f : Wn.Fs) (w : World) (e : Ending) (w' : World) : Prop :=
  Below w.heap.size w w' ∧ ((∃ d u, Wn.declF f = some d ∧ e = .returned (.tuple #[dlV d u, .bool true]) ∧ ValsP w' (fun b => w.heap.size ≤ b) u d.2.1) ∨ (Wn.declF f = none ∧ e = .returned (.tuple #[.agg #[.string ⟨#[]⟩, .slice none 0 0, .bool false], .bool false])))
set_option maxRecDepth 100000 in
set_option maxHeartbeats 2000000 in
theorem decl_v (v : Value) (f : Wn.Fs) (w : World) (hv : Vals w v f) (hf : f.size ≤ 1000000) (hs : f.all fun t => t.2.1.length ≤ 1048576) :
    Calls Tryz.prog 31 #[v] w (DeclPost f w) := by
  have HV := Lib.hid hv
  obtain ⟨ao, cap, rfl, c1, c2⟩ := hv.form
  unfold maxLen at c2
  have hfl : f.len ≤ 1000000 := by have := Wn.Fs.len_le_size f; omega
  have hB0 : Below w.heap.size w (w.alloc (.cells #[.string ⟨#[]⟩, .slice none 0 0, .bool false] 44)) := (Below.refl _ _).alloc (Nat.le_refl _) _
  have hN0 := heap_alloc_new w (.cells #[.string ⟨#[]⟩, .slice none 0 0, .bool false] 44)
  cases f with
  | nil =>
    have hg0 : (Wn.Fs.nil).len = 0 := rfl
    rw [hg0] at c1 HV ⊢
    have HB0 := Lib.hid hB0
    clear hv hB0 hN0 hs hf hg0 hfl
    go_enter Tryz.func31, Tryz.ntmps31
    go_wp2_with fail
    exact bodyPost_ret (v := .tuple #[.agg #[.string ⟨#[]⟩, .slice none 0 0, .bool false], .bool false]) (by simp [results, Tryz.results31, go_sem]) rfl ⟨HB0.out, .inr ⟨rfl, rfl⟩⟩
  | cons k t x r =>
    obtain ⟨b, o, rfl, j0, ⟨j1, j2, j3⟩, u, j4, hu⟩ := hv.at (i := 0) (Wn.Fs.drop_zero _)
    obtain ⟨uo, uc, rfl, _, _⟩ := hu.form
    simp only [Nat.zero_mul, Nat.add_zero] at j0 j1 j2 j3 j4
    rw [show o + 1 + 1 = o + 2 by omega] at j2
    rw [show o + 1 + 2 = o + 3 by omega] at j3
    have hsub := hv.subC 1 (r.len + 1) (by omega) (by simp [Wn.Fs.len])
    rw [show (Wn.Fs.cons k t x r).drop 1 = r by rw [Wn.Fs.drop, Wn.Fs.drop_zero], Wn.Fs.take_all r (by omega)] at hsub
    simp only [Nat.one_mul, Nat.add_sub_cancel] at hsub
    have hgl : (Wn.Fs.cons k t x r).len = r.len + 1 := rfl
    rw [hgl] at c1 HV hfl ⊢
    have hrs : r.size ≤ 1000000 := by simp only [Wn.Fs.size] at hf; omega
    have hbl : b < w.heap.size := World.block_lt_of_cell? _ _ j0
    have hbn : ¬ b = w.heap.size := by omega
    have QN := Lib.hid (fun w => isNameD_v k t (.slice uo x.len uc) w ⟨_, _, _, rfl⟩)
    have hsl : t.2.1.length ≤ 1048576 := hs.1
    have QP := Lib.hid (fun w => proper_v t.2.1 w hsl)
    have HSR := Lib.hid hs.2.2
    have QT := Lib.hid (fun (A : Option Addr) (C : Nat) (hA : (cap = 1 ∧ A = some ⟨b, o, none⟩ ∧ C = 0) ∨ (¬ cap = 1 ∧ A = some ⟨b, o + 5, none⟩ ∧ C = cap - 1)) (W : World) (hW : Below w.heap.size w W) => Trim_any (.slice A r.len C) r W (by
      rcases hA with ⟨h1, h2, h3⟩ | ⟨h1, h2, h3⟩
      · rw [if_pos h1] at hsub
        rw [h2, show C = cap - 1 by omega]
        exact ValsP.below hsub hW
      · rw [if_neg h1] at hsub
        rw [h2, h3]
        exact ValsP.below hsub hW) hrs)
    have HR1 := Lib.hid (fun h => Wn.declF_no (k := k) (t := t) x r h)
    have HR2 := Lib.hid (fun h hr => Wn.declF_nil (k := k) (t := t) (x := x) (r := r) h hr)
    have HR3 := Lib.hid (fun k2 t2 x2 r2 h hr => Wn.declF_cons (k := k) (t := t) (x := x) (r := r) (k2 := k2) (t2 := t2) (x2 := x2) (r2 := r2) h hr)
    have HB0 := Lib.hid hB0
    have HN0 := Lib.hid hN0
    unfold DeclPost
    generalize Wn.declF (.cons k t x r) = D at *
    clear hv hsub hu hs hB0 hN0 HV hf
    generalize hy : Wn.str t.2.1 = y at *
    generalize Wn.idv k t = q at *
    go_enter Tryz.func31, Tryz.ntmps31
    go_wp2_with fail
    generalize w.alloc (.cells #[.string ⟨#[]⟩, .slice none 0 0, .bool false] 44) = W0 at *
    refine (QN.out _).mono ?_
    rintro e w1 ⟨rfl, b1⟩
    have HB1 := Lib.hid (HB0.out.trans (b1.mono HB0.out.size))
    have HN1 := Lib.hid (block_lat b1 HN0.out)
    have k2 := (HB1.out.cell (p := ⟨b, o + 2, none⟩) hbl).trans j2
    clear b1 HB0 HN0 QN j0 j1 j2 j3 j4
    cases q
    · have HE : Hid (D = none) := Lib.hid (HR1.out rfl)
      (have n0 := cell_of_block (o := 0) HN1.out; have n1 := cell_of_block (o := 1) HN1.out; have n2 := cell_of_block (o := 2) HN1.out; have f0 := frozen_blk HN1.out 0; have f1 := frozen_blk HN1.out 1; have f2 := frozen_blk HN1.out 2; have hlN := lt_of_block HN1.out; simp only [List.getElem?_toArray, List.getElem?_cons_zero, List.getElem?_cons_succ] at n0 n1 n2)
      go_wp2_with fail
      (have hs := stD_same (x := Value.string ⟨#[]⟩) (y := Value.slice none 0 0) (z := Value.bool false) HN1.out; have hb := stD_below HB1.out (Nat.le_refl _) (Value.string ⟨#[]⟩) (Value.slice none 0 0) (Value.bool false); unfold stD at hs hb; have r0 := cell_of_block (o := 0) hs; have r1 := cell_of_block (o := 1) hs; have r2 := cell_of_block (o := 2) hs; simp only [List.getElem?_toArray, List.getElem?_cons_zero, List.getElem?_cons_succ] at r0 r1 r2; exact bodyPost_ret (v := .tuple #[.agg #[Value.string ⟨#[]⟩, Value.slice none 0 0, Value.bool false], .bool false]) (by simp [results, Tryz.results31, go_sem, r0, r1, r2]) rfl ⟨hb, .inr ⟨HE.out, rfl⟩⟩)
    go_wp2_with fail
    all_goals (refine (QT.out _ _ (by first | exact .inl ⟨by assumption, rfl, rfl⟩ | exact .inr ⟨by assumption, rfl, rfl⟩) _ HB1.out).mono ?_)
    · rintro e w2 ⟨rv, rfl, hr1, b2⟩
      have hr1 := hr1.any
      have hrn : r = .nil := Wn.Fs.len_zero (by omega)
      subst hrn
      have hr1 : Vals w2 rv .nil := hr1
      have HE : Hid (D = none) := Lib.hid (HR2.out trivial rfl)
      obtain ⟨ro, rc, rfl, d1, d2⟩ := hr1.form
      have HB2 := Lib.hid (HB1.out.trans (b2.mono HB1.out.size))
      have HN2 := Lib.hid (block_lat b2 HN1.out)
      have hg0 : (Wn.Fs.nil).len = 0 := rfl
      rw [hg0] at d1 ⊢
      clear hr1 hg0 HB1 HN1 b2
      (have n0 := cell_of_block (o := 0) HN2.out; have n1 := cell_of_block (o := 1) HN2.out; have n2 := cell_of_block (o := 2) HN2.out; have f0 := frozen_blk HN2.out 0; have f1 := frozen_blk HN2.out 1; have f2 := frozen_blk HN2.out 2; have hlN := lt_of_block HN2.out; simp only [List.getElem?_toArray, List.getElem?_cons_zero, List.getElem?_cons_succ] at n0 n1 n2)
      go_wp2_with fail
      (have hs := stD_same (x := Value.string ⟨#[]⟩) (y := Value.slice none 0 0) (z := Value.bool false) HN2.out; have hb := stD_below HB2.out (Nat.le_refl _) (Value.string ⟨#[]⟩) (Value.slice none 0 0) (Value.bool false); unfold stD at hs hb; have r0 := cell_of_block (o := 0) hs; have r1 := cell_of_block (o := 1) hs; have r2 := cell_of_block (o := 2) hs; simp only [List.getElem?_toArray, List.getElem?_cons_zero, List.getElem?_cons_succ] at r0 r1 r2; exact bodyPost_ret (v := .tuple #[.agg #[Value.string ⟨#[]⟩, Value.slice none 0 0, Value.bool false], .bool false]) (by simp [results, Tryz.results31, go_sem, r0, r1, r2]) rfl ⟨hb, .inr ⟨HE.out, rfl⟩⟩)
    rintro e w2 ⟨rv, rfl, hr1, b2⟩
    have hr1 := hr1.any
    have HB2 := Lib.hid (HB1.out.trans (b2.mono HB1.out.size))
    have HN2 := Lib.hid (block_lat b2 HN1.out)
    have k3 := (b2.cell (p := ⟨b, o + 2, none⟩) (Nat.lt_of_lt_of_le hbl HB1.out.size)).trans k2
    have hbl2 := Nat.lt_of_lt_of_le hbl HB2.out.size
    have HSG : Hid ((Wn.trimF r).all fun t => t.2.1.length ≤ 1048576) := Lib.hid (Wn.trim_all HSR.out)
    have hgs : (Wn.trimF r).size ≤ 1000000 := Nat.le_trans (Wn.trim_size r) hrs
    clear b2 HB1 HN1 k2 QT HSR HR1
    generalize hg : Wn.trimF r = g at *
    cases g with
    | nil =>
      have HE : Hid (D = none) := Lib.hid (HR2.out trivial rfl)
      obtain ⟨ro, rc, rfl, d1, d2⟩ := hr1.form
      have hg0 : (Wn.Fs.nil).len = 0 := rfl
      rw [hg0] at d1 ⊢
      clear hr1 hg hg0
      (have n0 := cell_of_block (o := 0) HN2.out; have n1 := cell_of_block (o := 1) HN2.out; have n2 := cell_of_block (o := 2) HN2.out; have f0 := frozen_blk HN2.out 0; have f1 := frozen_blk HN2.out 1; have f2 := frozen_blk HN2.out 2; have hlN := lt_of_block HN2.out; simp only [List.getElem?_toArray, List.getElem?_cons_zero, List.getElem?_cons_succ] at n0 n1 n2)
      go_wp2_with fail
      (have hs := stD_same (x := Value.string ⟨#[]⟩) (y := Value.slice none 0 0) (z := Value.bool false) HN2.out; have hb := stD_below HB2.out (Nat.le_refl _) (Value.string ⟨#[]⟩) (Value.slice none 0 0) (Value.bool false); unfold stD at hs hb; have r0 := cell_of_block (o := 0) hs; have r1 := cell_of_block (o := 1) hs; have r2 := cell_of_block (o := 2) hs; simp only [List.getElem?_toArray, List.getElem?_cons_zero, List.getElem?_cons_succ] at r0 r1 r2; exact bodyPost_ret (v := .tuple #[.agg #[Value.string ⟨#[]⟩, Value.slice none 0 0, Value.bool false], .bool false]) (by simp [results, Tryz.results31, go_sem, r0, r1, r2]) rfl ⟨hb, .inr ⟨HE.out, rfl⟩⟩)
    | cons k2 t2 x2 r2 =>
      have HR4 := Lib.hid (HR3.out _ _ _ _ trivial rfl)
      obtain ⟨ro, rc, rfl, d1, d2⟩ := hr1.form
      unfold maxLen at d2
      obtain ⟨b', o', rfl, j0, ⟨j1, j2, j3⟩, u2, j4, hu2⟩ := hr1.at (i := 0) (Wn.Fs.drop_zero _)
      obtain ⟨uo2, uc2, rfl, _, _⟩ := hu2.form
      simp only [Nat.zero_mul, Nat.add_zero] at j0 j1 j2 j3 j4
      rw [show o' + 1 + 1 = o' + 2 by omega] at j2
      rw [show o' + 1 + 2 = o' + 3 by omega] at j3
      have hsub := hr1.subC 1 (r2.len + 1) (by omega) (by simp [Wn.Fs.len])
      rw [show (Wn.Fs.cons k2 t2 x2 r2).drop 1 = r2 by rw [Wn.Fs.drop, Wn.Fs.drop_zero], Wn.Fs.take_all r2 (by omega)] at hsub
      simp only [Nat.one_mul, Nat.add_sub_cancel] at hsub
      have hgl2 : (Wn.Fs.cons k2 t2 x2 r2).len = r2.len + 1 := rfl
      have hrs2 : r2.size ≤ 1000000 := by simp only [Wn.Fs.size] at hgs; omega
      have hfl2 : r2.len ≤ 1000000 := by have := Wn.Fs.len_le_size r2; omega
      have HS2 : Hid ((Wn.trimF r2).all fun t => t.2.1.length ≤ 1048576) := Lib.hid (Wn.trim_all HSG.out.2.2)
      have hts : (Wn.trimF r2).size ≤ 1000000 := Nat.le_trans (Wn.trim_size r2) hrs2
      have QT2 := Lib.hid (fun (A : Option Addr) (C : Nat) (hA : (rc = 1 ∧ A = some ⟨b', o', none⟩ ∧ C = 0) ∨ (¬ rc = 1 ∧ A = some ⟨b', o' + 5, none⟩ ∧ C = rc - 1)) (W : World) (hW : Below w2.heap.size w2 W) => Trim_any (.slice A r2.len C) r2 W (by
        rcases hA with ⟨h1, h2, h3⟩ | ⟨h1, h2, h3⟩
        · rw [if_pos h1] at hsub
          rw [h2, show C = rc - 1 by omega]
          exact ValsP.below hsub hW
        · rw [if_neg h1] at hsub
          rw [h2, h3]
          exact ValsP.below hsub hW) hrs2)
      have QD := Lib.hid (fun w => isDelimD_v k2 t2 (.slice uo2 x2.len uc2) [58] w ⟨_, _, _, rfl⟩)
      have HP : Hid (Wn.str [58] = ⟨#[58]⟩) := Lib.hid rfl
      rw [HP.out] at QD
      rw [hgl2] at d1 ⊢
      clear hr1 hu2 hsub HR2 HR3 HSG hgs hg hgl hgl2 HP
      generalize Wn.signV [58] k2 t2 = q2 at *
      generalize Wn.str t2.2.1 = y2 at *
      go_wp2_with fail
      refine (QD.out _).mono ?_
      rintro e w3 ⟨rfl, b3⟩
      have HB3 := Lib.hid (HB2.out.trans (b3.mono HB2.out.size))
      have HN3 := Lib.hid (block_lat b3 HN2.out)
      have k4 := (b3.cell (p := ⟨b, o + 2, none⟩) hbl2).trans k3
      have HB23 := Lib.hid b3
      clear b3 HB2 HN2 k3 QD j0 j1 j2 j3 j4
      cases q2
      · have HE : Hid (D = none) := Lib.hid (by rw [HR4.out]; rfl)
        (have n0 := cell_of_block (o := 0) HN3.out; have n1 := cell_of_block (o := 1) HN3.out; have n2 := cell_of_block (o := 2) HN3.out; have f0 := frozen_blk HN3.out 0; have f1 := frozen_blk HN3.out 1; have f2 := frozen_blk HN3.out 2; have hlN := lt_of_block HN3.out; simp only [List.getElem?_toArray, List.getElem?_cons_zero, List.getElem?_cons_succ] at n0 n1 n2)
        go_wp2_with fail
        (have hs := stD_same (x := Value.string ⟨#[]⟩) (y := Value.slice none 0 0) (z := Value.bool false) HN3.out; have hb := stD_below HB3.out (Nat.le_refl _) (Value.string ⟨#[]⟩) (Value.slice none 0 0) (Value.bool false); unfold stD at hs hb; have r0 := cell_of_block (o := 0) hs; have r1 := cell_of_block (o := 1) hs; have r2 := cell_of_block (o := 2) hs; simp only [List.getElem?_toArray, List.getElem?_cons_zero, List.getElem?_cons_succ] at r0 r1 r2; exact bodyPost_ret (v := .tuple #[.agg #[Value.string ⟨#[]⟩, Value.slice none 0 0, Value.bool false], .bool false]) (by simp [results, Tryz.results31, go_sem, r0, r1, r2]) rfl ⟨hb, .inr ⟨HE.out, rfl⟩⟩)
      have HR5 : Hid (D = Wn.valueF t.2.1 (Wn.trimF r2)) := Lib.hid (by rw [HR4.out]; rfl)
      clear HR4
      go_wp2_with fail
      all_goals
        refine (QT2.out _ _ (by first | exact .inl ⟨by assumption, rfl, rfl⟩ | exact .inr ⟨by assumption, rfl, rfl⟩) _ HB23.out).mono ?_
        rintro e w4 ⟨rv4, rfl, hr4, b4⟩
        have HB4 := Lib.hid (HB3.out.trans (b4.mono HB3.out.size))
        have HN4 := Lib.hid (block_lat b4 HN3.out)
        have hbl3 := Nat.lt_of_lt_of_le hbl HB3.out.size
        have k5 := (b4.cell (p := ⟨b, o + 2, none⟩) hbl3).trans k4
        have HB3s : Hid (w.heap.size < w3.heap.size) := Lib.hid (lt_of_block HN3.out)
        have HB43 := Lib.hid b4.size
        clear b4 HB3 HN3 k4 QT2 HB23
        have QC := Lib.hid (cutD_v _ rv4 (Wn.trimF r2) w4 hr4 hts HS2.out)
        have hcs := Wn.cutF_size (Wn.trimF r2)
        clear hr4
        have HV : Hid (Wn.valueF t.2.1 (Wn.trimF r2) = if Wn.isValF (Wn.cutF (Wn.trimF r2)).1 then some (Wn.proper t.2.1, (Wn.cutF (Wn.trimF r2)).1, (Wn.cutF (Wn.trimF r2)).2) else none) := Lib.hid rfl
        generalize Wn.valueF t.2.1 (Wn.trimF r2) = VF at *
        generalize Wn.cutF (Wn.trimF r2) = cf at *
        obtain ⟨cg, cb⟩ := cf
        dsimp only at QC HV hcs
        go_wp2_with fail
        refine QC.out.mono ?_
        rintro e w5 ⟨rv5, rfl, hr5, b5⟩
        have HB5 := Lib.hid (HB4.out.trans (b5.mono HB4.out.size))
        have HN5 := Lib.hid (block_lat b5 HN4.out)
        have hbl4 := Nat.lt_of_lt_of_le hbl HB4.out.size
        have k6 := (b5.cell (p := ⟨b, o + 2, none⟩) hbl4).trans k5
        have HV5 : Hid (ValsP w5 (fun b => w.heap.size < b) rv5 cg) := Lib.hid (hr5.mono (fun c hc _ => by have := HB3s.out; have := HB43.out; rcases hc with hc | hc <;> omega))
        obtain ⟨vo5, vc5, rfl, _, _⟩ := hr5.form
        have QI := Lib.hid (isValue_v _ cg w5 hr5.any (by omega))
        clear b5 HB4 HN4 k5 QC hr5
        go_wp2_with fail
        refine QI.out.mono ?_
        rintro e w6 ⟨rfl, b6⟩
        have HB6 := Lib.hid (HB5.out.trans (b6.mono HB5.out.size))
        have HN6 := Lib.hid (block_lat b6 HN5.out)
        have hbl5 := Nat.lt_of_lt_of_le hbl HB5.out.size
        have k7 := (b6.cell (p := ⟨b, o + 2, none⟩) hbl5).trans k6
        have HV6 := Lib.hid (ValsP.below HV5.out b6)
        clear b6 HB5 HN5 k6 QI HV5
        cases hv : Wn.isValF cg
        · have HE : Hid (D = none) := Lib.hid (by rw [HR5.out, HV.out, hv]; rfl)
          (have n0 := cell_of_block (o := 0) HN6.out; have n1 := cell_of_block (o := 1) HN6.out; have n2 := cell_of_block (o := 2) HN6.out; have f0 := frozen_blk HN6.out 0; have f1 := frozen_blk HN6.out 1; have f2 := frozen_blk HN6.out 2; have hlN := lt_of_block HN6.out; simp only [List.getElem?_toArray, List.getElem?_cons_zero, List.getElem?_cons_succ] at n0 n1 n2)
          go_wp2_with fail
          (have hs := stD_same (x := Value.string ⟨#[]⟩) (y := Value.slice none 0 0) (z := Value.bool false) HN6.out; have hb := stD_below HB6.out (Nat.le_refl _) (Value.string ⟨#[]⟩) (Value.slice none 0 0) (Value.bool false); unfold stD at hs hb; have r0 := cell_of_block (o := 0) hs; have r1 := cell_of_block (o := 1) hs; have r2 := cell_of_block (o := 2) hs; simp only [List.getElem?_toArray, List.getElem?_cons_zero, List.getElem?_cons_succ] at r0 r1 r2; exact bodyPost_ret (v := .tuple #[.agg #[Value.string ⟨#[]⟩, Value.slice none 0 0, Value.bool false], .bool false]) (by simp [results, Tryz.results31, go_sem, r0, r1, r2]) rfl ⟨hb, .inr ⟨HE.out, rfl⟩⟩)
        have HE : Hid (D = some (Wn.proper t.2.1, cg, cb)) := Lib.hid (by rw [HR5.out, HV.out, hv]; rfl)
        clear HR5 HV hv
        go_wp2_with fail
        refine (QP.out _).mono ?_
        rintro e w7 ⟨rfl, b7⟩
        have HB7 := Lib.hid (HB6.out.trans (b7.mono HB6.out.size))
        have HN7 := Lib.hid (block_lat b7 HN6.out)
        have HV7 := Lib.hid (ValsP.below HV6.out b7)
        clear b7 HB6 HN6 k7 QP HV6
        (have n0 := cell_of_block (o := 0) HN7.out; have n1 := cell_of_block (o := 1) HN7.out; have n2 := cell_of_block (o := 2) HN7.out; have f0 := frozen_blk HN7.out 0; have f1 := frozen_blk HN7.out 1; have f2 := frozen_blk HN7.out 2; have hlN := lt_of_block HN7.out; simp only [List.getElem?_toArray, List.getElem?_cons_zero, List.getElem?_cons_succ] at n0 n1 n2)
        go_wp2_with fail
        have HVF : Hid (ValsP (((w7.setCell ⟨w.heap.size, 0, none⟩ (.string (Wn.str (Wn.proper t.2.1)))).setCell ⟨w.heap.size, 1, none⟩ (.slice vo5 cg.len vc5)).setCell ⟨w.heap.size, 2, none⟩ (.bool cb)) (fun b => w.heap.size ≤ b) (.slice vo5 cg.len vc5) cg) := Lib.hid (HV7.out.same (fun c hc _ => (by
          have hne : ¬ c = w.heap.size := by omega
          rw [Below.heap_setCell _ _ _ _ hne, Below.heap_setCell _ _ _ _ hne, Below.heap_setCell _ _ _ _ hne])) (fun c hc _ => by omega))
        (have hs := stD_same (x := Value.string (Wn.str (Wn.proper t.2.1))) (y := Value.slice vo5 cg.len vc5) (z := Value.bool cb) HN7.out; have hb := stD_below HB7.out (Nat.le_refl _) (Value.string (Wn.str (Wn.proper t.2.1))) (Value.slice vo5 cg.len vc5) (Value.bool cb); unfold stD at hs hb; have r0 := cell_of_block (o := 0) hs; have r1 := cell_of_block (o := 1) hs; have r2 := cell_of_block (o := 2) hs; simp only [List.getElem?_toArray, List.getElem?_cons_zero, List.getElem?_cons_succ] at r0 r1 r2; exact bodyPost_ret (v := .tuple #[.agg #[Value.string (Wn.str (Wn.proper t.2.1)), Value.slice vo5 cg.len vc5, Value.bool cb], .bool true]) (by simp [results, Tryz.results31, go_sem, r0, r1, r2]) rfl ⟨hb, .inl ⟨_, _, HE.out, rfl, HVF.out⟩⟩)
end Go.Proofs.YtjlejiphpbaonaaGreatDoor
set_option linter.unusedVariables false
set_option linter.unusedSimpArgs false
set_option maxRecDepth 20000
namespace Wn
theorem cuts_allF {p : Int → Tok → Bool} {q : Tok → Prop} : ∀ {f : Fs}, f.all q → ∀ g ∈ cuts p f, g.all q
  | .nil, _, g, hg => by simp [cuts] at hg; subst hg; trivial
  | .cons k t x r, h, g, hg => by
    have ih := cuts_allF (p := p) (f := r) h.2.2
    rw [cuts] at hg
    split at hg
    · rcases List.mem_cons.1 hg with rfl | hg
      · trivial
      · exact ih g hg
    · split at hg
      · simp at hg; subst hg; exact ⟨h.1, h.2.1, trivial⟩
      · rename_i a l hc
        rcases List.mem_cons.1 hg with rfl | hg
        · exact ⟨h.1, h.2.1, ih a (by rw [hc]; simp)⟩
        · exact ih g (by rw [hc]; simp [hg])
theorem cuts_size {p : Int → Tok → Bool} {f g : Fs} (h : g ∈ cuts p f) : g.size ≤ f.size := by
  have a := joinAll_mem_size h
  rw [joinAll_cuts] at a
  exact Nat.le_trans a (lessF_size _ f)
def partD (g : Fs) : Option Dl := declF (trimF g)
theorem partD_take {gs : List Fs} {i : Nat} {g : Fs} (h : gs[i]? = some g) : (gs.take (i + 1)).filterMap partD = (gs.take i).filterMap partD ++ (partD g).toList := by
  rw [List.take_add_one, h, List.filterMap_append]
  congr 1
end Wn
namespace Go.Proofs.YtjlejiphpbaonaaGreatDoor
open Go.RowKit Go.Sort
set_option maxRecDepth 100000 in
set_option maxHeartbeats 2000000 in
theorem DParse_v (v : Value) (f : Wn.Fs) (w : World) (hv : Vals w v f) (hf : f.size ≤ 100000) (hs : f.all fun t => t.2.1.length ≤ 1048576) :
    Calls Tryz.prog 12 #[v] w fun e w' => ∃ r, e = .returned r ∧ dlK.P w' (fun b => w.heap.size ≤ b) r (Wn.parseD f) ∧ Below w.heap.size w w' := by
  have QA := Lib.hid (At_any [59] v f w hv hf)
  have HP : Hid (Wn.str [59] = ⟨#[59]⟩) := Lib.hid rfl
  rw [HP.out] at QA
  obtain ⟨ao, cap, rfl, c1, c2⟩ := hv.form
  unfold maxLen at c2
  have HG : Hid (∀ g ∈ Wn.cuts (Wn.signV [59]) f, g.size ≤ 100000 ∧ g.all fun t => t.2.1.length ≤ 1048576) := Lib.hid (fun g hg => ⟨Nat.le_trans (Wn.cuts_size hg) hf, Wn.cuts_allF hs g hg⟩)
  have hcl : (Wn.cuts (Wn.signV [59]) f).length ≤ 100001 := by have := Wn.cuts_len (Wn.signV [59]) f; have := Wn.Fs.len_le_size f; omega
  have HR : Hid (Wn.parseD f = (Wn.cuts (Wn.signV [59]) f).filterMap Wn.partD) := Lib.hid rfl
  clear hv hs
  generalize Wn.cuts (Wn.signV [59]) f = gs at *
  generalize Wn.parseD f = R at *
  go_enter Tryz.func12, Tryz.ntmps12
  go_wp2_with fail
  refine QA.out.mono ?_
  rintro e w1 ⟨r, us, rfl, hown, heach, b1⟩
  have hL : ListP w1 (fun b => w.heap.size ≤ b) r gs := ListP.ofRow hown heach (fun b hb => hb)
  obtain ⟨ro, rc, rfl, c3, c4⟩ := hL.form
  unfold maxLen at c4
  have HL := Lib.hid hL
  have HB1 := Lib.hid b1
  clear hown heach b1 hL QA HP
  have HO0 : Hid (dlK.Own w1.heap.size (fun b => w.heap.size ≤ b) w1 (.slice none 0 0) [] ((gs.take 0).filterMap Wn.partD)) := Lib.hid (RK.Own.start _ _ _ _)
  go_wp2_with fail
  go_loopw [3, 11] (fun v3 v11 wr => ∃ (i : Nat) (es : List (List Value)), i ≤ gs.length ∧ v11 = .int .i64 (i : Int) ∧ Hid (Below w1.heap.size w1 wr) ∧ Hid (dlK.Own w1.heap.size (fun b => w.heap.size ≤ b) wr v3 es ((gs.take i).filterMap Wn.partD))) (fun _ v11 _ => gs.length - (intOf v11).toNat)
  case atStart => exact ⟨0, [], Nat.zero_le _, rfl, Lib.hid (Below.refl _ _), HO0⟩
  case round =>
    clear HO0
    obtain ⟨i, es, hi, rfl, HB, HO⟩ := hrel
    obtain ⟨lo, lc, rfl, l1, l2⟩ := own_shapeD HO.out.own
    have hel : es.length ≤ 100001 := by
      have := HO.out.length
      have h2 := List.length_filterMap_le Wn.partD (gs.take i)
      rw [List.length_take] at h2
      omega
    by_cases hil : i < gs.length
    · have hiv : (i : Int) < (gs.length : Int) := by omega
      obtain ⟨g, hgi⟩ : ∃ g, gs[i]? = some g := ⟨gs[i], List.getElem?_eq_getElem hil⟩
      obtain ⟨pb, poff, u, rfl, j0, hu⟩ := (HL.out.below HB.out).at hgi
      obtain ⟨uo, uc, rfl, _, _⟩ := hu.form
      obtain ⟨hg1, hg2⟩ := HG.out g (List.mem_of_getElem? hgi)
      have HTK := Lib.hid (Wn.partD_take hgi)
      have QT := Lib.hid (Trim_any _ g wr hu.any (by omega))
      have hts : (Wn.trimF g).size ≤ 1000000 := by have := Wn.trim_size g; omega
      have HTA : Hid ((Wn.trimF g).all fun t => t.2.1.length ≤ 1048576) := Lib.hid (Wn.trim_all hg2)
      clear hgi hu hg1 hg2
      go_wp2_with fail
      refine QT.out.mono ?_
      rintro e w2 ⟨rt, rfl, ht, b2⟩
      have QD := Lib.hid (decl_v rt (Wn.trimF g) w2 ht.any hts HTA.out)
      obtain ⟨to, tc, rfl, _, _⟩ := ht.form
      have HB2 := Lib.hid (HB.out.trans (b2.mono HB.out.size))
      have HO2 := Lib.hid (HO.out.below b2)
      have HS2 : Hid (wr.heap.size ≤ w2.heap.size) := Lib.hid b2.size
      clear b2 ht QT j0
      go_wp2_with fail
      refine QD.out.mono ?_
      rintro e w3 ⟨b3, ⟨d, du, hd, rfl, hdu⟩ | ⟨hd, rfl⟩⟩
      · have HB3 := Lib.hid (HB2.out.trans (b3.mono HB2.out.size))
        have HO3 := Lib.hid (HO2.out.below b3)
        have HNX : Hid ((gs.take (i + 1)).filterMap Wn.partD = (gs.take i).filterMap Wn.partD ++ [d]) := Lib.hid (by rw [HTK.out]; unfold Wn.partD; rw [hd]; rfl)
        obtain ⟨o5, c5, rfl, _, _⟩ := hdu.form
        have HDU := Lib.hid hdu
        have HS3 : Hid (w2.heap.size ≤ w3.heap.size) := Lib.hid b3.size
        clear b3 hd hdu HB2 QD HTK
        have e4 : (w3.alloc (.cells #[.string (Wn.str d.1), .slice o5 d.2.1.len c5, .bool d.2.2] 44)).heap.size = w3.heap.size + 1 := by simp
        have hZ4 : Below w3.heap.size w3 (w3.alloc (.cells #[.string (Wn.str d.1), .slice o5 d.2.1.len c5, .bool d.2.2] 44)) := (Below.refl _ _).alloc (Nat.le_refl _) _
        have hZ : Below w3.heap.size w3 ((w3.alloc (.cells #[.string (Wn.str d.1), .slice o5 d.2.1.len c5, .bool d.2.2] 44)).alloc (.cells #[.string (Wn.str d.1), .slice o5 d.2.1.len c5, .bool d.2.2] 44)) := hZ4.alloc (by rw [e4]; omega) _
        have HOZ := Lib.hid (HO3.out.below hZ)
        have HDZ := Lib.hid (ValsP.below HDU.out hZ)
        have HBZ := Lib.hid (HB3.out.trans (hZ.mono HB3.out.size))
        have HSZ : Hid (dlK.Src ((w3.alloc (.cells #[.string (Wn.str d.1), .slice o5 d.2.1.len c5, .bool d.2.2] 44)).alloc (.cells #[.string (Wn.str d.1), .slice o5 d.2.1.len c5, .bool d.2.2] 44)) (.slice (some ⟨w3.heap.size + 1, 0, none⟩) 1 1) [dlCells d (.slice o5 d.2.1.len c5)]) := Lib.hid (RK.Src.one (K := dlK) (W := w3.alloc (.cells #[.string (Wn.str d.1), .slice o5 d.2.1.len c5, .bool d.2.2] 44)) (ok := fun b => w2.heap.size ≤ b) e4.symm ⟨_, rfl, ValsP.below HDU.out hZ4⟩)
        have hlen : es.length + [dlCells d (.slice o5 d.2.1.len c5)].length ≤ 1048576 := by simp; omega
        have hbase : w1.heap.size ≤ ((w3.alloc (.cells #[.string (Wn.str d.1), .slice o5 d.2.1.len c5, .bool d.2.2] 44)).alloc (.cells #[.string (Wn.str d.1), .slice o5 d.2.1.len c5, .bool d.2.2] 44)).heap.size := HBZ.out.size
        have HFin : Hid (∀ v8 w8, w8.ownsRow w1.heap.size dlK.e dlK.sz v8 (es ++ [dlCells d (.slice o5 d.2.1.len c5)]).length (es ++ [dlCells d (.slice o5 d.2.1.len c5)]).flatten → ((w3.alloc (.cells #[.string (Wn.str d.1), .slice o5 d.2.1.len c5, .bool d.2.2] 44)).alloc (.cells #[.string (Wn.str d.1), .slice o5 d.2.1.len c5, .bool d.2.2] 44)).grownBy w8 (Value.slice lo es.length lc).ownBlock → (v8.ownBlock = (Value.slice lo es.length lc).ownBlock ∨ v8.ownBlock = some ((w3.alloc (.cells #[.string (Wn.str d.1), .slice o5 d.2.1.len c5, .bool d.2.2] 44)).alloc (.cells #[.string (Wn.str d.1), .slice o5 d.2.1.len c5, .bool d.2.2] 44)).heap.size) →
            Below w1.heap.size w1 w8 ∧ dlK.Own w1.heap.size (fun b => w.heap.size ≤ b) w8 v8 (es ++ [dlCells d (.slice o5 d.2.1.len c5)]) ((gs.take (i + 1)).filterMap Wn.partD)) := Lib.hid (fun v8 w8 h1 h2 h3 => by
          refine ⟨Below.grown HBZ.out h2 HBZ.out.size (fun b hb => (HOZ.out.own.lt b hb).1), ?_⟩
          rw [HNX.out]
          refine HOZ.out.next (Below.refl _ _) ⟨_, rfl, HDZ.out.mono (fun b hb _ => ⟨?_, fun e => ?_⟩)⟩ h1 h2 h3
          · have := HB1.out.size; have := HB.out.size; have := HS2.out; omega
          · have := (HO2.out.own.lt b e).2; omega)
        clear hZ4 hZ HDU HO3 HO2 e4
        go_wp2_with (at_builtin; refine RK.append (K := dlK) rfl _ _ rfl rfl rfl HOZ.out.own HSZ.out hlen hbase ?_; intro v8 w8 hown8 hgr8 hat8; (have HZ8 := Lib.hid (HFin.out _ _ hown8 hgr8 hat8)); clear hown8 hgr8 hat8)
        have hz := HZ8.out
        exact ⟨⟨i + 1, _, by omega, by go_num, Lib.hid hz.1, Lib.hid hz.2⟩, by simp [intOf]; try omega⟩
      · have HB3 := Lib.hid (HB2.out.trans (b3.mono HB2.out.size))
        have HNX : Hid ((gs.take (i + 1)).filterMap Wn.partD = (gs.take i).filterMap Wn.partD) := Lib.hid (by rw [HTK.out]; unfold Wn.partD; rw [hd]; simp)
        have hal : Below w3.heap.size w3 (w3.alloc (.cells #[.string ⟨#[]⟩, .slice none 0 0, .bool false] 44)) := (Below.refl _ _).alloc (Nat.le_refl _) _
        have HB4 := Lib.hid (HB3.out.trans (hal.mono HB3.out.size))
        have HO4 : Hid (dlK.Own w1.heap.size (fun b => w.heap.size ≤ b) (w3.alloc (.cells #[.string ⟨#[]⟩, .slice none 0 0, .bool false] 44)) (.slice lo es.length lc) es ((gs.take (i + 1)).filterMap Wn.partD)) := Lib.hid (by rw [HNX.out]; exact (HO2.out.below b3).below hal)
        clear b3 hd HB2 HO2 QD HTK hal HB3
        go_wp2_with fail
        exact ⟨⟨i + 1, es, by omega, by go_num, HB4, HO4⟩, by simp [intOf]; omega⟩
    · have hiv : ¬ (i : Int) < (gs.length : Int) := by omega
      have hke : gs.take i = gs := List.take_of_length_le (by omega)
      rw [hke] at HO
      go_wp2_with fail
      go_ret
      exact ⟨_, rfl, by rw [HR.out]; exact HO.out.p (fun b hb => Nat.le_trans HB1.out.size hb), HB1.out.trans (HB.out.mono HB1.out.size)⟩
end Go.Proofs.YtjlejiphpbaonaaGreatDoor
