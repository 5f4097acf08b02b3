/- ToksTwo: whatever the two tokens and the further ones, the law answers true, and nothing that was there has turned. -/
import Derived.Test.YtjhmljgmckadnaaDoorTokAp
namespace Go.Proofs.YtjhmljgmckadnaaDoor
open Go.RowKit
set_option maxRecDepth 100000 in
set_option maxHeartbeats 4000000 in
theorem two_any (a b : Wn.Tok) (v : Value) (l : List Wn.Tok) (w : World) (ht : Tab w) (hl : Toks w v l) (hrow : Row w v l) (ha : Nums a) (hb : Nums b) (ha1 : a.2.1.length ≤ maxLen) (hb1 : b.2.1.length ≤ maxLen) (hn : ∀ t ∈ l, Nums t) :
    Calls Tryd.prog 8 #[.agg #[.int .i64 a.1, .string (Wn.str a.2.1), .int .i64 a.2.2], .agg #[.int .i64 b.1, .string (Wn.str b.2.1), .int .i64 b.2.2], v] w fun e w' => e = .returned (.bool true) ∧ Below w.heap.size w w' := by
  unfold maxLen at ha1 hb1
  have HT := Lib.hid ht; clear ht
  have HL := Lib.hid hl; clear hl
  have HR := Lib.hid hrow; clear hrow
  have HN := Lib.hid hn; clear hn
  have HA := Lib.hid ha; clear ha
  have HBn := Lib.hid hb; clear hb
  have BX := Lib.hid (box2 w a b)
  have qma := fun c w (hc : Wn.may a = c) ht (hf : Fine a) => May_r a c _ w rfl hc ht hf
  have qmb := fun c w (hc : Wn.may b = c) ht (hf : Fine b) => May_r b c _ w rfl hc ht hf
  have qoa := fun r z w hr hz ht (hf : Fine a) => One_r a r _ z w rfl hr hz ht hf
  have mk2 := fun w => Toks.mk2 w a b
  have mk1 := fun (w : World) (g : Nat) h => row_of_block (w := w) (g := g) a h
  rw [tokV_str] at qma qmb qoa
  have hsa := Wn.str_size a.2.1
  have hsb := Wn.str_size b.2.1
  generalize hx : Wn.str a.2.1 = x at *
  generalize hy : Wn.str b.2.1 = y at *
  have HX := Lib.hid hx; have HY := Lib.hid hy; have HSA := Lib.hid hsa; have HSB := Lib.hid hsb
  have QMA := Lib.hid qma; have QMB := Lib.hid qmb; have QOA := Lib.hid qoa
  have MK2 := Lib.hid mk2; have MK1 := Lib.hid mk1
  have hxs : x.size ≤ 9223372036854775807 := by omega
  have hys : y.size ≤ 9223372036854775807 := by omega
  clear hx hy hsa hsb qma qmb qoa mk2 mk1 ha1 hb1
  obtain ⟨ao, lcap, rfl, hc1, hc2, hcell⟩ := HL.out
  clear hcell
  unfold maxLen at hc2
  go_enter Tryd.func8, Tryd.ntmps8
  go_wp2_with fail
  refine (fixed_any _ (HT.out.below (((Below.refl _ _).alloc (Nat.le_refl _) _).alloc (by simp) _))).mono ?_
  rintro e w1 ⟨rfl, b1⟩
  have HB1 : Hid (Below w.heap.size w w1) := Lib.hid ((((Below.refl _ _).alloc (Nat.le_refl _) _).alloc (by simp) _).trans (b1.mono (by simp <;> omega)))
  have hz1 : w.heap.size + 2 ≤ w1.heap.size := by have := b1.size; simp at this; omega
  have TA := BX.out.1.later b1
  have TB := BX.out.2.later b1
  (have k0a1 : w1.cell? ⟨w.heap.size, 0, none⟩ = some _ := (TA).c0); (have k1a1 : w1.cell? ⟨w.heap.size, 1, none⟩ = some _ := (TA).c1); (have k2a1 : w1.cell? ⟨w.heap.size, 2, none⟩ = some _ := (TA).c2); (try dsimp only at k0a1 k1a1 k2a1)
  (have k0b1 : w1.cell? ⟨(w.heap.size + 1), 0, none⟩ = some _ := (TB).c0); (have k1b1 : w1.cell? ⟨(w.heap.size + 1), 1, none⟩ = some _ := (TB).c1); (have k2b1 : w1.cell? ⟨(w.heap.size + 1), 2, none⟩ = some _ := (TB).c2); (try dsimp only at k0b1 k1b1 k2b1)
  rw [HX.out] at k1a1
  rw [HY.out] at k1b1
  have HTA1 := Lib.hid TA; have HTB1 := Lib.hid TB
  clear TA TB b1 BX
  by_cases h1 : 100 < x.size
  · go_wp2_with fail
    refine (fixed_any _ (HT.out.below HB1.out)).mono ?_
    rintro e w2 ⟨rfl, b2⟩
    have HB2 := Lib.hid (HB1.out.trans (b2.mono HB1.out.size)); clear b2
    go_wp2_with fail
    go_ret
    exact ⟨rfl, HB2.out⟩
  have fa : Fine a := ⟨by have := HSA.out; omega, HA.out⟩
  have FA := Lib.hid fa; clear fa
  by_cases h2 : 100 < y.size
  · go_wp2_with fail
    refine (fixed_any _ (HT.out.below HB1.out)).mono ?_
    rintro e w2 ⟨rfl, b2⟩
    have HB2 := Lib.hid (HB1.out.trans (b2.mono HB1.out.size)); clear b2
    go_wp2_with fail
    go_ret
    exact ⟨rfl, HB2.out⟩
  have fb : Fine b := ⟨by have := HSB.out; omega, HBn.out⟩
  have FB := Lib.hid fb; clear fb
  go_wp2_with fail
  refine (Small_any _ l 50 _ (HL.out.below HB1.out)).mono ?_
  rintro e w' ⟨rfl, rfl⟩
  cases hsm : Wn.small l 50
  · go_wp2_with fail
    refine (fixed_any _ (HT.out.below HB1.out)).mono ?_
    rintro e w2 ⟨rfl, b2⟩
    have HB2 := Lib.hid (HB1.out.trans (b2.mono HB1.out.size)); clear b2
    go_wp2_with fail
    go_ret
    exact ⟨rfl, HB2.out⟩
  have hll : l.length ≤ 50 := by have := hsm; unfold Wn.small at this; simp at this; omega
  have fl : ∀ t ∈ l, Fine t := fun t ht => ⟨by have := hsm; unfold Wn.small at this; simp only [Bool.and_eq_true, List.all_eq_true, decide_eq_true_eq] at this; have := this.1 t ht; omega, HN.out t ht⟩
  have FL := Lib.hid fl; clear fl hsm HN
  cases hma : Wn.may a
  · go_wp2_with fail
    refine (QMA.out false _ hma (HT.out.below HB1.out) FA.out).mono ?_
    rintro e w2 ⟨rfl, b2⟩
    have HB2 := Lib.hid (HB1.out.trans (b2.mono HB1.out.size)); clear b2
    go_wp2_with fail
    refine (fixed_any _ (HT.out.below HB2.out)).mono ?_
    rintro e w3 ⟨rfl, b3⟩
    have HB3 := Lib.hid (HB2.out.trans (b3.mono HB2.out.size)); clear b3
    go_wp2_with fail
    go_ret
    exact ⟨rfl, HB3.out⟩
  go_wp2_with fail
  refine (QMA.out true _ hma (HT.out.below HB1.out) FA.out).mono ?_
  rintro e w2 ⟨rfl, b2⟩
  have HB2 := Lib.hid (HB1.out.trans (b2.mono HB1.out.size))
  have TA := HTA1.out.later b2
  have TB := HTB1.out.later b2
  have hz2 : w.heap.size + 2 ≤ w2.heap.size := by have := b2.size; omega
  clear k0a1 k1a1 k2a1 k0b1 k1b1 k2b1
  (have k0a2 : w2.cell? ⟨w.heap.size, 0, none⟩ = some _ := (TA).c0); (have k1a2 : w2.cell? ⟨w.heap.size, 1, none⟩ = some _ := (TA).c1); (have k2a2 : w2.cell? ⟨w.heap.size, 2, none⟩ = some _ := (TA).c2); (try dsimp only at k0a2 k1a2 k2a2)
  (have k0b2 : w2.cell? ⟨(w.heap.size + 1), 0, none⟩ = some _ := (TB).c0); (have k1b2 : w2.cell? ⟨(w.heap.size + 1), 1, none⟩ = some _ := (TB).c1); (have k2b2 : w2.cell? ⟨(w.heap.size + 1), 2, none⟩ = some _ := (TB).c2); (try dsimp only at k0b2 k1b2 k2b2)
  rw [HX.out] at k1a2
  rw [HY.out] at k1b2
  have HTA2 := Lib.hid TA; have HTB2 := Lib.hid TB
  clear TA TB b2 HTA1 HTB1 HB1 hz1
  cases hmb : Wn.may b
  · go_wp2_with fail
    refine (QMB.out false _ hmb (HT.out.below HB2.out) FB.out).mono ?_
    rintro e w3 ⟨rfl, b3⟩
    have HB3 := Lib.hid (HB2.out.trans (b3.mono HB2.out.size)); clear b3
    go_wp2_with fail
    refine (fixed_any _ (HT.out.below HB3.out)).mono ?_
    rintro e w4 ⟨rfl, b4⟩
    have HB4 := Lib.hid (HB3.out.trans (b4.mono HB3.out.size)); clear b4
    go_wp2_with fail
    go_ret
    exact ⟨rfl, HB4.out⟩
  go_wp2_with fail
  refine (QMB.out true _ hmb (HT.out.below HB2.out) FB.out).mono ?_
  rintro e w3 ⟨rfl, b3⟩
  have HB3 := Lib.hid (HB2.out.trans (b3.mono HB2.out.size))
  have TA := HTA2.out.later b3
  have TB := HTB2.out.later b3
  have hz3 : w.heap.size + 2 ≤ w3.heap.size := by have := b3.size; omega
  clear k0a2 k1a2 k2a2 k0b2 k1b2 k2b2
  (have k0a3 : w3.cell? ⟨w.heap.size, 0, none⟩ = some _ := (TA).c0); (have k1a3 : w3.cell? ⟨w.heap.size, 1, none⟩ = some _ := (TA).c1); (have k2a3 : w3.cell? ⟨w.heap.size, 2, none⟩ = some _ := (TA).c2); (try dsimp only at k0a3 k1a3 k2a3)
  (have k0b3 : w3.cell? ⟨(w.heap.size + 1), 0, none⟩ = some _ := (TB).c0); (have k1b3 : w3.cell? ⟨(w.heap.size + 1), 1, none⟩ = some _ := (TB).c1); (have k2b3 : w3.cell? ⟨(w.heap.size + 1), 2, none⟩ = some _ := (TB).c2); (try dsimp only at k0b3 k1b3 k2b3)
  rw [HX.out] at k1a3
  rw [HY.out] at k1b3
  have HTA3 := Lib.hid TA; have HTB3 := Lib.hid TB
  clear TA TB b3 HTA2 HTB2 HB2 hz2
  have hva := Wn.may_valid hma
  have hvb := Wn.may_valid hmb
  have HVA := Lib.hid hva; have HVB := Lib.hid hvb
  clear hma hmb hva hvb
  -- what the texts are
  have fab : ∀ t ∈ [a, b], Fine t := by
    intro t ht
    simp only [List.mem_cons, List.not_mem_nil, or_false] at ht
    rcases ht with rfl | rfl
    · exact FA.out
    · exact FB.out
  have vab : ∀ t ∈ [a, b], Wn.Valid t := by
    intro t ht
    simp only [List.mem_cons, List.not_mem_nil, or_false] at ht
    rcases ht with rfl | rfl
    · exact HVA.out
    · exact HVB.out
  have fla : ∀ t ∈ l ++ [a], Fine t := by
    intro t ht
    rcases List.mem_append.1 ht with h | h
    · exact FL.out t h
    · rw [List.mem_singleton.1 h]; exact FA.out
  generalize hr2 : Wn.text [a, b] = r2
  generalize hz2 : Wn.str r2 = z2
  have hz2l : z2.size ≤ 2097200 := by rw [← hz2, Wn.str_size, ← hr2]; have := fine_text fab; simpa using this
  have hz2x : Wn.lex z2.data.toList = [a, b] := by rw [← hz2]; show Wn.lex r2 = _; rw [← hr2]; exact Wn.lex_text _ vab
  have QT2 := Lib.hid (fun v w ht hW => Text_r v [a, b] r2 z2 w hr2 hz2 ht hW fab (by simp))
  have QZ2 := Lib.hid (fun w => All_toks z2 [a, b] w (by omega) hz2x)
  have hone : Wn.oneText a ≠ [] := (Wn.head_cases HVA.out).1
  generalize hrl : Wn.text l = rl
  generalize hzl : Wn.str rl = zl
  generalize hrm : Wn.text (l ++ [a]) = rm
  generalize hzm : Wn.str rm = zm
  have hmore : zl.size < zm.size := by rw [← hzl, ← hzm, Wn.str_size, Wn.str_size, ← hrl, ← hrm]; exact Wn.text_more l a hone
  have hzml : zm.size ≤ 53478600 := by rw [← hzm, Wn.str_size, ← hrm]; have := fine_text fla; rw [List.length_append, List.length_singleton] at this; omega
  have QTl := Lib.hid (fun v w ht hW => Text_r v l rl zl w hrl hzl ht hW FL.out (by omega))
  have QTm := Lib.hid (fun v w ht hW => Text_r v (l ++ [a]) rm zm w hrm hzm ht hW fla (by rw [List.length_append, List.length_singleton]; omega))
  generalize hro : Wn.oneText a = ro at hone
  generalize hzo : Wn.str ro = zo
  have hzo0 : 0 < zo.size := by rw [← hzo, Wn.str_size]; exact List.length_pos_iff.2 hone
  have hzo1 : zo.size ≤ 1048596 := by rw [← hzo, Wn.str_size, ← hro]; exact FA.out.one
  have QO := Lib.hid (fun w ht => QOA.out ro zo w hro hzo ht FA.out)
  clear hr2 hz2 hz2x fab vab fla hone hrl hzl hrm hzm hro hzo QOA HVA HVB QMA QMB HA HBn
  go_wp2_with fail
  have TW := Lib.hid (MK2.out w3)
  have HB4 := Lib.hid (HB3.out.alloc (by omega) (Obj.cells #[Value.int IntKind.i64 a.fst, Value.string x, Value.int IntKind.i64 a.snd.snd, Value.int IntKind.i64 b.fst, Value.string y, Value.int IntKind.i64 b.snd.snd] 24))
  have hz4 : (w3.alloc (Obj.cells #[Value.int IntKind.i64 a.fst, Value.string x, Value.int IntKind.i64 a.snd.snd, Value.int IntKind.i64 b.fst, Value.string y, Value.int IntKind.i64 b.snd.snd] 24)).heap.size = w3.heap.size + 1 := by simp
  have HTA4 := Lib.hid (HTA3.out.later ((Below.refl _ _).alloc (Nat.le_refl _) (Obj.cells #[Value.int IntKind.i64 a.fst, Value.string x, Value.int IntKind.i64 a.snd.snd, Value.int IntKind.i64 b.fst, Value.string y, Value.int IntKind.i64 b.snd.snd] 24)))
  clear k0a3 k1a3 k2a3 k0b3 k1b3 k2b3 HTA3 HTB3 MK2
  generalize w3.alloc (Obj.cells #[Value.int IntKind.i64 a.fst, Value.string x, Value.int IntKind.i64 a.snd.snd, Value.int IntKind.i64 b.fst, Value.string y, Value.int IntKind.i64 b.snd.snd] 24) = w4 at *
  have TA := HTA4.out
  (have k0a4 : w4.cell? ⟨w.heap.size, 0, none⟩ = some _ := (TA).c0); (have k1a4 : w4.cell? ⟨w.heap.size, 1, none⟩ = some _ := (TA).c1); (have k2a4 : w4.cell? ⟨w.heap.size, 2, none⟩ = some _ := (TA).c2); (try dsimp only at k0a4 k1a4 k2a4)
  rw [HX.out] at k1a4
  have HR4 := Lib.hid (HR.out.later HB4.out)
  have HL4 := Lib.hid (HL.out.below HB4.out)
  have hT4 := Lib.hid (HT.out.below HB4.out)
  have hz5 : w.heap.size + 3 ≤ w4.heap.size := by omega
  have q0 : (w4.alloc (Obj.cells #[] 24)).cell? ⟨w.heap.size, 0, none⟩ = some (Value.int IntKind.i64 a.fst) := cell_alloc_old k0a4 _
  have q1 : (w4.alloc (Obj.cells #[] 24)).cell? ⟨w.heap.size, 1, none⟩ = some (Value.string x) := cell_alloc_old k1a4 _
  have q2 : (w4.alloc (Obj.cells #[] 24)).cell? ⟨w.heap.size, 2, none⟩ = some (Value.int IntKind.i64 a.snd.snd) := cell_alloc_old k2a4 _
  clear TA HR HL HT hz4 hz3
  go_region_law (first
    | (refine step_first (by rfl) _ _ (by rfl) w4.heap.size _ _ l (by rfl) (by rfl) (by (repeat (first | with_reducible exact blk_new (by simp; done) _ | (with_reducible refine blk_drew.trans ?_) | (with_reducible refine (blk_old (by first | omega | (simp <;> omega)) _).trans ?_) | (with_reducible refine (HG5.out.block _ (by first | omega | (simp <;> omega)) (by first | omega | (simp <;> omega))).trans ?_)))) (by simp) (HR4.out.later (by (repeat (first | with_reducible exact Below.refl _ _ | (with_reducible refine Below.drew ?_) | ((with_reducible refine Below.alloc ?_ ?_ _); rotate_left; (focus (first | omega | (simp <;> omega)))))))) (by omega) (by first | omega | (simp <;> omega)) ?_; intro v5 w5 hown5 hgrow5; (have HO5 := Lib.hid hown5); (have HG5 := Lib.hid hgrow5); (have HB5 : Hid (Below w4.heap.size w4 w5) := Lib.hid (Below.grown (by (repeat (first | with_reducible exact Below.refl _ _ | (with_reducible refine Below.drew ?_) | ((with_reducible refine Below.alloc ?_ ?_ _); rotate_left; (focus (first | omega | (simp <;> omega))))))) hgrow5 (by first | omega | (simp <;> omega)) (fun k hk => by cases hk; first | omega | (simp <;> omega)))); (have hz6 : w4.heap.size ≤ w5.heap.size := HB5.out.size); (have T5 := HTA4.out.later HB5.out); (have k0a5 : w5.cell? ⟨w.heap.size, 0, none⟩ = some _ := (T5).c0); (have k1a5 : w5.cell? ⟨w.heap.size, 1, none⟩ = some _ := (T5).c1); (have k2a5 : w5.cell? ⟨w.heap.size, 2, none⟩ = some _ := (T5).c2); (try dsimp only at k0a5 k1a5 k2a5); rw [HX.out] at k1a5; clear hown5 hgrow5 T5)
    | (refine step_one (by rfl) _ _ (by rfl) w4.heap.size _ v5 l a (by rfl) (by rfl) (ownsRow_later HO5.out (by (repeat (first | with_reducible exact Below.refl _ _ | (with_reducible refine Below.drew ?_) | ((with_reducible refine Below.alloc ?_ ?_ _); rotate_left; (focus (first | omega | (simp <;> omega)))))))) (by rw [HX.out]; (repeat (first | with_reducible exact blk_new (by simp; done) _ | (with_reducible refine blk_drew.trans ?_) | (with_reducible refine (blk_old (by first | omega | (simp <;> omega)) _).trans ?_) | (with_reducible refine (HG5.out.block _ (by first | omega | (simp <;> omega)) (by first | omega | (simp <;> omega))).trans ?_)))) (by omega) (by first | omega | (simp <;> omega)) ?_; intro v6 w6 hown6 hgrow6; (have HO6 := Lib.hid hown6); (have HB6 : Hid (Below w4.heap.size w4 w6) := Lib.hid (Below.grown (HB5.out.trans (Below.mono (by (repeat (first | with_reducible exact Below.refl _ _ | (with_reducible refine Below.drew ?_) | ((with_reducible refine Below.alloc ?_ ?_ _); rotate_left; (focus (first | omega | (simp <;> omega))))))) hz6)) hgrow6 (by first | omega | (simp <;> omega)) (fun k hk => (HO5.out.lt k hk).1))); clear hown6 hgrow6))
  all_goals
    clear HO5 HG5 HB5 hz6 k0a5 k1a5 k2a5
    have HBw6 : Hid (Below w.heap.size w w6) := Lib.hid (HB4.out.trans (HB6.out.mono (by omega)))
    have TW6 := Lib.hid (TW.out.below HB6.out)
    have T6 := HTA4.out.later HB6.out
    have SM6 := Lib.hid (Toks.ofRow HO6.out)
    have SL6 := Lib.hid (HL4.out.below HB6.out)
    have ht6 := Lib.hid (hT4.out.below HB6.out)
    have HT6 := Lib.hid T6
    clear T6 HO6 HB6 q0 q1 q2 k0a4 k1a4 k2a4 HTA4 HR4 HL4 hT4 TW HB4 HB3
    have hzw6 : w.heap.size ≤ w6.heap.size := HBw6.out.size
    go_wp2_with fail
    refine (QT2.out _ _ (ht6.out.below (by (repeat (first | with_reducible exact Below.refl _ _ | (with_reducible refine Below.drew ?_) | ((with_reducible refine Below.alloc ?_ ?_ _); rotate_left; (focus (first | omega | (simp <;> omega)))))))) (TW6.out.below (by (repeat (first | with_reducible exact Below.refl _ _ | (with_reducible refine Below.drew ?_) | ((with_reducible refine Below.alloc ?_ ?_ _); rotate_left; (focus (first | omega | (simp <;> omega))))))))).mono ?_
    rintro e w7 ⟨rfl, b7⟩
    have HB7 : Hid (Below w6.heap.size w6 w7) := Lib.hid (Below.trans (by (repeat (first | with_reducible exact Below.refl _ _ | (with_reducible refine Below.drew ?_) | ((with_reducible refine Below.alloc ?_ ?_ _); rotate_left; (focus (first | omega | (simp <;> omega))))))) b7); clear b7
    have hz7 : w6.heap.size ≤ w7.heap.size := HB7.out.size
    go_wp2_with fail
    refine (QZ2.out _).mono ?_
    rintro e w8 ⟨v8, rfl, h8, b8⟩
    have HB8 : Hid (Below w6.heap.size w6 w8) := Lib.hid (HB7.out.trans (b8.mono hz7)); clear b8
    have S8 := Lib.hid h8; clear h8
    have hz8 : w6.heap.size ≤ w8.heap.size := HB8.out.size
    go_wp2_with fail
    refine (Same_b _ _ [a, b] [a, b] true _ (by simp) S8.out (TW6.out.below HB8.out)).mono ?_
    rintro e w9 ⟨rfl, b9⟩
    have HB9 : Hid (Below w6.heap.size w6 w9) := Lib.hid (HB8.out.trans (b9.mono hz8)); clear b9
    have hz9 : w6.heap.size ≤ w9.heap.size := HB9.out.size
    have T9 := HT6.out.later HB9.out
    (have k0a9 : w9.cell? ⟨w.heap.size, 0, none⟩ = some _ := (T9).c0); (have k1a9 : w9.cell? ⟨w.heap.size, 1, none⟩ = some _ := (T9).c1); (have k2a9 : w9.cell? ⟨w.heap.size, 2, none⟩ = some _ := (T9).c2); (try dsimp only at k0a9 k1a9 k2a9)
    rw [HX.out] at k1a9
    clear T9
    go_wp2_with fail
    refine (QO.out _ (ht6.out.below HB9.out)).mono ?_
    rintro e w10 ⟨rfl, b10⟩
    have HB10 : Hid (Below w6.heap.size w6 w10) := Lib.hid (HB9.out.trans (b10.mono hz9)); clear b10
    have hz10 : w6.heap.size ≤ w10.heap.size := HB10.out.size
    go_wp2_with fail
    refine (QTm.out _ _ (ht6.out.below HB10.out) (SM6.out.below HB10.out)).mono ?_
    rintro e w11 ⟨rfl, b11⟩
    have HB11 : Hid (Below w6.heap.size w6 w11) := Lib.hid (HB10.out.trans (b11.mono hz10)); clear b11
    have hz11 : w6.heap.size ≤ w11.heap.size := HB11.out.size
    go_wp2_with fail
    refine (QTl.out _ _ (ht6.out.below HB11.out) (SL6.out.below HB11.out)).mono ?_
    rintro e w12 ⟨rfl, b12⟩
    have HB12 : Hid (Below w.heap.size w w12) := Lib.hid (HBw6.out.trans ((HB11.out.trans (b12.mono hz11)).mono hzw6)); clear b12
    go_wp2_with fail
    go_ret
    exact ⟨ret_bool (by simp <;> omega), HB12.out⟩
end Go.Proofs.YtjhmljgmckadnaaDoor
