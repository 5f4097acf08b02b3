/- What toks.Text answers: the text of tokens. -/
import Derived.Test.YtnkdppbpcinjhaaDoorTokT
set_option maxRecDepth 20000
namespace Wn
/-- the text of tokens behind another one -/
def texts : Option Tok → List Tok → List UInt8
  | _, [] => []
  | none, t :: l => oneText t ++ texts (some t) l
  | some p, t :: l => (if apart (oneText p ++ oneText t) p t then [47, 42, 42, 47] else []) ++ (oneText t ++ texts (some t) l)
def text (l : List Tok) : List UInt8 := texts none l
/-- the token ahead of a place -/
def ahead (l : List Tok) (k : Nat) : Option Tok := if k = 0 then none else l[k - 1]?
/-- its text; nothing ahead of the first -/
def aheadText (l : List Tok) (k : Nat) : List UInt8 := match ahead l k with | none => [] | some t => oneText t
theorem ahead_succ (l : List Tok) (k : Nat) (t : Tok) (h : l[k]? = some t) : ahead l (k + 1) = some t := by simp [ahead, h]
theorem aheadText_succ (l : List Tok) (k : Nat) (t : Tok) (h : l[k]? = some t) : aheadText l (k + 1) = oneText t := by simp [aheadText, ahead_succ l k t h]
end Wn
namespace Go.Proofs.YtnkdppbpcinjhaaDoor
open Go.RowKit
/-- a token as a Go program may hold it here: a short text, a number that is an int -/
def Fine (t : Wn.Tok) : Prop := t.2.1.length ≤ 1048576 ∧ -9223372036854775808 ≤ t.2.2 ∧ t.2.2 ≤ 9223372036854775807
theorem Fine.one {t : Wn.Tok} (h : Fine t) : (Wn.oneText t).length ≤ 1048596 := by have := Wn.oneText_len t h.2.1 h.2.2; have := h.1; omega
theorem bld_new (w : World) : Bld w.heap.size w.heap.size [] (w.alloc (.cells #[.pointer none, .slice none 0 0] 60)) :=
  .inl ⟨Nat.le_refl _, _, heap_alloc_new w _, World.ownsRow_nil _ _ _ _, by simp [Value.ownBlock]⟩
theorem grown_none {w w' : World} (h : Below w.heap.size w w') : w.grownBy w' none := ⟨h.os, h.tape, h.output, h.size, fun k hk _ => h.block k hk⟩
theorem ownsRow_later {w w' : World} {B : Nat} {e : TypeId} {size : Nat} {v : Value} {n : Nat} {xs : List Value} (h : w.ownsRow B e size v n xs) (hb : Below w.heap.size w w') : w'.ownsRow B e size v n xs := by
  refine h.kept (grown_none hb) ?_
  cases v.ownBlock with
  | none => exact .inl rfl
  | some k => exact .inr (by simp)
theorem Bld.later {B b : Nat} {l : List UInt8} {w w' : World} (h : Bld B b l w) (hb : Below w.heap.size w w') : Bld B b l w' := by
  have go : ∀ p, Lib.BuilderAt 60 5 B b p (Lib.byteCells l) w → Lib.BuilderAt 60 5 B b p (Lib.byteCells l) w' := fun p h => by
    have hl := h.lt
    obtain ⟨hB, v, hbk, hown, hne⟩ := h
    exact ⟨hB, v, by rw [hb.block b hl]; exact hbk, ownsRow_later hown hb, hne⟩
  rcases h with h | h
  · exact .inl (go _ h)
  · exact .inr (go _ h)
theorem Bld.drewN {B b : Nat} {l : List UInt8} {w : World} (h : Bld B b l w) (n : Nat) : Bld B b l (w.drewN n) := h.later ⟨rfl, rfl, rfl, Nat.le_refl _, fun _ _ => rfl⟩
theorem below_drewN' {B : Nat} {a w : World} (h : Below B a w) (n : Nat) : Below B a (w.drewN n) := ⟨h.os, h.tape, h.output, h.size, h.block⟩
/-- WriteString of a text that is known as a string -/
theorem WriteString_z (B b : Nat) (l m : List UInt8) (z : ByteArray) (w : World) (hz : Wn.str m = z) (h : Bld B b l w) (hlen : l.length + m.length ≤ 140737488355328) (hBw : B ≤ w.heap.size) :
    Calls Tryd.prog 43 #[.pointer (some ⟨b, 0, none⟩), .string z] w fun e w' => e = .returned (.tuple #[.int .i64 m.length, .nilIface]) ∧ Bld B b (l ++ m) w' ∧ Below B w w' := by
  subst hz; exact WriteString_any B b l m w h hlen hBw
theorem Bld.lt {B b : Nat} {l : List UInt8} {w : World} (h : Bld B b l w) : b < w.heap.size := by
  rcases h with h | h <;> exact h.lt
set_option maxRecDepth 100000 in
set_option maxHeartbeats 2000000 in
theorem Text_any (v : Value) (l : List Wn.Tok) (w : World) (ht : Tab w) (hW : Toks w v l) (hf : ∀ t ∈ l, Fine t) (hlen : l.length ≤ 1048576) :
    Calls Tryd.prog 19 #[v] w fun e w' => e = .returned (.string (Wn.str (Wn.text l))) ∧ Below w.heap.size w w' := by
  obtain ⟨ao, cap, rfl, hc1, hc2, hcell⟩ := hW
  have HCell := Lib.hid hcell; clear hcell
  have HF := Lib.hid hf; clear hf
  have HT := Lib.hid ht; clear ht
  unfold maxLen at hc2
  go_enter Tryd.func19, Tryd.ntmps19
  go_wp2_with fail
  have HB0 : Hid (Below w.heap.size w (w.alloc (.cells #[.pointer none, .slice none 0 0] 60))) := Lib.hid ((Below.refl _ _).alloc (Nat.le_refl _) _)
  have HK0 := Lib.hid (bld_new w)
  go_loopw [4, 10] (fun v4 v10 wr => ∃ (k : Nat) (acc : List UInt8), k ≤ l.length ∧ v10 = .int .i64 (k : Int) ∧ v4 = .string (Wn.str (Wn.aheadText l k)) ∧ acc.length ≤ k * 1048600 ∧ Hid (Bld w.heap.size w.heap.size acc wr) ∧ Hid (Below w.heap.size w wr) ∧ Hid (acc ++ Wn.texts (Wn.ahead l k) (l.drop k) = Wn.text l)) (fun _ v10 _ => l.length - (intOf v10).toNat)
  case atStart => exact ⟨0, [], by omega, rfl, rfl, by simp, HK0, HB0, Lib.hid rfl⟩
  case round =>
    obtain ⟨k, acc, hk, rfl, rfl, hacc, HK, HB, HA⟩ := hrel
    have hsz := HK.out.lt
    by_cases hlt : k < l.length
    · obtain ⟨t, hTk⟩ : ∃ t, l[k]? = some t := ⟨l[k], List.getElem?_eq_getElem hlt⟩
      obtain ⟨b, off, rfl, hin⟩ := HCell.out k _ hTk
      have hfine := HF.out t (List.mem_of_getElem? hTk)
      have hin' := hin.below HB.out hin.lt
      have q1 := fun w ht => One_any t w ht (by have := hfine.1; omega) hfine.2.1 hfine.2.2
      have hone := hfine.one
      rw [tokV_str] at q1
      have BX := Lib.hid (box1 wr t)
      have HTK := Lib.hid hTk
      have HFI := Lib.hid hfine
      have hat : Wn.ahead l (k + 1) = some t := Wn.ahead_succ l k t hTk
      have hatt : Wn.aheadText l (k + 1) = Wn.oneText t := Wn.aheadText_succ l k t hTk
      have HAT := Lib.hid hat
      have HATT := Lib.hid hatt
      clear hin hTk hfine hat hatt
      obtain ⟨i0, i1, i2⟩ := hin'
      generalize hx : Wn.str t.2.1 = x at *
      generalize hz : Wn.str (Wn.oneText t) = z at *
      have Q1 := Lib.hid q1; clear q1
      have HX := Lib.hid hx; clear hx
      have HZ := Lib.hid hz; clear hz
      have HZ0 : Hid ((wr.alloc (Obj.cells #[Value.int IntKind.i64 t.1, Value.string x, Value.int IntKind.i64 t.2.2] 24)).heap.size = wr.heap.size + 1) := Lib.hid (by simp)
      go_wp2_with fail
      refine (Q1.out _ (HT.out.below (HB.out.alloc (by omega) _))).mono ?_
      rintro e w1 ⟨rfl, hb⟩
      have hs1 : wr.heap.size + 1 ≤ w1.heap.size := by have := hb.size; rw [HZ0.out] at this; exact this
      have HB1 : Hid (Below w.heap.size w w1) := Lib.hid ((HB.out.alloc (by omega) _).trans (hb.mono (by rw [HZ0.out]; omega)))
      have HK1 : Hid (Bld w.heap.size w.heap.size acc w1) := Lib.hid ((HK.out.later ((Below.refl _ _).alloc (Nat.le_refl _) _)).later hb)
      have T1 := BX.out.later hb
      (have k0t1 : w1.cell? ⟨wr.heap.size, 0, none⟩ = some _ := (T1).c0); (have k1t1 : w1.cell? ⟨wr.heap.size, 1, none⟩ = some _ := (T1).c1); (have k2t1 : w1.cell? ⟨wr.heap.size, 2, none⟩ = some _ := (T1).c2); (try dsimp only at k0t1 k1t1 k2t1)
      rw [HX.out] at k1t1
      have hzl : z.size ≤ 1048596 := by rw [← HZ.out, Wn.str_size]; exact hone
      clear hb T1 i0 i1 i2 BX
      cases k with
      | zero =>
        rw [Nat.zero_mul] at hacc
        have he : Wn.aheadText l 0 = [] := rfl
        have ha0 : Wn.ahead l 0 = none := rfl
        have HDR : Hid (l.drop 0 = t :: l.drop 1) := Lib.hid (by rw [List.drop_eq_getElem_cons hlt]; have := HTK.out; rw [List.getElem?_eq_getElem hlt] at this; rw [Option.some.inj this])
        have HAA : Hid (acc ++ Wn.oneText t ++ Wn.texts (some t) (l.drop 1) = Wn.text l) := Lib.hid (by rw [← HA.out, HDR.out, ha0]; simp [Wn.texts])
        clear he ha0
        go_wp2_with fail
        go_quiet (fail)
        go_wp2_with fail
        refine (WriteString_z _ _ acc (Wn.oneText t) z _ HZ.out (HK1.out.drewN _) (by omega) (by simp; omega)).mono ?_
        rintro e w2 ⟨rfl, hk2, hb2⟩
        have HK2 := Lib.hid hk2
        have HB2 : Hid (Below w.heap.size w w2) := Lib.hid ((below_drewN' HB1.out _).trans hb2)
        clear hk2 hb2
        go_wp2_with fail
        refine ⟨⟨1, acc ++ Wn.oneText t, by omega, by go_num, ?_, ?_, HK2, HB2, Lib.hid ?_⟩, by simp [intOf]; omega⟩
        · have e1 := HATT.out
          rw [Nat.zero_add] at e1
          rw [e1, HZ.out]
        · simp; omega
        · have e1 := HAT.out
          rw [Nat.zero_add] at e1
          rw [e1]; exact HAA.out
      | succ j =>
        obtain ⟨p, hTj⟩ : ∃ p, l[j]? = some p := ⟨l[j], List.getElem?_eq_getElem (by omega)⟩
        have haj : Wn.ahead l (j + 1) = some p := Wn.ahead_succ l j p hTj
        have hatj : Wn.aheadText l (j + 1) = Wn.oneText p := Wn.aheadText_succ l j p hTj
        have hpf := HF.out p (List.mem_of_getElem? hTj)
        have HDR : Hid (l.drop (j + 1) = t :: l.drop (j + 1 + 1)) := Lib.hid (by rw [List.drop_eq_getElem_cons hlt]; have := HTK.out; rw [List.getElem?_eq_getElem hlt] at this; rw [Option.some.inj this])
        have HAA : Hid (acc ++ ((if Wn.apart (Wn.oneText p ++ Wn.oneText t) p t then [47, 42, 42, 47] else []) ++ Wn.oneText t) ++ Wn.texts (some t) (l.drop (j + 1 + 1)) = Wn.text l) := Lib.hid (by rw [← HA.out, HDR.out, haj]; simp [Wn.texts])
        obtain ⟨b', off', hbo, hinp⟩ := HCell.out j _ hTj
        simp only [Option.some.injEq, Addr.mk.injEq] at hbo
        obtain ⟨rfl, rfl, _⟩ := hbo
        obtain ⟨p0, p1, p2⟩ := hinp.below HB1.out hinp.lt
        have q2 := fun w => apart_any (Wn.oneText p ++ Wn.oneText t) p t w (by have := hpf.one; simp; omega)
        rw [← Wn.str_append, ← hatj, HZ.out, tokV_str, tokV_str, HX.out] at q2
        have hpl : (Wn.str (Wn.aheadText l (j + 1))).size ≤ 1048596 := by rw [hatj, Wn.str_size]; exact hpf.one
        generalize Wn.str (Wn.aheadText l (j + 1)) = y at *
        generalize hy : Wn.str p.2.1 = px at *
        rw [hatj] at q2
        generalize hD : Wn.apart (Wn.oneText p ++ Wn.oneText t) p t = D at *
        have Q2 := Lib.hid q2
        have hadd : ¬ 9223372036854775807 < y.size + z.size := by omega
        have hj1 : (j : Int) < (l.length : Int) := by omega
        have hj2 : j < l.length := by omega
        have hj3 : IntKind.i64.wrap (j : Int) = (j : Int) := IntWalk.i64_in _ (by omega)
        clear q2 hinp hTj haj hatj hpf hD hy
        go_wp2_with fail
        refine region_tail 12 (by kernel_rfl) (by kernel_rfl) ?_
        simp only [List.take_succ_cons, List.take_zero, List.drop_succ_cons, List.drop_zero]
        repeat still_step
        refine wpStill_nil ?_
        go_wp2_with fail
        refine (Q2.out _).mono ?_
        rintro e w2 ⟨rfl, hb2⟩
        have hs2 : w1.heap.size ≤ w2.heap.size := hb2.size
        have HB2 : Hid (Below w.heap.size w w2) := Lib.hid (HB1.out.drew.trans (hb2.mono (by show w.heap.size ≤ w1.heap.size; omega)))
        have HK2 : Hid (Bld w.heap.size w.heap.size acc w2) := Lib.hid ((HK1.out.drewN 1).later hb2)
        clear hb2 p0 p1 p2 k0t1 k1t1 k2t1
        cases D
        · have HA2 : Hid (acc ++ Wn.oneText t ++ Wn.texts (some t) (l.drop (j + 1 + 1)) = Wn.text l) := Lib.hid (by rw [← HAA.out]; simp)
          go_wp2_with fail
          refine (WriteString_z _ _ acc (Wn.oneText t) z _ HZ.out HK2.out (by omega) (by omega)).mono ?_
          rintro e w3 ⟨rfl, hk3, hb3⟩
          have HK3 := Lib.hid hk3
          have HB3 : Hid (Below w.heap.size w w3) := Lib.hid (HB2.out.trans hb3)
          clear hk3 hb3
          go_wp2_with fail
          refine ⟨⟨j + 1 + 1, acc ++ Wn.oneText t, by omega, by go_num, ?_, ?_, HK3, HB3, Lib.hid ?_⟩, by simp [intOf]; omega⟩
          · rw [HATT.out, HZ.out]
          · simp; omega
          · rw [HAT.out]; exact HA2.out
        · have HA2 : Hid (acc ++ [47, 42, 42, 47] ++ Wn.oneText t ++ Wn.texts (some t) (l.drop (j + 1 + 1)) = Wn.text l) := Lib.hid (by rw [← HAA.out]; simp)
          go_wp2_with fail
          refine (WriteString_z _ _ acc [47, 42, 42, 47] _ _ rfl HK2.out (by simp; omega) (by omega)).mono ?_
          rintro e w3 ⟨rfl, hk3, hb3⟩
          have hs3 := hb3.size
          have HK3 := Lib.hid hk3
          have HB3 : Hid (Below w.heap.size w w3) := Lib.hid (HB2.out.trans hb3)
          clear hk3 hb3
          go_wp2_with fail
          refine (WriteString_z _ _ _ (Wn.oneText t) z _ HZ.out HK3.out (by simp; omega) (by omega)).mono ?_
          rintro e w4 ⟨rfl, hk4, hb4⟩
          have HK4 := Lib.hid hk4
          have HB4 : Hid (Below w.heap.size w w4) := Lib.hid (HB3.out.trans hb4)
          clear hk4 hb4
          go_wp2_with fail
          refine ⟨⟨j + 1 + 1, acc ++ [47, 42, 42, 47] ++ Wn.oneText t, by omega, by go_num, ?_, ?_, HK4, HB4, Lib.hid ?_⟩, by simp [intOf]; omega⟩
          · rw [HATT.out, HZ.out]
          · simp; omega
          · rw [HAT.out]; exact HA2.out
    · have hd : l.drop k = [] := List.drop_of_length_le (by omega)
      have HR : Hid (acc = Wn.text l) := Lib.hid (by rw [← HA.out, hd]; cases Wn.ahead l k <;> simp [Wn.texts])
      clear hd
      go_wp2_with fail
      refine (Tryd.Builder_String_any w.heap.size w.heap.size acc _ HK.out (by omega)).mono ?_
      rintro e w1 ⟨rfl, hb1⟩
      have HB1 : Hid (Below w.heap.size w w1) := Lib.hid (HB.out.trans hb1)
      clear hb1
      go_wp2_with fail
      go_ret
      exact ⟨ret_str (by rw [← HR.out]; rfl), HB1.out⟩
end Go.Proofs.YtnkdppbpcinjhaaDoor
