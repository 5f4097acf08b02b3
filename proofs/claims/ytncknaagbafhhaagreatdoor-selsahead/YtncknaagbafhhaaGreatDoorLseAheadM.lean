/- SelsAhead: whatever the text and the number, the law answers true, and nothing that was there has turned. -/
import Derived.Test.YtncknaagbafhhaaGreatDoorSelAuM
import Derived.Test.YtncknaagbafhhaaGreatDoorGT
set_option linter.unusedVariables false
set_option linter.unusedSimpArgs false
set_option maxRecDepth 20000
namespace Wn
theorem setHead_get {c : Int} : ∀ {ps : List (Int × List Sm)} {i : Nat} {p : Int × List Sm}, ps[i]? = some p → (setHead c ps)[i]? = some (if i = 0 then c else p.1, p.2)
  | q :: l, 0, p, h => by simp at h; subst h; rfl
  | q :: l, i + 1, p, h => by simpa [setHead] using h
theorem setHead_length {c : Int} : ∀ ps : List (Int × List Sm), (setHead c ps).length = ps.length
  | [] => rfl
  | _ :: _ => rfl
theorem take_next {α : Type} {l : List α} {i : Nat} {x : α} (h : l[i]? = some x) : l.take (i + 1) = l.take i ++ [x] := by
  rw [List.take_add_one, h]; rfl
end Wn
namespace Go.Proofs.YtncknaagbafhhaaGreatDoor
open Go.RowKit Go.Sort
/-- sels.Read of a.b, a sign and a text -/
theorem ahead_run (s : ByteArray) (b : UInt8) (S : ByteArray) (hS : S = Wn.str ([97, 46, 98] ++ b :: s.data.toList)) (w : World) (hs : s.size ≤ 300) :
    Calls Tryz.prog 15 #[.string S] w (PPost (Wn.selsRead ([97, 46, 98] ++ b :: s.data.toList)) w) := by
  subst hS
  have hl : s.data.toList.length ≤ 300 := by simpa using hs
  have := SRead_v (Wn.str ([97, 46, 98] ++ b :: s.data.toList)) w (by rw [Wn.str_size]; simp at hl ⊢; omega)
  rw [str_data] at this
  exact this
theorem ahead_text (s : ByteArray) (b : UInt8) : (⟨#[97, 46, 98]⟩ : ByteArray) ++ ⟨#[b]⟩ ++ s = Wn.str ([97, 46, 98] ++ b :: s.data.toList) := by
  have e : s = Wn.str s.data.toList := by unfold Wn.str; simp
  rw [e, show (⟨#[97, 46, 98]⟩ : ByteArray) = Wn.str [97, 46, 98] from rfl, show (⟨#[b]⟩ : ByteArray) = Wn.str [b] from rfl, Wn.str_append, Wn.str_append, str_data]
  rfl
theorem ahead_sign (s : ByteArray) (comb : Int) (h1 : 1 ≤ comb) (h4 : comb ≤ 4) : ∃ bb : UInt8, ((bb = 32 ∧ comb = 1) ∨ (bb = 62 ∧ comb = 2) ∨ (bb = 43 ∧ comb = 3) ∨ (bb = 126 ∧ comb = 4)) ∧ (⟨#[97, 46, 98]⟩ : ByteArray) ++ (⟨#[32, 62, 43, 126]⟩ : ByteArray).extract (comb.toNat - 1) comb.toNat ++ s = Wn.str ([97, 46, 98] ++ bb :: s.data.toList) := by
  have hc : comb = 1 ∨ comb = 2 ∨ comb = 3 ∨ comb = 4 := by omega
  rcases hc with rfl | rfl | rfl | rfl
  · exact ⟨32, by simp, ahead_text s 32⟩
  · exact ⟨62, by simp, ahead_text s 62⟩
  · exact ⟨43, by simp, ahead_text s 43⟩
  · exact ⟨126, by simp, ahead_text s 126⟩
theorem own_row1 {W : World} {n base : Nat} {c : List Value} (h : W.heap[n]? = some (.cells c.toArray ptK.e)) (hc : c.length = 2) (hb : base ≤ n) : W.ownsRow base ptK.e ptK.sz (.slice (some ⟨n, 0, none⟩) 1 1) [c].length [c].flatten :=
  ⟨by simp [hc]; rfl, .inr ⟨n, 1, _, rfl, hb, h, Nat.le_refl _, by unfold maxLen; omega, by simp [hc]; rfl, by simp [List.take_of_length_le (show c.length ≤ ptK.sz by rw [hc]; exact Nat.le_refl _)]⟩⟩
/-- the boxes of the law -/
structure AB (n : Nat) (w W : World) (q : List UInt8) : Prop where
  below : Below n w W
  size : W.heap.size = n + 3
  a : W.heap[n]? = some (.cells #[.int .i64 2, .string ⟨#[97]⟩, .string ⟨#[]⟩, .int .i64 0, .int .i64 0, .slice none 0 0, .int .i64 4, .string ⟨#[98]⟩, .string ⟨#[]⟩, .int .i64 0, .int .i64 0, .slice none 0 0] 51)
  b : W.heap[n + 1]? = some (.cells #[.int .i64 0, .slice (some ⟨n, 0, none⟩) 2 2] 49)
  c : W.heap[n + 2]? = some (.cells #[.slice (some ⟨n + 1, 0, none⟩) 1 1, .string (Wn.str q)] 46)
theorem AB.start (w : World) (q : List UInt8) : AB w.heap.size w (((w.alloc (.cells #[.int .i64 2, .string ⟨#[97]⟩, .string ⟨#[]⟩, .int .i64 0, .int .i64 0, .slice none 0 0, .int .i64 4, .string ⟨#[98]⟩, .string ⟨#[]⟩, .int .i64 0, .int .i64 0, .slice none 0 0] 51)).alloc (.cells #[.int .i64 0, .slice (some ⟨w.heap.size, 0, none⟩) 2 2] 49)).alloc (.cells #[.slice (some ⟨w.heap.size + 1, 0, none⟩) 1 1, .string (Wn.str q)] 46)) q := by
  have a := heap_alloc_new w (.cells #[.int .i64 2, .string ⟨#[97]⟩, .string ⟨#[]⟩, .int .i64 0, .int .i64 0, .slice none 0 0, .int .i64 4, .string ⟨#[98]⟩, .string ⟨#[]⟩, .int .i64 0, .int .i64 0, .slice none 0 0] 51)
  generalize hA : w.alloc (.cells #[.int .i64 2, .string ⟨#[97]⟩, .string ⟨#[]⟩, .int .i64 0, .int .i64 0, .slice none 0 0, .int .i64 4, .string ⟨#[98]⟩, .string ⟨#[]⟩, .int .i64 0, .int .i64 0, .slice none 0 0] 51) = WA at *
  have zA : WA.heap.size = w.heap.size + 1 := by rw [← hA]; simp
  have b := heap_alloc_new WA (.cells #[.int .i64 0, .slice (some ⟨w.heap.size, 0, none⟩) 2 2] 49)
  have c := heap_alloc_new (WA.alloc (.cells #[.int .i64 0, .slice (some ⟨w.heap.size, 0, none⟩) 2 2] 49)) (.cells #[.slice (some ⟨w.heap.size + 1, 0, none⟩) 1 1, .string (Wn.str q)] 46)
  rw [zA] at b
  rw [show (WA.alloc (.cells #[.int .i64 0, .slice (some ⟨w.heap.size, 0, none⟩) 2 2] 49)).heap.size = w.heap.size + 2 by simp [zA]] at c
  refine ⟨?_, by simp [zA], block_alloc (block_alloc a _) _, block_alloc b _, c⟩
  rw [← hA]
  exact (((Below.refl _ _).alloc (Nat.le_refl _) _).alloc (by simp) _).alloc (by simp; omega) _
theorem AB.row {n : Nat} {w W : World} {q : List UInt8} (h : AB n w W q) : ptK.Row W (fun b => b ≤ n) [[.int .i64 0, .slice (some ⟨n, 0, none⟩) 2 2]] [(0, Wn.abL)] := by
  refine ⟨⟨_, rfl, ?_⟩, trivial⟩
  exact RK.P.mk (K := smK) h.a (es := [smCells (Wn.sNam 2 [97]) (.slice none 0 0), smCells (Wn.sNam 4 [98]) (.slice none 0 0)]) ⟨⟨_, rfl, SsP.nil _ _⟩, ⟨_, rfl, SsP.nil _ _⟩, trivial⟩ rfl rfl (by simp [Wn.abL]) (Nat.le_refl _)
/-- what is known in the loop -/
structure AL (n : Nat) (W6 wr : World) (q : List UInt8) (vp : Value) (es : List (List Value)) (l : List (Int × List Wn.Sm)) : Prop where
  below : Below (n + 1) W6 wr
  c : wr.heap[n + 2]? = some (.cells #[vp, .string (Wn.str q)] 46)
  own : wr.ownsRow (n + 1) ptK.e ptK.sz vp es.length es.flatten
  row : ptK.Row W6 (fun b => b ≤ n) es l
  ne : vp.ownBlock ≠ some (n + 2)
theorem AB.loop {n : Nat} {w W : World} {q : List UInt8} (h : AB n w W q) : AL n W W q (.slice (some ⟨n + 1, 0, none⟩) 1 1) [[.int .i64 0, .slice (some ⟨n, 0, none⟩) 2 2]] [(0, Wn.abL)] :=
  ⟨Below.refl _ _, h.c, own_row1 h.b rfl (Nat.le_refl _), h.row, by simp [Value.ownBlock]⟩
theorem AL.next {n : Nat} {W6 wr W1 w8 : World} {q : List UInt8} {vp v8 : Value} {es : List (List Value)} {l : List (Int × List Wn.Sm)} {c : List Value} {x : Int × List Wn.Sm} (h : AL n W6 wr q vp es l) (hz : W6.heap.size = n + 3) (hb : Below wr.heap.size wr W1) (hc : ptK.R W6 (fun b => b ≤ n) c x)
    (hown : w8.ownsRow (n + 1) ptK.e ptK.sz v8 (es ++ [c]).length (es ++ [c]).flatten) (hg : W1.grownBy w8 vp.ownBlock) (hat : v8.ownBlock = vp.ownBlock ∨ v8.ownBlock = some W1.heap.size) :
    AL n W6 (w8.setCell ⟨n + 2, 0, none⟩ v8) q v8 (es ++ [c]) (l ++ [x]) ∧ w8.heap[n + 2]? = some (.cells #[vp, .string (Wn.str q)] 46) := by
  have hn2 : n + 2 < wr.heap.size := lt_of_block h.c
  have hs1 := hb.size
  have hc8 : w8.heap[n + 2]? = some (.cells #[vp, .string (Wn.str q)] 46) := (hg.block _ (by omega) (fun e => h.ne e.symm)).trans (block_lat hb h.c)
  have hne : v8.ownBlock ≠ some (n + 2) := by
    rcases hat with e | e
    · rw [e]; exact h.ne
    · rw [e]; intro e'; simp at e'; omega
  have hz1 : n + 1 ≤ wr.heap.size := by omega
  refine ⟨⟨?_, ?_, ?_, h.row.snoc hc, hne⟩, hc8⟩
  · refine Below.setCell (p := ⟨n + 2, 0, none⟩) (Below.grown (h.below.trans (hb.mono hz1)) hg (by omega) (fun k hk => (h.own.lt k hk).1)) (by show n + 1 ≤ n + 2; omega) _
  · have := heap_set_at (o := 0) hc8 v8
    simpa using this
  · exact ownsRow_kept hown (fun b hb' _ => Below.heap_setCell _ _ _ _ (by rintro rfl; exact hne hb'))
set_option maxRecDepth 100000 in
set_option maxHeartbeats 4000000 in
theorem lahead_any (s : ByteArray) (comb : Int) (w : World) (ht : Tab w) :
    Calls Tryz.prog 7 #[.string s, .int .i64 comb] w fun e w' => e = .returned (.bool true) ∧ Below w.heap.size w w' := by
  have HT := Lib.hid ht; clear ht
  by_cases hs : 300 < s.size
  · have hs' : (300 : Int) < (s.size : Int) := by omega
    go_enter Tryz.func7, Tryz.ntmps7
    go_wp2_with fail
    refine (fixed04 _ HT.out).mono ?_
    rintro e w1 ⟨rfl, b1⟩
    have HB1 := Lib.hid b1; clear b1
    go_wp2_with fail
    refine (fixed04 _ (HT.out.below HB1.out)).mono ?_
    rintro e w2 ⟨rfl, b2⟩
    have HB2 := Lib.hid (HB1.out.trans (b2.mono HB1.out.size)); clear b2 HB1
    go_wp2_with fail
    go_ret
    exact ⟨rfl, HB2.out⟩
  have hs' : ¬ (300 : Int) < (s.size : Int) := by omega
  by_cases h1 : comb < 1
  · go_enter Tryz.func7, Tryz.ntmps7
    go_wp2_with fail
    refine (fixed04 _ HT.out).mono ?_
    rintro e w1 ⟨rfl, b1⟩
    have HB1 := Lib.hid b1; clear b1
    go_wp2_with fail
    refine (fixed04 _ (HT.out.below HB1.out)).mono ?_
    rintro e w2 ⟨rfl, b2⟩
    have HB2 := Lib.hid (HB1.out.trans (b2.mono HB1.out.size)); clear b2 HB1
    go_wp2_with fail
    go_ret
    exact ⟨rfl, HB2.out⟩
  by_cases h4 : 4 < comb
  · go_enter Tryz.func7, Tryz.ntmps7
    go_wp2_with fail
    refine (fixed04 _ HT.out).mono ?_
    rintro e w1 ⟨rfl, b1⟩
    have HB1 := Lib.hid b1; clear b1
    go_wp2_with fail
    refine (fixed04 _ (HT.out.below HB1.out)).mono ?_
    rintro e w2 ⟨rfl, b2⟩
    have HB2 := Lib.hid (HB1.out.trans (b2.mono HB1.out.size)); clear b2 HB1
    go_wp2_with fail
    go_ret
    exact ⟨rfl, HB2.out⟩
  go_enter Tryz.func7, Tryz.ntmps7
  go_wp2_with fail
  refine (fixed04 _ HT.out).mono ?_
  rintro e w1 ⟨rfl, b1⟩
  have HB1 := Lib.hid b1; clear b1
  go_wp2_with fail
  refine (SRead_v s _ (by omega)).mono ?_
  rintro e w2 ⟨b2, ⟨l, v, hl, rfl, hP⟩ | ⟨_, rfl⟩⟩
  case inr =>
    have HB2 := Lib.hid (HB1.out.trans (b2.mono HB1.out.size)); clear b2
    go_wp2_with fail
    go_ret
    exact ⟨rfl, HB2.out⟩
  have HB2 := Lib.hid (HB1.out.trans (b2.mono HB1.out.size)); clear b2 HB1
  have hP := hP.any
  obtain ⟨lo, lc, rfl, hc1, hc2⟩ := hP.form
  unfold maxLen at hc2
  by_cases hl1 : l.length = 1
  case neg =>
    have hn1 : ((l.length : Int) != 1) = true := by rw [bne_iff_ne]; omega
    clear hP
    generalize l.length = ll at *
    go_wp2_with fail
    go_ret
    exact ⟨rfl, HB2.out⟩
  obtain ⟨c, rfl⟩ := List.length_eq_one_iff.1 hl1
  obtain ⟨ps, q⟩ := c
  obtain ⟨b, o, po, pc, rfl, hpt, k0, k1⟩ := cx_at hP (i := 0) rfl
  simp only [Nat.zero_mul, Nat.add_zero] at k0 k1
  obtain ⟨_, _, hpe, hpc1, hpc2⟩ := hpt.form
  simp only [Value.slice.injEq, true_and] at hpe
  obtain ⟨rfl, rfl⟩ := hpe
  unfold maxLen at hpc2
  have HPT := Lib.hid hpt
  have HK0 := Lib.hid k0
  have HK1 := Lib.hid k1
  simp only [List.length_cons, List.length_nil, Nat.zero_add] at hc1 ⊢
  clear hP hpt hl1
  have KEY : Hid (∀ S : ByteArray, (∃ bb : UInt8, ((bb = 32 ∧ comb = 1) ∨ (bb = 62 ∧ comb = 2) ∨ (bb = 43 ∧ comb = 3) ∨ (bb = 126 ∧ comb = 4)) ∧ S = Wn.str ([97, 46, 98] ++ bb :: s.data.toList)) → ∀ W, Calls Tryz.prog 15 #[.string S] W (PPost (if 16 ≤ ps.length then none else some [((0, Wn.abL) :: Wn.setHead comb ps, q)]) W)) := Lib.hid (by
    rintro S ⟨bb, hb, hS⟩ W
    have := ahead_run s bb S hS W (by omega)
    rw [Wn.ahead_read hb hl] at this
    exact this)
  clear hl
  go_wp2_with fail
  refine (KEY.out _ (ahead_sign s comb (by omega) (by omega)) w2).mono ?_
  rintro e w5 ⟨b5, hres⟩
  have HB5 := Lib.hid (HB2.out.trans (b5.mono HB2.out.size))
  have HPT5 := Lib.hid (HPT.out.below b5)
  have q0 := (b5.cell (World.block_lt_of_cell? _ _ HK0.out)).trans HK0.out
  have q1 := (b5.cell (World.block_lt_of_cell? _ _ HK1.out)).trans HK1.out
  clear b5 HB2 HPT HK0 HK1 KEY k0 k1
  by_cases h16 : 16 ≤ ps.length
  · rw [if_pos h16] at hres
    have h16' : (16 : Int) ≤ (ps.length : Int) := by omega
    rcases hres with ⟨l, v, h, _⟩ | ⟨_, rfl⟩
    · cases h
    · go_wp2_with fail
      go_ret
      exact ⟨rfl, HB5.out⟩
  rw [if_neg h16] at hres
  have h16' : ¬ (16 : Int) ≤ (ps.length : Int) := by omega
  rcases hres with ⟨l, v, h, rfl, hM⟩ | ⟨h, _⟩
  case inr => cases h
  cases h
  have hM := hM.any
  obtain ⟨mo, mc, rfl, hm1, hm2⟩ := hM.form
  unfold maxLen at hm2
  have HM : Hid (cxK.P w5 (fun _ => True) (.slice mo 1 mc) [((0, Wn.abL) :: Wn.setHead comb ps, q)]) := Lib.hid hM
  have HAB := Lib.hid (AB.start w5 q)
  have hbl := World.block_lt_of_cell? _ _ q0
  dsimp only at hbl
  have Q0 := Lib.hid q0
  simp only [List.length_cons, List.length_nil, Nat.zero_add] at hm1 ⊢
  clear hM h16
  go_wp2_with fail
  generalize ((w5.alloc (.cells #[.int .i64 2, .string ⟨#[97]⟩, .string ⟨#[]⟩, .int .i64 0, .int .i64 0, .slice none 0 0, .int .i64 4, .string ⟨#[98]⟩, .string ⟨#[]⟩, .int .i64 0, .int .i64 0, .slice none 0 0] 51)).alloc (.cells #[.int .i64 0, .slice (some ⟨w5.heap.size, 0, none⟩) 2 2] 49)).alloc (.cells #[.slice (some ⟨w5.heap.size + 1, 0, none⟩) 1 1, .string (Wn.str q)] 46) = W6 at *
  have HSH := Lib.hid (Wn.setHead_length (c := comb) ps)
  clear q0 q1
  go_loopw [10] (fun v10 wr => ∃ (i : Nat) (vp : Value) (es : List (List Value)), i ≤ ps.length ∧ v10 = .int .i64 (i : Int) ∧ Hid (AL w5.heap.size W6 wr q vp es ((0, Wn.abL) :: (Wn.setHead comb ps).take i))) (fun v10 _ => ps.length - (intOf v10).toNat)
  case atStart => exact ⟨0, _, _, by omega, rfl, Lib.hid (by rw [List.take_zero]; exact HAB.out.loop)⟩
  case round =>
    obtain ⟨i, vp, es, hil, rfl, HAL⟩ := hrel
    have hb1 : Below w5.heap.size w5 wr := HAB.out.below.trans (HAL.out.below.mono (Nat.le_succ _))
    have HB6 := Lib.hid hb1
    have q0 := (hb1.cell (World.block_lt_of_cell? _ _ Q0.out)).trans Q0.out
    obtain ⟨a8, c8, rfl, h81, h82⟩ := own_shape HAL.out.own
    have hel := HAL.out.row.length
    have d0 := cell_of_block (o := 0) HAL.out.c
    have d1 := cell_of_block (o := 1) HAL.out.c
    simp only [List.getElem?_toArray, List.getElem?_cons_zero, List.getElem?_cons_succ] at d0 d1
    have hn2 : w5.heap.size + 2 < wr.heap.size := lt_of_block HAL.out.c
    by_cases hlt : i < ps.length
    · obtain ⟨x, hx⟩ := Wn.get_lt hlt
      obtain ⟨cb, sms⟩ := x
      obtain ⟨c, d, so, sc, rfl, hsm, t0, t1⟩ := pt_at HPT5.out hx
      have u0 := (hb1.cell (World.block_lt_of_cell? _ _ t0)).trans t0
      have u1 := (hb1.cell (World.block_lt_of_cell? _ _ t1)).trans t1
      obtain ⟨_, _, hse, hsc1, hsc2⟩ := hsm.form
      simp only [Value.slice.injEq, true_and] at hse
      obtain ⟨rfl, rfl⟩ := hse
      unfold maxLen at hsc2
      have hR : ∀ cc : Int, ptK.R W6 (fun b => b ≤ w5.heap.size) [.int .i64 cc, .slice so sms.length sc] (cc, sms) := fun cc => ⟨_, rfl, (hsm.old.mono (fun b hb _ => Nat.le_of_lt hb)).below HAB.out.below⟩
      have hset := Wn.setHead_get (c := comb) hx
      have HR := Lib.hid hR
      have HSET := Lib.hid hset
      have hi1 : (i : Int) < (ps.length : Int) := by omega
      have hcl := World.block_lt_of_cell? _ _ u0
      dsimp only at u0 u1 hcl
      clear hsm hR hset hx t0 t1 hb1
      have hel2 : es.length ≤ 20 := by rw [hel]; simp; omega
      have hd1 : ¬ w5.heap.size + 2 = wr.heap.size := by omega
      have hd2 : ¬ w5.heap.size + 2 = wr.heap.size + 1 := by omega
      have hd3 : w5.heap.size + 2 < wr.heap.size + 1 := by omega
      clear hel
      by_cases h0 : i = 0
      · have HX : Hid ((Wn.setHead comb ps)[i]? = some (comb, sms)) := Lib.hid (by rw [HSET.out, if_pos h0])
        have h0b : ((i : Int) == 0) = true := by simpa using h0
        have h0c : decide ((i : Int) = 0) = true := by simpa using h0
        clear h0
        have hbp : Below wr.heap.size wr ((wr.alloc (.cells #[.int .i64 comb, .slice so sms.length sc] 49)).alloc (.cells #[.int .i64 comb, .slice so sms.length sc] 49)) := ((Below.refl _ _).alloc (Nat.le_refl _) _).alloc (by simp) _
        have HSrc : Hid (ptK.Src ((wr.alloc (.cells #[.int .i64 comb, .slice so sms.length sc] 49)).alloc (.cells #[.int .i64 comb, .slice so sms.length sc] 49)) (.slice (some ⟨wr.heap.size + 1, 0, none⟩) 1 1) [[.int .i64 comb, .slice so sms.length sc]]) := Lib.hid (RK.Src.one (by simp) (HR.out comb))
        have HOW := Lib.hid ((HAL.out.own.alloc (.cells #[.int .i64 comb, .slice so sms.length sc] 49)).alloc (.cells #[.int .i64 comb, .slice so sms.length sc] 49))
        have HZ : Hid (w5.heap.size + 1 ≤ ((wr.alloc (.cells #[.int .i64 comb, .slice so sms.length sc] 49)).alloc (.cells #[.int .i64 comb, .slice so sms.length sc] 49)).heap.size) := Lib.hid (by simp; omega)
        have HFin := Lib.hid (fun v8 w8 h1 h2 h3 => HAL.out.next (v8 := v8) (w8 := w8) HAB.out.size hbp (HR.out comb) h1 h2 h3)
        clear hbp
        go_wp2_with (at_builtin; refine RK.append (K := ptK) rfl _ _ rfl rfl rfl HOW.out HSrc.out (by simp; omega) HZ.out ?_; intro v8 w8 hown8 hgr8 hat8; obtain ⟨a9, c9, rfl, h91, h92⟩ := own_shape hown8; obtain ⟨hz8, hc8⟩ := HFin.out _ _ hown8 hgr8 hat8; simp only [List.length_append, List.length_cons, List.length_nil, Nat.zero_add] at hz8; (have HZ8 := Lib.hid hz8); (have f8 := frozen_blk hc8 0); (have g8 := cell_of_block (o := 0) hc8); simp only [List.getElem?_toArray, List.getElem?_cons_zero] at g8; clear hown8 hgr8 hat8 hz8 hc8; unfold maxLen at h92)
        exact ⟨⟨i + 1, _, es ++ [[.int .i64 comb, .slice so sms.length sc]], by omega, by go_num, Lib.hid (by rw [Wn.take_next HX.out, ← List.cons_append]; exact HZ8.out)⟩, by simp [intOf]; omega⟩
      · have HX : Hid ((Wn.setHead comb ps)[i]? = some (cb, sms)) := Lib.hid (by rw [HSET.out, if_neg h0])
        have h0' : ¬ (i : Int) = 0 := by omega
        have hbp : Below wr.heap.size wr ((wr.alloc (.cells #[.int .i64 cb, .slice so sms.length sc] 49)).alloc (.cells #[.int .i64 cb, .slice so sms.length sc] 49)) := ((Below.refl _ _).alloc (Nat.le_refl _) _).alloc (by simp) _
        have HSrc : Hid (ptK.Src ((wr.alloc (.cells #[.int .i64 cb, .slice so sms.length sc] 49)).alloc (.cells #[.int .i64 cb, .slice so sms.length sc] 49)) (.slice (some ⟨wr.heap.size + 1, 0, none⟩) 1 1) [[.int .i64 cb, .slice so sms.length sc]]) := Lib.hid (RK.Src.one (by simp) (HR.out cb))
        have HOW := Lib.hid ((HAL.out.own.alloc (.cells #[.int .i64 cb, .slice so sms.length sc] 49)).alloc (.cells #[.int .i64 cb, .slice so sms.length sc] 49))
        have HZ : Hid (w5.heap.size + 1 ≤ ((wr.alloc (.cells #[.int .i64 cb, .slice so sms.length sc] 49)).alloc (.cells #[.int .i64 cb, .slice so sms.length sc] 49)).heap.size) := Lib.hid (by simp; omega)
        have HFin := Lib.hid (fun v8 w8 h1 h2 h3 => HAL.out.next (v8 := v8) (w8 := w8) HAB.out.size hbp (HR.out cb) h1 h2 h3)
        clear hbp
        go_wp2_with (at_builtin; refine RK.append (K := ptK) rfl _ _ rfl rfl rfl HOW.out HSrc.out (by simp; omega) HZ.out ?_; intro v8 w8 hown8 hgr8 hat8; obtain ⟨a9, c9, rfl, h91, h92⟩ := own_shape hown8; obtain ⟨hz8, hc8⟩ := HFin.out _ _ hown8 hgr8 hat8; simp only [List.length_append, List.length_cons, List.length_nil, Nat.zero_add] at hz8; (have HZ8 := Lib.hid hz8); (have f8 := frozen_blk hc8 0); (have g8 := cell_of_block (o := 0) hc8); simp only [List.getElem?_toArray, List.getElem?_cons_zero] at g8; clear hown8 hgr8 hat8 hz8 hc8; unfold maxLen at h92)
        exact ⟨⟨i + 1, _, es ++ [[.int .i64 cb, .slice so sms.length sc]], by omega, by go_num, Lib.hid (by rw [Wn.take_next HX.out, ← List.cons_append]; exact HZ8.out)⟩, by simp [intOf]; omega⟩
    · have hni : ¬ (i : Int) < (ps.length : Int) := by omega
      clear hel
      have hrow := HAL.out.row
      rw [List.take_of_length_le (by rw [HSH.out]; omega)] at hrow
      have hel3 : es.length = ps.length + 1 := by rw [hrow.length]; simp [HSH.out]
      have hbe : Below wr.heap.size wr (wr.alloc (.cells #[.slice a8 es.length c8, .string (Wn.str q)] 46)) := (Below.refl _ _).alloc (Nat.le_refl _) _
      have hb7 := HAL.out.below.trans (hbe.mono (by omega))
      have hrow7 : ptK.Row (wr.alloc (.cells #[.slice a8 es.length c8, .string (Wn.str q)] 46)) (fun _ => True) es ((0, Wn.abL) :: Wn.setHead comb ps) := hrow.same (fun b hb _ => hb7.block b (by omega)) (fun _ _ _ => trivial)
      have hp7 := RK.P.ofRow (K := ptK) (HAL.out.own.alloc _) hrow7 (fun _ _ _ => trivial)
      have hwant : cxK.P (wr.alloc (.cells #[.slice a8 es.length c8, .string (Wn.str q)] 46)) (fun _ => True) (.slice (some ⟨wr.heap.size, 0, none⟩) 1 1) [((0, Wn.abL) :: Wn.setHead comb ps, q)] := RK.P.mk (K := cxK) (heap_alloc_new wr _) (es := [[.slice a8 es.length c8, .string (Wn.str q)]]) ⟨⟨_, rfl, hp7⟩, trivial⟩ rfl rfl (by simp) trivial
      have qs := rSame4_v _ _ _ _ _ (HM.out.below (hb1.trans (hbe.mono hb1.size))) hwant
      rw [decide_eq_true rfl] at qs
      have QS := Lib.hid qs
      have HB7 := Lib.hid (HB5.out.trans ((HB6.out.trans (hbe.mono HB6.out.size)).mono HB5.out.size))
      clear qs hwant hp7 hrow7 hb7 hbe hrow hel3 hb1
      go_wp2_with fail
      refine QS.out.mono ?_
      rintro e wz ⟨rfl, bz⟩
      have HBF := Lib.hid (HB7.out.trans (bz.mono HB7.out.size))
      clear bz QS HB7
      go_wp2_with fail
      go_ret
      exact ⟨rfl, HBF.out⟩
end Go.Proofs.YtncknaagbafhhaaGreatDoor
