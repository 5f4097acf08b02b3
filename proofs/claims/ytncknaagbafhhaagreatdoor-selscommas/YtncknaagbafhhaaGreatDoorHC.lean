/- What the reader's seesDelims and delims answer. What whole answers, whatever it is handed to read with. What the small functions on names and numbers answer. What number, plus and the reader's nth answer. -/
import Derived.Test.YtncknaagbafhhaaGreatDoorHB
import Derived.Test.YtncknaagbafhhaaGreatDoorSplPM
set_option linter.unusedVariables false
set_option linter.unusedSimpArgs false
set_option maxRecDepth 20000
namespace Wn
/-- do these delimiters come? -/
def seesD : List (List UInt8) → Fs → Bool
  | [], _ => true
  | _ :: _, .nil => false
  | s :: ds, .cons k t _ r => signV s k t && seesD ds r
theorem seesD_short : ∀ {ds : List (List UInt8)} {f : Fs}, f.len < ds.length → seesD ds f = false
  | [], _, h => by simp at h
  | _ :: _, .nil, _ => rfl
  | s :: ds, .cons k t x r, h => by rw [seesD, seesD_short (by simpa [Fs.len] using h), Bool.and_false]
theorem seesD_drop : ∀ {ds : List (List UInt8)} {f : Fs} {i : Nat} {s : List UInt8} {k : Int} {t : Tok} {x r : Fs}, ds[i]? = some s → f.drop i = .cons k t x r → seesD (ds.drop i) (f.drop i) = (signV s k t && seesD (ds.drop (i + 1)) (f.drop (i + 1))) := by
  intro ds f i s k t x r hs hf
  have hd : ds.drop i = s :: ds.drop (i + 1) := by
    obtain ⟨hl, rfl⟩ := List.getElem?_eq_some_iff.1 hs
    exact List.drop_eq_getElem_cons hl
  have hr : f.drop (i + 1) = r := by
    have := Fs.drop_drop f i 1
    rw [hf] at this
    rw [← this, Fs.drop, Fs.drop_zero]
  rw [hd, hf, seesD, hr]
theorem seesD_one (s : List UInt8) (f : Fs) : signF s f = if seesD [s] f then some (f.drop 1) else none := by
  cases f with
  | nil => rfl
  | cons k t x r => simp only [signF, seesD, Bool.and_true, Fs.drop, Fs.drop_zero]
theorem seesD_two (s u : List UInt8) (f : Fs) : ((signF s f).bind fun r => signF u r) = if seesD [s, u] f then some (f.drop 2) else none := by
  cases f with
  | nil => rfl
  | cons k t x r =>
    have e1 : signF s (.cons k t x r) = if signV s k t then some r else none := rfl
    have e2 : seesD [s, u] (.cons k t x r) = (signV s k t && seesD [u] r) := rfl
    rw [e1, e2, Fs.drop]
    by_cases h : signV s k t = true
    · rw [if_pos h, h, Option.bind_some, Bool.true_and, seesD_one]
    · have h' : signV s k t = false := by simpa using h
      rw [if_neg h, h']; rfl
end Wn
namespace Go.Proofs.YtncknaagbafhhaaGreatDoor
open Go.RowKit Go.Sort
set_option maxHeartbeats 400000 in
theorem isDelim_v (s0 : List UInt8) (k : Int) (t : Wn.Tok) (uo : Option Addr) (un uc : Nat) (w : World) :
    Calls Tryz.prog 204 #[.agg #[.int .i64 k, .int .i64 t.1, .string (Wn.str t.2.1), .int .i64 t.2.2, .slice uo un uc], .string (Wn.str s0)] w fun e w' => e = .returned (.bool (Wn.signV s0 k t)) ∧ Below w.heap.size w w' := by
  obtain ⟨a, b, c⟩ := t
  dsimp only
  have hs := str_list b
  have hs' := str_list s0
  have e : Wn.signV s0 k (a, b, c) = ((k == 1) && ((a == 7) && (b == s0) && (c == 0))) := by
    unfold Wn.signV Wn.dlm; rw [Bool.eq_iff_iff]; simp [and_assoc]
  rw [e]
  clear e
  generalize Wn.str b = p at *
  generalize Wn.str s0 = q at *
  subst hs hs'
  have HB : Hid (Below w.heap.size w (w.alloc (.cells #[.int .i64 k, .int .i64 a, .string p, .int .i64 c, .slice uo un uc] 80))) := Lib.hid ((Below.refl _ _).alloc (Nat.le_refl _) _)
  cases h0 : (k == 1)
  · go_enter Tryz.func204, Tryz.ntmps204
    go_wp2_with fail
    go_ret
    exact ⟨ret_bool (by simp), HB.out⟩
  · cases h1 : (a == 7)
    · go_enter Tryz.func204, Tryz.ntmps204
      go_wp2_with fail
      go_ret
      exact ⟨ret_bool (by simp), HB.out⟩
    · cases h2 : (p.toList == q.toList)
      · go_enter Tryz.func204, Tryz.ntmps204
        go_wp2_with fail
        go_ret
        exact ⟨ret_bool (by simp), HB.out⟩
      · cases h3 : (c == 0)
        · go_enter Tryz.func204, Tryz.ntmps204
          go_wp2_with fail
          go_ret
          exact ⟨ret_bool (by simp), HB.out⟩
        · go_enter Tryz.func204, Tryz.ntmps204
          go_wp2_with fail
          go_ret
          exact ⟨ret_bool (by simp), HB.out⟩
/-- the reader's slice -/
theorem Rd.slice {w : World} {g n : Nat} {pl : Bool} {f : Wn.Fs} (h : Rd w g n pl f) : ∃ ao cap, w.heap[g]? = some (.cells #[.slice ao f.len cap, .bool pl] 140) ∧ f.len ≤ cap ∧ cap ≤ maxLen ∧ ValsP w (fun b => b < n) (.slice ao f.len cap) f := by
  obtain ⟨v, hb, hv⟩ := h.ex
  obtain ⟨ao, cap, rfl, h1, h2⟩ := hv.form
  exact ⟨ao, cap, hb, h1, h2, hv⟩
set_option maxRecDepth 100000 in
set_option maxHeartbeats 1000000 in
theorem seesDelims_v (g n : Nat) (pl : Bool) (f : Wn.Fs) (ds : List (List UInt8)) (d : Nat) (w : World) (h : Rd w g n pl f) (hd : ∀ i s, ds[i]? = some s → w.cell? ⟨d, i, none⟩ = some (.string (Wn.str s))) (hl : ds.length ≤ 1000) :
    Calls Tryz.prog 180 #[.pointer (some ⟨g, 0, none⟩), .slice (some ⟨d, 0, none⟩) ds.length ds.length] w fun e w' => e = .returned (.bool (Wn.seesD ds f)) ∧ Below w.heap.size w w' := by
  obtain ⟨ao, cap, hb, h1, h2, hv⟩ := h.slice
  have c0 := cell_of_block (o := 0) hb
  simp only [List.getElem?_toArray, List.getElem?_cons_zero] at c0
  unfold maxLen at h2
  have HV := Lib.hid hv
  have HD := Lib.hid hd
  clear hb hv hd
  by_cases hlt : f.len < ds.length
  · have HE := Lib.hid (Wn.seesD_short hlt)
    go_enter Tryz.func180, Tryz.ntmps180
    go_wp2_with fail
    go_ret
    exact ⟨ret_bool HE.out.symm, Below.refl _ _⟩
  · generalize hR : Wn.seesD ds f = R
    have HRR := Lib.hid hR; clear hR
    have C0 := Lib.hid c0
    go_enter Tryz.func180, Tryz.ntmps180
    go_wp2_with fail
    go_loopw [17] (fun v17 wr => ∃ i : Nat, i ≤ ds.length ∧ v17 = .int .i64 (i : Int) ∧ Hid (Wn.seesD (ds.drop i) (f.drop i) = R) ∧ Hid (Below w.heap.size w wr)) (fun v17 _ => ds.length - (intOf v17).toNat)
    case atStart => exact ⟨0, Nat.zero_le _, rfl, Lib.hid (by rw [List.drop_zero, Wn.Fs.drop_zero]; exact HRR.out), Lib.hid (Below.refl _ _)⟩
    case round =>
      clear c0
      obtain ⟨i, hi, rfl, HE, HB⟩ := hrel
      by_cases hil : i < ds.length
      · obtain ⟨k, t, x, hdr⟩ := Wn.Fs.drop_cons (f := f) (i := i) (by omega)
        obtain ⟨s, hs⟩ : ∃ s, ds[i]? = some s := ⟨ds[i], List.getElem?_eq_getElem hil⟩
        have HE2 := Lib.hid ((Wn.seesD_drop hs hdr).symm.trans HE.out)
        obtain ⟨b, o, rfl, j0, ⟨j1, j2, j3⟩, u, j4, hu⟩ := (HV.out.below HB.out).at hdr
        obtain ⟨uo, uc, rfl, _, _⟩ := hu.form
        rw [show o + i * 5 + 1 + 1 = o + i * 5 + 2 by omega] at j2
        rw [show o + i * 5 + 1 + 2 = o + i * 5 + 3 by omega] at j3
        have d0 := cell_lat HB.out (HD.out i s hs)
        have c0 := cell_lat HB.out C0.out
        have QD := Lib.hid (fun w => isDelim_v s k t uo x.len uc w)
        have hi1 : (i : Int) < (ds.length : Int) := by omega
        have hi2 : (i : Int) < (f.len : Int) := by omega
        generalize hsg : Wn.signV s k t = sg at *
        clear hu hdr hs hsg HE HRR
        generalize Wn.str t.2.1 = tx at *
        generalize t.1 = tk at *
        generalize t.2.2 = tn at *
        generalize Wn.str s = sx at *
        go_wp2_with fail
        refine (QD.out _).mono ?_
        rintro e w5 ⟨rfl, b5⟩
        have HB5 := Lib.hid (HB.out.trans (b5.mono HB.out.size))
        clear b5 HB QD j0 j1 j2 j3 j4 d0 c0
        cases sg
        · have HR : Hid (R = false) := Lib.hid (by rw [← HE2.out]; rfl)
          go_wp2_with fail
          go_ret
          exact ⟨ret_bool HR.out.symm, HB5.out⟩
        · have HR : Hid (Wn.seesD (ds.drop (i + 1)) (f.drop (i + 1)) = R) := Lib.hid (by rw [← HE2.out]; rfl)
          go_wp2_with fail
          exact ⟨⟨i + 1, by omega, by go_num, HR, HB5⟩, by simp [intOf]; omega⟩
      · have HR : Hid (R = true) := Lib.hid (by rw [← HE.out, List.drop_of_length_le (by omega)]; rfl)
        have hil' : ¬ (i : Int) < (ds.length : Int) := by omega
        go_wp2_with fail
        go_ret
        exact ⟨ret_bool HR.out.symm, HB.out⟩
def DelPost (g n : Nat) (pl : Bool) (f : Wn.Fs) (res : Option Wn.Fs) (w : World) (e : Ending) (w' : World) : Prop :=
  (∃ r, res = some r ∧ e = .returned (.bool true) ∧ Rd w' g n pl r ∧ Only g w w') ∨ (res = none ∧ e = .returned (.bool false) ∧ Rd w' g n pl f ∧ Only g w w')
set_option maxRecDepth 100000 in
set_option maxHeartbeats 1000000 in
theorem delims_v (g n : Nat) (pl : Bool) (f : Wn.Fs) (ds : List (List UInt8)) (d : Nat) (w : World) (h : Rd w g n pl f) (hd : ∀ i s, ds[i]? = some s → w.cell? ⟨d, i, none⟩ = some (.string (Wn.str s))) (hl : ds.length ≤ 1000) (h0 : 0 < ds.length) :
    Calls Tryz.prog 149 #[.pointer (some ⟨g, 0, none⟩), .slice (some ⟨d, 0, none⟩) ds.length ds.length] w (DelPost g n pl f (if Wn.seesD ds f then some (f.drop ds.length) else none) w) := by
  have QS := Lib.hid (seesDelims_v g n pl f ds d w h hd hl)
  have HR := Lib.hid h
  clear hd h
  cases hs : Wn.seesD ds f
  · rw [hs] at QS
    go_enter Tryz.func149, Tryz.ntmps149
    go_wp2_with fail
    refine QS.out.mono ?_
    rintro e w1 ⟨rfl, b1⟩
    have HB := Lib.hid b1
    clear b1
    go_wp2_with fail
    go_ret
    exact .inr ⟨rfl, rfl, HR.out.below HB.out, Below.only HB.out⟩
  · rw [hs] at QS
    have hlen : ds.length ≤ f.len := by
      rcases Nat.lt_or_ge f.len ds.length with h | h
      · rw [Wn.seesD_short h] at hs; cases hs
      · exact h
    clear hs
    go_enter Tryz.func149, Tryz.ntmps149
    go_wp2_with fail
    refine QS.out.mono ?_
    rintro e w1 ⟨rfl, b1⟩
    have HB := Lib.hid b1
    have HR1 := Lib.hid (HR.out.below b1)
    clear b1 QS
    obtain ⟨ao, cap, hb, h1, h2, hv⟩ := HR1.out.slice
    obtain ⟨b, o, rfl⟩ : ∃ b o, ao = some ⟨b, o, none⟩ := by
      obtain ⟨_, _, he, _, _, _, h4⟩ := hv
      obtain ⟨b, o, ha, _⟩ := h4 (by rintro rfl; have : ds.length ≤ 0 := hlen; omega)
      simp only [Value.slice.injEq] at he
      rw [← he.1] at ha
      exact ⟨b, o, ha⟩
    have c0 := cell_of_block (o := 0) hb
    simp only [List.getElem?_toArray, List.getElem?_cons_zero] at c0
    have f0 := frozen_blk hb 0
    have hsub := hv.subC ds.length f.len hlen (Nat.le_refl _)
    rw [Wn.Fs.take_all _ (by rw [Wn.Fs.len_drop]; exact Nat.le_refl _)] at hsub
    have HS := Lib.hid hsub
    unfold maxLen at h2
    clear hb hv hsub
    have hi1 : (ds.length : Int) ≤ (f.len : Int) := by omega
    have hi2 : (f.len : Int) ≤ (cap : Int) := by omega
    have hi3 : (ds.length : Int) ≤ (cap : Int) := by omega
    go_wp2_with fail
    all_goals
      have hs' := HS.out
      first | (rw [if_pos h, show cap - ds.length = 0 by omega] at hs') | rw [if_neg h] at hs'
      go_ret
      exact .inl ⟨_, rfl, rfl, HR1.out.set hs' (HR1.out.tl.drop _), Only.setCell (p := ⟨g, 0, none⟩) (Below.only HB.out) rfl _⟩
/-- one delimiter, behind the slice that is made of it -/
theorem delim1_v (g n : Nat) (pl : Bool) (f : Wn.Fs) (s : List UInt8) (w : World) (d : Nat) (hd : d = w.heap.size) (h : Rd w g n pl f) :
    Calls Tryz.prog 149 #[.pointer (some ⟨g, 0, none⟩), .slice (some ⟨d, 0, none⟩) 1 1] (w.alloc (.cells #[.string (Wn.str s)] 9)) (DelPost g n pl f (Wn.signF s f) w) := by
  subst hd
  have hb : Below w.heap.size w (w.alloc (.cells #[.string (Wn.str s)] 9)) := (Below.refl _ _).alloc (Nat.le_refl _) _
  refine (delims_v g n pl f [s] w.heap.size _ (h.below hb) (fun i u hi => ?_) (by simp) (by simp)).mono ?_
  · rw [cell_of_block (heap_alloc_new w _)]
    match i, hi with
    | 0, hi => simp at hi; subst hi; rfl
    | i + 1, hi => simp at hi
  · intro e w' h'
    rw [Wn.seesD_one]
    rcases h' with ⟨r, h1, h2, h3, h4⟩ | ⟨h1, h2, h3, h4⟩
    · exact .inl ⟨r, h1, h2, h3, (Below.only hb).trans h4⟩
    · exact .inr ⟨h1, h2, h3, (Below.only hb).trans h4⟩
theorem cells2 (w : World) (s u : List UInt8) : ∀ i x, [s, u][i]? = some x → (w.alloc (.cells #[.string (Wn.str s), .string (Wn.str u)] 9)).cell? ⟨w.heap.size, i, none⟩ = some (.string (Wn.str x)) := by
  intro i x hi
  rw [cell_of_block (heap_alloc_new w _)]
  match i, hi with
  | 0, hi => simp at hi; subst hi; rfl
  | 1, hi => simp at hi; subst hi; rfl
  | i + 2, hi => simp at hi
theorem delim2_v (g n : Nat) (pl : Bool) (f : Wn.Fs) (s u : List UInt8) (w : World) (d : Nat) (hd : d = w.heap.size) (h : Rd w g n pl f) :
    Calls Tryz.prog 149 #[.pointer (some ⟨g, 0, none⟩), .slice (some ⟨d, 0, none⟩) 2 2] (w.alloc (.cells #[.string (Wn.str s), .string (Wn.str u)] 9)) (DelPost g n pl f ((Wn.signF s f).bind fun r => Wn.signF u r) w) := by
  subst hd
  have hb : Below w.heap.size w (w.alloc (.cells #[.string (Wn.str s), .string (Wn.str u)] 9)) := (Below.refl _ _).alloc (Nat.le_refl _) _
  refine (delims_v g n pl f [s, u] w.heap.size _ (h.below hb) (cells2 w s u) (by simp) (by simp)).mono ?_
  intro e w' h'
  rw [Wn.seesD_two]
  rcases h' with ⟨r, h1, h2, h3, h4⟩ | ⟨h1, h2, h3, h4⟩
  · exact .inl ⟨r, h1, h2, h3, (Below.only hb).trans h4⟩
  · exact .inr ⟨h1, h2, h3, (Below.only hb).trans h4⟩
theorem sees2_v (g n : Nat) (pl : Bool) (f : Wn.Fs) (s u : List UInt8) (w : World) (d : Nat) (hd : d = w.heap.size) (h : Rd w g n pl f) :
    Calls Tryz.prog 180 #[.pointer (some ⟨g, 0, none⟩), .slice (some ⟨d, 0, none⟩) 2 2] (w.alloc (.cells #[.string (Wn.str s), .string (Wn.str u)] 9)) fun e w' => e = .returned (.bool (Wn.seesD [s, u] f)) ∧ Below w.heap.size w w' := by
  subst hd
  have hb : Below w.heap.size w (w.alloc (.cells #[.string (Wn.str s), .string (Wn.str u)] 9)) := (Below.refl _ _).alloc (Nat.le_refl _) _
  refine (seesDelims_v g n pl f [s, u] w.heap.size _ (h.below hb) (cells2 w s u) (by simp)).mono ?_
  rintro e w' ⟨he, h'⟩
  exact ⟨he, hb.trans (h'.mono hb.size)⟩
end Go.Proofs.YtncknaagbafhhaaGreatDoor
set_option linter.unusedVariables false
set_option linter.unusedSimpArgs false
set_option maxRecDepth 20000
namespace Go.Proofs.YtncknaagbafhhaaGreatDoor
open Go.RowKit Go.Sort
/-- a function with a body is entered where it is called by its value -/
def Enters (K : Nat) : Prop := ∀ (args : Array Value) (w : World), (callFunc K args).run Tryz.prog w = .ok (.enter K args) w
theorem enters_of {K : Nat} {fn : Func} {c : Code} (hf : Tryz.prog.funcs[K]? = some fn) (hname : (fn.name == "runtime.NumGoroutine") = false) (hb : fn.body = some c) : Enters K := by
  intro args w
  have h1 : ¬ fn.name = "runtime.NumGoroutine" := by simpa using hname
  simp [callFunc, hf, h1, hb]
/-- a reader's answer: what was read, and stored; or a panic -/
def ReadPost {α : Type} (g n : Nat) (S : Nat → Prop) (Stored : α → World → Prop) (res : Option (α × Wn.Fs)) (w : World) (e : Ending) (w' : World) : Prop :=
  (∃ x r pl, res = some (x, r) ∧ e = .returned (.tuple #[]) ∧ Rd w' g n pl r ∧ Kp (fun b => S b ∨ b = g) w w' ∧ Stored x w') ∨ (res = none ∧ e = .panicked invalidP ∧ Kp (fun b => S b ∨ b = g) w w')
def WholePost {α : Type} (S : Nat → Prop) (Stored : α → World → Prop) (res : Option α) (w : World) (e : Ending) (w' : World) : Prop :=
  (∃ x, res = some x ∧ e = .returned (.tuple #[]) ∧ Kp S w w' ∧ Stored x w') ∨ (res = none ∧ e = .panicked invalidP ∧ Kp S w w')
set_option maxRecDepth 100000 in
set_option maxHeartbeats 1000000 in
theorem whole_v {α : Type} (p : Wn.Fs → Option (α × Wn.Fs)) (K : Nat) (caps : Array Value) (S : Nat → Prop) (Stored : α → World → Prop) (v : Value) (f : Wn.Fs) (n : Nat) (w : World)
    (hv : ValsP w (fun b => b < n) v f) (htl : Tl f) (hn : n ≤ w.heap.size) (hS : ∀ b, S b → n ≤ b ∧ b < w.heap.size)
    (hE : Enters K) (hst : ∀ x W W', Stored x W → Only w.heap.size W W' → Stored x W')
    (hc : ∀ W, Below w.heap.size w W → Rd W w.heap.size n false (Wn.dropB f) → Calls Tryz.prog K (#[.pointer (some ⟨w.heap.size, 0, none⟩)] ++ caps) W (ReadPost w.heap.size n S Stored (p (Wn.dropB f)) W)) :
    Calls Tryz.prog 60 #[v, .func (.func K) #[] caps] w (WholePost S Stored (Wn.wholeF p f) w) := by
  have HC := Lib.hid hc; clear hc
  have HST := Lib.hid hst; clear hst
  have HSS := Lib.hid hS; clear hS
  have hform : ∃ ao n c, v = .slice ao n c := by obtain ⟨ao, cap, hv, _⟩ := hv.form; exact ⟨_, _, _, hv⟩
  obtain ⟨vo, vn, vc, rfl⟩ := hform
  have hR : Rd (w.alloc (.cells #[.slice vo vn vc, .bool false] 140)) w.heap.size n false f :=
    ⟨⟨_, heap_alloc_new w _, hv.below ((Below.refl _ _).alloc (Nat.le_refl _) _)⟩, hn, htl⟩
  have hB : Below w.heap.size w (w.alloc (.cells #[.slice vo vn vc, .bool false] 140)) := (Below.refl _ _).alloc (Nat.le_refl _) _
  have HR := Lib.hid hR
  have HB := Lib.hid hB
  have hz : (w.alloc (.cells #[.slice vo vn vc, .bool false] 140)).heap.size = w.heap.size + 1 := by simp
  have HZ := Lib.hid hz
  clear hR hB hv hz
  go_enter Tryz.func60, Tryz.ntmps60
  go_wp2_with fail
  generalize w.alloc (.cells #[.slice vo vn vc, .bool false] 140) = W at *
  refine (blanks_v _ n false f _ HR.out).mono ?_
  rintro e w1 ⟨rfl, hr1, ho1⟩
  have hb1 : Below w.heap.size w w1 := Below.andOnly HB.out ho1 (Nat.le_refl _) HB.out.size
  have HR1 := Lib.hid hr1
  have HB1 := Lib.hid hb1
  clear hr1 ho1 hb1 HR HB HZ
  go_wp2_with fail
  rw [hE, Oper.upon_enter]
  refine (HC.out _ HB1.out HR1.out).mono ?_
  rintro e w2 (⟨x, r, pl, hp, rfl, hr, hk, hs⟩ | ⟨hp, rfl, hk⟩)
  · have hkw : Kp S w w2 := (Below.kp HB1.out).andThen hk (fun b hb h => h.elim id (fun e => by omega))
    have HP := Lib.hid hp
    have HR2 := Lib.hid hr
    have HK2 := Lib.hid hkw
    have HS2 := Lib.hid hs
    clear hp hr hk hs hkw HR1 HB1 HC
    go_wp2_with fail
    refine (blanks_v _ n pl r _ HR2.out).mono ?_
    rintro e w3 ⟨rfl, hr3, ho3⟩
    have hk3 : Kp S w w3 := HK2.out.andThen (Only.kp ho3) (fun b hb e => by omega)
    have HR3 := Lib.hid hr3
    have HK3 := Lib.hid hk3
    have HS3 := Lib.hid (HST.out x _ _ HS2.out ho3)
    clear hr3 ho3 hk3 HK2 HS2 HR2
    go_wp2_with fail
    refine (ended_v _ n pl _ _ HR3.out).mono ?_
    rintro e w4 ⟨rfl, rfl⟩
    go_wp2_with fail
    cases hd : Wn.dropB r with
    | nil =>
      have HE : Hid (Wn.wholeF p f = some x) := Lib.hid (by unfold Wn.wholeF; rw [HP.out]; simp [hd])
      simp only [endB]
      refine (demand_t _).mono ?_
      rintro e w5 ⟨rfl, rfl⟩
      clear hd
      go_wp2_with fail
      exact ⟨rfl, .tuple #[], by simp [results, Tryz.results60], .inl ⟨x, HE.out, rfl, HK3.out, HS3.out⟩⟩
    | cons k t y r' =>
      have HE : Hid (Wn.wholeF p f = none) := Lib.hid (by unfold Wn.wholeF; rw [HP.out]; simp [hd])
      simp only [endB]
      refine (demand_f _).mono ?_
      rintro e w5 ⟨rfl, rfl⟩
      exact ⟨rfl, .inr ⟨HE.out, rfl, HK3.out⟩⟩
  · have hkw : Kp S w w2 := (Below.kp HB1.out).andThen hk (fun b hb h => h.elim id (fun e => by omega))
    have HE : Hid (Wn.wholeF p f = none) := Lib.hid (by unfold Wn.wholeF; rw [hp])
    exact ⟨rfl, .inr ⟨HE.out, rfl, hkw⟩⟩
end Go.Proofs.YtncknaagbafhhaaGreatDoor
set_option linter.unusedVariables false
set_option linter.unusedSimpArgs false
set_option maxRecDepth 20000
namespace Go.Proofs.YtncknaagbafhhaaGreatDoor
open Go.RowKit Go.Sort
theorem demand_y {b : Bool} (w : World) (hb : b = true) : Calls Tryz.prog 59 #[.bool b] w fun e w' => e = .returned (.tuple #[]) ∧ w = w' := by subst hb; exact demand_t w
theorem demand_n {b : Bool} (w : World) (hb : b = false) : Calls Tryz.prog 59 #[.bool b] w fun e w' => e = .panicked invalidP ∧ w = w' := by subst hb; exact demand_f w
theorem isPseudo_v (s : List UInt8) (w : World) : Calls Tryz.prog 81 #[.string (Wn.str s)] w fun e w' => e = .returned (.bool (Wn.isPseudo s)) ∧ w = w' := by
  have hs := str_list s
  generalize Wn.str s = x at *
  subst hs
  have HE : Hid (Wn.isPseudo x.toList = (decide (x.toList = [98, 101, 102, 111, 114, 101]) || decide (x.toList = [97, 102, 116, 101, 114]))) := Lib.hid rfl
  go_enter Tryz.func81, Tryz.ntmps81
  go_wp2
  all_goals
    go_ret
    refine ⟨ret_bool ?_, rfl⟩
    rw [HE.out, Bool.eq_iff_iff]
    simp [*]
theorem inNthLimit_v (n : Int) (w : World) : Calls Tryz.prog 74 #[.int .i64 n] w fun e w' => e = .returned (.bool (Wn.few n)) ∧ w = w' := by
  have HE : Hid (Wn.few n = (decide (-9999 ≤ n) && decide (n ≤ 9999))) := Lib.hid rfl
  go_enter Tryz.func74, Tryz.ntmps74
  go_wp2
  all_goals
    go_ret
    refine ⟨ret_bool ?_, rfl⟩
    rw [HE.out, Bool.eq_iff_iff]
    simp [*]
    try omega
theorem isState_v (s : List UInt8) (w : World) : Calls Tryz.prog 206 #[.string (Wn.str s)] w fun e w' => e = .returned (.bool (Wn.isState s)) ∧ w = w' := by
  have hs := str_list s
  generalize Wn.str s = x at *
  subst hs
  have HE : Hid (Wn.isState x.toList = (decide (x.toList = [104, 111, 118, 101, 114]) || decide (x.toList = [102, 111, 99, 117, 115]) || decide (x.toList = [97, 99, 116, 105, 118, 101]) || decide (x.toList = [99, 104, 101, 99, 107, 101, 100]))) := Lib.hid rfl
  go_enter Tryz.func206, Tryz.ntmps206
  go_wp2
  all_goals
    go_ret
    refine ⟨ret_bool ?_, rfl⟩
    rw [HE.out, Bool.eq_iff_iff]
    simp_all
def WordPost (res : Option (Int × Int)) (w : World) (e : Ending) (w' : World) : Prop :=
  (∃ p, res = some p ∧ e = .returned (.tuple #[.int .i64 p.1, .int .i64 p.2]) ∧ w = w') ∨ (res = none ∧ e = .panicked invalidP ∧ w = w')
theorem nthWord_v (s : List UInt8) (w : World) : Calls Tryz.prog 115 #[.string (Wn.str s)] w (WordPost (Wn.nthW s) w) := by
  have hs := str_list s
  generalize Wn.str s = x at *
  subst hs
  have HE : Hid (Wn.nthW x.toList = if (x.toList == [111, 100, 100]) then some (2, 1) else if (x.toList == [101, 118, 101, 110]) then some (2, 0) else if (x.toList == [110]) then some (1, 0) else none) := Lib.hid (by unfold Wn.nthW; simp)
  cases h1 : (x.toList == [111, 100, 100])
  · cases h2 : (x.toList == [101, 118, 101, 110])
    · cases h3 : (x.toList == [110])
      · go_enter Tryz.func115, Tryz.ntmps115
        go_wp2_with fail
        refine (demand_f _).mono ?_
        rintro e w1 ⟨rfl, rfl⟩
        exact ⟨rfl, .inr ⟨by rw [HE.out, h1, h2, h3]; rfl, rfl, rfl⟩⟩
      · go_enter Tryz.func115, Tryz.ntmps115
        go_wp2_with fail
        refine (demand_t _).mono ?_
        rintro e w1 ⟨rfl, rfl⟩
        go_wp2_with fail
        go_ret2
        exact .inl ⟨_, by rw [HE.out, h1, h2, h3]; rfl, rfl, rfl⟩
    · go_enter Tryz.func115, Tryz.ntmps115
      go_wp2_with fail
      go_ret2
      exact .inl ⟨_, by rw [HE.out, h1, h2]; rfl, rfl, rfl⟩
  · go_enter Tryz.func115, Tryz.ntmps115
    go_wp2_with fail
    go_ret2
    exact .inl ⟨_, by rw [HE.out, h1]; rfl, rfl, rfl⟩
theorem str_extract (s : List UInt8) (p q : Nat) : (Wn.str s).extract p q = Wn.str ((s.drop p).take (q - p)) := by
  rw [Wn.extract_sfx]; unfold Wn.sfx Wn.str; simp
theorem cutN_take (s : List UInt8) : (s.take 2 == [110, 45]) = (Wn.cutN s).isSome := by
  match s with
  | [] => rfl
  | [a] => simp [Wn.cutN]
  | a :: b :: l => rw [Wn.cutN]; split <;> simp_all
theorem cutN_drop {s l : List UInt8} (h : Wn.cutN s = some l) : s.drop 2 = l ∧ 2 ≤ s.length := by
  match s with
  | [] => cases h
  | [a] => cases h
  | a :: b :: l' => rw [Wn.cutN] at h; split at h <;> simp_all
set_option maxHeartbeats 400000 in
theorem HasPrefix_n (s : List UInt8) (w : World) (hx : s.length ≤ maxLen) : Calls Tryz.prog 194 #[.string (Wn.str s), .string ⟨#[110, 45]⟩] w fun e w' => e = .returned (.bool (Wn.cutN s).isSome) ∧ w = w' := by
  unfold maxLen at hx
  have hsz := Wn.str_size s
  have HX := Lib.hid (str_extract s 0 2)
  have HC := Lib.hid (cutN_take s)
  generalize hxs : Wn.str s = x at *
  have hx' : x.size ≤ 2 ^ 63 - 1 := by omega
  by_cases h : 2 ≤ x.size
  · clear hsz
    go_enter Tryz.func194, Tryz.ntmps194
    go_wp2
    go_ret
    exact ⟨ret_bool (by rw [HX.out, str_list, ← HC.out]; rfl), rfl⟩
  · have HL : Hid ((Wn.cutN s).isSome = false) := Lib.hid (by rw [← HC.out]; match s, hsz with | [], _ => rfl | [a], _ => simp | a :: b :: l, hsz => simp at hsz; omega)
    clear hsz
    go_enter Tryz.func194, Tryz.ntmps194
    go_wp2
    go_ret
    exact ⟨ret_bool HL.out.symm, rfl⟩
def CutPost (s : List UInt8) (w : World) (e : Ending) (w' : World) : Prop :=
  (∃ l, Wn.cutN s = some l ∧ e = .returned (.tuple #[.string (Wn.str l), .bool true]) ∧ w = w') ∨ (Wn.cutN s = none ∧ e = .returned (.tuple #[.string (Wn.str s), .bool false]) ∧ w = w')
set_option maxHeartbeats 400000 in
theorem CutPrefix_i (s : List UInt8) (w : World) (hx : s.length ≤ maxLen) : Calls Tryz.prog 166 #[.string (Wn.str s), .string ⟨#[110, 45]⟩] w (CutPost s w) := by
  have QH := Lib.hid (HasPrefix_n s w hx)
  unfold maxLen at hx
  have hsz := Wn.str_size s
  cases hc : Wn.cutN s with
  | none =>
    rw [hc] at QH
    have HC := Lib.hid hc
    clear hc
    generalize hxs : Wn.str s = x at *
    have HX := Lib.hid hxs
    clear hsz hxs
    go_enter Tryz.func166, Tryz.ntmps166
    go_wp2_with fail
    refine QH.out.mono ?_
    rintro e w1 ⟨rfl, rfl⟩
    simp only [Option.isSome_none]
    go_wp2_with fail
    go_ret2
    exact .inr ⟨HC.out, by rw [HX.out]; rfl, rfl⟩
  | some l =>
    rw [hc] at QH
    have HC := Lib.hid hc
    obtain ⟨hd, h2⟩ := cutN_drop hc
    have HX := Lib.hid (str_extract s 2 (Wn.str s).size)
    have HL : Hid ((s.drop 2).take ((Wn.str s).size - 2) = l) := Lib.hid (by rw [hd, Wn.str_size, List.take_of_length_le]; rw [← hd, List.length_drop]; exact Nat.le_refl _)
    clear hc hd
    generalize hxs : Wn.str s = x at *
    have h2' : 2 ≤ x.size := by omega
    have h3' : x.size ≤ 2 ^ 63 - 1 := by omega
    clear hsz hxs
    go_enter Tryz.func166, Tryz.ntmps166
    go_wp2_with fail
    refine QH.out.mono ?_
    rintro e w1 ⟨rfl, rfl⟩
    simp only [Option.isSome_some]
    go_wp2_with fail
    go_ret2
    refine .inl ⟨l, HC.out, ?_, rfl⟩
    rw [← HL.out, ← HX.out]; rfl
theorem CutPrefix_v (s : List UInt8) (w : World) (hx : s.length ≤ maxLen) : Calls Tryz.prog 118 #[.string (Wn.str s), .string ⟨#[110, 45]⟩] w (CutPost s w) := by
  have QC := Lib.hid (CutPrefix_i s w hx)
  generalize hxs : Wn.str s = x at *
  have HX := Lib.hid hxs
  clear hxs
  go_enter Tryz.func118, Tryz.ntmps118
  go_wp2_with fail
  refine QC.out.mono ?_
  rintro e w1 (⟨l, h1, rfl, rfl⟩ | ⟨h1, rfl, rfl⟩)
  · have H1 := Lib.hid h1
    clear h1 QC
    go_wp2_with fail
    go_ret2
    exact .inl ⟨l, H1.out, rfl, rfl⟩
  · have H1 := Lib.hid h1
    clear h1 QC
    go_wp2_with fail
    go_ret2
    exact .inr ⟨H1.out, rfl, rfl⟩
end Go.Proofs.YtncknaagbafhhaaGreatDoor
set_option linter.unusedVariables false
set_option linter.unusedSimpArgs false
set_option maxRecDepth 20000
namespace Wn
theorem decN_snoc (l : List UInt8) (c : UInt8) : decN (l ++ [c]) = decN l * 10 + ((c.toNat : Int) - 48) := by unfold decN; rw [List.foldl_append]; rfl
def bnd (i : Nat) : Int := if i = 0 then 0 else if i = 1 then 9 else if i = 2 then 99 else if i = 3 then 999 else 9999
theorem bnd_le (i : Nat) : bnd i ≤ 9999 := by unfold bnd; (repeat' split) <;> omega
theorem bnd_step {i : Nat} {N d : Int} (h : N ≤ bnd i) (hi : i < 4) (hd : d ≤ 9) : N * 10 + d ≤ bnd (i + 1) := by
  have : i = 0 ∨ i = 1 ∨ i = 2 ∨ i = 3 := by omega
  rcases this with rfl | rfl | rfl | rfl <;> (simp [bnd] at h ⊢; omega)
theorem take_snocB (s : ByteArray) (k : Nat) (h : k < s.size) : s.data.toList.take (k + 1) = s.data.toList.take k ++ [s[k]] := by
  rw [List.take_succ_eq_append_getElem (by simpa using h)]; rfl
end Wn
namespace Go.Proofs.YtncknaagbafhhaaGreatDoor
open Go.RowKit Go.Sort
def NumPost (res : Option Int) (w : World) (e : Ending) (w' : World) : Prop :=
  (∃ n, res = some n ∧ 0 ≤ n ∧ n ≤ 9999 ∧ e = .returned (.int .i64 n) ∧ w = w') ∨ (res = none ∧ e = .panicked invalidP ∧ w = w')
theorem num4_len {s : ByteArray} (h : ¬ (1 ≤ s.size ∧ s.size ≤ 4)) : Wn.num4 s.data.toList = none := by
  unfold Wn.num4; rw [if_neg]; intro h'; apply h; simp at h'; exact ⟨h'.1, h'.2.1⟩
set_option maxRecDepth 100000 in
set_option maxHeartbeats 1000000 in
theorem number_x (s : ByteArray) (w : World) (hs : s.size ≤ maxLen) : Calls Tryz.prog 119 #[.string s] w (NumPost (Wn.num4 s.data.toList) w) := by
  unfold maxLen at hs
  by_cases h1 : 1 ≤ s.size
  · by_cases h4 : s.size ≤ 4
    · have HA : Hid (s.data.toList.all Wn.digB = true → Wn.num4 s.data.toList = some (Wn.decN s.data.toList)) := Lib.hid (fun h => by unfold Wn.num4; rw [if_pos]; exact ⟨by simpa using h1, by simpa using h4, h⟩)
      have HN : Hid (∀ i (h : i < s.size), Wn.digB s[i] = false → Wn.num4 s.data.toList = none) := Lib.hid (fun i h hd => by
        unfold Wn.num4; rw [if_neg]
        rintro ⟨_, _, hall⟩
        rw [List.all_eq_true] at hall
        have := hall s[i] (by exact Array.getElem_mem_toList (by simpa using h))
        rw [hd] at this; cases this)
      go_enter Tryz.func119, Tryz.ntmps119
      go_wp2_with fail
      refine (demand_y _ (by simp <;> omega)).mono ?_
      rintro e w1 ⟨rfl, rfl⟩
      go_wp2_with fail
      go_loop [3, 16] (fun v3 v16 => ∃ (i : Nat) (N : Int), i ≤ s.size ∧ v16 = .int .i64 (i : Int) ∧ v3 = .int .i64 N ∧ 0 ≤ N ∧ N ≤ 9999 ∧ Hid (N ≤ Wn.bnd i) ∧ Hid (N = Wn.decN (s.data.toList.take i)) ∧ Hid ((s.data.toList.take i).all Wn.digB = true)) (fun _ v16 => s.size - (intOf v16).toNat)
      case atStart => exact ⟨0, 0, by omega, rfl, rfl, by omega, by omega, Lib.hid (by decide), Lib.hid rfl, Lib.hid rfl⟩
      case round =>
        obtain ⟨i, N, hi, rfl, rfl, hN0, hN9, HBd, HD, HAl⟩ := hrel
        by_cases hil : i < s.size
        · have hts := Wn.take_snocB s i hil
          have hu8 := (s[i]).toNat_lt
          have hdb : Wn.digB s[i] = (decide (48 ≤ s[i].toNat) && decide (s[i].toNat ≤ 57)) := rfl
          by_cases h48 : 48 ≤ s[i].toNat
          · by_cases h57 : s[i].toNat ≤ 57
            · have hdt : Wn.digB s[i] = true := by rw [hdb]; simp [h48, h57]
              have HD2 : Hid (N * 10 + ((s[i].toNat : Int) - 48) = Wn.decN (s.data.toList.take (i + 1))) := Lib.hid (by rw [hts, Wn.decN_snoc, ← HD.out])
              have HAl2 : Hid ((s.data.toList.take (i + 1)).all Wn.digB = true) := Lib.hid (by rw [hts, List.all_append, HAl.out]; simp [hdt])
              have HB2 : Hid (N * 10 + ((s[i].toNat : Int) - 48) ≤ Wn.bnd (i + 1)) := Lib.hid (Wn.bnd_step HBd.out (by omega) (by omega))
              have hb2 : N * 10 + ((s[i].toNat : Int) - 48) ≤ 9999 := Int.le_trans HB2.out (Wn.bnd_le _)
              clear hts hdb hdt HD HAl HBd HN HA
              have hc48 : (48 : Int) ≤ (s[i].toNat : Int) := by omega
              have hc57 : (s[i].toNat : Int) ≤ 57 := by omega
              go_wp2_with fail
              refine (demand_y _ (by simp <;> omega)).mono ?_
              rintro e w1 ⟨rfl, rfl⟩
              go_wp2_with fail
              go_round
              case rel => exact ⟨i + 1, N * 10 + ((s[i].toNat : Int) - 48), by omega, by go_num, by go_num, by omega, by omega, HB2, HD2, HAl2⟩
              case measure => simp [intOf]; omega
            · have HE : Hid (Wn.num4 s.data.toList = none) := Lib.hid (HN.out i hil (by rw [hdb]; simp [h57]))
              clear hts hdb HD HAl HBd HN HA
              have hc48 : (48 : Int) ≤ (s[i].toNat : Int) := by omega
              have hc57 : ¬ (s[i].toNat : Int) ≤ 57 := by omega
              go_wp2_with fail
              refine (demand_n _ (by simp <;> omega)).mono ?_
              rintro e w1 ⟨rfl, rfl⟩
              exact ⟨rfl, .inr ⟨HE.out, rfl, rfl⟩⟩
          · have HE : Hid (Wn.num4 s.data.toList = none) := Lib.hid (HN.out i hil (by rw [hdb]; simp [h48]))
            clear hts hdb HD HAl HBd HN HA
            have hc48 : ¬ (48 : Int) ≤ (s[i].toNat : Int) := by omega
            go_wp2_with fail
            refine (demand_f _).mono ?_
            rintro e w1 ⟨rfl, rfl⟩
            exact ⟨rfl, .inr ⟨HE.out, rfl, rfl⟩⟩
        · have ht : s.data.toList.take i = s.data.toList := List.take_of_length_le (by simp; omega)
          have HE : Hid (Wn.num4 s.data.toList = some N) := Lib.hid (by rw [HD.out, ht]; exact HA.out (by rw [← ht]; exact HAl.out))
          clear ht HD HAl HBd HN HA
          go_wp2_with fail
          go_ret
          exact .inl ⟨N, HE.out, hN0, hN9, rfl, rfl⟩
    · have HE := Lib.hid (num4_len (s := s) (fun h => h4 h.2))
      go_enter Tryz.func119, Tryz.ntmps119
      go_wp2_with fail
      refine (demand_n _ (by simp <;> omega)).mono ?_
      rintro e w1 ⟨rfl, rfl⟩
      exact ⟨rfl, .inr ⟨HE.out, rfl, rfl⟩⟩
  · have HE := Lib.hid (num4_len (s := s) (fun h => h1 h.1))
    go_enter Tryz.func119, Tryz.ntmps119
    go_wp2_with fail
    refine (demand_n _ (by simp)).mono ?_
    rintro e w1 ⟨rfl, rfl⟩
    exact ⟨rfl, .inr ⟨HE.out, rfl, rfl⟩⟩
theorem number_v (l : List UInt8) (w : World) (hs : l.length ≤ maxLen) : Calls Tryz.prog 119 #[.string (Wn.str l)] w (NumPost (Wn.num4 l) w) := by
  have := number_x (Wn.str l) w (by rw [Wn.str_size]; exact hs)
  rwa [str_data] at this
def IntPost (g n : Nat) (pl : Bool) (res : Option (Int × Wn.Fs)) (w : World) (e : Ending) (w' : World) : Prop :=
  (∃ x r, res = some (x, r) ∧ e = .returned (.int .i64 x) ∧ Rd w' g n pl r ∧ Only g w w') ∨ (res = none ∧ e = .panicked invalidP ∧ Only g w w')
set_option maxHeartbeats 1000000 in
theorem plus_v (g n : Nat) (pl : Bool) (f : Wn.Fs) (w : World) (h : Rd w g n pl f) :
    Calls Tryz.prog 117 #[.pointer (some ⟨g, 0, none⟩)] w (IntPost g n pl (Wn.plusR f) w) := by
  have QD := Lib.hid (delim1_v g n pl f [43] w _ rfl h)
  have hgl := h.lt
  clear h
  go_enter Tryz.func117, Tryz.ntmps117
  go_wp2_with fail
  refine QD.out.mono ?_
  rintro e w1 (⟨r, hs, rfl, hr, ho⟩ | ⟨hs, rfl, hr, ho⟩)
  · have HS := Lib.hid hs
    have HO := Lib.hid ho
    have QT := Lib.hid (token_v g n pl r 5 w1 hr)
    clear hs hr ho QD
    go_wp2_with fail
    refine QT.out.mono ?_
    rintro e w2 (⟨t, r', hf, rfl, hr, ho⟩ | ⟨hf, rfl, hr, ho⟩)
    · have HF := Lib.hid hf
      have HO2 := Lib.hid (HO.out.trans ho)
      have HR2 := Lib.hid hr
      have hx := str_list t.2.1
      have HP : Hid (Wn.plusR f = if (t.2.1 == []) && decide (0 ≤ t.2.2) then some (t.2.2, r') else none) := Lib.hid (by unfold Wn.plusR; rw [HS.out]; simp only; rw [hf]; simp)
      clear hf hr ho QT HO
      generalize hxs : Wn.str t.2.1 = x at *
      generalize t.2.2 = tn at *
      generalize t.2.1 = tl at *
      subst hx
      cases h1 : (x.toList == [])
      · have HE : Hid (Wn.plusR f = none) := Lib.hid (by rw [HP.out, h1]; rfl)
        go_wp2_with fail
        refine (demand_f _).mono ?_
        rintro e w3 ⟨rfl, rfl⟩
        exact ⟨rfl, .inr ⟨HE.out, rfl, HO2.out.alloc _⟩⟩
      · by_cases h0 : 0 ≤ tn
        · have HE : Hid (Wn.plusR f = some (tn, r')) := Lib.hid (by rw [HP.out, h1]; simp [h0])
          go_wp2_with fail
          refine (demand_y _ (by simp <;> omega)).mono ?_
          rintro e w3 ⟨rfl, rfl⟩
          go_wp2_with fail
          go_ret
          exact .inl ⟨_, _, HE.out, rfl, HR2.out.below ((Below.refl _ _).alloc (Nat.le_refl _) _), HO2.out.alloc _⟩
        · have HE : Hid (Wn.plusR f = none) := Lib.hid (by rw [HP.out]; simp [h0])
          go_wp2_with fail
          refine (demand_n _ (by simp <;> omega)).mono ?_
          rintro e w3 ⟨rfl, rfl⟩
          exact ⟨rfl, .inr ⟨HE.out, rfl, HO2.out.alloc _⟩⟩
    · have HE : Hid (Wn.plusR f = none) := Lib.hid (by unfold Wn.plusR; rw [HS.out]; simp only; rw [hf])
      have HO2 := Lib.hid (HO.out.trans ho)
      clear hf hr ho QT HO
      go_wp2_with fail
      refine (demand_f _).mono ?_
      rintro e w3 ⟨rfl, rfl⟩
      exact ⟨rfl, .inr ⟨HE.out, rfl, HO2.out.alloc _⟩⟩
  · have HE : Hid (Wn.plusR f = some (0, f)) := Lib.hid (by unfold Wn.plusR; rw [hs])
    have HR := Lib.hid hr
    have HO := Lib.hid ho
    clear hs hr ho QD
    go_wp2_with fail
    go_ret
    exact .inl ⟨_, _, HE.out, rfl, HR.out, HO.out⟩
end Go.Proofs.YtncknaagbafhhaaGreatDoor
