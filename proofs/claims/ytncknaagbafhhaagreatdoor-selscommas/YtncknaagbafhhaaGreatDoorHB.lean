/- The reader of selectors in memory; what its small methods answer. What the reader's blanks, value, token, name answer. What the reader's token, value, name answer. What the reader's value and name answer. -/
import Derived.Test.YtncknaagbafhhaaGreatDoorHA
import Derived.Test.YtncknaagbafhhaaGreatDoorGW
import Derived.Test.YtncknaagbafhhaaGreatDoorGX
set_option linter.unusedVariables false
set_option linter.unusedSimpArgs false
set_option maxRecDepth 20000
namespace Go.Proofs.YtncknaagbafhhaaGreatDoor
open Go.RowKit Go.Sort
/-- no text is too long -/
def Tl (f : Wn.Fs) : Prop := f.all fun t => t.2.1.length ≤ 1048576
theorem Tl.cons {k : Int} {t : Wn.Tok} {x r : Wn.Fs} (h : Tl (.cons k t x r)) : t.2.1.length ≤ 1048576 ∧ Tl x ∧ Tl r := h
theorem Tl.drop : ∀ {f : Wn.Fs} (i : Nat), Tl f → Tl (f.drop i)
  | f, 0, h => by rw [Wn.Fs.drop_zero]; exact h
  | .nil, i + 1, h => trivial
  | .cons k t x r, i + 1, h => by rw [Wn.Fs.drop]; exact Tl.drop i h.cons.2.2
theorem Tl.dropB : ∀ {f : Wn.Fs}, Tl f → Tl (Wn.dropB f)
  | .nil, h => trivial
  | .cons k t x r, h => by rw [Wn.dropB]; split; exact Tl.dropB h.cons.2.2; exact h
/-- block g is the reader: the values f, which lie in blocks below n, and its mark -/
structure Rd (w : World) (g n : Nat) (pl : Bool) (f : Wn.Fs) : Prop where
  ex : ∃ v, w.heap[g]? = some (.cells #[v, .bool pl] 140) ∧ ValsP w (fun b => b < n) v f
  le : n ≤ g
  tl : Tl f
section
variable {w w' : World} {g n : Nat} {pl : Bool} {f : Wn.Fs}
theorem Rd.lt (h : Rd w g n pl f) : g < w.heap.size := by obtain ⟨v, hb, _⟩ := h.ex; exact lt_of_block hb
theorem Rd.below (h : Rd w g n pl f) (hb : Below w.heap.size w w') : Rd w' g n pl f := by
  obtain ⟨v, hg, hv⟩ := h.ex; exact ⟨⟨v, block_lat hb hg, hv.below hb⟩, h.le, h.tl⟩
theorem Rd.kp {S : Nat → Prop} (h : Rd w g n pl f) (hk : Kp S w w') (hg : ¬ S g) (hs : ∀ b, b < n → ¬ S b) : Rd w' g n pl f := by
  obtain ⟨v, hb, hv⟩ := h.ex
  exact ⟨⟨v, (hk.block g (lt_of_block hb) hg).trans hb, hv.same (fun b hb hl => hk.block b hl (hs b hb)) (fun _ h _ => h)⟩, h.le, h.tl⟩
theorem Rd.nil (h : Rd w g n pl .nil) : ∃ ao cap, w.heap[g]? = some (.cells #[.slice ao 0 cap, .bool pl] 140) ∧ cap ≤ maxLen := by
  obtain ⟨v, hb, hv⟩ := h.ex
  obtain ⟨ao, cap, rfl, _, h2⟩ := hv.form
  exact ⟨ao, cap, hb, h2⟩
theorem Rd.cons {k : Int} {t : Wn.Tok} {x r : Wn.Fs} (h : Rd w g n pl (.cons k t x r)) : ∃ b o cap uo un uc, w.heap[g]? = some (.cells #[.slice (some ⟨b, o, none⟩) (r.len + 1) cap, .bool pl] 140) ∧ r.len + 1 ≤ cap ∧ cap ≤ maxLen ∧ b ≠ g ∧
    w.cell? ⟨b, o, none⟩ = some (.int .i64 k) ∧ w.cell? ⟨b, o + 1, none⟩ = some (.int .i64 t.1) ∧ w.cell? ⟨b, o + 2, none⟩ = some (.string (Wn.str t.2.1)) ∧ w.cell? ⟨b, o + 3, none⟩ = some (.int .i64 t.2.2) ∧ w.cell? ⟨b, o + 4, none⟩ = some (.slice uo un uc) ∧
    ValsP w (fun b => b < n) (.slice uo un uc) x ∧ ValsP w (fun b => b < n) (.slice (if cap = 1 then some ⟨b, o, none⟩ else some ⟨b, o + 5, none⟩) r.len (cap - 1)) r := by
  obtain ⟨v, hb, hv⟩ := h.ex
  obtain ⟨ao, cap, rfl, h1, h2⟩ := hv.form
  obtain ⟨b, o, rfl, j0, ⟨j1, j2, j3⟩, u, j4, hu⟩ := hv.at (i := 0) (Wn.Fs.drop_zero _)
  obtain ⟨uo, uc, rfl, _, _⟩ := hu.form
  have hsub := hv.subC 1 (r.len + 1) (by omega) (by simp [Wn.Fs.len])
  rw [show (Wn.Fs.cons k t x r).drop 1 = r by rw [Wn.Fs.drop, Wn.Fs.drop_zero], Wn.Fs.take_all r (by omega)] at hsub
  simp only [Nat.one_mul, Nat.add_sub_cancel] at hsub
  simp only [Nat.zero_mul, Nat.add_zero] at j0 j1 j2 j3 j4
  have hok : b < n := by
    obtain ⟨_, _, he, _, _, _, h4⟩ := hv
    obtain ⟨b', o', ha, hx⟩ := h4 (by simp)
    simp only [Value.slice.injEq] at he
    rw [← he.1] at ha
    simp only [Option.some.injEq, Addr.mk.injEq] at ha
    obtain ⟨rfl, _⟩ := ha
    exact hx.1
  exact ⟨b, o, cap, uo, _, uc, hb, by simpa [Wn.Fs.len] using h1, h2, by have := h.le; omega, j0, j1, j2, j3, j4, hu, hsub⟩
/-- the values that are left are stored -/
theorem Rd.set {v : Value} {f' : Wn.Fs} (h : Rd w g n pl f) (hv : ValsP w (fun b => b < n) v f') (ht : Tl f') : Rd (w.setCell ⟨g, 0, none⟩ v) g n pl f' := by
  obtain ⟨u, hb, _⟩ := h.ex
  refine ⟨⟨v, by simp [World.setCell, Array.getElem?_modify, hb], hv.same (fun b hb _ => ?_) (fun _ h _ => h)⟩, h.le, ht⟩
  exact Below.heap_setCell _ _ _ _ (by have := h.le; show b ≠ g; omega)
end
/-- what the reader panics with -/
def invalidP : List PanicEntry := [{ v := .iface 93 (.agg #[]), recovered := false }]
def endB : Wn.Fs → Bool
  | .nil => true
  | .cons _ _ _ _ => false
def seesB (kind : Int) : Wn.Fs → Bool
  | .nil => false
  | .cons k _ _ _ => decide (k = kind)
theorem demand_t (w : World) : Calls Tryz.prog 59 #[.bool true] w fun e w' => e = .returned (.tuple #[]) ∧ w = w' := by
  go_enter Tryz.func59, Tryz.ntmps59
  go_wp2
  exact ⟨rfl, .tuple #[], by simp [results, Tryz.results59], rfl, rfl⟩
theorem demand_f (w : World) : Calls Tryz.prog 59 #[.bool false] w fun e w' => e = .panicked invalidP ∧ w = w' := by
  go_enter Tryz.func59, Tryz.ntmps59
  go_wp2
  exact ⟨rfl, rfl, rfl⟩
theorem ended_v (g n : Nat) (pl : Bool) (f : Wn.Fs) (w : World) (h : Rd w g n pl f) :
    Calls Tryz.prog 99 #[.pointer (some ⟨g, 0, none⟩)] w fun e w' => e = .returned (.bool (endB f)) ∧ w = w' := by
  cases f with
  | nil =>
    obtain ⟨ao, cap, hb, h2⟩ := h.nil
    have c0 := cell_of_block (o := 0) hb
    simp only [List.getElem?_toArray, List.getElem?_cons_zero] at c0
    clear hb h
    go_enter Tryz.func99, Tryz.ntmps99
    go_wp2
    go_ret
    exact ⟨rfl, rfl⟩
  | cons k t x r =>
    obtain ⟨b, o, cap, uo, un, uc, hb, h1, h2, hne, j0, j1, j2, j3, j4, hu, hsub⟩ := h.cons
    have c0 := cell_of_block (o := 0) hb
    simp only [List.getElem?_toArray, List.getElem?_cons_zero] at c0
    unfold maxLen at h2
    clear hb h j0 j1 j2 j3 j4 hu hsub
    go_enter Tryz.func99, Tryz.ntmps99
    go_wp2
    go_ret
    exact ⟨rfl, rfl⟩
theorem sees_v (g n : Nat) (pl : Bool) (f : Wn.Fs) (kind : Int) (w : World) (h : Rd w g n pl f) :
    Calls Tryz.prog 147 #[.pointer (some ⟨g, 0, none⟩), .int .i64 kind] w fun e w' => e = .returned (.bool (seesB kind f)) ∧ w = w' := by
  have QE := Lib.hid (ended_v g n pl f w h)
  cases f with
  | nil =>
    obtain ⟨ao, cap, hb, h2⟩ := h.nil
    have c0 := cell_of_block (o := 0) hb
    simp only [List.getElem?_toArray, List.getElem?_cons_zero] at c0
    clear hb h
    go_enter Tryz.func147, Tryz.ntmps147
    go_wp2_with fail
    refine QE.out.mono ?_
    rintro e w1 ⟨rfl, rfl⟩
    simp only [endB]
    go_wp2_with fail
    go_ret
    exact ⟨rfl, rfl⟩
  | cons k t x r =>
    obtain ⟨b, o, cap, uo, un, uc, hb, h1, h2, hne, j0, j1, j2, j3, j4, hu, hsub⟩ := h.cons
    have c0 := cell_of_block (o := 0) hb
    simp only [List.getElem?_toArray, List.getElem?_cons_zero] at c0
    unfold maxLen at h2
    clear hb h j1 j2 j3 j4 hu hsub
    have hs : seesB kind (.cons k t x r) = (k == kind) := by simp only [seesB]; rw [Bool.eq_iff_iff]; simp
    rw [hs]
    clear hs
    go_enter Tryz.func147, Tryz.ntmps147
    go_wp2_with fail
    refine QE.out.mono ?_
    rintro e w1 ⟨rfl, rfl⟩
    simp only [endB]
    go_wp2_with fail
    go_ret
    exact ⟨rfl, rfl⟩
end Go.Proofs.YtncknaagbafhhaaGreatDoor
set_option linter.unusedVariables false
set_option linter.unusedSimpArgs false
set_option maxRecDepth 20000
namespace Go.Proofs.YtncknaagbafhhaaGreatDoor
open Go.RowKit Go.Sort
def rdLen (g : Nat) (w : World) : Nat := match w.cell? ⟨g, 0, none⟩ with | some (.slice _ n _) => n | _ => 0
theorem rdLen_at {w : World} {g n cap : Nat} {ao : Option Addr} {pl : Bool} (h : w.heap[g]? = some (.cells #[.slice ao n cap, .bool pl] 140)) : rdLen g w = n := by
  unfold rdLen; rw [cell_of_block (o := 0) h]; rfl
theorem Rd.len {w : World} {g n : Nat} {pl : Bool} {f : Wn.Fs} (h : Rd w g n pl f) : rdLen g w = f.len := by
  obtain ⟨v, hb, hv⟩ := h.ex
  obtain ⟨ao, cap, rfl, _⟩ := hv.form
  exact rdLen_at hb
set_option maxRecDepth 100000 in
set_option maxHeartbeats 1000000 in
theorem blanks_v (g n : Nat) (pl : Bool) (f : Wn.Fs) (w : World) (h : Rd w g n pl f) :
    Calls Tryz.prog 98 #[.pointer (some ⟨g, 0, none⟩)] w fun e w' => e = .returned (.bool (decide ((Wn.dropB f).len < f.len))) ∧ Rd w' g n pl (Wn.dropB f) ∧ Only g w w' := by
  have HR := Lib.hid h
  obtain ⟨v, hb, hv⟩ := h.ex
  obtain ⟨ao, cap, rfl, h1, h2⟩ := hv.form
  have c0 := cell_of_block (o := 0) hb
  simp only [List.getElem?_toArray, List.getElem?_cons_zero] at c0
  have hN : f.len ≤ 9223372036854775807 := by unfold maxLen at h2; omega
  generalize hd : Wn.dropB f = d
  have HD := Lib.hid hd
  generalize hfl : f.len = N at *
  have HN := Lib.hid hfl
  clear hb hv h1 h2 h hd hfl
  go_enter Tryz.func98, Tryz.ntmps98
  go_wp2_with fail
  go_loopw [] (fun wr => ∃ f' : Wn.Fs, Hid (Rd wr g n pl f') ∧ Hid (Wn.dropB f' = d) ∧ f'.len ≤ N ∧ Hid (Only g w wr)) (fun wr => rdLen g wr)
  case atStart => exact ⟨f, HR, HD, by rw [HN.out]; exact Nat.le_refl _, Lib.hid (Only.refl _ _)⟩
  case round =>
    clear c0 HR
    obtain ⟨f', HR', HD', hle, HO⟩ := hrel
    have QS := Lib.hid (sees_v g n pl f' 1 wr HR'.out)
    have HL := Lib.hid HR'.out.len
    cases f' with
    | nil =>
      obtain ⟨ao, cap, hb, h2⟩ := HR'.out.nil
      have c0 := cell_of_block (o := 0) hb
      simp only [List.getElem?_toArray, List.getElem?_cons_zero] at c0
      have HE : Hid (d = .nil) := Lib.hid (by rw [← HD'.out]; rfl)
      clear hb
      go_wp2_with fail
      refine QS.out.mono ?_
      rintro e w1 ⟨rfl, rfl⟩
      simp only [seesB]
      go_wp2_with fail
      go_ret
      rw [HE.out]
      exact ⟨ret_bool (by rw [decide_eq_decide]; (try simp only [Wn.Fs.len]); (try omega)), HR'.out, HO.out⟩
    | cons k t x r =>
      obtain ⟨b, o, cap, uo, un, uc, hb, h1, h2, hne, j0, j1, j2, j3, j4, hu, hsub⟩ := HR'.out.cons
      have c0 := cell_of_block (o := 0) hb
      simp only [List.getElem?_toArray, List.getElem?_cons_zero] at c0
      have f0 := frozen_blk hb 0
      unfold maxLen at h2
      have HS := Lib.hid hsub
      have hgl := HR'.out.lt
      clear hb j0 j2 j3 j4 hu hsub
      have hsee : seesB 1 (.cons k t x r) = (k == 1) := by simp only [seesB]; rw [Bool.eq_iff_iff]; simp
      rw [hsee] at QS
      clear hsee
      have hbl : Wn.blankV k t = ((k == 1) && (t.1 == 8)) := by unfold Wn.blankV; rw [Bool.eq_iff_iff]; simp
      generalize t.1 = tk at *
      cases hk : (k == 1)
      · have HE : Hid (d = .cons k t x r) := Lib.hid (by rw [← HD'.out, Wn.dropB, hbl, hk]; rfl)
        rw [hk] at QS
        clear hbl
        go_wp2_with fail
        refine QS.out.mono ?_
        rintro e w1 ⟨rfl, rfl⟩
        go_wp2_with fail
        go_ret
        rw [HE.out]
        exact ⟨ret_bool (by rw [decide_eq_decide]; (try simp only [Wn.Fs.len]); (try omega)), HR'.out, HO.out⟩
      · rw [hk] at QS
        cases h8 : (tk == 8)
        · have HE : Hid (d = .cons k t x r) := Lib.hid (by rw [← HD'.out, Wn.dropB, hbl, hk, h8]; rfl)
          clear hbl
          go_wp2_with fail
          refine QS.out.mono ?_
          rintro e w1 ⟨rfl, rfl⟩
          go_wp2_with fail
          go_ret
          rw [HE.out]
          exact ⟨ret_bool (by rw [decide_eq_decide]; (try simp only [Wn.Fs.len]); (try omega)), HR'.out, HO.out⟩
        · have HE : Hid (Wn.dropB r = d) := Lib.hid (by rw [← HD'.out, Wn.dropB, hbl, hk, h8]; rfl)
          clear hbl
          go_wp2_with fail
          refine QS.out.mono ?_
          rintro e w1 ⟨rfl, rfl⟩
          go_wp2_with fail
          have HR2 := Lib.hid (HR'.out.set HS.out HR'.out.tl.cons.2.2)
          exact ⟨⟨r, HR2, HE, by simp only [Wn.Fs.len] at hle; omega, Lib.hid (HO.out.setCell rfl _)⟩, by rw [HR2.out.len, HL.out]; simp [Wn.Fs.len]⟩
end Go.Proofs.YtncknaagbafhhaaGreatDoor
set_option linter.unusedVariables false
set_option linter.unusedSimpArgs false
set_option maxRecDepth 20000
namespace Go.Proofs.YtncknaagbafhhaaGreatDoor
open Go.RowKit Go.Sort
theorem Rd.ends {w W W' : World} {g n : Nat} {pl : Bool} {f : Wn.Fs} (h : Rd W g n pl f) (hg : g < w.heap.size) (hk : Kp (fun b => w.heap.size ≤ b) W W') : Rd W' g n pl f :=
  h.kp hk (by show ¬ _ ≤ _; omega) (fun b hb => by have := h.le; show ¬ _ ≤ _; omega)
theorem Only.ends {w W W' : World} {g : Nat} (h : Only g w W) (hk : Kp (fun b => w.heap.size ≤ b) W W') : Only g w W' :=
  ⟨hk.os.trans h.os, hk.tape.trans h.tape, hk.output.trans h.output, Nat.le_trans h.size hk.size, fun k hl hne => (hk.block k (Nat.lt_of_lt_of_le hl h.size) (by show ¬ _ ≤ _; omega)).trans (h.block k hl hne)⟩
theorem Rd.take {w W W' : World} {g n : Nat} {pl : Bool} {f f' : Wn.Fs} {V : Value} (hb : Below w.heap.size w W) (h : Rd W g n pl f) (hg : g < w.heap.size) (hs : ValsP W (fun b => b < n) V f') (ht : Tl f') (hk : Kp (fun b => w.heap.size ≤ b) (W.setCell ⟨g, 0, none⟩ V) W') : Rd W' g n pl f' ∧ Only g w W' :=
  ⟨(h.set hs ht).ends hg hk, ((Below.only hb).setCell (p := ⟨g, 0, none⟩) rfl V).ends hk⟩
theorem Rd.takes {w W W' : World} {g n : Nat} {V : Value} (hle : n ≤ g) (hg : g < w.heap.size) (b : Nat) (hb : b < n) (hl : b < W.heap.size) (hk : Kp (fun b => w.heap.size ≤ b) (W.setCell ⟨g, 0, none⟩ V) W') : W'.heap[b]? = W.heap[b]? :=
  (hk.block b (by simpa [World.setCell] using hl) (by show ¬ _ ≤ _; omega)).trans (Below.heap_setCell _ _ _ _ (by show b ≠ g; omega))
def TokPost (g n : Nat) (pl : Bool) (f : Wn.Fs) (kind : Int) (w : World) (e : Ending) (w' : World) : Prop :=
  (∃ t r, Wn.tokF kind f = some (t, r) ∧ e = .returned (.tuple #[.agg #[.int .i64 t.1, .string (Wn.str t.2.1), .int .i64 t.2.2], .bool true]) ∧ Rd w' g n pl r ∧ Only g w w') ∨
  (Wn.tokF kind f = none ∧ e = .returned (.tuple #[.agg #[.int .i64 0, .string ⟨#[]⟩, .int .i64 0], .bool false]) ∧ Rd w' g n pl f ∧ Only g w w')
set_option maxRecDepth 100000 in
set_option maxHeartbeats 1000000 in
theorem token_v (g n : Nat) (pl : Bool) (f : Wn.Fs) (kind : Int) (w : World) (h : Rd w g n pl f) :
    Calls Tryz.prog 114 #[.pointer (some ⟨g, 0, none⟩), .int .i64 kind] w (TokPost g n pl f kind w) := by
  have hgl := h.lt
  have BX : Hid (Below w.heap.size w (w.alloc (.cells #[.int .i64 0, .string ⟨#[]⟩, .int .i64 0] 78))) := Lib.hid ((Below.refl _ _).alloc (Nat.le_refl _) _)
  have HR := Lib.hid (h.below BX.out)
  have QS := Lib.hid (sees_v g n pl f 1 _ HR.out)
  have hn := heap_alloc_new w (.cells #[.int .i64 0, .string ⟨#[]⟩, .int .i64 0] 78)
  have hz : (w.alloc (.cells #[.int .i64 0, .string ⟨#[]⟩, .int .i64 0] 78)).heap.size = w.heap.size + 1 := by simp
  have q0 := cell_of_block (o := 0) hn
  have q1 := cell_of_block (o := 1) hn
  have q2 := cell_of_block (o := 2) hn
  have z0 := frozen_blk hn 0
  have z1 := frozen_blk hn 1
  have z2 := frozen_blk hn 2
  simp only [List.getElem?_toArray, List.getElem?_cons_zero, List.getElem?_cons_succ] at q0 q1 q2
  clear hn h
  cases f with
  | nil =>
    go_enter Tryz.func114, Tryz.ntmps114
    go_wp2_with fail
    generalize w.alloc (.cells #[.int .i64 0, .string ⟨#[]⟩, .int .i64 0] 78) = W at *
    refine QS.out.mono ?_
    rintro e w1 ⟨rfl, rfl⟩
    simp only [seesB]
    go_wp2_with fail
    refine bodyPost_ret (v := .tuple #[.agg #[.int .i64 0, .string ⟨#[]⟩, .int .i64 0], .bool false]) (by simp [results, Tryz.results114, go_sem, q0, q1, q2]) rfl ?_
    exact .inr ⟨rfl, rfl, HR.out.ends hgl (by (repeat' (first | with_reducible exact Kp.refl _ _ | (with_reducible refine Kp.alloc ?_ _) | (with_reducible refine Kp.drew ?_) | (with_reducible refine Kp.setN ?_ (Nat.le_refl _) _) | (with_reducible refine Kp.setN ?_ (Nat.le_succ _) _) | ((with_reducible refine Kp.setN ?_ ?_ _); rotate_left; (focus (first | omega | (simp; omega)))))); (first | done | fail)), (Below.only BX.out).ends (by (repeat' (first | with_reducible exact Kp.refl _ _ | (with_reducible refine Kp.alloc ?_ _) | (with_reducible refine Kp.drew ?_) | (with_reducible refine Kp.setN ?_ (Nat.le_refl _) _) | (with_reducible refine Kp.setN ?_ (Nat.le_succ _) _) | ((with_reducible refine Kp.setN ?_ ?_ _); rotate_left; (focus (first | omega | (simp; omega)))))); (first | done | fail))⟩
  | cons k t x r =>
    obtain ⟨b, o, cap, uo, un, uc, hb, h1, h2, hne, j0, j1, j2, j3, j4, hu, hsub⟩ := HR.out.cons
    have c0 := cell_of_block (o := 0) hb
    simp only [List.getElem?_toArray, List.getElem?_cons_zero] at c0
    have f0 := frozen_blk hb 0
    have hbl := World.block_lt_of_cell? _ _ j0
    dsimp only at hbl
    rw [hz] at hbl
    unfold maxLen at h2
    have HS := Lib.hid hsub
    clear hb j0 j4 hu hsub
    have hsee : seesB 1 (.cons k t x r) = (k == 1) := by simp only [seesB]; rw [Bool.eq_iff_iff]; simp
    rw [hsee] at QS
    clear hsee
    have htf : Wn.tokF kind (.cons k t x r) = if ((k == 1) && (t.1 == kind)) = true then some (t, r) else none := by simp [Wn.tokF]
    generalize htk : t.1 = tk at *
    generalize htn : t.2.2 = tn at *
    generalize htx : Wn.str t.2.1 = tx at *
    have HTK := Lib.hid htk
    have HTN := Lib.hid htn
    have HTX := Lib.hid htx
    clear htk htn htx
    cases hk : (k == 1)
    · have HE : Hid (Wn.tokF kind (.cons k t x r) = none) := Lib.hid (by rw [htf, hk]; rfl)
      rw [hk] at QS
      clear htf
      go_enter Tryz.func114, Tryz.ntmps114
      go_wp2_with fail
      generalize w.alloc (.cells #[.int .i64 0, .string ⟨#[]⟩, .int .i64 0] 78) = W at *
      refine QS.out.mono ?_
      rintro e w1 ⟨rfl, rfl⟩
      go_wp2_with fail
      refine bodyPost_ret (v := .tuple #[.agg #[.int .i64 0, .string ⟨#[]⟩, .int .i64 0], .bool false]) (by simp [results, Tryz.results114, go_sem, q0, q1, q2]) rfl ?_
      exact .inr ⟨HE.out, rfl, HR.out.ends hgl (by (repeat' (first | with_reducible exact Kp.refl _ _ | (with_reducible refine Kp.alloc ?_ _) | (with_reducible refine Kp.drew ?_) | (with_reducible refine Kp.setN ?_ (Nat.le_refl _) _) | (with_reducible refine Kp.setN ?_ (Nat.le_succ _) _) | ((with_reducible refine Kp.setN ?_ ?_ _); rotate_left; (focus (first | omega | (simp; omega)))))); (first | done | fail)), (Below.only BX.out).ends (by (repeat' (first | with_reducible exact Kp.refl _ _ | (with_reducible refine Kp.alloc ?_ _) | (with_reducible refine Kp.drew ?_) | (with_reducible refine Kp.setN ?_ (Nat.le_refl _) _) | (with_reducible refine Kp.setN ?_ (Nat.le_succ _) _) | ((with_reducible refine Kp.setN ?_ ?_ _); rotate_left; (focus (first | omega | (simp; omega)))))); (first | done | fail))⟩
    · rw [hk] at QS
      cases h8 : (tk == kind)
      · have HE : Hid (Wn.tokF kind (.cons k t x r) = none) := Lib.hid (by rw [htf, hk, h8]; rfl)
        have h8' : (tk != kind) = true := by simpa using h8
        clear htf
        go_enter Tryz.func114, Tryz.ntmps114
        go_wp2_with fail
        generalize w.alloc (.cells #[.int .i64 0, .string ⟨#[]⟩, .int .i64 0] 78) = W at *
        refine QS.out.mono ?_
        rintro e w1 ⟨rfl, rfl⟩
        go_wp2_with fail
        refine bodyPost_ret (v := .tuple #[.agg #[.int .i64 0, .string ⟨#[]⟩, .int .i64 0], .bool false]) (by simp [results, Tryz.results114, go_sem, q0, q1, q2]) rfl ?_
        exact .inr ⟨HE.out, rfl, HR.out.ends hgl (by (repeat' (first | with_reducible exact Kp.refl _ _ | (with_reducible refine Kp.alloc ?_ _) | (with_reducible refine Kp.drew ?_) | (with_reducible refine Kp.setN ?_ (Nat.le_refl _) _) | (with_reducible refine Kp.setN ?_ (Nat.le_succ _) _) | ((with_reducible refine Kp.setN ?_ ?_ _); rotate_left; (focus (first | omega | (simp; omega)))))); (first | done | fail)), (Below.only BX.out).ends (by (repeat' (first | with_reducible exact Kp.refl _ _ | (with_reducible refine Kp.alloc ?_ _) | (with_reducible refine Kp.drew ?_) | (with_reducible refine Kp.setN ?_ (Nat.le_refl _) _) | (with_reducible refine Kp.setN ?_ (Nat.le_succ _) _) | ((with_reducible refine Kp.setN ?_ ?_ _); rotate_left; (focus (first | omega | (simp; omega)))))); (first | done | fail))⟩
      · have HE : Hid (Wn.tokF kind (.cons k t x r) = some (t, r)) := Lib.hid (by rw [htf, hk, h8]; rfl)
        have h8' : (tk != kind) = false := by simpa using h8
        clear htf
        go_enter Tryz.func114, Tryz.ntmps114
        go_wp2_with fail
        generalize w.alloc (.cells #[.int .i64 0, .string ⟨#[]⟩, .int .i64 0] 78) = W at *
        refine QS.out.mono ?_
        rintro e w1 ⟨rfl, rfl⟩
        go_wp2_with fail
        all_goals
          have hs' := HS.out
          first | (subst h; rw [if_pos rfl] at hs') | rw [if_neg h] at hs'
          refine bodyPost_ret (v := .tuple #[.agg #[.int .i64 tk, .string tx, .int .i64 tn], .bool true]) (by simp [results, Tryz.results114, go_sem, q0, q1, q2, hz]) rfl ?_
          exact .inl ⟨t, r, HE.out, by rw [HTK.out, HTX.out, HTN.out], Rd.take BX.out HR.out hgl hs' HR.out.tl.cons.2.2 (by (repeat' (first | with_reducible exact Kp.refl _ _ | (with_reducible refine Kp.alloc ?_ _) | (with_reducible refine Kp.drew ?_) | (with_reducible refine Kp.setN ?_ (Nat.le_refl _) _) | (with_reducible refine Kp.setN ?_ (Nat.le_succ _) _) | ((with_reducible refine Kp.setN ?_ ?_ _); rotate_left; (focus (first | omega | (simp; omega)))))); (first | done | fail))⟩
end Go.Proofs.YtncknaagbafhhaaGreatDoor
set_option linter.unusedVariables false
set_option linter.unusedSimpArgs false
set_option maxRecDepth 20000
namespace Go.Proofs.YtncknaagbafhhaaGreatDoor
open Go.RowKit Go.Sort
def ValPost (g n : Nat) (pl : Bool) (f : Wn.Fs) (kind : Int) (w : World) (e : Ending) (w' : World) : Prop :=
  (∃ t x r uo un uc, Wn.valF kind f = some ((t, x), r) ∧ e = .returned (.tuple #[.agg #[.int .i64 kind, .int .i64 t.1, .string (Wn.str t.2.1), .int .i64 t.2.2, .slice uo un uc], .bool true]) ∧ ValsP w' (fun b => b < n) (.slice uo un uc) x ∧ Rd w' g n pl r ∧ Only g w w') ∨
  (Wn.valF kind f = none ∧ e = .returned (.tuple #[.agg #[.int .i64 0, .int .i64 0, .string ⟨#[]⟩, .int .i64 0, .slice none 0 0], .bool false]) ∧ Rd w' g n pl f ∧ Only g w w')
set_option maxRecDepth 100000 in
set_option maxHeartbeats 1000000 in
theorem value_v (g n : Nat) (pl : Bool) (f : Wn.Fs) (kind : Int) (w : World) (h : Rd w g n pl f) :
    Calls Tryz.prog 178 #[.pointer (some ⟨g, 0, none⟩), .int .i64 kind] w (ValPost g n pl f kind w) := by
  have hgl := h.lt
  have BX : Hid (Below w.heap.size w (w.alloc (.cells #[.int .i64 0, .int .i64 0, .string ⟨#[]⟩, .int .i64 0, .slice none 0 0] 80))) := Lib.hid ((Below.refl _ _).alloc (Nat.le_refl _) _)
  have HR := Lib.hid (h.below BX.out)
  have QS := Lib.hid (sees_v g n pl f kind _ HR.out)
  have hn := heap_alloc_new w (.cells #[.int .i64 0, .int .i64 0, .string ⟨#[]⟩, .int .i64 0, .slice none 0 0] 80)
  have hz : (w.alloc (.cells #[.int .i64 0, .int .i64 0, .string ⟨#[]⟩, .int .i64 0, .slice none 0 0] 80)).heap.size = w.heap.size + 1 := by simp
  (have q0r := cell_of_block (o := 0) hn; have q1r := cell_of_block (o := 1) hn; have q2r := cell_of_block (o := 2) hn; have q3r := cell_of_block (o := 3) hn; have q4r := cell_of_block (o := 4) hn; have z0r := frozen_blk hn 0; have z1r := frozen_blk hn 1; have z2r := frozen_blk hn 2; have z3r := frozen_blk hn 3; have z4r := frozen_blk hn 4; simp only [List.getElem?_toArray, List.getElem?_cons_zero, List.getElem?_cons_succ] at q0r q1r q2r q3r q4r)
  clear hn h
  cases f with
  | nil =>
    go_enter Tryz.func178, Tryz.ntmps178
    go_wp2_with fail
    generalize w.alloc (.cells #[.int .i64 0, .int .i64 0, .string ⟨#[]⟩, .int .i64 0, .slice none 0 0] 80) = W at *
    refine QS.out.mono ?_
    rintro e w1 ⟨rfl, rfl⟩
    simp only [seesB]
    go_wp2_with fail
    refine bodyPost_ret (v := .tuple #[.agg #[.int .i64 0, .int .i64 0, .string ⟨#[]⟩, .int .i64 0, .slice none 0 0], .bool false]) (by simp [results, Tryz.results178, go_sem, q0r, q1r, q2r, q3r, q4r]) rfl ?_
    exact .inr ⟨rfl, rfl, HR.out.ends hgl (by (repeat' (first | with_reducible exact Kp.refl _ _ | (with_reducible refine Kp.alloc ?_ _) | (with_reducible refine Kp.drew ?_) | (with_reducible refine Kp.setN ?_ (Nat.le_refl _) _) | (with_reducible refine Kp.setN ?_ (Nat.le_succ _) _) | ((with_reducible refine Kp.setN ?_ ?_ _); rotate_left; (focus (first | omega | (simp; omega)))))); (first | done | fail)), (Below.only BX.out).ends (by (repeat' (first | with_reducible exact Kp.refl _ _ | (with_reducible refine Kp.alloc ?_ _) | (with_reducible refine Kp.drew ?_) | (with_reducible refine Kp.setN ?_ (Nat.le_refl _) _) | (with_reducible refine Kp.setN ?_ (Nat.le_succ _) _) | ((with_reducible refine Kp.setN ?_ ?_ _); rotate_left; (focus (first | omega | (simp; omega)))))); (first | done | fail))⟩
  | cons k t x r =>
    obtain ⟨b, o, cap, uo, un, uc, hb, h1, h2, hne, j0, j1, j2, j3, j4, hu, hsub⟩ := HR.out.cons
    have c0 := cell_of_block (o := 0) hb
    simp only [List.getElem?_toArray, List.getElem?_cons_zero] at c0
    have f0 := frozen_blk hb 0
    have hbl := World.block_lt_of_cell? _ _ j0
    dsimp only at hbl
    rw [hz] at hbl
    unfold maxLen at h2
    have HS := Lib.hid hsub
    have HU := Lib.hid hu
    have hle := HR.out.le
    clear hb hu hsub
    have hsee : seesB kind (.cons k t x r) = (k == kind) := by simp only [seesB]; rw [Bool.eq_iff_iff]; simp
    rw [hsee] at QS
    clear hsee
    have htf : Wn.valF kind (.cons k t x r) = if (k == kind) = true then some ((t, x), r) else none := by simp [Wn.valF]
    generalize htk : t.1 = tk at *
    generalize htn : t.2.2 = tn at *
    generalize htx : Wn.str t.2.1 = tx at *
    have HTK := Lib.hid htk
    have HTN := Lib.hid htn
    have HTX := Lib.hid htx
    clear htk htn htx
    cases hk : (k == kind)
    · have HE : Hid (Wn.valF kind (.cons k t x r) = none) := Lib.hid (by rw [htf, hk]; rfl)
      rw [hk] at QS
      clear htf
      go_enter Tryz.func178, Tryz.ntmps178
      go_wp2_with fail
      generalize w.alloc (.cells #[.int .i64 0, .int .i64 0, .string ⟨#[]⟩, .int .i64 0, .slice none 0 0] 80) = W at *
      refine QS.out.mono ?_
      rintro e w1 ⟨rfl, rfl⟩
      go_wp2_with fail
      refine bodyPost_ret (v := .tuple #[.agg #[.int .i64 0, .int .i64 0, .string ⟨#[]⟩, .int .i64 0, .slice none 0 0], .bool false]) (by simp [results, Tryz.results178, go_sem, q0r, q1r, q2r, q3r, q4r]) rfl ?_
      exact .inr ⟨HE.out, rfl, HR.out.ends hgl (by (repeat' (first | with_reducible exact Kp.refl _ _ | (with_reducible refine Kp.alloc ?_ _) | (with_reducible refine Kp.drew ?_) | (with_reducible refine Kp.setN ?_ (Nat.le_refl _) _) | (with_reducible refine Kp.setN ?_ (Nat.le_succ _) _) | ((with_reducible refine Kp.setN ?_ ?_ _); rotate_left; (focus (first | omega | (simp; omega)))))); (first | done | fail)), (Below.only BX.out).ends (by (repeat' (first | with_reducible exact Kp.refl _ _ | (with_reducible refine Kp.alloc ?_ _) | (with_reducible refine Kp.drew ?_) | (with_reducible refine Kp.setN ?_ (Nat.le_refl _) _) | (with_reducible refine Kp.setN ?_ (Nat.le_succ _) _) | ((with_reducible refine Kp.setN ?_ ?_ _); rotate_left; (focus (first | omega | (simp; omega)))))); (first | done | fail))⟩
    · have HE : Hid (Wn.valF kind (.cons k t x r) = some ((t, x), r)) := Lib.hid (by rw [htf, hk]; rfl)
      have hkk : k = kind := by simpa using hk
      rw [hk] at QS
      subst hkk
      clear htf
      go_enter Tryz.func178, Tryz.ntmps178
      go_wp2_with fail
      generalize w.alloc (.cells #[.int .i64 0, .int .i64 0, .string ⟨#[]⟩, .int .i64 0, .slice none 0 0] 80) = W at *
      refine QS.out.mono ?_
      rintro e w1 ⟨rfl, rfl⟩
      go_wp2_with fail
      all_goals
        have hs' := HS.out
        first | (subst h; rw [if_pos rfl] at hs') | rw [if_neg h] at hs'
        refine bodyPost_ret (v := .tuple #[.agg #[.int .i64 k, .int .i64 tk, .string tx, .int .i64 tn, .slice uo un uc], .bool true]) (by simp [results, Tryz.results178, go_sem, q0r, q1r, q2r, q3r, q4r, hz]) rfl ?_
        exact .inl ⟨t, x, r, uo, un, uc, HE.out, by rw [HTK.out, HTX.out, HTN.out], HU.out.same (fun b hb hl => Rd.takes hle hgl b hb hl (by (repeat' (first | with_reducible exact Kp.refl _ _ | (with_reducible refine Kp.alloc ?_ _) | (with_reducible refine Kp.drew ?_) | (with_reducible refine Kp.setN ?_ (Nat.le_refl _) _) | (with_reducible refine Kp.setN ?_ (Nat.le_succ _) _) | ((with_reducible refine Kp.setN ?_ ?_ _); rotate_left; (focus (first | omega | (simp; omega)))))); (first | done | fail))) (fun _ h _ => h), Rd.take BX.out HR.out hgl hs' HR.out.tl.cons.2.2 (by (repeat' (first | with_reducible exact Kp.refl _ _ | (with_reducible refine Kp.alloc ?_ _) | (with_reducible refine Kp.drew ?_) | (with_reducible refine Kp.setN ?_ (Nat.le_refl _) _) | (with_reducible refine Kp.setN ?_ (Nat.le_succ _) _) | ((with_reducible refine Kp.setN ?_ ?_ _); rotate_left; (focus (first | omega | (simp; omega)))))); (first | done | fail))⟩
def NamePost (g n : Nat) (pl : Bool) (f : Wn.Fs) (w : World) (e : Ending) (w' : World) : Prop :=
  (∃ t r, Wn.tokF 1 f = some (t, r) ∧ e = .returned (.string (Wn.str t.2.1)) ∧ Rd w' g n pl r ∧ Only g w w') ∨
  (Wn.tokF 1 f = none ∧ e = .panicked invalidP ∧ Only g w w')
set_option maxHeartbeats 400000 in
theorem name_v (g n : Nat) (pl : Bool) (f : Wn.Fs) (w : World) (h : Rd w g n pl f) :
    Calls Tryz.prog 116 #[.pointer (some ⟨g, 0, none⟩)] w (NamePost g n pl f w) := by
  have hgl := h.lt
  have QT := Lib.hid (token_v g n pl f 1 w h)
  clear h
  go_enter Tryz.func116, Tryz.ntmps116
  go_wp2_with fail
  refine QT.out.mono ?_
  rintro e w1 (⟨t, r, hf, rfl, hr, ho⟩ | ⟨hf, rfl, hr, ho⟩)
  · have HF := Lib.hid hf
    have HR := Lib.hid hr
    have HO := Lib.hid ho
    clear hf hr ho QT
    go_wp2_with fail
    refine (demand_t _).mono ?_
    rintro e w2 ⟨rfl, rfl⟩
    go_wp2_with fail
    go_ret
    exact .inl ⟨t, r, HF.out, rfl, HR.out.below ((Below.refl _ _).alloc (Nat.le_refl _) _), HO.out.alloc _⟩
  · have HF := Lib.hid hf
    have HO := Lib.hid ho
    clear hf hr ho QT
    go_wp2_with fail
    refine (demand_f _).mono ?_
    rintro e w2 ⟨rfl, rfl⟩
    exact ⟨rfl, .inr ⟨HF.out, rfl, HO.out.alloc _⟩⟩
end Go.Proofs.YtncknaagbafhhaaGreatDoor
