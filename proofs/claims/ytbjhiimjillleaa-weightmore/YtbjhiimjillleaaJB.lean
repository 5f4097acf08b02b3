/- The verifier's reader of selectors in memory; what its small methods answer. The verifier's reader of selectors: what sign, name, value answer. The verifier's reader of selectors: what name and value answer. The verifier's reader of selectors: what value answers. -/
import Derived.Test.YtbjhiimjillleaaHN
import Derived.Test.YtbjhiimjillleaaJA
import Derived.BigQuiet
import Derived.Test.YtbjhiimjillleaaGU
import Derived.Lib.QuietBelow
import Derived.Test.YtbjhiimjillleaaHB
set_option linter.unusedVariables false
set_option linter.unusedSimpArgs false
set_option maxRecDepth 20000
namespace Wn
/-- the token that comes, if it is of a kind; the zero one, if not -/
def tokZ (kind : Int) (f : Fs) : Tok := match tokF kind f with
  | some p => p.1
  | none => (0, [], 0)
theorem drop_next {f : Fs} {i : Nat} {k : Int} {t : Tok} {x r : Fs} (h : f.drop i = .cons k t x r) : r = f.drop (i + 1) ∧ i < f.len := by
  have hi : i < f.len := by
    rcases Nat.lt_or_ge i f.len with h' | h'
    · exact h'
    · rw [Fs.drop_len h'] at h; cases h
  obtain ⟨k', t', x', e⟩ := Fs.drop_cons hi
  rw [h] at e
  cases e
  exact ⟨rfl, hi⟩
theorem drop_end {f : Fs} {i : Nat} (h : f.drop i = .nil) (hi : i ≤ f.len) : i = f.len := by
  rcases Nat.lt_or_ge i f.len with h' | h'
  · obtain ⟨k', t', x', e⟩ := Fs.drop_cons h'; rw [h] at e; cases e
  · omega
end Wn
namespace Go.Proofs.Ytbjhiimjillleaa
open Go.RowKit Go.Sort
/-- block g is the verifier's reader: the values f (its slice is rv), of which i are taken, and whether something was wrong -/
structure R4 (w : World) (g : Nat) (rv : Value) (f : Wn.Fs) (i : Nat) (bad : Bool) : Prop where
  blk : w.heap[g]? = some (.cells #[rv, .int .i64 (i : Int), .bool bad] 84)
  vals : ValsP w (fun b => b ≠ g) rv f
  hi : i ≤ f.len
  sz : f.size ≤ 100000
variable {rv : Value}
section
variable {w w' : World} {g i : Nat} {bad : Bool} {f : Wn.Fs}
theorem R4.ex (h : R4 w g rv f i bad) : ∃ v, w.heap[g]? = some (.cells #[v, .int .i64 (i : Int), .bool bad] 84) ∧ ValsP w (fun b => b ≠ g) v f := ⟨rv, h.blk, h.vals⟩
theorem R4.lt (h : R4 w g rv f i bad) : g < w.heap.size := lt_of_block h.blk
theorem R4.below (h : R4 w g rv f i bad) (hb : Below w.heap.size w w') : R4 w' g rv f i bad := ⟨block_lat hb h.blk, h.vals.below hb, h.hi, h.sz⟩
theorem R4.move (h : R4 w g rv f i bad) {j : Nat} (hj : j ≤ f.len) {z : Int} (hz : z = (j : Int)) : R4 (w.setCell ⟨g, 1, none⟩ (.int .i64 z)) g rv f j bad := by
  subst hz
  have hb := h.blk
  exact ⟨by simp [World.setCell, Array.getElem?_modify, hb], h.vals.same (fun b hb _ => Below.heap_setCell _ _ _ _ hb) (fun _ h _ => h), hj, h.sz⟩
theorem R4.spoil (h : R4 w g rv f i bad) (z : Bool) : R4 (w.setCell ⟨g, 2, none⟩ (.bool z)) g rv f i z := by
  have hb := h.blk
  exact ⟨by simp [World.setCell, Array.getElem?_modify, hb], h.vals.same (fun b hb _ => Below.heap_setCell _ _ _ _ hb) (fun _ h _ => h), h.hi, h.sz⟩
/-- where the values lie was not touched, and the reader's own block is known -/
theorem R4.only {i' j : Nat} {bad' b2 : Bool} {w0 : World} (h : R4 w0 g rv f i' b2) (h1 : R4 w g rv f j bad') (ho : Only g w0 w') (hg : w'.heap[g]? = w.heap[g]?) : R4 w' g rv f j bad' :=
  ⟨hg.trans h1.blk, h.vals.same (fun b hb hl => ho.block b hl hb) (fun _ h _ => h), h1.hi, h.sz⟩
theorem R4.len (h : R4 w g rv f i bad) : f.len ≤ 100000 := Nat.le_trans (Wn.Fs.len_le_size f) h.sz
theorem R4.cells (h : R4 w g rv f i bad) : ∃ ao cap, w.heap[g]? = some (.cells #[.slice ao f.len cap, .int .i64 (i : Int), .bool bad] 84) ∧ f.len ≤ cap ∧ cap ≤ maxLen := by
  obtain ⟨v, hb, hv⟩ := h.ex
  obtain ⟨ao, cap, rfl, h1, h2⟩ := hv.form
  exact ⟨ao, cap, hb, h1, h2⟩
theorem R4.at {k : Int} {t : Wn.Tok} {x r : Wn.Fs} (h : R4 w g rv f i bad) (hd : f.drop i = .cons k t x r) : ∃ b o cap uo uc, w.heap[g]? = some (.cells #[.slice (some ⟨b, o, none⟩) f.len cap, .int .i64 (i : Int), .bool bad] 84) ∧ f.len ≤ cap ∧ cap ≤ maxLen ∧
    w.cell? ⟨b, o + i * 5, none⟩ = some (.int .i64 k) ∧ w.cell? ⟨b, o + i * 5 + 1, none⟩ = some (.int .i64 t.1) ∧ w.cell? ⟨b, o + i * 5 + 2, none⟩ = some (.string (Wn.str t.2.1)) ∧ w.cell? ⟨b, o + i * 5 + 3, none⟩ = some (.int .i64 t.2.2) ∧ w.cell? ⟨b, o + i * 5 + 4, none⟩ = some (.slice uo x.len uc) ∧
    ValsP w (fun b => b ≠ g) (.slice uo x.len uc) x ∧ b ≠ g := by
  obtain ⟨v, hb, hv⟩ := h.ex
  obtain ⟨ao, cap, rfl, h1, h2⟩ := hv.form
  obtain ⟨hr, hi⟩ := Wn.drop_next hd
  rw [hr] at hd
  obtain ⟨b, o, rfl, j0, ⟨j1, j2, j3⟩, u, j4, hu⟩ := hv.at hd
  obtain ⟨uo, uc, rfl, _, _⟩ := hu.form
  have hok : b ≠ g := by
    obtain ⟨_, _, he, _, _, _, h4⟩ := hv
    obtain ⟨b', o', ha, hx⟩ := h4 (by intro e; rw [e] at hi; simp [Wn.Fs.len] at hi)
    simp only [Value.slice.injEq] at he
    rw [← he.1] at ha
    simp only [Option.some.injEq, Addr.mk.injEq] at ha
    obtain ⟨rfl, _⟩ := ha
    cases f with
    | nil => simp [Wn.Fs.len] at hi
    | cons => exact hx.1
  rw [show o + i * 5 + 1 + 1 = o + i * 5 + 2 by omega] at j2
  rw [show o + i * 5 + 1 + 2 = o + i * 5 + 3 by omega] at j3
  exact ⟨b, o, cap, uo, uc, hb, h1, h2, j0, j1, j2, j3, j4, hu, hok⟩
end
set_option maxRecDepth 100000 in
set_option maxHeartbeats 1000000 in
theorem r4tok (kind : Int) (g i : Nat) (f : Wn.Fs) (bad : Bool) (w : World) (h : R4 w g rv f i bad) :
    Calls Try.prog 51 #[.pointer (some ⟨g, 0, none⟩), .int .i64 kind] w fun e w' => e = .returned (tokV (Wn.tokZ kind (f.drop i))) ∧ Below w.heap.size w w' := by
  have hl := h.len
  have hlt := h.lt
  have hne : ¬ g = w.heap.size := by omega
  have hi := h.hi
  cases hd : f.drop i with
  | nil =>
    have he := Wn.drop_end hd hi
    obtain ⟨ao, cap, hb, hc1, hc2⟩ := h.cells
    unfold maxLen at hc2
    have q0 := cell_of_block (o := 0) hb
    have q1 := cell_of_block (o := 1) hb
    simp only [List.getElem?_toArray, List.getElem?_cons_zero, List.getElem?_cons_succ] at q0 q1
    have hni : ¬ (i : Int) < (f.len : Int) := by omega
    clear h hb hd
    go_enter Try.func51, Try.ntmps51
    go_wp2_with fail
    go_quiet (fail)
    go_wp2_with fail
    refine bodyPost_ret (v := .agg #[.int .i64 0, .string ⟨#[]⟩, .int .i64 0]) (by simp [results, Try.results51, go_sem]) rfl ⟨rfl, ?_⟩
    (repeat (first | with_reducible exact Below.refl _ _ | (with_reducible refine Below.drew ?_) | (with_reducible refine below_drewN' ?_ _) | ((with_reducible refine Below.alloc ?_ ?_ _); rotate_left; (focus (first | omega | (simp <;> omega)))) | ((with_reducible refine Below.set_new ?_ ?_ _ _); rotate_left; (focus (first | omega | (simp <;> omega))))))
  | cons k t x r =>
    obtain ⟨b, o, cap, uo, uc, hb, hc1, hc2, j0, j1, j2, j3, j4, hu, hbg⟩ := h.at hd
    have hlt2 := (Wn.drop_next hd).2
    have hbl := World.block_lt_of_cell? w _ j0
    have hbn : ¬ b = w.heap.size := by dsimp only at hbl; omega
    dsimp only at hbl
    unfold maxLen at hc2
    have q0 := cell_of_block (o := 0) hb
    have q1 := cell_of_block (o := 1) hb
    simp only [List.getElem?_toArray, List.getElem?_cons_zero, List.getElem?_cons_succ] at q0 q1
    have hii : (i : Int) < (f.len : Int) := by omega
    have e : Wn.tokZ kind (.cons k t x r) = if k = 1 ∧ t.1 = kind then t else (0, [], 0) := by
      unfold Wn.tokZ; rw [Wn.tokF]; by_cases hc : k = 1 ∧ t.1 = kind
      · rw [if_pos hc, if_pos hc]
      · rw [if_neg hc, if_neg hc]
    rw [e]
    clear h hb hd e hu
    by_cases hk : k = 1
    · by_cases ht : t.1 = kind
      · rw [if_pos ⟨hk, ht⟩]
        subst hk
        rw [tokV_str]
        rw [ht] at j1 ⊢
        have htb : (t.1 == kind) = true := by simpa using ht
        clear ht htb
        go_enter Try.func51, Try.ntmps51
        generalize Wn.str t.2.1 = sx at *
        generalize t.2.2 = tn at *
        go_wp2_with fail
        go_quiet (fail)
        go_wp2_with fail
        go_region
        all_goals go_wp2_with fail
        all_goals refine bodyPost_ret (v := .agg #[.int .i64 kind, .string sx, .int .i64 tn]) (by simp [results, Try.results51, go_sem]) rfl ⟨rfl, ?_⟩
        all_goals (repeat (first | with_reducible exact Below.refl _ _ | (with_reducible refine Below.drew ?_) | (with_reducible refine below_drewN' ?_ _) | ((with_reducible refine Below.alloc ?_ ?_ _); rotate_left; (focus (first | omega | (simp <;> omega)))) | ((with_reducible refine Below.set_new ?_ ?_ _ _); rotate_left; (focus (first | omega | (simp <;> omega))))))
      · rw [if_neg (fun h => ht h.2)]
        subst hk
        have htb : (t.1 == kind) = false := by simpa using ht
        go_enter Try.func51, Try.ntmps51
        go_wp2_with fail
        go_quiet (fail)
        go_wp2_with fail
        refine bodyPost_ret (v := .agg #[.int .i64 0, .string ⟨#[]⟩, .int .i64 0]) (by simp [results, Try.results51, go_sem]) rfl ⟨rfl, ?_⟩
        (repeat (first | with_reducible exact Below.refl _ _ | (with_reducible refine Below.drew ?_) | (with_reducible refine below_drewN' ?_ _) | ((with_reducible refine Below.alloc ?_ ?_ _); rotate_left; (focus (first | omega | (simp <;> omega)))) | ((with_reducible refine Below.set_new ?_ ?_ _ _); rotate_left; (focus (first | omega | (simp <;> omega))))))
    · rw [if_neg (fun h => hk h.1)]
      have hkb : (k == 1) = false := by simpa using hk
      go_enter Try.func51, Try.ntmps51
      go_wp2_with fail
      go_quiet (fail)
      go_wp2_with fail
      refine bodyPost_ret (v := .agg #[.int .i64 0, .string ⟨#[]⟩, .int .i64 0]) (by simp [results, Try.results51, go_sem]) rfl ⟨rfl, ?_⟩
      (repeat (first | with_reducible exact Below.refl _ _ | (with_reducible refine Below.drew ?_) | (with_reducible refine below_drewN' ?_ _) | ((with_reducible refine Below.alloc ?_ ?_ _); rotate_left; (focus (first | omega | (simp <;> omega)))) | ((with_reducible refine Below.set_new ?_ ?_ _ _); rotate_left; (focus (first | omega | (simp <;> omega))))))
end Go.Proofs.Ytbjhiimjillleaa
set_option linter.unusedVariables false
set_option linter.unusedSimpArgs false
set_option maxRecDepth 20000
namespace Wn
theorem sign_next {s : List UInt8} {f : Fs} {i : Nat} {k : Int} {t : Tok} {x r : Fs} (hd : f.drop i = .cons k t x r) (h : signV s k t = true) : signF s (f.drop i) = some (f.drop (i + 1)) := by
  rw [hd, signF, if_pos h, (drop_next hd).1]
theorem sign_stay {s : List UInt8} {f : Fs} {i : Nat} {k : Int} {t : Tok} {x r : Fs} (hd : f.drop i = .cons k t x r) (h : signV s k t = false) : signF s (f.drop i) = none := by
  rw [hd, signF, if_neg (by rw [h]; decide)]
end Wn
namespace Go.Proofs.Ytbjhiimjillleaa
open Go.RowKit Go.Sort
variable {rv : Value}
theorem only_grown {g : Nat} (w : World) (d : Nat) (os : Array Obj) : Only g w (grow (redrawn w d) os) := by
  have h := below_regrown w d os
  exact ⟨h.os, h.tape, h.output, h.size, fun k hk _ => h.block k hk⟩
/-- a sign was taken, or none -/
def SPost (rv : Value) (s : List UInt8) (g : Nat) (f : Wn.Fs) (i : Nat) (bad : Bool) (w : World) (e : Ending) (w' : World) : Prop :=
  (Wn.signF s (f.drop i) = some (f.drop (i + 1)) ∧ i < f.len ∧ e = .returned (.bool true) ∧ R4 w' g rv f (i + 1) bad ∧ Only g w w') ∨ (Wn.signF s (f.drop i) = none ∧ e = .returned (.bool false) ∧ R4 w' g rv f i bad ∧ Only g w w')
set_option maxRecDepth 100000 in
set_option maxHeartbeats 1000000 in
theorem r4sign (s : List UInt8) (g i : Nat) (f : Wn.Fs) (bad : Bool) (w : World) (h : R4 w g rv f i bad) :
    Calls Try.prog 53 #[.pointer (some ⟨g, 0, none⟩), .string (Wn.str s)] w (SPost rv s g f i bad w) := by
  have HH := Lib.hid h
  have hl := h.len
  have hi := h.hi
  cases hd : f.drop i with
  | nil =>
    have he := Wn.drop_end hd hi
    obtain ⟨ao, cap, hb, hc1, hc2⟩ := h.cells
    unfold maxLen at hc2
    have p0 := cell_of_block (o := 0) hb
    have p1 := cell_of_block (o := 1) hb
    simp only [List.getElem?_toArray, List.getElem?_cons_zero, List.getElem?_cons_succ] at p0 p1
    have q0 := cell_regrown p0
    have q1 := cell_regrown p1
    clear p0 p1
    have hni : ¬ (i : Int) < (f.len : Int) := by omega
    have HS : Hid (Wn.signF s (f.drop i) = none) := Lib.hid (by rw [hd]; rfl)
    clear h hb hd
    generalize Wn.str s = sx at *
    go_enter Try.func53, Try.ntmps53
    go_wp2_with fail
    (refine wp_region_quiet_below (by kernel_rfl) (by kernel_rfl) ?_); (repeat (first | go_big_quiet_skip | quiet_step (fail))); (refine wpQuiet_nil ?_); intro _ hw'; obtain ⟨⟨dq, osq⟩, hw''⟩ := hw'; subst hw''
    go_wp2_with fail
    go_ret
    exact .inr ⟨HS.out, rfl, HH.out.below (below_regrown w dq osq), only_grown w dq osq⟩
  | cons k t x r =>
    obtain ⟨b, o, cap, uo, uc, hb, hc1, hc2, j0, j1, j2, j3, j4, hu, hbg⟩ := h.at hd
    have hlt2 := (Wn.drop_next hd).2
    unfold maxLen at hc2
    have p0 := cell_of_block (o := 0) hb
    have p1 := cell_of_block (o := 1) hb
    simp only [List.getElem?_toArray, List.getElem?_cons_zero, List.getElem?_cons_succ] at p0 p1
    have q0 := cell_regrown p0
    have q1 := cell_regrown p1
    clear p0 p1
    have a0 := cell_regrown j0
    have a1 := cell_regrown j1
    have a2 := cell_regrown j2
    have a3 := cell_regrown j3
    have a4 := cell_regrown j4
    have hii : (i : Int) < (f.len : Int) := by omega
    have CS : Hid (∀ d os, Calls Try.prog 37 #[.agg #[.int .i64 k, .int .i64 t.1, .string (Wn.str t.2.1), .int .i64 t.2.2, .slice uo x.len uc], .string (Wn.str s)] (grow (redrawn w d) os) fun e w'' => e = .returned (.bool (Wn.signV s k t)) ∧ ∃ p : Regrown, w'' = grow (redrawn w p.d) p.os) := Lib.hid (fun d os => Calls.regrown_of (rSign_v s k t (.slice uo x.len uc) _ ⟨_, _, _, rfl⟩))
    have HY := Lib.hid (Wn.sign_next (s := s) hd)
    have HN := Lib.hid (Wn.sign_stay (s := s) hd)
    clear h hb hd hu j0 j1 j2 j3 j4
    generalize Wn.signV s k t = T at *
    generalize Wn.str s = sx at *
    generalize Wn.str t.2.1 = tx at *
    generalize t.1 = tk at *
    generalize t.2.2 = tn at *
    cases T
    · go_enter Try.func53, Try.ntmps53
      go_wp2_with fail
      (refine wp_region_quiet_below (by kernel_rfl) (by kernel_rfl) ?_); (repeat (first | go_big_quiet_skip | quiet_step (with_reducible exact CS.out _ _))); (refine wpQuiet_nil ?_); intro _ hw'; obtain ⟨⟨dq, osq⟩, hw''⟩ := hw'; subst hw''
      go_wp2_with fail
      go_ret
      exact .inr ⟨HN.out (by trivial), rfl, HH.out.below (below_regrown w dq osq), only_grown w dq osq⟩
    · go_enter Try.func53, Try.ntmps53
      go_wp2_with fail
      (refine wp_region_quiet_below (by kernel_rfl) (by kernel_rfl) ?_); (repeat (first | go_big_quiet_skip | quiet_step (with_reducible exact CS.out _ _))); (refine wpQuiet_nil ?_); intro _ hw'; obtain ⟨⟨dq, osq⟩, hw''⟩ := hw'; subst hw''
      have HR := Lib.hid (HH.out.below (below_regrown w dq osq))
      have HO : Hid (Only g w (grow (redrawn w dq) osq)) := Lib.hid (only_grown w dq osq)
      clear q0 q1 a0 a1 a2 a3 a4 CS
      generalize grow (redrawn w dq) osq = V at *
      obtain ⟨ao, cap', hb, _, _⟩ := HR.out.cells
      have q1 := cell_of_block (o := 1) hb
      have f1 := frozen_blk hb 1
      simp only [List.getElem?_toArray, List.getElem?_cons_zero, List.getElem?_cons_succ] at q1
      clear hb
      go_wp2_with fail
      go_ret
      exact .inl ⟨HY.out (by trivial), hlt2, rfl, HR.out.move (by omega) (by go_num), HO.out.setCell rfl _⟩
end Go.Proofs.Ytbjhiimjillleaa
set_option linter.unusedVariables false
set_option linter.unusedSimpArgs false
set_option maxRecDepth 20000
namespace Wn
theorem tokZ_some {kind : Int} {f r : Fs} {t : Tok} (h : tokF kind f = some (t, r)) : tokZ kind f = t ∧ t.1 = kind := by
  refine ⟨by unfold tokZ; rw [h], ?_⟩
  cases f with
  | nil => simp [tokF] at h
  | cons k t' x r' =>
    rw [tokF] at h
    split at h
    · rename_i hc; cases h; exact hc.2
    · cases h
theorem tokF_next {kind : Int} {f : Fs} {i : Nat} {t : Tok} {r : Fs} (h : tokF kind (f.drop i) = some (t, r)) : r = f.drop (i + 1) ∧ i < f.len := by
  cases hd : f.drop i with
  | nil => rw [hd] at h; simp [tokF] at h
  | cons k t' x r' =>
    obtain ⟨e, hi⟩ := drop_next hd
    rw [hd, tokF] at h
    split at h
    · cases h; exact ⟨e, hi⟩
    · cases h
theorem tokZ_none {kind : Int} {f : Fs} (h : tokF kind f = none) : tokZ kind f = (0, [], 0) := by unfold tokZ; rw [h]
end Wn
namespace Go.Proofs.Ytbjhiimjillleaa
open Go.RowKit Go.Sort
variable {rv : Value}
/-- a name was taken, or what comes is wrong -/
def NmPost (rv : Value) (g : Nat) (f : Wn.Fs) (i : Nat) (bad : Bool) (w : World) (e : Ending) (w' : World) : Prop :=
  (∃ t : Wn.Tok, Wn.tokF 1 (f.drop i) = some (t, f.drop (i + 1)) ∧ i < f.len ∧ e = .returned (.string (Wn.str t.2.1)) ∧ R4 w' g rv f (i + 1) bad ∧ Only g w w') ∨ (Wn.tokF 1 (f.drop i) = none ∧ e = .returned (.string ⟨#[]⟩) ∧ R4 w' g rv f i true ∧ Only g w w')
set_option maxRecDepth 100000 in
set_option maxHeartbeats 1000000 in
theorem r4name (g i : Nat) (f : Wn.Fs) (bad : Bool) (w : World) (h : R4 w g rv f i bad) :
    Calls Try.prog 41 #[.pointer (some ⟨g, 0, none⟩)] w (NmPost rv g f i bad w) := by
  have QT := Lib.hid (r4tok 1 g i f bad w h)
  have HH := Lib.hid h
  have hl := h.len
  have hlt := h.lt
  cases ht : Wn.tokF 1 (f.drop i) with
  | none =>
    have HT := Lib.hid ht
    have QT : Hid (Calls Try.prog 51 #[.pointer (some ⟨g, 0, none⟩), .int .i64 1] w fun e w' => e = .returned (.agg #[.int .i64 0, .string ⟨#[]⟩, .int .i64 0]) ∧ Below w.heap.size w w') := Lib.hid (by have := QT.out; rw [Wn.tokZ_none ht] at this; exact this)
    clear ht h
    go_enter Try.func41, Try.ntmps41
    go_wp2_with fail
    refine QT.out.mono ?_
    rintro e w1 ⟨rfl, b1⟩
    have HR := Lib.hid (HH.out.below b1)
    have HO : Hid (Only g w w1) := Lib.hid ⟨b1.os, b1.tape, b1.output, b1.size, fun k hk _ => b1.block k hk⟩
    obtain ⟨ao, cap, hb, _, _⟩ := HR.out.cells
    have q2 := cell_of_block (o := 2) hb
    have f2 := frozen_blk hb 2
    simp only [List.getElem?_toArray, List.getElem?_cons_zero, List.getElem?_cons_succ] at q2
    have hs1 := b1.size
    have hg1 : g < w1.heap.size := by omega
    have hg2 : ¬ g = w1.heap.size := by omega
    clear hb b1 QT
    go_wp2_with fail
    go_ret
    exact .inr ⟨HT.out, rfl, (HR.out.spoil true).below (Below.alloc (Below.refl _ _) (Nat.le_refl _) _), (HO.out.setCell rfl _).alloc _⟩
  | some p =>
    obtain ⟨t, r⟩ := p
    obtain ⟨hr, hlt2⟩ := Wn.tokF_next ht
    obtain ⟨e1, e2⟩ := Wn.tokZ_some ht
    subst hr
    have HT := Lib.hid ht
    rw [e1, tokV_str] at QT
    rw [e2] at QT
    clear ht h e1 e2
    go_enter Try.func41, Try.ntmps41
    go_wp2_with fail
    refine QT.out.mono ?_
    rintro e w1 ⟨rfl, b1⟩
    have HR := Lib.hid (HH.out.below b1)
    have HO : Hid (Only g w w1) := Lib.hid ⟨b1.os, b1.tape, b1.output, b1.size, fun k hk _ => b1.block k hk⟩
    obtain ⟨ao, cap, hb, _, _⟩ := HR.out.cells
    have q1 := cell_of_block (o := 1) hb
    have f1 := frozen_blk hb 1
    simp only [List.getElem?_toArray, List.getElem?_cons_zero, List.getElem?_cons_succ] at q1
    have hs1 := b1.size
    have hg1 : g < w1.heap.size := by omega
    have hg2 : ¬ g = w1.heap.size := by omega
    have hg3 : ¬ w1.heap.size = g := by omega
    clear hb b1 QT
    go_wp2_with fail
    go_ret
    exact .inl ⟨t, HT.out, hlt2, rfl, (HR.out.move (j := i + 1) (by omega) (by go_num)).below (Below.alloc (Below.refl _ _) (Nat.le_refl _) _), (HO.out.setCell rfl _).alloc _⟩
end Go.Proofs.Ytbjhiimjillleaa
set_option linter.unusedVariables false
set_option linter.unusedSimpArgs false
set_option maxRecDepth 20000
namespace Go.Proofs.Ytbjhiimjillleaa
open Go.RowKit Go.Sort
variable {rv : Value}
theorem R4.carry {w w' : World} {g i j : Nat} {bad bad' : Bool} {f : Wn.Fs} (h : R4 w g rv f i bad) (ho : Only g w w') (hj : j ≤ f.len) (hg : ∀ v, w.heap[g]? = some (.cells #[v, .int .i64 (i : Int), .bool bad] 84) → w'.heap[g]? = some (.cells #[v, .int .i64 (j : Int), .bool bad'] 84)) : R4 w' g rv f j bad' := by
  exact ⟨hg rv h.blk, h.vals.same (fun b hb hl => ho.block b hl hb) (fun _ h _ => h), hj, h.sz⟩
/-- a value of a kind was taken, or none is there -/
def R4Val (rv : Value) (kind : Int) (g : Nat) (f : Wn.Fs) (i : Nat) (bad : Bool) (w : World) (e : Ending) (w' : World) : Prop :=
  (∃ (t : Wn.Tok) (x : Wn.Fs) (uo : Option Addr) (uc : Nat), Wn.valF kind (f.drop i) = some ((t, x), f.drop (i + 1)) ∧ i < f.len ∧ e = .returned (.agg #[.int .i64 kind, .int .i64 t.1, .string (Wn.str t.2.1), .int .i64 t.2.2, .slice uo x.len uc]) ∧ ValsP w' (fun b => b ≠ g) (.slice uo x.len uc) x ∧ R4 w' g rv f (i + 1) bad ∧ Only g w w') ∨
  (Wn.valF kind (f.drop i) = none ∧ e = .returned (.agg #[.int .i64 0, .int .i64 0, .string ⟨#[]⟩, .int .i64 0, .slice none 0 0]) ∧ R4 w' g rv f i bad ∧ Only g w w')
set_option maxRecDepth 100000 in
set_option maxHeartbeats 1000000 in
theorem r4value (kind : Int) (g i : Nat) (f : Wn.Fs) (bad : Bool) (w : World) (h : R4 w g rv f i bad) :
    Calls Try.prog 55 #[.pointer (some ⟨g, 0, none⟩), .int .i64 kind] w (R4Val rv kind g f i bad w) := by
  have hgl := h.lt
  have hne : ¬ g = w.heap.size := by omega
  have hne' : ¬ w.heap.size = g := by omega
  have BX : Hid (Below w.heap.size w (w.alloc (.cells #[.int .i64 0, .int .i64 0, .string ⟨#[]⟩, .int .i64 0, .slice none 0 0] 80))) := Lib.hid ((Below.refl _ _).alloc (Nat.le_refl _) _)
  have HH := Lib.hid h
  have HG : Hid ((w.alloc (.cells #[.int .i64 0, .int .i64 0, .string ⟨#[]⟩, .int .i64 0, .slice none 0 0] 80)).heap[g]? = w.heap[g]?) := Lib.hid (BX.out.block g hgl)
  have HR := Lib.hid (h.below BX.out)
  have hn := heap_alloc_new w (.cells #[.int .i64 0, .int .i64 0, .string ⟨#[]⟩, .int .i64 0, .slice none 0 0] 80)
  have hz : (w.alloc (.cells #[.int .i64 0, .int .i64 0, .string ⟨#[]⟩, .int .i64 0, .slice none 0 0] 80)).heap.size = w.heap.size + 1 := by simp
  (have q0r := cell_of_block (o := 0) hn; have q1r := cell_of_block (o := 1) hn; have q2r := cell_of_block (o := 2) hn; have q3r := cell_of_block (o := 3) hn; have q4r := cell_of_block (o := 4) hn; have z0r := frozen_blk hn 0; have z1r := frozen_blk hn 1; have z2r := frozen_blk hn 2; have z3r := frozen_blk hn 3; have z4r := frozen_blk hn 4; simp only [List.getElem?_toArray, List.getElem?_cons_zero, List.getElem?_cons_succ] at q0r q1r q2r q3r q4r)
  have hl := h.len
  have hi := h.hi
  clear hn h
  cases hd : f.drop i with
  | nil =>
    have he := Wn.drop_end hd hi
    obtain ⟨ao, cap, hb, hc1, hc2⟩ := HR.out.cells
    unfold maxLen at hc2
    have p0 := cell_of_block (o := 0) hb
    have p1 := cell_of_block (o := 1) hb
    simp only [List.getElem?_toArray, List.getElem?_cons_zero, List.getElem?_cons_succ] at p0 p1
    have hni : ¬ (i : Int) < (f.len : Int) := by omega
    have HS : Hid (Wn.valF kind (f.drop i) = none) := Lib.hid (by rw [hd]; rfl)
    clear hb hd
    go_enter Try.func55, Try.ntmps55
    go_wp2_with fail
    generalize w.alloc (.cells #[.int .i64 0, .int .i64 0, .string ⟨#[]⟩, .int .i64 0, .slice none 0 0] 80) = W at *
    go_quiet (fail)
    go_wp2_with fail
    refine bodyPost_ret (v := .agg #[.int .i64 0, .int .i64 0, .string ⟨#[]⟩, .int .i64 0, .slice none 0 0]) (by simp [results, Try.results55, go_sem, q0r, q1r, q2r, q3r, q4r]) rfl ?_
    exact .inr ⟨HS.out, rfl, HH.out.below ((((((below_drewN' BX.out _).setCell (by simp) _).setCell (by simp) _).setCell (by simp) _).setCell (by simp) _).setCell (by simp) _), Below.only ((((((below_drewN' BX.out _).setCell (by simp) _).setCell (by simp) _).setCell (by simp) _).setCell (by simp) _).setCell (by simp) _)⟩
  | cons k t x r =>
    obtain ⟨b, o, cap, uo, uc, hb, hc1, hc2, j0, j1, j2, j3, j4, hu, hbg⟩ := HH.out.at hd
    have hbl := World.block_lt_of_cell? _ _ j0
    dsimp only at hbl
    replace hb := block_lat BX.out hb
    replace j0 := cell_lat BX.out j0
    replace j1 := cell_lat BX.out j1
    replace j2 := cell_lat BX.out j2
    replace j3 := cell_lat BX.out j3
    replace j4 := cell_lat BX.out j4
    have hlt2 := (Wn.drop_next hd).2
    unfold maxLen at hc2
    have p0 := cell_of_block (o := 0) hb
    have p1 := cell_of_block (o := 1) hb
    have f1 := frozen_blk hb 1
    simp only [List.getElem?_toArray, List.getElem?_cons_zero, List.getElem?_cons_succ] at p0 p1
    have hii : (i : Int) < (f.len : Int) := by omega
    have HU := Lib.hid hu
    have htf : Wn.valF kind (f.drop i) = if k = kind then some ((t, x), f.drop (i + 1)) else none := by rw [hd, Wn.valF, (Wn.drop_next hd).1]
    clear hb hd hu
    generalize htk : t.1 = tk at *
    generalize htn : t.2.2 = tn at *
    generalize htx : Wn.str t.2.1 = tx at *
    have HTK := Lib.hid htk
    have HTN := Lib.hid htn
    have HTX := Lib.hid htx
    clear htk htn htx
    by_cases hk : k = kind
    · have HE : Hid (Wn.valF kind (f.drop i) = some ((t, x), f.drop (i + 1))) := Lib.hid (by rw [htf, if_pos hk])
      have hkb : (k == kind) = true := by simpa using hk
      clear htf
      subst hk
      clear hkb
      go_enter Try.func55, Try.ntmps55
      go_wp2_with fail
      generalize w.alloc (.cells #[.int .i64 0, .int .i64 0, .string ⟨#[]⟩, .int .i64 0, .slice none 0 0] 80) = W at *
      go_quiet (fail)
      go_wp2_with fail
      go_region
      all_goals go_wp2_with fail
      all_goals refine bodyPost_ret (v := .agg #[.int .i64 k, .int .i64 tk, .string tx, .int .i64 tn, .slice uo x.len uc]) (by simp [results, Try.results55, go_sem, q0r, q1r, q2r, q3r, q4r]) rfl ?_
      all_goals
        refine .inl ⟨t, x, uo, uc, HE.out, hlt2, by rw [HTK.out, HTX.out, HTN.out], ?_, ?_, ?_⟩
        · exact HU.out.same (fun c hc hl => Only.block (b := g) (by (repeat (first | with_reducible exact Below.only BX.out | (with_reducible refine Only.fresh ?_ (Nat.le_refl _) _) | (with_reducible refine Only.drewN ?_ _) | (with_reducible refine Only.drew ?_) | (refine Only.setCell (p := ⟨g, 1, none⟩) ?_ rfl _)))) c hl hc) (fun _ h _ => h)
        · refine HH.out.carry (by (repeat (first | with_reducible exact Below.only BX.out | (with_reducible refine Only.fresh ?_ (Nat.le_refl _) _) | (with_reducible refine Only.drewN ?_ _) | (with_reducible refine Only.drew ?_) | (refine Only.setCell (p := ⟨g, 1, none⟩) ?_ rfl _)))) (by omega) (fun v hv => ?_)
          rw [← HG.out] at hv
          have e : ∀ (V : World) (o : Nat) (u : Value), (V.setCell ⟨w.heap.size, o, none⟩ u).heap[g]? = V.heap[g]? := fun V o u => Below.heap_setCell V _ u g hne
          have d : ∀ V : World, V.drew.heap = V.heap := fun _ => rfl
          simp only [d, e]
          simp [World.setCell, World.drewN, Array.getElem?_modify, hv]
        · (repeat (first | with_reducible exact Below.only BX.out | (with_reducible refine Only.fresh ?_ (Nat.le_refl _) _) | (with_reducible refine Only.drewN ?_ _) | (with_reducible refine Only.drew ?_) | (refine Only.setCell (p := ⟨g, 1, none⟩) ?_ rfl _)))
    · have HE : Hid (Wn.valF kind (f.drop i) = none) := Lib.hid (by rw [htf, if_neg hk])
      have hkb : (k == kind) = false := by simpa using hk
      clear htf
      go_enter Try.func55, Try.ntmps55
      go_wp2_with fail
      generalize w.alloc (.cells #[.int .i64 0, .int .i64 0, .string ⟨#[]⟩, .int .i64 0, .slice none 0 0] 80) = W at *
      go_quiet (fail)
      go_wp2_with fail
      refine bodyPost_ret (v := .agg #[.int .i64 0, .int .i64 0, .string ⟨#[]⟩, .int .i64 0, .slice none 0 0]) (by simp [results, Try.results55, go_sem, q0r, q1r, q2r, q3r, q4r]) rfl ?_
      exact .inr ⟨HE.out, rfl, HH.out.below ((((((below_drewN' BX.out _).setCell (by simp) _).setCell (by simp) _).setCell (by simp) _).setCell (by simp) _).setCell (by simp) _), Below.only ((((((below_drewN' BX.out _).setCell (by simp) _).setCell (by simp) _).setCell (by simp) _).setCell (by simp) _).setCell (by simp) _)⟩
end Go.Proofs.Ytbjhiimjillleaa
