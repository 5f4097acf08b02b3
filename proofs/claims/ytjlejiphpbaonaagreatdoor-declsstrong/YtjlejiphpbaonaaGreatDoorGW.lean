/- What slices.Grow answers, at values. What split.appendCopy answers: the values behind the row, their blocks copied. Values, cut: plain mathematics; parts of a slice of values; what the small functions of split answer. What split.Trim answers. -/
import Derived.Test.YtjlejiphpbaonaaGreatDoorGT
import Derived.Lib.Walk
import Derived.Lib.SliceRun
import Derived.Lib.AppendZerosOnto
import Derived.Deep.Cut
set_option linter.unusedVariables false
set_option linter.unusedSimpArgs false
set_option maxRecDepth 20000
namespace Go.Proofs.YtjlejiphpbaonaaGreatDoor
open Go.RowKit Go.Sort
set_option maxRecDepth 100000 in
set_option maxHeartbeats 1000000 in
theorem Grow_room (base : Option Addr) (l c n : Nat) (w : World) (hlc : l ≤ c) (hc63 : c ≤ 9223372036854775807) (hn63 : n ≤ 9223372036854775807) (hroom : l + n ≤ c) :
    Calls Tryz.prog 81 #[.slice base l c, .int .i64 n] w fun e w' => e = .returned (.slice base l c) ∧ w' = w := by
  have h1 : ¬ ((n : Int) < 0) := by omega
  have h2 : wrap64 ((c : Int) - (l : Int)) = (c : Int) - (l : Int) := by unfold wrap64; omega
  have h3 : wrap64 ((n : Int) - ((c : Int) - (l : Int))) = (n : Int) - ((c : Int) - (l : Int)) := by unfold wrap64; omega
  have h4 : ¬ ((n : Int) - ((c : Int) - (l : Int)) > 0) := by omega
  go_enter Tryz.func81, Tryz.ntmps81
  go_wp2
  go_ret
  exact ⟨rfl, rfl⟩
def GrowPost (w : World) (l c : Nat) (cs : List Value) (e : Ending) (w' : World) : Prop :=
  ∃ C : Nat, e = .returned (.slice (some ⟨w.heap.size, 0, none⟩) l C) ∧ l ≤ C ∧ C ≤ maxLen ∧ ∃ cur : Array Value, cur.size = C * 5 ∧ cur.toList.take (c * 5) = cs ∧ w' = w.drew.alloc (.cells cur 49)
set_option maxRecDepth 100000 in
set_option maxHeartbeats 2000000 in
theorem Grow_grow (base : Option Addr) (l c n : Nat) (cs : List Value) (w : World) (hlc : l ≤ c) (hroom : c < l + n) (hbig : l + n ≤ 1000000) (hcl : cs.length = c * 5) (hnil : base = none → c = 0) (hcs : ∀ a, base = some a → ∀ j v, cs[j]? = some v → w.cell? (a.add j) = some v) :
    Calls Tryz.prog 81 #[.slice base l c, .int .i64 n] w (GrowPost w l c cs) := by
  obtain ⟨i0, hi0, hz0, hz1, hz2⟩ := info_parts info_val
  have h1 : ¬ ((n : Int) < 0) := by omega
  have h2 : wrap64 ((c : Int) - (l : Int)) = (c : Int) - (l : Int) := by unfold wrap64; omega
  have h3 : wrap64 ((n : Int) - ((c : Int) - (l : Int))) = (n : Int) - ((c : Int) - (l : Int)) := by unfold wrap64; omega
  have h4 : (n : Int) - ((c : Int) - (l : Int)) > 0 := by omega
  have hck : c + (l + n - c) = l + n := by omega
  have hold : (Builtin.firstCells i0.size c (.slice base c c)).run Tryz.prog w.drew = .ok cs.toArray w.drew := by
    cases base with
    | none =>
      have h0 := hnil rfl
      subst h0
      have hc0 : cs = [] := List.length_eq_zero_iff.1 (by simpa using hcl)
      rw [hc0]
      exact run_firstCells_none w.drew i0.size 0 0 0
    | some a => exact run_firstCells_some w.drew i0.size c a c c cs (by rw [hz1]; exact hcl) (fun j v hj => hcs a rfl j v hj)
  have hrz : ∀ ty, (Builtin.append_ #[22, 3] ty #[.slice base c c, .int .i64 ((n : Int) - ((c : Int) - (l : Int)))]).run Tryz.prog w =
      .ok (.slice (some ⟨w.heap.size, 0, none⟩) (l + n) (grownCap w (l + n) c 49)) (w.drew.alloc (.cells (cs.toArray ++ Builtin.zeroCells (Value.agg #[.int .i64 0, .int .i64 0, .string ⟨#[]⟩, .int .i64 0, .slice none 0 0]).cells (l + n - c) ++ Builtin.zeroCells (Value.agg #[.int .i64 0, .int .i64 0, .string ⟨#[]⟩, .int .i64 0, .slice none 0 0]).cells (grownCap w (l + n) c 49 - (l + n))) 49)) := fun ty => by
    have h := Lib.run_append_grow_zeros w 22 3 ty 49 i0 _ .i64 .i64 Tryz.underlying22 Tryz.underlying3 hi0 hz0 base c c cs hold (l + n - c) (by omega) (by omega) (by omega) (by omega)
      (by rw [hz2]; omega)
      (by rw [hck]; exact growslice_fits hroom (by rw [hz2]; omega))
    rw [hck] at h
    rw [show (n : Int) - ((c : Int) - (l : Int)) = ((l + n - c : Nat) : Int) by omega]
    exact h
  have hGn : l + n ≤ grownCap w (l + n) c 49 := grownCap_ge w _ _ _
  have hG63 := grownCap_le_maxLen w (l + n) c 49 (by unfold maxLen; omega)
  have hcur : ∃ cur : Array Value, cur = cs.toArray ++ Builtin.zeroCells (Value.agg #[.int .i64 0, .int .i64 0, .string ⟨#[]⟩, .int .i64 0, .slice none 0 0]).cells (l + n - c) ++ Builtin.zeroCells (Value.agg #[.int .i64 0, .int .i64 0, .string ⟨#[]⟩, .int .i64 0, .slice none 0 0]).cells (grownCap w (l + n) c 49 - (l + n)) ∧ cur.size = grownCap w (l + n) c 49 * 5 ∧ cur.toList.take (c * 5) = cs := by
    refine ⟨_, rfl, ?_, ?_⟩
    · simp only [Array.size_append, size_zeroCells, List.size_toArray, hcl]
      have hs5 : (Value.agg #[.int .i64 0, .int .i64 0, .string ⟨#[]⟩, .int .i64 0, .slice Option.none 0 0]).cells.size = 5 := rfl
      rw [hs5]
      omega
    · rw [Array.toList_append, Array.toList_append, List.append_assoc, List.take_append_of_le_length (by simp [hcl]), List.take_of_length_le (by simp [hcl])]
  obtain ⟨cur, hcur, hcs1, hcs2⟩ := hcur
  rw [← hcur] at hrz
  generalize grownCap w (l + n) c 49 = G at *
  have HF : Hid (GrowPost w l c cs (.returned (.slice (some ⟨w.heap.size, 0, none⟩) l G)) (w.drew.alloc (.cells cur 49))) := Lib.hid ⟨G, rfl, by omega, hG63, cur, hcs1, hcs2, rfl⟩
  unfold maxLen at hG63
  clear hold hck hcs hcl hcur hcs1 hcs2 hz0 hz1 hz2
  go_enter Tryz.func81, Tryz.ntmps81
  cases base with
  | none =>
    have h0 := hnil rfl
    subst h0
    obtain rfl : l = 0 := by omega
    go_wp2_with (at_builtin; refine Lib.wpList_append_run _ rfl _ _ _ _ rfl _ _ rfl rfl _ _ (hrz _) ?_)
    all_goals (go_ret; exact HF.out)
  | some a =>
    obtain ⟨ab, ao, asp⟩ := a
    go_wp2_with (at_builtin; refine Lib.wpList_append_run _ rfl _ _ _ _ rfl _ _ rfl rfl _ _ (hrz _) ?_)
    all_goals (go_ret; exact HF.out)
/-- a row of one's own, with room for so many more -/
theorem Grow_own (base : Nat) (r : Value) (m n : Nat) (xs : List Value) (w : World) (hown : w.ownsRow base 49 5 r m xs) (hb : base ≤ w.heap.size) (hmn : m + n ≤ 1000000) :
    Calls Tryz.prog 81 #[r, .int .i64 n] w fun e w' => ∃ r', e = .returned r' ∧ w'.ownsRow base 49 5 r' m xs ∧ Grow r w w' r' := by
  obtain ⟨hx, hh⟩ := hown
  have hgr : ∀ (cur : Array Value) (row : Option Nat), w.grownBy (w.drew.alloc (.cells cur 49)) row := fun cur row => ⟨rfl, rfl, rfl, by rw [World.size_alloc]; exact Nat.le_succ _, fun k hk _ => Below.heap_alloc w.drew _ k hk⟩
  rcases hh with ⟨rfl, rfl⟩ | ⟨g, cap, cur, rfl, hg, hblk, hle, hcm, hsz, htk⟩
  · by_cases hn : n = 0
    · subst hn
      exact (Grow_room Option.none 0 0 0 w (by omega) (by omega) (by omega) (by omega)).mono fun e w' ⟨he, hw⟩ => by
        subst hw; exact ⟨_, he, ⟨hx, .inl ⟨rfl, rfl⟩⟩, Grow.refl _ _⟩
    · refine (Grow_grow Option.none 0 0 n [] w (by omega) (by omega) (by omega) (by simp) (fun _ => rfl) (fun _ h => by cases h)).mono ?_
      rintro e w' ⟨C, he, h1, h2, cur, h3, h4, hw⟩
      subst hw
      have hz : xs = [] := List.length_eq_zero_iff.1 (by simpa using hx)
      subst hz
      exact ⟨_, he, ⟨by simp, .inr ⟨_, C, cur, rfl, hb, heap_alloc_new w.drew _, by omega, h2, h3, by simp⟩⟩, hgr _ _, .inr ⟨_, Nat.le_refl _, rfl⟩⟩
  · by_cases hroom : m + n ≤ cap
    · exact (Grow_room _ m cap n w hle (by unfold maxLen at hcm; omega) (by omega) hroom).mono fun e w' ⟨he, hw⟩ => by
        subst hw; exact ⟨_, he, ⟨hx, .inr ⟨g, cap, cur, rfl, hg, hblk, hle, hcm, hsz, htk⟩⟩, Grow.refl _ _⟩
    · refine (Grow_grow (some ⟨g, 0, Option.none⟩) m cap n cur.toList w hle (by omega) hmn (by simpa using hsz) (fun h => by cases h) (fun a ha j v hj => ?_)).mono ?_
      · obtain rfl : (⟨g, 0, Option.none⟩ : Addr) = a := Option.some.inj ha
        have := cell_of_block (o := j) hblk
        rw [Go.WideShapes.add_plain, Nat.zero_add]
        rw [this]
        simpa using hj
      · rintro e w' ⟨C, he, h1, h2, cur', h3, h4, hw⟩
        subst hw
        refine ⟨_, he, ⟨hx, .inr ⟨_, C, cur', rfl, hb, heap_alloc_new w.drew _, h1, h2, h3, ?_⟩⟩, hgr _ _, .inr ⟨_, Nat.le_refl _, rfl⟩⟩
        rw [← htk, ← h4, List.take_take, Nat.min_eq_left (by omega)]
end Go.Proofs.YtjlejiphpbaonaaGreatDoor
set_option linter.unusedVariables false
set_option linter.unusedSimpArgs false
set_option maxRecDepth 20000
namespace Go.Proofs.YtjlejiphpbaonaaGreatDoor
open Go.RowKit Go.Sort
abbrev Ent := Int × Wn.Tok × Value
/-- the row r (of world w, holding es) has come to be v0, in world wr: es, and es' of values acc behind them -/
structure AC (base : Nat) (r : Value) (w : World) (es : List Ent) (wr : World) (v0 : Value) (es' : List Ent) (acc : Wn.Fs) : Prop where
  own : wr.ownsRow base 49 5 v0 (es ++ es').length (valsCells (es ++ es'))
  row : Row wr (fun b => w.heap.size ≤ b ∧ v0.ownBlock ≠ some b) es' acc
  grow : Grow r w wr v0
  size : base ≤ w.heap.size
section
variable {base : Nat} {r v0 : Value} {w wr wr' : World} {es es' : List Ent} {acc : Wn.Fs}
theorem AC.le (h : AC base r w es wr v0 es' acc) : w.heap.size ≤ wr.heap.size := h.grow.by_.size
theorem AC.later (h : AC base r w es wr v0 es' acc) (hb : Below wr.heap.size wr wr') : AC base r w es wr' v0 es' acc :=
  ⟨ownsRow_later h.own hb, h.row.same (fun b _ hl => hb.block b hl) (fun _ h _ => h), h.grow.below hb, h.size⟩
theorem AC.start (ho : w.ownsRow base 49 5 r es.length (valsCells es)) (hb : base ≤ w.heap.size) (ho' : wr.ownsRow base 49 5 v0 es.length (valsCells es)) (hg : Grow r w wr v0) : AC base r w es wr v0 [] .nil :=
  ⟨by rw [List.append_nil]; exact ho', trivial, hg, hb⟩
theorem AC.next {W W' : World} {v8 : Value} {k : Int} {t : Wn.Tok} {u : Value} {x : Wn.Fs} {B : Nat} (h : AC base r w es W v0 es' acc) (hu : ValsP W (fun b => B ≤ b) u x) (hB1 : w.heap.size ≤ B) (hB2 : ∀ b, v0.ownBlock = some b → b < B)
    (hown : W'.ownsRow base 49 5 v8 ((es ++ es').length + 1) (valsCells (es ++ es') ++ valCells (k, t, u))) (hgr : W.grownBy W' v0.ownBlock) (hat : v8.ownBlock = v0.ownBlock ∨ v8.ownBlock = some W.heap.size) :
    AC base r w es W' v8 (es' ++ [(k, t, u)]) (acc.app (.cons k t x .nil)) := by
  have hav : ∀ b, b < W.heap.size → v0.ownBlock ≠ some b → v8.ownBlock ≠ some b := fun b hl hb => by
    rcases hat with e | e
    · rw [e]; exact hb
    · rw [e]; intro e'; simp at e'; omega
  refine ⟨by rw [← List.append_assoc, List.length_append, valsCells_snoc]; exact hown, ?_, h.grow.trans ⟨hgr, hat.imp id (fun e => ⟨_, Nat.le_refl _, e⟩)⟩, h.size⟩
  refine Row.snoc (ok := fun b => w.heap.size ≤ b ∧ v8.ownBlock ≠ some b) ?_ (h.row.same (fun b hb hl => hgr.block b hl (fun e => hb.2 e.symm)) (fun b hb hl => ⟨hb.1, hav b hl hb.2⟩))
  have hx : ∀ b, B ≤ b → v0.ownBlock ≠ some b := fun b hb e => by have := hB2 b e; omega
  exact hu.same (fun b hb hl => hgr.block b hl (fun e => hx b hb e.symm)) (fun b hb hl => ⟨by omega, hav b hl (hx b hb)⟩)
end
def ACPost (base : Nat) (r : Value) (w : World) (es : List Ent) (f : Wn.Fs) (e : Ending) (w' : World) : Prop := ∃ r' es', e = .returned r' ∧ AC base r w es w' r' es' f
def ACSaid (f : Wn.Fs) : Prop := ∀ (base : Nat) (es : List Ent) (r v : Value) (w : World), w.ownsRow base 49 5 r es.length (valsCells es) → base ≤ w.heap.size → ValsP w (fun b => r.ownBlock ≠ some b) v f → es.length + f.len ≤ 1000000 → f.size ≤ 1000000 →
  Calls Tryz.prog 56 #[r, v] w (ACPost base r w es f)
theorem below_of_grow {r' : Value} {w w' : World} (h : Grow (.slice Option.none 0 0) w w' r') : Below w.heap.size w w' := ⟨h.by_.os, h.by_.tape, h.by_.output, h.by_.size, fun k hk => h.by_.block k hk (by simp [Value.ownBlock])⟩
/-- a copy -/
theorem copy_of {f : Wn.Fs} (H : ACSaid f) (v : Value) (w : World) (hv : Vals w v f) (hf : f.size ≤ 1000000) :
    Calls Tryz.prog 56 #[.slice Option.none 0 0, v] w fun e w' => ∃ r', e = .returned r' ∧ ValsP w' (fun b => w.heap.size ≤ b) r' f ∧ Below w.heap.size w w' := by
  refine (H w.heap.size [] (.slice Option.none 0 0) v w (World.ownsRow_nil _ _ _ _) (Nat.le_refl _) (ValsP.mono hv (fun _ _ _ => by simp [Value.ownBlock])) (by have := Wn.Fs.len_le_size f; simp; omega) hf).mono ?_
  rintro e w' ⟨r', es', he, h⟩
  exact ⟨r', he, ValsP.ofRow (es := es') (by simpa using h.own) (h.row.same (fun _ _ _ => rfl) (fun b hb _ => hb.1)) (fun _ h => h), below_of_grow h.grow⟩
set_option maxRecDepth 100000 in
set_option maxHeartbeats 1000000 in
theorem appendCopy_step (f : Wn.Fs) (IH : ∀ g : Wn.Fs, g.size < f.size → ACSaid g) : ACSaid f := by
  intro base es r v w hown hb hv hlen hfs
  have HIH := Lib.hid IH; clear IH
  have HO := Lib.hid hown; clear hown
  have HV := Lib.hid hv
  obtain ⟨ao, cap, rfl, c1, c2⟩ := hv.form
  clear hv
  unfold maxLen at c2
  obtain ⟨i0, hi0, hz0, hz1, hz2⟩ := info_parts info_val
  go_enter Tryz.func56, Tryz.ntmps56
  go_wp2_with fail
  refine (Grow_own base r es.length f.len _ w HO.out hb hlen).mono ?_
  rintro e w1 ⟨r1, rfl, hown1, hg1⟩
  have H0 := Lib.hid (AC.start HO.out hb hown1 hg1)
  clear hown1 hg1
  go_wp2_with fail
  go_loopw [0, 13] (fun v0 v13 wr => ∃ (i : Nat) (es' : List Ent) (acc : Wn.Fs), i ≤ f.len ∧ es'.length = i ∧ v13 = .int .i64 (i : Int) ∧ Hid (AC base r w es wr v0 es' acc) ∧ Hid (acc.app (f.drop i) = f)) (fun _ v13 _ => f.len - (intOf v13).toNat)
  case atStart => exact ⟨0, [], .nil, by omega, rfl, rfl, H0, Lib.hid (by rw [Wn.Fs.drop_zero]; rfl)⟩
  case round =>
    obtain ⟨i, es', acc, hil, hel, rfl, HA, HE⟩ := hrel
    by_cases hlt : i < f.len
    · obtain ⟨k, t, x, hd⟩ := Wn.Fs.drop_cons hlt
      have hvr : ValsP wr (fun b => r.ownBlock ≠ some b) (.slice ao f.len cap) f := HV.out.same (fun b hb hl => HA.out.grow.by_.block b hl (fun e => hb e.symm)) (fun _ h _ => h)
      obtain ⟨b, o, rfl, j0, ⟨j1, j2, j3⟩, u, j4, hu⟩ := hvr.at hd
      have hsz := Wn.Fs.size_drop hd
      have HE1 : Hid ((acc.app (.cons k t x .nil)).app (f.drop (i + 1)) = f) := Lib.hid (by rw [Wn.Fs.app_assoc]; simp only [Wn.Fs.app]; rw [← hd]; exact HE.out)
      have hform : ∃ ao n c, u = .slice ao n c := by obtain ⟨ao, cap, hv, _⟩ := hu.form; exact ⟨_, _, _, hv⟩
      obtain ⟨uo, un, uc, rfl⟩ := hform
      rw [show o + i * 5 + 1 + 1 = o + i * 5 + 2 by omega] at j2
      rw [show o + i * 5 + 1 + 2 = o + i * 5 + 3 by omega] at j3
      have hBx : Below wr.heap.size wr (wr.alloc (.cells #[.int .i64 k, .int .i64 t.1, .string (Wn.str t.2.1), .int .i64 t.2.2, .slice uo un uc] 49)) := (Below.refl _ _).alloc (Nat.le_refl _) _
      have QC := Lib.hid (copy_of (HIH.out x hsz) (.slice uo un uc) _ ((hu.any).below hBx) (by omega))
      have bX := heap_alloc_new wr (.cells #[.int .i64 k, .int .i64 t.1, .string (Wn.str t.2.1), .int .i64 t.2.2, .slice uo un uc] 49)
      have hzX : (wr.alloc (.cells #[.int .i64 k, .int .i64 t.1, .string (Wn.str t.2.1), .int .i64 t.2.2, .slice uo un uc] 49)).heap.size = wr.heap.size + 1 := by simp
      have HBx := Lib.hid hBx
      have HbX := Lib.hid bX
      have HzX := Lib.hid hzX
      clear hd hvr hu hBx bX hzX HE
      generalize hx : Wn.str t.2.1 = y at *
      have HX := Lib.hid hx; clear hx
      have hi1 : (i : Int) < (f.len : Int) := by omega
      go_wp2_with fail
      generalize wr.alloc (.cells #[.int .i64 k, .int .i64 t.1, .string y, .int .i64 t.2.2, .slice uo un uc] 49) = W1 at *
      refine QC.out.mono ?_
      rintro e w2 ⟨r9, rfl, hv9, b2⟩
      clear QC
      have b2s := b2.size
      rw [HzX.out] at hv9 b2s
      have hform9 : ∃ ao n c, r9 = .slice ao n c := by obtain ⟨ao, cap, hv, _⟩ := hv9.form; exact ⟨_, _, _, hv⟩
      obtain ⟨so, sn, sc, rfl⟩ := hform9
      have blk2 := block_lat b2 HbX.out
      have HB2 := Lib.hid (HBx.out.trans (b2.mono HBx.out.size))
      have HV9 := Lib.hid hv9
      have Hblk2 := Lib.hid blk2
      clear hv9 b2 HBx HbX HzX j0 j1 j2 j3 j4
      (have q0a := cell_of_block (o := 0) blk2; have q1a := cell_of_block (o := 1) blk2; have q2a := cell_of_block (o := 2) blk2; have q3a := cell_of_block (o := 3) blk2; have q4a := cell_of_block (o := 4) blk2; have z0a := frozen_blk blk2 0; have z1a := frozen_blk blk2 1; have z2a := frozen_blk blk2 2; have z3a := frozen_blk blk2 3; have z4a := frozen_blk blk2 4; simp only [List.getElem?_toArray, List.getElem?_cons_zero, List.getElem?_cons_succ] at q0a q1a q2a q3a q4a)
      clear blk2
      have hw1 : wr.heap.size < w2.heap.size := by omega
      have hw2 : ¬ wr.heap.size = w2.heap.size := by omega
      go_upto_region 6 with fail
      have HB3 : Hid (Below wr.heap.size wr (w2.setCell ⟨wr.heap.size, 4, none⟩ (.slice so sn sc))) := Lib.hid (HB2.out.setCell (p := ⟨wr.heap.size, 4, none⟩) (Nat.le_refl _) _)
      have blk3 : (w2.setCell ⟨wr.heap.size, 4, none⟩ (.slice so sn sc)).heap[wr.heap.size]? = some (.cells #[.int .i64 k, .int .i64 t.1, .string y, .int .i64 t.2.2, .slice so sn sc] 49) := heap_set_at Hblk2.out _
      have HV3 : Hid (ValsP (w2.setCell ⟨wr.heap.size, 4, none⟩ (.slice so sn sc)) (fun b => wr.heap.size + 1 ≤ b) (.slice so sn sc) x) := Lib.hid (HV9.out.same (fun b hb _ => Below.heap_setCell _ _ _ _ (by show b ≠ wr.heap.size; omega)) (fun _ h _ => h))
      have hz3 : (w2.setCell ⟨wr.heap.size, 4, none⟩ (.slice so sn sc)).heap.size = w2.heap.size := size_set _ _ _
      generalize w2.setCell ⟨wr.heap.size, 4, none⟩ (.slice so sn sc) = W3 at *
      have hw3 : wr.heap.size < W3.heap.size := by omega
      have hw4 : ¬ wr.heap.size = W3.heap.size := by omega
      clear hz3 hw1 hw2 b2s
      clear q0a q1a q2a q3a q4a z0a z1a z2a z3a z4a Hblk2 HV9 HB2
      (have q0c := cell_of_block (o := 0) blk3; have q1c := cell_of_block (o := 1) blk3; have q2c := cell_of_block (o := 2) blk3; have q3c := cell_of_block (o := 3) blk3; have q4c := cell_of_block (o := 4) blk3; have z0c := frozen_blk blk3 0; have z1c := frozen_blk blk3 1; have z2c := frozen_blk blk3 2; have z3c := frozen_blk blk3 3; have z4c := frozen_blk blk3 4; simp only [List.getElem?_toArray, List.getElem?_cons_zero, List.getElem?_cons_succ] at q0c q1c q2c q3c q4c)
      have HA3 := Lib.hid (HA.out.later HB3.out)
      have hle3 := HA3.out.le
      have hleA := HA.out.le
      have hBA : Below W3.heap.size W3 (W3.alloc (.cells #[.int .i64 k, .int .i64 t.1, .string y, .int .i64 t.2.2, .slice so sn sc] 49)) := (Below.refl _ _).alloc (Nat.le_refl _) _
      have HA4 := Lib.hid (HA3.out.later hBA)
      have HV4 := Lib.hid (HV3.out.below hBA)
      have hee : (es ++ es').length ≤ 1000000 := by simp; omega
      have hee2 : (es ++ es').length + 1 ≤ 1000000 := by simp; omega
      have hbz : base ≤ (W3.alloc (.cells #[.int .i64 k, .int .i64 t.1, .string y, .int .i64 t.2.2, .slice so sn sc] 49)).heap.size := by simp; omega
      have HBZ := Lib.hid hbz
      clear blk3 hBA hbz
      generalize hn9 : (es ++ es').length = n9 at hee hee2
      have HN9 := Lib.hid hn9; clear hn9
      go_wp2_with (at_builtin; refine wpList_append_own_at _ rfl _ _ 22 rfl base 49 i0 (.agg #[.int .i64 0, .int .i64 0, .string ⟨#[]⟩, .int .i64 0, .slice none 0 0]) 5 64 Tryz.underlying22 hi0 hz0 hz1 hz2 rfl (by decide) _ (es ++ es').length (valsCells (es ++ es')) rfl HA4.out.own ⟨W3.heap.size, 0, none⟩ 1 1 [.int .i64 k, .int .i64 t.1, .string y, .int .i64 t.2.2, .slice so sn sc] rfl rfl (cell_five_new _ _ _ _ _ _ _ _ rfl) (fun x hx => by simp at hx; rcases hx with rfl | rfl | rfl | rfl | rfl <;> rfl) (by unfold maxLen; rw [HN9.out]; omega) (by rw [HN9.out]; omega) HBZ.out ?_; intro v8 w8 hown8 hgr8 hnil8 hat8; (have HZ8 := Lib.hid (And.intro hown8 (And.intro hgr8 hat8))); clear hown8 hgr8 hnil8 hat8)
      obtain ⟨hown8, hgr8, hat8⟩ := HZ8.out
      have hnext := HA4.out.next (k := k) (t := t) (u := .slice so sn sc) (x := x) (B := wr.heap.size + 1) HV4.out (by omega) (fun b hb => by have := (HA.out.own.lt b hb).2; omega) (by rw [show valCells (k, t, .slice so sn sc) = [.int .i64 k, .int .i64 t.1, .string y, .int .i64 t.2.2, .slice so sn sc] by rw [← HX.out]; rfl]; exact hown8) hgr8 hat8
      exact ⟨⟨i + 1, _, _, by omega, by simp [hel], by go_num, Lib.hid hnext, HE1⟩, by simp [intOf]; omega⟩
    · have HF : Hid (acc = f) := Lib.hid (by have := HE.out; rw [Wn.Fs.drop_len (by omega), Wn.Fs.app_nil] at this; exact this)
      go_wp2_with fail
      go_ret
      have := HA.out
      rw [HF.out] at this
      exact ⟨_, _, rfl, this⟩
theorem appendCopy_all : ∀ (n : Nat) (f : Wn.Fs), f.size < n → ACSaid f
  | 0, f, h => by omega
  | n + 1, f, h => appendCopy_step f fun g hg => appendCopy_all n g (by omega)
theorem appendCopy_any (f : Wn.Fs) : ACSaid f := appendCopy_all (f.size + 1) f (Nat.lt_succ_self _)
theorem copy_any (v : Value) (f : Wn.Fs) (w : World) (hv : Vals w v f) (hf : f.size ≤ 1000000) :
    Calls Tryz.prog 56 #[.slice Option.none 0 0, v] w fun e w' => ∃ r', e = .returned r' ∧ ValsP w' (fun b => w.heap.size ≤ b) r' f ∧ Below w.heap.size w w' := copy_of (appendCopy_any f) v w hv hf
end Go.Proofs.YtjlejiphpbaonaaGreatDoor
set_option linter.unusedVariables false
set_option linter.unusedSimpArgs false
set_option maxRecDepth 20000
namespace Wn
namespace Fs
def take : Nat → Fs → Fs
  | 0, _ => .nil
  | _ + 1, .nil => .nil
  | n + 1, .cons k t x r => .cons k t x (r.take n)
theorem take_zero (f : Fs) : f.take 0 = .nil := by cases f <;> rfl
theorem take_nil (n : Nat) : Fs.nil.take n = .nil := by cases n <;> rfl
theorem take_len : ∀ (f : Fs) (n : Nat), (f.take n).len = min n f.len
  | f, 0 => by rw [take_zero]; simp [len]
  | .nil, n + 1 => by simp [take, len]
  | .cons k t x r, n + 1 => by simp only [take, len]; rw [take_len r n]; omega
theorem take_all : ∀ (f : Fs) {n : Nat}, f.len ≤ n → f.take n = f
  | .nil, n, _ => take_nil n
  | .cons k t x r, 0, h => by simp [len] at h
  | .cons k t x r, n + 1, h => by rw [take, take_all r (by simpa [len] using h)]
theorem take_drop : ∀ (f : Fs) (n : Nat), (f.take n).app (f.drop n) = f
  | f, 0 => by rw [take_zero, drop_zero]; rfl
  | .nil, n + 1 => rfl
  | .cons k t x r, n + 1 => by rw [take, drop, app, take_drop r n]
theorem take_succ : ∀ (f : Fs) {n : Nat} {k : Int} {t : Tok} {x r : Fs}, f.drop n = .cons k t x r → f.take (n + 1) = (f.take n).app (.cons k t x .nil)
  | f, 0, k, t, x, r, h => by rw [drop_zero] at h; rw [h, take_zero, take, take_zero]; rfl
  | .nil, n + 1, k, t, x, r, h => by simp [drop] at h
  | .cons k' t' x' r', n + 1, k, t, x, r, h => by rw [drop] at h; rw [take, take, app, take_succ r' h]
theorem size_app : ∀ f g : Fs, (f.app g).size = f.size + g.size
  | .nil, g => by simp [app, size]
  | .cons k t x r, g => by simp only [app, size]; rw [size_app r g]; omega
theorem size_take (f : Fs) (n : Nat) : (f.take n).size ≤ f.size := by
  have := congrArg size (take_drop f n); rw [size_app] at this; omega
theorem size_dropn (f : Fs) (n : Nat) : (f.drop n).size ≤ f.size := by
  have := congrArg size (take_drop f n); rw [size_app] at this; omega
theorem drop_drop : ∀ (f : Fs) (i j : Nat), (f.drop i).drop j = f.drop (i + j)
  | f, 0, j => by rw [drop_zero, Nat.zero_add]
  | .nil, i + 1, j => by simp [drop]; cases j <;> rfl
  | .cons k t x r, i + 1, j => by rw [drop, drop_drop r i j, show i + 1 + j = (i + j) + 1 by omega, drop]
end Fs
/-- is a value a blank? -/
def blankV (k : Int) (t : Tok) : Bool := decide (k = 1) && decide (t.1 = 8)
/-- is a value the delimiter s? -/
def signV (s : List UInt8) (k : Int) (t : Tok) : Bool := decide (k = 1) && decide (t = dlm s)
def dropB : Fs → Fs
  | .nil => .nil
  | .cons k t x r => if blankV k t then dropB r else .cons k t x r
def rtrim : Fs → Fs
  | .nil => .nil
  | .cons k t x r => match rtrim r with
    | .nil => if blankV k t then .nil else .cons k t x .nil
    | .cons k' t' x' r' => .cons k t x (.cons k' t' x' r')
def trimF (f : Fs) : Fs := rtrim (dropB f)
/-- the parts between the values that p holds of -/
def cuts (p : Int → Tok → Bool) : Fs → List Fs
  | .nil => [.nil]
  | .cons k t x r => if p k t then .nil :: cuts p r else match cuts p r with
    | [] => [.cons k t x .nil]
    | a :: l => .cons k t x a :: l
def addHead (a : Fs) : List Fs → List Fs
  | [] => [a]
  | c :: l => a.app c :: l
theorem cuts_ne (p : Int → Tok → Bool) (f : Fs) : cuts p f ≠ [] := by
  cases f with
  | nil => simp [cuts]
  | cons k t x r => rw [cuts]; split; simp; split <;> simp
theorem cuts_yes {p : Int → Tok → Bool} {k : Int} {t : Tok} (h : p k t = true) (x r : Fs) : cuts p (.cons k t x r) = .nil :: cuts p r := by rw [cuts, if_pos h]
theorem cuts_no {p : Int → Tok → Bool} {k : Int} {t : Tok} (h : p k t = false) (x r : Fs) : cuts p (.cons k t x r) = addHead (.cons k t x .nil) (cuts p r) := by
  rw [cuts, if_neg (by simp [h])]
  cases cuts p r <;> rfl
theorem addHead_nil {l : List Fs} (h : l ≠ []) : addHead .nil l = l := by cases l with | nil => exact absurd rfl h | cons => rfl
theorem addHead_app (a b : Fs) {l : List Fs} (h : l ≠ []) : addHead a (addHead b l) = addHead (a.app b) l := by
  cases l with
  | nil => exact absurd rfl h
  | cons c l => simp [addHead, Fs.app_assoc]
theorem rtrim_snoc : ∀ (g : Fs) (k : Int) (t : Tok) (x : Fs), rtrim (g.app (.cons k t x .nil)) = if blankV k t then rtrim g else g.app (.cons k t x .nil)
  | .nil, k, t, x => by simp [Fs.app, rtrim]
  | .cons k' t' x' r, k, t, x => by
    rw [Fs.app, rtrim, rtrim_snoc r k t x]
    by_cases h : blankV k t = true
    · rw [if_pos h, if_pos h, rtrim]
    · rw [if_neg h, if_neg h]
      cases r with
      | nil => simp [Fs.app]
      | cons => simp [Fs.app]
end Wn
namespace Go.Proofs.YtjlejiphpbaonaaGreatDoor
open Go.RowKit Go.Sort
theorem VAt.take {w : World} {ok : Nat → Prop} : ∀ {f : Wn.Fs} {b o : Nat} (i : Nat), VAt w ok f b o → VAt w ok (f.take i) b o
  | f, b, o, 0, h => by rw [Wn.Fs.take_zero]; trivial
  | .nil, b, o, i + 1, h => by simp [Wn.Fs.take, VAt]
  | .cons k t x r, b, o, i + 1, h => by
    obtain ⟨c1, c2, ⟨u, c3, c4⟩, c5⟩ := h.cons
    exact VAt.mk h.1 c1 c2 c3 c4 (VAt.take i c5)
/-- part of a slice of values -/
theorem ValsP.sub {w : World} {ok : Nat → Prop} {b o n cap : Nat} {f : Wn.Fs} (h : ValsP w ok (.slice (some ⟨b, o, none⟩) n cap) f) (i j : Nat) (hij : i ≤ j) (hj : j ≤ n) : ValsP w ok (.slice (some ⟨b, o + i * 5, none⟩) (j - i) (cap - i)) ((f.drop i).take (j - i)) := by
  obtain ⟨ao', cap', hv, h1, h2, _, h3⟩ := h
  simp only [Value.slice.injEq] at hv
  obtain ⟨rfl, rfl, rfl⟩ := hv
  refine ⟨some ⟨b, o + i * 5, Option.none⟩, cap - i, ?_, ?_, ?_, fun h => (by cases h), fun hne => ⟨b, o + i * 5, rfl, ?_⟩⟩
  · rw [Wn.Fs.take_len, Wn.Fs.len_drop, Nat.min_eq_left (by omega)]
  · rw [Wn.Fs.take_len]; omega
  · omega
  · have hf : f ≠ .nil := by
      rintro rfl
      apply hne
      cases i <;> simp [Wn.Fs.drop, Wn.Fs.take_nil]
    obtain ⟨b', o', ha, hx⟩ := h3 hf
    simp only [Option.some.injEq, Addr.mk.injEq] at ha
    obtain ⟨rfl, rfl, _⟩ := ha
    exact (hx.drop i).take _
theorem ValsP.empty (w : World) (ok : Nat → Prop) (a : Addr) (cap : Nat) (h : cap ≤ maxLen) : ValsP w ok (.slice (some a) 0 cap) .nil := ⟨some a, cap, rfl, Nat.zero_le _, h, fun h => (by cases h), fun h => absurd rfl h⟩
/-- as Go has it: where no room is left the place stays -/
theorem ValsP.subC {w : World} {ok : Nat → Prop} {b o n cap : Nat} {f : Wn.Fs} (h : ValsP w ok (.slice (some ⟨b, o, none⟩) n cap) f) (i j : Nat) (hij : i ≤ j) (hj : j ≤ n) : ValsP w ok (.slice (if cap = i then some ⟨b, o, none⟩ else some ⟨b, o + i * 5, none⟩) (j - i) (cap - i)) ((f.drop i).take (j - i)) := by
  have hs := h.sub i j hij hj
  by_cases hc : cap = i
  · rw [if_pos hc]
    obtain ⟨ao', cap', hv, h1, h2, _⟩ := h
    simp only [Value.slice.injEq] at hv
    obtain ⟨_, hn, rfl⟩ := hv
    rw [show j - i = 0 by omega, Wn.Fs.take_zero]
    exact ValsP.empty _ _ _ _ (by omega)
  · rw [if_neg hc]; exact hs
theorem ValsP.nilCap {w : World} {ok : Nat → Prop} {ao : Option Addr} {n cap : Nat} {f : Wn.Fs} (h : ValsP w ok (.slice ao n cap) f) : ao = Option.none → cap = 0 := by
  obtain ⟨ao', cap', hv, _, _, h4, _⟩ := h
  simp only [Value.slice.injEq] at hv
  obtain ⟨rfl, _, rfl⟩ := hv
  exact h4
theorem ValsP.isNil {w : World} {ok : Nat → Prop} {n cap : Nat} {f : Wn.Fs} (h : ValsP w ok (.slice Option.none n cap) f) : f = .nil ∧ n = 0 ∧ cap = 0 := by
  obtain ⟨ao', cap', hv, h1, h2, h4, h3⟩ := h
  simp only [Value.slice.injEq] at hv
  obtain ⟨rfl, rfl, rfl⟩ := hv
  have hf : f = .nil := Classical.byContradiction fun hne => by obtain ⟨_, _, e, _⟩ := h3 hne; cases e
  exact ⟨hf, by rw [hf]; rfl, h4 rfl⟩
set_option maxHeartbeats 400000 in
theorem isBlank_v (k : Int) (t : Wn.Tok) (u : Value) (w : World) (hu : ∃ ao n c, u = .slice ao n c) :
    Calls Tryz.prog 62 #[.agg #[.int .i64 k, .int .i64 t.1, .string (Wn.str t.2.1), .int .i64 t.2.2, u]] w fun e w' => e = .returned (.bool (Wn.blankV k t)) ∧ Below w.heap.size w w' := by
  obtain ⟨uo, un, uc, rfl⟩ := hu
  have hc : Wn.blankV k t = ((k == 1) && (t.1 == 8)) := by unfold Wn.blankV; rw [Bool.eq_iff_iff]; simp
  generalize Wn.blankV k t = c at *
  generalize Wn.str t.2.1 = x at *
  generalize t.1 = tk at *
  generalize t.2.2 = tn at *
  have HC := Lib.hid hc; clear hc
  go_enter Tryz.func62, Tryz.ntmps62
  go_wp2
  all_goals
    go_ret
    refine ⟨ret_bool ?_, (Below.refl _ _).alloc (Nat.le_refl _) _⟩
    rw [HC.out]
    simp_all
set_option maxHeartbeats 400000 in
theorem rBlank_v (k : Int) (t : Wn.Tok) (u : Value) (w : World) (hu : ∃ ao n c, u = .slice ao n c) :
    Calls Tryz.prog 26 #[.agg #[.int .i64 k, .int .i64 t.1, .string (Wn.str t.2.1), .int .i64 t.2.2, u]] w fun e w' => e = .returned (.bool (Wn.blankV k t)) ∧ Below w.heap.size w w' := by
  obtain ⟨uo, un, uc, rfl⟩ := hu
  have hc : Wn.blankV k t = ((k == 1) && (t.1 == 8)) := by unfold Wn.blankV; rw [Bool.eq_iff_iff]; simp
  generalize Wn.blankV k t = c at *
  generalize Wn.str t.2.1 = x at *
  generalize t.1 = tk at *
  generalize t.2.2 = tn at *
  have HC := Lib.hid hc; clear hc
  go_enter Tryz.func26, Tryz.ntmps26
  go_wp2
  all_goals
    go_ret
    refine ⟨ret_bool ?_, (Below.refl _ _).alloc (Nat.le_refl _) _⟩
    rw [HC.out]
    simp_all
set_option maxHeartbeats 400000 in
theorem delimiter_v (s : ByteArray) (w : World) :
    Calls Tryz.prog 55 #[.string s] w fun e w' => e = .returned (.agg #[.int .i64 1, .int .i64 7, .string s, .int .i64 0, .slice none 0 0]) ∧ Below w.heap.size w w' := by
  have HB : Hid (Below w.heap.size w (w.alloc (.cells #[.int .i64 1, .int .i64 7, .string s, .int .i64 0, .slice none 0 0] 49))) := Lib.hid ((Below.refl _ _).alloc (Nat.le_refl _) _)
  go_enter Tryz.func55, Tryz.ntmps55
  go_wp2_with fail
  refine bodyPost_ret (v := .agg #[.int .i64 1, .int .i64 7, .string s, .int .i64 0, .slice none 0 0]) (by simp [results, Tryz.results55, go_sem]) rfl ⟨rfl, HB.out⟩
theorem sameToken_v (k : Int) (t : Wn.Tok) (u : Value) (w : World) (hu : ∃ ao n c, u = .slice ao n c) :
    Calls Tryz.prog 54 #[.agg #[.int .i64 k, .int .i64 t.1, .string (Wn.str t.2.1), .int .i64 t.2.2, u]] w fun e w' => e = .returned (.func (.func 80) #[] #[.pointer (some ⟨w.heap.size, 0, none⟩)]) ∧ w' = w.alloc (.cells #[.int .i64 k, .int .i64 t.1, .string (Wn.str t.2.1), .int .i64 t.2.2, u] 49) := by
  obtain ⟨uo, un, uc, rfl⟩ := hu
  generalize Wn.str t.2.1 = x
  go_enter Tryz.func54, Tryz.ntmps54
  go_wp2
  go_ret
  exact ⟨rfl, rfl⟩
set_option maxHeartbeats 400000 in
theorem sameToken1_v (k : Int) (t : Wn.Tok) (u : Value) (g : Nat) (t' : Wn.Tok) (w : World) (hu : ∃ ao n c, u = .slice ao n c) (hg : TokIn w g 1 t') :
    Calls Tryz.prog 80 #[.agg #[.int .i64 k, .int .i64 t.1, .string (Wn.str t.2.1), .int .i64 t.2.2, u], .pointer (some ⟨g, 0, none⟩)] w fun e w' => e = .returned (.bool (decide (k = 1) && decide (t = t'))) ∧ Below w.heap.size w w' := by
  obtain ⟨uo, un, uc, rfl⟩ := hu
  obtain ⟨a, b, c⟩ := t
  obtain ⟨a', b', c'⟩ := t'
  have hgl := hg.lt
  obtain ⟨j0, j1, j2⟩ := hg
  dsimp only at *
  have hs := str_list b
  have hs' := str_list b'
  have e : (decide (k = 1) && decide ((a, b, c) = (a', b', c'))) = ((k == 1) && ((a == a') && (b == b') && (c == c'))) := by
    rw [Bool.eq_iff_iff]; simp [and_assoc]
  rw [e]
  clear e
  generalize Wn.str b = p at *
  generalize Wn.str b' = q at *
  subst hs hs'
  have hn1 : ¬ g = w.heap.size := by omega
  have HB : Hid (Below w.heap.size w (w.alloc (.cells #[.int .i64 k, .int .i64 a, .string p, .int .i64 c, .slice uo un uc] 49))) := Lib.hid ((Below.refl _ _).alloc (Nat.le_refl _) _)
  cases h0 : (k == 1)
  · go_enter Tryz.func80, Tryz.ntmps80
    go_wp2_with fail
    go_ret
    exact ⟨ret_bool (by simp), HB.out⟩
  · cases h1 : (a == a')
    · go_enter Tryz.func80, Tryz.ntmps80
      go_wp2_with fail
      go_ret
      exact ⟨ret_bool (by simp), HB.out⟩
    · cases h2 : (p.toList == q.toList)
      · go_enter Tryz.func80, Tryz.ntmps80
        go_wp2_with fail
        go_ret
        exact ⟨ret_bool (by simp), HB.out⟩
      · cases h3 : (c == c')
        · go_enter Tryz.func80, Tryz.ntmps80
          go_wp2_with fail
          go_ret
          exact ⟨ret_bool (by simp), HB.out⟩
        · go_enter Tryz.func80, Tryz.ntmps80
          go_wp2_with fail
          go_ret
          exact ⟨ret_bool (by simp), HB.out⟩
theorem sameToken1_s (s0 : List UInt8) (k : Int) (t : Wn.Tok) (u : Value) (g : Nat) (w : World) (hu : ∃ ao n c, u = .slice ao n c) (hg : TokIn w g 1 (Wn.dlm s0)) :
    Calls Tryz.prog 80 #[.agg #[.int .i64 k, .int .i64 t.1, .string (Wn.str t.2.1), .int .i64 t.2.2, u], .pointer (some ⟨g, 0, none⟩)] w fun e w' => e = .returned (.bool (Wn.signV s0 k t)) ∧ Below w.heap.size w w' := sameToken1_v k t u g (Wn.dlm s0) w hu hg
end Go.Proofs.YtjlejiphpbaonaaGreatDoor
set_option linter.unusedVariables false
set_option linter.unusedSimpArgs false
set_option maxRecDepth 20000
namespace Go.Proofs.YtjlejiphpbaonaaGreatDoor
open Go.RowKit Go.Sort
def lenOf : Value → Nat
  | .slice _ n _ => n
  | _ => 0
set_option maxRecDepth 100000 in
set_option maxHeartbeats 1000000 in
theorem Trim_any (v : Value) (f : Wn.Fs) (w : World) (hv : Vals w v f) (hf : f.size ≤ 1000000) :
    Calls Tryz.prog 32 #[v] w fun e w' => ∃ r, e = .returned r ∧ ValsP w' (fun b => w.heap.size ≤ b) r (Wn.trimF f) ∧ Below w.heap.size w w' := by
  have HV := Lib.hid hv
  obtain ⟨vo, vc, rfl, c1, c2⟩ := hv.form
  clear hv
  go_enter Tryz.func32, Tryz.ntmps32
  go_wp2_with fail
  go_loopw [0] (fun v0 wr => ∃ (g : Wn.Fs) (ao : Option Addr) (cap : Nat), v0 = .slice ao g.len cap ∧ g.len ≤ cap ∧ cap ≤ maxLen ∧ g.size ≤ f.size ∧ Hid (Vals wr (.slice ao g.len cap) g) ∧ Hid (Wn.dropB g = Wn.dropB f) ∧ Hid (Below w.heap.size w wr)) (fun v0 _ => lenOf v0)
  case atStart => exact ⟨f, _, _, rfl, c1, c2, Nat.le_refl _, HV, Lib.hid rfl, Lib.hid (Below.refl _ _)⟩
  case round =>
    clear HV c1 c2
    obtain ⟨g, ao, cap, rfl, hg1, hg2, hg3, HVg, HDr, HBg⟩ := hrel
    cases g with
    | nil =>
      have HDg : Hid (Wn.rtrim .nil = Wn.trimF f) := Lib.hid (by unfold Wn.trimF; rw [← HDr.out]; rfl)
      have hg0 : (Wn.Fs.nil).len = 0 := rfl
      rw [hg0] at hg1 HVg ⊢
      clear HDr hg0
      go_wp2_with fail
      go_loopw [0] (fun v0 wr => ∃ (h : Wn.Fs) (ao : Option Addr) (cap : Nat), v0 = .slice ao h.len cap ∧ h.len ≤ cap ∧ cap ≤ maxLen ∧ h.size ≤ f.size ∧ Hid (Vals wr (.slice ao h.len cap) h) ∧ Hid (Wn.rtrim h = Wn.trimF f) ∧ Hid (Below w.heap.size w wr)) (fun v0 _ => lenOf v0)
      case atStart => exact ⟨.nil, _, _, rfl, hg1, hg2, hg3, HVg, HDg, HBg⟩
      case round =>
        obtain ⟨h, ao, cap, rfl, hh1, hh2, hh3, HV2, HD2, HB2⟩ := hrel
        unfold maxLen at hh2
        rcases Nat.eq_zero_or_pos h.len with hz | hpos
        · have HF : Hid (Wn.trimF f = h) := Lib.hid (by rw [← HD2.out, Wn.Fs.len_zero hz]; rfl)
          have QC := Lib.hid (copy_any (.slice ao h.len cap) h wr HV2.out (by omega))
          have HBz := HB2
          rw [hz] at QC hh1 ⊢
          clear HV2 HD2 HB2 hz
          go_wp2_with fail
          refine QC.out.mono ?_
          rintro e w7 ⟨r7, rfl, hv7, b7⟩
          have HB7 := Lib.hid (HBz.out.trans (b7.mono HBz.out.size))
          have hs7 := HBz.out.size
          have HV7 : Hid (ValsP w7 (fun b => w.heap.size ≤ b) r7 (Wn.trimF f)) := Lib.hid (by rw [HF.out]; exact hv7.mono (fun b hb _ => by omega))
          clear hv7 b7 HF QC HBz
          go_wp2_with fail
          go_ret
          exact ⟨_, rfl, HV7.out, HB7.out⟩
        · obtain ⟨m, hm⟩ : ∃ m, h.len = m + 1 := ⟨h.len - 1, by omega⟩
          obtain ⟨k, t, x, hd⟩ := Wn.Fs.drop_cons (f := h) (i := m) (by omega)
          rw [Wn.Fs.drop_len (i := m + 1) (by omega)] at hd
          obtain ⟨b, o, rfl, j0, ⟨j1, j2, j3⟩, u, j4, hu⟩ := HV2.out.at hd
          have hform : ∃ ao n c, u = .slice ao n c := by obtain ⟨ao, cap, hv, _⟩ := hu.form; exact ⟨_, _, _, hv⟩
          obtain ⟨uo, un, uc, rfl⟩ := hform
          have hsplit : (h.take m).app (.cons k t x .nil) = h := by rw [← hd]; exact Wn.Fs.take_drop h m
          have hrt := Wn.rtrim_snoc (h.take m) k t x
          rw [hsplit] at hrt
          have HRT := Lib.hid hrt
          have hsub := HV2.out.sub 0 m (by omega) (by omega)
          rw [Wn.Fs.drop_zero] at hsub
          simp only [Nat.zero_mul, Nat.add_zero, Nat.sub_zero] at hsub
          have hst := Wn.Fs.size_take h m
          have HTL : Hid ((h.take m).len = m) := Lib.hid (by rw [Wn.Fs.take_len]; omega)
          have HSub := Lib.hid hsub
          have QB := Lib.hid (fun w => isBlank_v k t (.slice uo un uc) w ⟨_, _, _, rfl⟩)
          rw [show o + m * 5 + 1 + 1 = o + m * 5 + 2 by omega] at j2
          rw [show o + m * 5 + 1 + 2 = o + m * 5 + 3 by omega] at j3
          clear hd hu hsplit hrt hsub
          generalize hbl : Wn.blankV k t = bl at *
          have HBL := Lib.hid hbl; clear hbl
          generalize Wn.str t.2.1 = y at *
          generalize t.1 = tk at *
          generalize t.2.2 = tn at *
          rw [hm] at HV2 hh1 ⊢
          clear hpos hm
          go_wp2_with fail
          refine (QB.out _).mono ?_
          rintro e w5 ⟨rfl, b5⟩
          have HBz := Lib.hid (HB2.out.trans (b5.mono HB2.out.size))
          cases bl
          · have HF : Hid (Wn.trimF f = h) := Lib.hid (by rw [← HD2.out, HRT.out]; rfl)
            have QC := Lib.hid (copy_any (.slice (some ⟨b, o, none⟩) (m + 1) cap) h w5 (HV2.out.below b5) (by omega))
            clear HV2 HD2 HB2 HRT HSub QB b5 j0 j1 j2 j3 j4
            go_wp2_with fail
            refine QC.out.mono ?_
            rintro e w7 ⟨r7, rfl, hv7, b7⟩
            have HB7 := Lib.hid (HBz.out.trans (b7.mono HBz.out.size))
            have hs7 := HBz.out.size
            have HV7 : Hid (ValsP w7 (fun b => w.heap.size ≤ b) r7 (Wn.trimF f)) := Lib.hid (by rw [HF.out]; exact hv7.mono (fun b hb _ => by omega))
            clear hv7 b7 HF QC HBz
            go_wp2_with fail
            go_ret
            exact ⟨_, rfl, HV7.out, HB7.out⟩
          · have HD3 : Hid (Wn.rtrim (h.take m) = Wn.trimF f) := Lib.hid (by rw [← HD2.out, HRT.out]; rfl)
            have HSub5 : Hid (Vals w5 (.slice (some ⟨b, o, none⟩) (h.take m).len cap) (h.take m)) := Lib.hid (by rw [HTL.out]; exact HSub.out.below b5)
            clear b5 QB HRT HBL HD2 HSub HB2 HV2 j0 j1 j2 j3 j4
            go_wp2_with fail
            exact ⟨⟨h.take m, _, _, by rw [HTL.out], by rw [HTL.out]; omega, by unfold maxLen; omega, by omega, HSub5, HD3, HBz⟩, by simp [lenOf]⟩
    | cons k t x r =>
      obtain ⟨b, o, rfl, j0, ⟨j1, j2, j3⟩, u, j4, hu⟩ := HVg.out.at (i := 0) (Wn.Fs.drop_zero _)
      have hform : ∃ ao n c, u = .slice ao n c := by obtain ⟨ao, cap, hv, _⟩ := hu.form; exact ⟨_, _, _, hv⟩
      obtain ⟨uo, un, uc, rfl⟩ := hform
      simp only [Nat.zero_mul, Nat.add_zero] at j0 j1 j2 j3 j4
      rw [show o + 1 + 1 = o + 2 by omega] at j2
      rw [show o + 1 + 2 = o + 3 by omega] at j3
      have hsub := HVg.out.subC 1 (r.len + 1) (by omega) (by simp [Wn.Fs.len])
      rw [show (Wn.Fs.cons k t x r).drop 1 = r by rw [Wn.Fs.drop, Wn.Fs.drop_zero], Wn.Fs.take_all r (by omega)] at hsub
      simp only [Nat.one_mul, Nat.add_sub_cancel] at hsub
      have HSub := Lib.hid hsub
      have hrs : r.size ≤ f.size := by simp only [Wn.Fs.size] at hg3; omega
      have QB := Lib.hid (fun w => isBlank_v k t (.slice uo un uc) w ⟨_, _, _, rfl⟩)
      clear hu hsub
      generalize hbl : Wn.blankV k t = bl at *
      have HBL := Lib.hid hbl; clear hbl
      generalize hk : Wn.Fs.cons k t x r = g at *
      have HK := Lib.hid hk
      have hgl : g.len = r.len + 1 := by rw [← hk]; rfl
      rw [hgl] at hg1 HVg ⊢
      have HGL := Lib.hid hgl
      clear hk hgl
      unfold maxLen at hg2
      generalize Wn.str t.2.1 = y at *
      go_wp2_with fail
      refine (QB.out _).mono ?_
      rintro e w5 ⟨rfl, b5⟩
      have HB5 := Lib.hid (HBg.out.trans (b5.mono HBg.out.size))
      have HV5 := Lib.hid (HVg.out.below b5)
      have HSub5 := Lib.hid (HSub.out.below b5)
      clear b5 QB HSub j0 j1 j2 j3 j4
      cases bl
      · have HDg : Hid (Wn.rtrim g = Wn.trimF f) := Lib.hid (by unfold Wn.trimF; rw [← HDr.out, ← HK.out, Wn.dropB, HBL.out]; rfl)
        have HV5g : Hid (Vals w5 (.slice (some ⟨b, o, none⟩) g.len cap) g) := Lib.hid (by rw [HGL.out]; exact HV5.out)
        have hgc : g.len ≤ cap := by rw [HGL.out]; exact hg1
        have hgm : cap ≤ maxLen := hg2
        have HE : Hid (g.len = r.len + 1) := HGL
        clear HVg HBg HSub5 HDr HBL HK HV5 hrs
        go_wp2_with fail
        go_loopw [0] (fun v0 wr => ∃ (h : Wn.Fs) (ao : Option Addr) (cap : Nat), v0 = .slice ao h.len cap ∧ h.len ≤ cap ∧ cap ≤ maxLen ∧ h.size ≤ f.size ∧ Hid (Vals wr (.slice ao h.len cap) h) ∧ Hid (Wn.rtrim h = Wn.trimF f) ∧ Hid (Below w.heap.size w wr)) (fun v0 _ => lenOf v0)
        case atStart => exact ⟨g, _, _, by rw [HE.out], hgc, hgm, hg3, HV5g, HDg, HB5⟩
        case round =>
          obtain ⟨h, ao, cap, rfl, hh1, hh2, hh3, HV2, HD2, HB2⟩ := hrel
          unfold maxLen at hh2
          rcases Nat.eq_zero_or_pos h.len with hz | hpos
          · have HF : Hid (Wn.trimF f = h) := Lib.hid (by rw [← HD2.out, Wn.Fs.len_zero hz]; rfl)
            have QC := Lib.hid (copy_any (.slice ao h.len cap) h wr HV2.out (by omega))
            have HBz := HB2
            rw [hz] at QC hh1 ⊢
            clear HV2 HD2 HB2 hz
            go_wp2_with fail
            refine QC.out.mono ?_
            rintro e w7 ⟨r7, rfl, hv7, b7⟩
            have HB7 := Lib.hid (HBz.out.trans (b7.mono HBz.out.size))
            have hs7 := HBz.out.size
            have HV7 : Hid (ValsP w7 (fun b => w.heap.size ≤ b) r7 (Wn.trimF f)) := Lib.hid (by rw [HF.out]; exact hv7.mono (fun b hb _ => by omega))
            clear hv7 b7 HF QC HBz
            go_wp2_with fail
            go_ret
            exact ⟨_, rfl, HV7.out, HB7.out⟩
          · obtain ⟨m, hm⟩ : ∃ m, h.len = m + 1 := ⟨h.len - 1, by omega⟩
            obtain ⟨k, t, x, hd⟩ := Wn.Fs.drop_cons (f := h) (i := m) (by omega)
            rw [Wn.Fs.drop_len (i := m + 1) (by omega)] at hd
            obtain ⟨b, o, rfl, j0, ⟨j1, j2, j3⟩, u, j4, hu⟩ := HV2.out.at hd
            have hform : ∃ ao n c, u = .slice ao n c := by obtain ⟨ao, cap, hv, _⟩ := hu.form; exact ⟨_, _, _, hv⟩
            obtain ⟨uo, un, uc, rfl⟩ := hform
            have hsplit : (h.take m).app (.cons k t x .nil) = h := by rw [← hd]; exact Wn.Fs.take_drop h m
            have hrt := Wn.rtrim_snoc (h.take m) k t x
            rw [hsplit] at hrt
            have HRT := Lib.hid hrt
            have hsub := HV2.out.sub 0 m (by omega) (by omega)
            rw [Wn.Fs.drop_zero] at hsub
            simp only [Nat.zero_mul, Nat.add_zero, Nat.sub_zero] at hsub
            have hst := Wn.Fs.size_take h m
            have HTL : Hid ((h.take m).len = m) := Lib.hid (by rw [Wn.Fs.take_len]; omega)
            have HSub := Lib.hid hsub
            have QB := Lib.hid (fun w => isBlank_v k t (.slice uo un uc) w ⟨_, _, _, rfl⟩)
            rw [show o + m * 5 + 1 + 1 = o + m * 5 + 2 by omega] at j2
            rw [show o + m * 5 + 1 + 2 = o + m * 5 + 3 by omega] at j3
            clear hd hu hsplit hrt hsub
            generalize hbl : Wn.blankV k t = bl at *
            have HBL := Lib.hid hbl; clear hbl
            generalize Wn.str t.2.1 = y at *
            generalize t.1 = tk at *
            generalize t.2.2 = tn at *
            rw [hm] at HV2 hh1 ⊢
            clear hpos hm
            go_wp2_with fail
            refine (QB.out _).mono ?_
            rintro e w5 ⟨rfl, b5⟩
            have HBz := Lib.hid (HB2.out.trans (b5.mono HB2.out.size))
            cases bl
            · have HF : Hid (Wn.trimF f = h) := Lib.hid (by rw [← HD2.out, HRT.out]; rfl)
              have QC := Lib.hid (copy_any (.slice (some ⟨b, o, none⟩) (m + 1) cap) h w5 (HV2.out.below b5) (by omega))
              clear HV2 HD2 HB2 HRT HSub QB b5 j0 j1 j2 j3 j4
              go_wp2_with fail
              refine QC.out.mono ?_
              rintro e w7 ⟨r7, rfl, hv7, b7⟩
              have HB7 := Lib.hid (HBz.out.trans (b7.mono HBz.out.size))
              have hs7 := HBz.out.size
              have HV7 : Hid (ValsP w7 (fun b => w.heap.size ≤ b) r7 (Wn.trimF f)) := Lib.hid (by rw [HF.out]; exact hv7.mono (fun b hb _ => by omega))
              clear hv7 b7 HF QC HBz
              go_wp2_with fail
              go_ret
              exact ⟨_, rfl, HV7.out, HB7.out⟩
            · have HD3 : Hid (Wn.rtrim (h.take m) = Wn.trimF f) := Lib.hid (by rw [← HD2.out, HRT.out]; rfl)
              have HSub5 : Hid (Vals w5 (.slice (some ⟨b, o, none⟩) (h.take m).len cap) (h.take m)) := Lib.hid (by rw [HTL.out]; exact HSub.out.below b5)
              clear b5 QB HRT HBL HD2 HSub HB2 HV2 j0 j1 j2 j3 j4
              go_wp2_with fail
              exact ⟨⟨h.take m, _, _, by rw [HTL.out], by rw [HTL.out]; omega, by unfold maxLen; omega, by omega, HSub5, HD3, HBz⟩, by simp [lenOf]⟩
      · have HD3 : Hid (Wn.dropB r = Wn.dropB f) := Lib.hid (by rw [← HDr.out, ← HK.out, Wn.dropB, HBL.out]; rfl)
        clear HVg HBg HDr HBL HK HV5 HGL
        go_wp2_with fail
        exact ⟨⟨r, _, _, rfl, by omega, by unfold maxLen; omega, hrs, HSub5, HD3, HB5⟩, by simp [lenOf]⟩
end Go.Proofs.YtjlejiphpbaonaaGreatDoor
