/- What nest.Parse answers. What nest.openingToken, appendFlat and Flat answer. What nest.appendFlat and Flat answer. -/
import Derived.Test.YtncknaagbafhhaaGreatDoorGO
import Derived.Recover
set_option linter.unusedVariables false
set_option linter.unusedSimpArgs false
set_option maxRecDepth 20000
namespace Go.Proofs.YtncknaagbafhhaaGreatDoor
open Go.RowKit Go.Sort
theorem run_deep (w : World) : (Instr.typeAssert (.iface 147 (.agg #[])) 20 147 true).run Tryz.prog w = .ok (.tuple #[.agg #[], .bool true]) w := by
  simp [Instr.typeAssert, run_underlying Tryz.underlying147]
theorem catch_idle (p q : Addr) (w : World) :
    CallsD Tryz.prog 108 #[.pointer (some p), .pointer (some q)] .returning w fun e u' w' => e = .returned (.tuple #[]) ∧ u' = .returning ∧ w' = w := by
  refine callsD_of_wpS Tryz.func108 rfl fun c₀ cs hu => ?_
  apply wpS_seq
  apply wpS_region
  simp [wpOpsS, go_sem, recoverD, hu, Tryz.ntmps108, Exit.thenS]
  rw [show (#[Value.pointer (some p), Value.pointer (some q)] ++ ((Array.replicate 14 undef).setIfInBounds 3 Value.nilIface).setIfInBounds 0 Value.nilIface : Array Value) = #[Value.pointer (some p), Value.pointer (some q), Value.nilIface, undef, undef, Value.nilIface, undef, undef, undef, undef, undef, undef, undef, undef, undef, undef] from rfl]
  refine wpS_of_wp ?_
  go_wp2_with fail
  cases c₀
  simp_all [bodyPostS, results, Tryz.results108]
theorem catch_panicking (b : Nat) (w : World) (x y : Value) (hp : w.cell? ⟨b, 0, none⟩ = some x) (hq : w.cell? ⟨b + 1, 0, none⟩ = some y) (zp : w.frozen? ⟨b, 0, none⟩ = false) (zq : w.frozen? ⟨b + 1, 0, none⟩ = false) (hb : b + 1 < w.heap.size) :
    CallsD Tryz.prog 108 #[.pointer (some ⟨b, 0, none⟩), .pointer (some ⟨b + 1, 0, none⟩)] (.panicking tooDeep) w fun e u' w' =>
      e = .returned (.tuple #[]) ∧ u' = .panicking [{ v := .iface 147 (.agg #[]), recovered := true }] ∧ w' = ((w.setCell ⟨b, 0, none⟩ (.slice none 0 0)).setCell ⟨b + 1, 0, none⟩ (.int .i64 20)).alloc (.cells #[] 147) := by
  unfold tooDeep
  have h0 : b < w.heap.size := by omega
  have n0 : ¬ b = w.heap.size := by omega
  have n1 : ¬ b + 1 = w.heap.size := by omega
  refine callsD_of_wpS Tryz.func108 rfl fun c₀ cs hu => ?_
  apply wpS_seq
  apply wpS_region
  simp [wpOpsS, go_sem, recoverD, hu, Tryz.ntmps108, Exit.thenS]
  rw [show (#[Value.pointer (some ⟨b, 0, none⟩), Value.pointer (some ⟨b + 1, 0, none⟩)] ++ ((Array.replicate 14 undef).setIfInBounds 3 (Value.iface 147 (Value.agg #[]))).setIfInBounds 0 (Value.iface 147 (Value.agg #[])) : Array Value) = #[Value.pointer (some ⟨b, 0, none⟩), Value.pointer (some ⟨b + 1, 0, none⟩), (Value.iface 147 (Value.agg #[])), undef, undef, (Value.iface 147 (Value.agg #[])), undef, undef, undef, undef, undef, undef, undef, undef, undef, undef] from rfl]
  refine wpS_of_wp ?_
  have hta := run_deep w
  go_wp2_with fail
  simp [bodyPostS, results, Tryz.results108]
def ParsePost (w : World) (l : List Wn.Tok) (deep : Int) (e : Ending) (w' : World) : Prop :=
  Below w.heap.size w w' ∧ if deep < 1 ∨ 60 < deep then e = .returned (.tuple #[.slice none 0 0, .int .i64 1]) else
    match Wn.parse l deep.toNat with
    | some f => ∃ r, e = .returned (.tuple #[r, .int .i64 0]) ∧ ValsP w' (fun b => w.heap.size ≤ b) r f
    | none => e = .returned (.tuple #[.slice none 0 0, .int .i64 20])
theorem parse_valsL (l : List Wn.Tok) (n : Nat) : Wn.parse l n = (Wn.valsL 0 n l).map (·.1) := rfl
set_option maxHeartbeats 400000 in
theorem Parse_arg (v : Value) (l : List Wn.Tok) (deep : Int) (w : World) (h : deep < 1 ∨ 60 < deep) :
    Calls Tryz.prog 69 #[v, .int .i64 deep] w (ParsePost w l deep) := by
  have hmf : ∀ (fn : Fn) (first cap : Array Value) (w : World), (Instr.makeFunc fn first cap).run Tryz.prog w = .ok (.func fn first cap) w := fun _ _ _ _ => rfl
  have HH := Lib.hid h
  have hB : Below w.heap.size w ((w.alloc (Obj.cells #[Value.slice none 0 0] 22)).alloc (Obj.cells #[Value.int IntKind.i64 1] 27)) := ((Below.refl _ _).alloc (Nat.le_refl _) _).alloc (by simp) _
  have HB := Lib.hid hB; clear hB
  rcases h with h | h
  all_goals
    go_enter_defers Tryz.func69, Tryz.ntmps69
    go_wp2_with fail
    exact ⟨.tuple #[.slice none 0 0, .int .i64 1], by simp [results, Tryz.results69, go_sem], HB.out, by rw [if_pos HH.out]⟩
/-- the world in which the parser begins -/
structure Begun (w W : World) (v : Value) (deep : Int) : Prop where
  below : Below w.heap.size w W
  size : W.heap.size = w.heap.size + 4
  c0 : W.heap[w.heap.size]? = some (.cells #[.slice none 0 0] 22)
  c1 : W.heap[w.heap.size + 1]? = some (.cells #[.int .i64 0] 27)
  map : W.heap[w.heap.size + 1 + 1]? = some fenceObj
  par : W.heap[w.heap.size + 1 + 1 + 1]? = some (.cells #[v, .int .i64 deep, .map (some (w.heap.size + 1 + 1))] 152)
theorem begun (w : World) (v : Value) (deep : Int) : Begun w ((((w.alloc (.cells #[.slice none 0 0] 22)).alloc (.cells #[.int .i64 0] 27)).alloc fenceObj).alloc (.cells #[v, .int .i64 deep, .map (some (w.heap.size + 1 + 1))] 152)) v deep := by
  have s1 : (w.alloc (.cells #[.slice none 0 0] 22)).heap.size = w.heap.size + 1 := by simp
  have s2 : ((w.alloc (.cells #[.slice none 0 0] 22)).alloc (.cells #[.int .i64 0] 27)).heap.size = w.heap.size + 1 + 1 := by simp
  have s3 : (((w.alloc (.cells #[.slice none 0 0] 22)).alloc (.cells #[.int .i64 0] 27)).alloc fenceObj).heap.size = w.heap.size + 1 + 1 + 1 := by simp
  have n0 := heap_alloc_new w (.cells #[.slice none 0 0] 22)
  have n1 := heap_alloc_new (w.alloc (.cells #[.slice none 0 0] 22)) (.cells #[.int .i64 0] 27)
  have n2 := heap_alloc_new ((w.alloc (.cells #[.slice none 0 0] 22)).alloc (.cells #[.int .i64 0] 27)) fenceObj
  have n3 := heap_alloc_new (((w.alloc (.cells #[.slice none 0 0] 22)).alloc (.cells #[.int .i64 0] 27)).alloc fenceObj) (.cells #[v, .int .i64 deep, .map (some (w.heap.size + 1 + 1))] 152)
  rw [s1] at n1
  rw [s2] at n2
  rw [s3] at n3
  refine ⟨((((Below.refl _ _).alloc (Nat.le_refl _) _).alloc (by simp) _).alloc (by simp; omega) _).alloc (by simp; omega) _, by simp, ?_, ?_, block_alloc n2 _, n3⟩
  · exact block_alloc (block_alloc (block_alloc n0 _) _) _
  · exact block_alloc (block_alloc n1 _) _
theorem Below.andOnly {B g : Nat} {w0 W W' : World} (h : Below B w0 W) (ho : Only g W W') (hg : B ≤ g) (hs : B ≤ W.heap.size) : Below B w0 W' :=
  h.trans ⟨ho.os, ho.tape, ho.output, ho.size, fun k hk => ho.block k (by omega) (by omega)⟩
set_option maxRecDepth 100000 in
set_option maxHeartbeats 1000000 in
theorem Parse_in (v : Value) (l : List Wn.Tok) (deep : Int) (w : World) (h1 : 1 ≤ deep) (h2 : deep ≤ 60) (hT : Toks w v l) (hl : l.length < 1000000) :
    Calls Tryz.prog 69 #[v, .int .i64 deep] w (ParsePost w l deep) := by
  have hmf : ∀ (fn : Fn) (first cap : Array Value) (w : World), (Instr.makeFunc fn first cap).run Tryz.prog w = .ok (.func fn first cap) w := fun _ _ _ _ => rfl
  have HH : Hid (¬ (deep < 1 ∨ 60 < deep)) := Lib.hid (by omega)
  have HT := Lib.hid hT
  obtain ⟨ao, cap, rfl, _⟩ := hT
  have BG := Lib.hid (begun w (.slice ao l.length cap) deep)
  generalize hres : Wn.valsL 0 deep.toNat l = res
  have HRes := Lib.hid hres
  have QV := Lib.hid (fun W hp hm ht => values_all (w.heap.size + 1 + 1 + 1) (w.heap.size + 1 + 1) deep h2 1000000 (by omega) 0 deep.toNat l (.slice ao l.length cap) W 0 hl hp hm ht (by omega) (by omega))
  rw [hres] at QV
  clear hres
  generalize l.length = n at *
  go_enter_defers Tryz.func69, Tryz.ntmps69
  go_wp2_with fail
  refine (fences_any _).mono ?_
  rintro e w1 ⟨rfl, rfl⟩
  go_wp2_with fail
  generalize (((w.alloc (.cells #[.slice none 0 0] 22)).alloc (.cells #[.int .i64 0] 27)).alloc fenceObj).alloc (.cells #[.slice ao n cap, .int .i64 deep, .map (some (w.heap.size + 1 + 1))] 152) = W at *
  refine (QV.out W ⟨BG.out.par, _, _, _, rfl⟩ BG.out.map (HT.out.below BG.out.below)).mono ?_
  have hz := BG.out.size
  cases res with
  | none =>
    rintro e w2 ⟨rfl, ho⟩
    have hB := Below.andOnly BG.out.below ho (by omega) (by omega)
    have hs := ho.size
    have b0 := (ho.block w.heap.size (by omega) (by omega)).trans BG.out.c0
    have b1 := (ho.block (w.heap.size + 1) (by omega) (by omega)).trans BG.out.c1
    have q0 := cell_of_block (o := 0) b0
    have q1 := cell_of_block (o := 0) b1
    refine leaves_cons (f := 108) (args := #[.pointer (some ⟨w.heap.size, 0, none⟩), .pointer (some ⟨w.heap.size + 1, 0, none⟩)]) (by simp) (by simp [go_sem]) ?_
    refine (catch_panicking w.heap.size w2 _ _ q0 q1 (frozen_blk b0 0) (frozen_blk b1 0) (by omega)).mono ?_
    rintro e u' w'' ⟨rfl, rfl, rfl⟩
    refine ⟨.tuple #[.slice none 0 0, .int .i64 20], ?_, ?_, ?_⟩
    · have h1 : w.heap.size + 1 < w2.heap.size := by omega
      have h0 : w.heap.size < w2.heap.size := by omega
      have n1 : ¬ w.heap.size + 1 = w2.heap.size := by omega
      have n0 : ¬ w.heap.size = w2.heap.size := by omega
      simp [results, Tryz.results69, go_sem, q0, q1, h0, h1, n0, n1]
    · exact ((hB.setCell (p := ⟨w.heap.size, 0, none⟩) (Nat.le_refl _) _).setCell (p := ⟨w.heap.size + 1, 0, none⟩) (Nat.le_succ _) _).alloc (by simp [World.setCell]; omega) _
    · rw [if_neg HH.out, parse_valsL, HRes.out]; rfl
  | some p =>
    rintro e w2 ⟨r, v', rfl, hr, hp, ht, ho⟩
    have hB := Below.andOnly BG.out.below ho (by omega) (by omega)
    have hs := ho.size
    have b0 := (ho.block w.heap.size (by omega) (by omega)).trans BG.out.c0
    have b1 := (ho.block (w.heap.size + 1) (by omega) (by omega)).trans BG.out.c1
    have q0 := cell_of_block (o := 0) b0
    have q1 := cell_of_block (o := 0) b1
    have z0 := frozen_blk b0 0
    have z1 := frozen_blk b1 0
    simp only [List.getElem?_toArray, List.getElem?_cons_zero] at q0 q1
    have HB := Lib.hid hB
    have HS := Lib.hid hr
    have HZ := Lib.hid hz
    have hform : ∃ ao n c, r = .slice ao n c := by obtain ⟨ao, cap, hv, _⟩ := hr.form; exact ⟨_, _, _, hv⟩
    obtain ⟨ro, rn, rc, rfl⟩ := hform
    clear hB hr hp ht ho b0 b1 QV hz hs
    go_wp2_with fail
    refine leaves_cons (f := 108) (args := #[.pointer (some ⟨w.heap.size, 0, none⟩), .pointer (some ⟨w.heap.size + 1, 0, none⟩)]) (by simp) (by simp [go_sem]) ?_
    refine (catch_idle _ _ _).mono ?_
    rintro e u' w'' ⟨rfl, rfl, rfl⟩
    refine ⟨.tuple #[.slice ro rn rc, .int .i64 0], by simp [results, Tryz.results69, go_sem, q0, q1], ?_, ?_⟩
    · exact (HB.out.setCell (p := ⟨w.heap.size, 0, none⟩) (Nat.le_refl _) _).setCell (p := ⟨w.heap.size + 1, 0, none⟩) (Nat.le_succ _) _
    · rw [if_neg HH.out, parse_valsL, HRes.out]
      refine ⟨_, rfl, HS.out.same (fun b hb hl => ?_) (fun b hb _ => ?_)⟩
      · have := HZ.out
        rw [Below.heap_setCell _ _ _ _ (by show b ≠ w.heap.size + 1; omega), Below.heap_setCell _ _ _ _ (by show b ≠ w.heap.size; omega)]
      · have := HZ.out; omega
theorem Parse_any (v : Value) (l : List Wn.Tok) (deep : Int) (w : World) (hT : Toks w v l) (hl : l.length < 1000000) :
    Calls Tryz.prog 69 #[v, .int .i64 deep] w (ParsePost w l deep) := by
  by_cases h : deep < 1 ∨ 60 < deep
  · exact Parse_arg v l deep w h
  · exact Parse_in v l deep w (by omega) (by omega) hT hl
end Go.Proofs.YtncknaagbafhhaaGreatDoor
set_option linter.unusedVariables false
set_option linter.unusedSimpArgs false
set_option maxRecDepth 20000
namespace Wn
theorem Fs.size_drop {f : Fs} {i : Nat} {k : Int} {t : Tok} {x r : Fs} (h : f.drop i = .cons k t x r) : x.size < f.size := by
  induction f generalizing i with
  | nil => cases i <;> simp [Fs.drop] at h
  | cons k' t' x' r' ih1 ih2 =>
    cases i with
    | zero => rw [Fs.drop_zero] at h; simp only [Fs.cons.injEq] at h; obtain ⟨_, _, rfl, _⟩ := h; simp only [Fs.size]; omega
    | succ i => rw [Fs.drop] at h; have := ih2 h; simp only [Fs.size]; omega
end Wn
namespace Go.Proofs.YtncknaagbafhhaaGreatDoor
open Go.RowKit Go.Sort
/-- what appending has done: all old blocks but the row's own are as they were; the row lies where it lay, or in new memory -/
structure Grow (r : Value) (w w' : World) (r' : Value) : Prop where
  by_ : w.grownBy w' r.ownBlock
  at_ : r'.ownBlock = r.ownBlock ∨ ∃ n, w.heap.size ≤ n ∧ r'.ownBlock = some n
theorem Grow.refl (r : Value) (w : World) : Grow r w w r := ⟨⟨rfl, rfl, rfl, Nat.le_refl _, fun _ _ _ => rfl⟩, .inl rfl⟩
theorem Grow.avoid {r r' : Value} {w w' : World} (h : Grow r w w' r') {b : Nat} (hb : b < w.heap.size) (hr : some b ≠ r.ownBlock) : some b ≠ r'.ownBlock := by
  rcases h.at_ with e | ⟨n, hn, e⟩
  · rw [e]; exact hr
  · rw [e]; intro e'; simp at e'; omega
theorem Grow.trans {r r1 r2 : Value} {w w1 w2 : World} (h : Grow r w w1 r1) (k : Grow r1 w1 w2 r2) : Grow r w w2 r2 := by
  refine ⟨⟨k.by_.os.trans h.by_.os, k.by_.tape.trans h.by_.tape, k.by_.output.trans h.by_.output, Nat.le_trans h.by_.size k.by_.size, fun b hb hr => (k.by_.block b (Nat.lt_of_lt_of_le hb h.by_.size) (h.avoid hb hr)).trans (h.by_.block b hb hr)⟩, ?_⟩
  rcases k.at_ with e | ⟨n, hn, e⟩
  · rw [e]; exact h.at_
  · exact .inr ⟨n, Nat.le_trans h.by_.size hn, e⟩
theorem Grow.below {r r' : Value} {w w' w2 : World} (h : Grow r w w' r') (hb : Below w'.heap.size w' w2) : Grow r w w2 r' := h.trans ⟨grown_none hb |> fun g => ⟨g.os, g.tape, g.output, g.size, fun b hl _ => hb.block b hl⟩, .inl rfl⟩
theorem Grow.vals {r r' : Value} {w w' : World} (h : Grow r w w' r') {base : Nat} (hbase : ∀ b, r.ownBlock = some b → base ≤ b) {v : Value} {f : Wn.Fs} (hv : ValsP w (fun b => b < base) v f) : ValsP w' (fun b => b < base) v f :=
  hv.same (fun b hb hl => h.by_.block b hl (fun e => by have := hbase b e.symm; omega)) (fun _ h _ => h)
theorem Grow.map {r r' : Value} {w w' : World} {B n : Nat} {xs : List Value} (h : Grow r w w' r') (ho : w.ownsRow B 78 3 r n xs) {m : Nat} (hm : w.heap[m]? = some fenceObj) : w'.heap[m]? = some fenceObj := by
  refine (h.by_.block m (block_lt hm) (fun e => ?_)).trans hm
  obtain ⟨_, hh⟩ := ho
  rcases hh with ⟨hv, _⟩ | ⟨q, cap, cur, hv, _, hq, _⟩
  · rw [hv] at e; simp [Value.ownBlock] at e
  · rw [hv] at e
    simp [Value.ownBlock] at e
    rw [← e, hm] at hq
    simp [fenceObj] at hq
/-- a row of tokens of the call's own, and what else it stands on -/
structure Rows3 (base m : Nat) (W : World) (r v : Value) (f : Wn.Fs) (acc : List Wn.Tok) : Prop where
  own : W.ownsRow base 78 3 r acc.length (toksCells acc)
  vals : ValsP W (fun b => b < base) v f
  map : W.heap[m]? = some fenceObj
  size : base ≤ W.heap.size
theorem Rows3.below {base m : Nat} {W W' : World} {r v : Value} {f : Wn.Fs} {acc : List Wn.Tok} (h : Rows3 base m W r v f acc) (hb : Below W.heap.size W W') : Rows3 base m W' r v f acc :=
  ⟨ownsRow_later h.own hb, h.vals.below hb, block_lat hb h.map, Nat.le_trans h.size hb.size⟩
theorem Rows3.grow {base m : Nat} {W W' : World} {r r' v : Value} {f : Wn.Fs} {acc acc' : List Wn.Tok} (h : Rows3 base m W r v f acc) (hg : Grow r W W' r') (ho : W'.ownsRow base 78 3 r' acc'.length (toksCells acc')) : Rows3 base m W' r' v f acc' :=
  ⟨ho, hg.vals (fun b hb => (h.own.lt b hb).1) h.vals, hg.map h.own h.map, Nat.le_trans h.size hg.by_.size⟩
end Go.Proofs.YtncknaagbafhhaaGreatDoor
set_option linter.unusedVariables false
set_option linter.unusedSimpArgs false
set_option maxRecDepth 20000
namespace Go.Proofs.YtncknaagbafhhaaGreatDoor
open Go.RowKit Go.Sort
def AFPost (base : Nat) (r : Value) (w : World) (l : List Wn.Tok) (e : Ending) (w' : World) : Prop := ∃ r', e = .returned r' ∧ w'.ownsRow base 78 3 r' l.length (toksCells l) ∧ Grow r w w' r'
theorem Vals.old {w : World} {v : Value} {f : Wn.Fs} (h : Vals w v f) : ValsP w (fun b => b < w.heap.size) v f := ValsP.mono h (fun _ _ hl => hl)
def FlatPost (w : World) (l : List Wn.Tok) (e : Ending) (w' : World) : Prop := ∃ r, e = .returned r ∧ w'.ownsRow w.heap.size 78 3 r l.length (toksCells l) ∧ Below w.heap.size w w'
end Go.Proofs.YtncknaagbafhhaaGreatDoor
