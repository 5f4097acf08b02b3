/- What nest.Parse answers. What nest.openingToken, appendFlat and Flat answer. What nest.appendFlat and Flat answer. -/
import Derived.Test.YtjlejiphpbaonaaGreatDoorGO
import Derived.Recover
set_option linter.unusedVariables false
set_option linter.unusedSimpArgs false
set_option maxRecDepth 20000
namespace Go.Proofs.YtjlejiphpbaonaaGreatDoor
open Go.RowKit Go.Sort
theorem run_deep (w : World) : (Instr.typeAssert (.iface 114 (.agg #[])) 20 114 true).run Tryz.prog w = .ok (.tuple #[.agg #[], .bool true]) w := by
  simp [Instr.typeAssert, run_underlying Tryz.underlying114]
theorem catch_idle (p q : Addr) (w : World) :
    CallsD Tryz.prog 114 #[.pointer (some p), .pointer (some q)] .returning w fun e u' w' => e = .returned (.tuple #[]) ∧ u' = .returning ∧ w' = w := by
  refine callsD_of_wpS Tryz.func114 rfl fun c₀ cs hu => ?_
  apply wpS_seq
  apply wpS_region
  simp [wpOpsS, go_sem, recoverD, hu, Tryz.ntmps114, Exit.thenS]
  rw [show (#[Value.pointer (some p), Value.pointer (some q)] ++ ((Array.replicate 14 undef).setIfInBounds 3 Value.nilIface).setIfInBounds 0 Value.nilIface : Array Value) = #[Value.pointer (some p), Value.pointer (some q), Value.nilIface, undef, undef, Value.nilIface, undef, undef, undef, undef, undef, undef, undef, undef, undef, undef] from rfl]
  refine wpS_of_wp ?_
  go_wp2_with fail
  cases c₀
  simp_all [bodyPostS, results, Tryz.results114]
theorem catch_panicking (b : Nat) (w : World) (x y : Value) (hp : w.cell? ⟨b, 0, none⟩ = some x) (hq : w.cell? ⟨b + 1, 0, none⟩ = some y) (zp : w.frozen? ⟨b, 0, none⟩ = false) (zq : w.frozen? ⟨b + 1, 0, none⟩ = false) (hb : b + 1 < w.heap.size) :
    CallsD Tryz.prog 114 #[.pointer (some ⟨b, 0, none⟩), .pointer (some ⟨b + 1, 0, none⟩)] (.panicking tooDeep) w fun e u' w' =>
      e = .returned (.tuple #[]) ∧ u' = .panicking [{ v := .iface 114 (.agg #[]), recovered := true }] ∧ w' = ((w.setCell ⟨b, 0, none⟩ (.slice none 0 0)).setCell ⟨b + 1, 0, none⟩ (.int .i64 20)).alloc (.cells #[] 114) := by
  unfold tooDeep
  have h0 : b < w.heap.size := by omega
  have n0 : ¬ b = w.heap.size := by omega
  have n1 : ¬ b + 1 = w.heap.size := by omega
  refine callsD_of_wpS Tryz.func114 rfl fun c₀ cs hu => ?_
  apply wpS_seq
  apply wpS_region
  simp [wpOpsS, go_sem, recoverD, hu, Tryz.ntmps114, Exit.thenS]
  rw [show (#[Value.pointer (some ⟨b, 0, none⟩), Value.pointer (some ⟨b + 1, 0, none⟩)] ++ ((Array.replicate 14 undef).setIfInBounds 3 (Value.iface 114 (Value.agg #[]))).setIfInBounds 0 (Value.iface 114 (Value.agg #[])) : Array Value) = #[Value.pointer (some ⟨b, 0, none⟩), Value.pointer (some ⟨b + 1, 0, none⟩), (Value.iface 114 (Value.agg #[])), undef, undef, (Value.iface 114 (Value.agg #[])), undef, undef, undef, undef, undef, undef, undef, undef, undef, undef] from rfl]
  refine wpS_of_wp ?_
  have hta := run_deep w
  go_wp2_with fail
  simp [bodyPostS, results, Tryz.results114]
def ParsePost (w : World) (l : List Wn.Tok) (deep : Int) (e : Ending) (w' : World) : Prop :=
  Below w.heap.size w w' ∧ if deep < 1 ∨ 60 < deep then e = .returned (.tuple #[.slice none 0 0, .int .i64 1]) else
    match Wn.parse l deep.toNat with
    | some f => ∃ r, e = .returned (.tuple #[r, .int .i64 0]) ∧ ValsP w' (fun b => w.heap.size ≤ b) r f
    | none => e = .returned (.tuple #[.slice none 0 0, .int .i64 20])
theorem parse_valsL (l : List Wn.Tok) (n : Nat) : Wn.parse l n = (Wn.valsL 0 n l).map (·.1) := rfl
set_option maxHeartbeats 400000 in
theorem Parse_arg (v : Value) (l : List Wn.Tok) (deep : Int) (w : World) (h : deep < 1 ∨ 60 < deep) :
    Calls Tryz.prog 91 #[v, .int .i64 deep] w (ParsePost w l deep) := by
  have hmf : ∀ (fn : Fn) (first cap : Array Value) (w : World), (Instr.makeFunc fn first cap).run Tryz.prog w = .ok (.func fn first cap) w := fun _ _ _ _ => rfl
  have HH := Lib.hid h
  have hB : Below w.heap.size w ((w.alloc (Obj.cells #[Value.slice none 0 0] 22)).alloc (Obj.cells #[Value.int IntKind.i64 1] 35)) := ((Below.refl _ _).alloc (Nat.le_refl _) _).alloc (by simp) _
  have HB := Lib.hid hB; clear hB
  rcases h with h | h
  all_goals
    go_enter_defers Tryz.func91, Tryz.ntmps91
    go_wp2_with fail
    exact ⟨.tuple #[.slice none 0 0, .int .i64 1], by simp [results, Tryz.results91, go_sem], HB.out, by rw [if_pos HH.out]⟩
/-- the world in which the parser begins -/
structure Begun (w W : World) (v : Value) (deep : Int) : Prop where
  below : Below w.heap.size w W
  size : W.heap.size = w.heap.size + 4
  c0 : W.heap[w.heap.size]? = some (.cells #[.slice none 0 0] 22)
  c1 : W.heap[w.heap.size + 1]? = some (.cells #[.int .i64 0] 35)
  map : W.heap[w.heap.size + 1 + 1]? = some fenceObj
  par : W.heap[w.heap.size + 1 + 1 + 1]? = some (.cells #[v, .int .i64 deep, .map (some (w.heap.size + 1 + 1))] 117)
theorem begun (w : World) (v : Value) (deep : Int) : Begun w ((((w.alloc (.cells #[.slice none 0 0] 22)).alloc (.cells #[.int .i64 0] 35)).alloc fenceObj).alloc (.cells #[v, .int .i64 deep, .map (some (w.heap.size + 1 + 1))] 117)) v deep := by
  have s1 : (w.alloc (.cells #[.slice none 0 0] 22)).heap.size = w.heap.size + 1 := by simp
  have s2 : ((w.alloc (.cells #[.slice none 0 0] 22)).alloc (.cells #[.int .i64 0] 35)).heap.size = w.heap.size + 1 + 1 := by simp
  have s3 : (((w.alloc (.cells #[.slice none 0 0] 22)).alloc (.cells #[.int .i64 0] 35)).alloc fenceObj).heap.size = w.heap.size + 1 + 1 + 1 := by simp
  have n0 := heap_alloc_new w (.cells #[.slice none 0 0] 22)
  have n1 := heap_alloc_new (w.alloc (.cells #[.slice none 0 0] 22)) (.cells #[.int .i64 0] 35)
  have n2 := heap_alloc_new ((w.alloc (.cells #[.slice none 0 0] 22)).alloc (.cells #[.int .i64 0] 35)) fenceObj
  have n3 := heap_alloc_new (((w.alloc (.cells #[.slice none 0 0] 22)).alloc (.cells #[.int .i64 0] 35)).alloc fenceObj) (.cells #[v, .int .i64 deep, .map (some (w.heap.size + 1 + 1))] 117)
  rw [s1] at n1
  rw [s2] at n2
  rw [s3] at n3
  refine ⟨((((Below.refl _ _).alloc (Nat.le_refl _) _).alloc (by simp) _).alloc (by simp; omega) _).alloc (by simp; omega) _, by simp, ?_, ?_, block_alloc n2 _, n3⟩
  · exact block_alloc (block_alloc (block_alloc n0 _) _) _
  · exact block_alloc (block_alloc n1 _) _
theorem Below.andOnly {B g : Nat} {w0 W W' : World} (h : Below B w0 W) (ho : Only g W W') (hg : B ≤ g) (hs : B ≤ W.heap.size) : Below B w0 W' :=
  h.trans ⟨ho.os, ho.tape, ho.output, ho.size, fun k hk => ho.block k (by omega) (by omega)⟩
set_option maxRecDepth 100000 in
set_option maxHeartbeats 1000000 in
theorem Parse_in (v : Value) (l : List Wn.Tok) (deep : Int) (w : World) (h1 : 1 ≤ deep) (h2 : deep ≤ 60) (hT : Toks w v l) (hl : l.length < 1000000) :
    Calls Tryz.prog 91 #[v, .int .i64 deep] w (ParsePost w l deep) := by
  have hmf : ∀ (fn : Fn) (first cap : Array Value) (w : World), (Instr.makeFunc fn first cap).run Tryz.prog w = .ok (.func fn first cap) w := fun _ _ _ _ => rfl
  have HH : Hid (¬ (deep < 1 ∨ 60 < deep)) := Lib.hid (by omega)
  have HT := Lib.hid hT
  obtain ⟨ao, cap, rfl, _⟩ := hT
  have BG := Lib.hid (begun w (.slice ao l.length cap) deep)
  generalize hres : Wn.valsL 0 deep.toNat l = res
  have HRes := Lib.hid hres
  have QV := Lib.hid (fun W hp hm ht => values_all (w.heap.size + 1 + 1 + 1) (w.heap.size + 1 + 1) deep h2 1000000 (by omega) 0 deep.toNat l (.slice ao l.length cap) W 0 hl hp hm ht (by omega) (by omega))
  rw [hres] at QV
  clear hres
  generalize l.length = n at *
  go_enter_defers Tryz.func91, Tryz.ntmps91
  go_wp2_with fail
  refine (fences_any _).mono ?_
  rintro e w1 ⟨rfl, rfl⟩
  go_wp2_with fail
  generalize (((w.alloc (.cells #[.slice none 0 0] 22)).alloc (.cells #[.int .i64 0] 35)).alloc fenceObj).alloc (.cells #[.slice ao n cap, .int .i64 deep, .map (some (w.heap.size + 1 + 1))] 117) = W at *
  refine (QV.out W ⟨BG.out.par, _, _, _, rfl⟩ BG.out.map (HT.out.below BG.out.below)).mono ?_
  have hz := BG.out.size
  cases res with
  | none =>
    rintro e w2 ⟨rfl, ho⟩
    have hB := Below.andOnly BG.out.below ho (by omega) (by omega)
    have hs := ho.size
    have b0 := (ho.block w.heap.size (by omega) (by omega)).trans BG.out.c0
    have b1 := (ho.block (w.heap.size + 1) (by omega) (by omega)).trans BG.out.c1
    have q0 := cell_of_block (o := 0) b0
    have q1 := cell_of_block (o := 0) b1
    refine leaves_cons (f := 114) (args := #[.pointer (some ⟨w.heap.size, 0, none⟩), .pointer (some ⟨w.heap.size + 1, 0, none⟩)]) (by simp) (by simp [go_sem]) ?_
    refine (catch_panicking w.heap.size w2 _ _ q0 q1 (frozen_blk b0 0) (frozen_blk b1 0) (by omega)).mono ?_
    rintro e u' w'' ⟨rfl, rfl, rfl⟩
    refine ⟨.tuple #[.slice none 0 0, .int .i64 20], ?_, ?_, ?_⟩
    · have h1 : w.heap.size + 1 < w2.heap.size := by omega
      have h0 : w.heap.size < w2.heap.size := by omega
      have n1 : ¬ w.heap.size + 1 = w2.heap.size := by omega
      have n0 : ¬ w.heap.size = w2.heap.size := by omega
      simp [results, Tryz.results91, go_sem, q0, q1, h0, h1, n0, n1]
    · exact ((hB.setCell (p := ⟨w.heap.size, 0, none⟩) (Nat.le_refl _) _).setCell (p := ⟨w.heap.size + 1, 0, none⟩) (Nat.le_succ _) _).alloc (by simp [World.setCell]; omega) _
    · rw [if_neg HH.out, parse_valsL, HRes.out]; rfl
  | some p =>
    rintro e w2 ⟨r, v', rfl, hr, hp, ht, ho⟩
    have hB := Below.andOnly BG.out.below ho (by omega) (by omega)
    have hs := ho.size
    have b0 := (ho.block w.heap.size (by omega) (by omega)).trans BG.out.c0
    have b1 := (ho.block (w.heap.size + 1) (by omega) (by omega)).trans BG.out.c1
    have q0 := cell_of_block (o := 0) b0
    have q1 := cell_of_block (o := 0) b1
    have z0 := frozen_blk b0 0
    have z1 := frozen_blk b1 0
    simp only [List.getElem?_toArray, List.getElem?_cons_zero] at q0 q1
    have HB := Lib.hid hB
    have HS := Lib.hid hr
    have HZ := Lib.hid hz
    have hform : ∃ ao n c, r = .slice ao n c := by obtain ⟨ao, cap, hv, _⟩ := hr.form; exact ⟨_, _, _, hv⟩
    obtain ⟨ro, rn, rc, rfl⟩ := hform
    clear hB hr hp ht ho b0 b1 QV hz hs
    go_wp2_with fail
    refine leaves_cons (f := 114) (args := #[.pointer (some ⟨w.heap.size, 0, none⟩), .pointer (some ⟨w.heap.size + 1, 0, none⟩)]) (by simp) (by simp [go_sem]) ?_
    refine (catch_idle _ _ _).mono ?_
    rintro e u' w'' ⟨rfl, rfl, rfl⟩
    refine ⟨.tuple #[.slice ro rn rc, .int .i64 0], by simp [results, Tryz.results91, go_sem, q0, q1], ?_, ?_⟩
    · exact (HB.out.setCell (p := ⟨w.heap.size, 0, none⟩) (Nat.le_refl _) _).setCell (p := ⟨w.heap.size + 1, 0, none⟩) (Nat.le_succ _) _
    · rw [if_neg HH.out, parse_valsL, HRes.out]
      refine ⟨_, rfl, HS.out.same (fun b hb hl => ?_) (fun b hb _ => ?_)⟩
      · have := HZ.out
        rw [Below.heap_setCell _ _ _ _ (by show b ≠ w.heap.size + 1; omega), Below.heap_setCell _ _ _ _ (by show b ≠ w.heap.size; omega)]
      · have := HZ.out; omega
theorem Parse_any (v : Value) (l : List Wn.Tok) (deep : Int) (w : World) (hT : Toks w v l) (hl : l.length < 1000000) :
    Calls Tryz.prog 91 #[v, .int .i64 deep] w (ParsePost w l deep) := by
  by_cases h : deep < 1 ∨ 60 < deep
  · exact Parse_arg v l deep w h
  · exact Parse_in v l deep w (by omega) (by omega) hT hl
end Go.Proofs.YtjlejiphpbaonaaGreatDoor
set_option linter.unusedVariables false
set_option linter.unusedSimpArgs false
set_option maxRecDepth 20000
namespace Wn
theorem Fs.size_drop {f : Fs} {i : Nat} {k : Int} {t : Tok} {x r : Fs} (h : f.drop i = .cons k t x r) : x.size < f.size := by
  induction f generalizing i with
  | nil => cases i <;> simp [Fs.drop] at h
  | cons k' t' x' r' ih1 ih2 =>
    cases i with
    | zero => rw [Fs.drop_zero] at h; simp only [Fs.cons.injEq] at h; obtain ⟨_, _, rfl, _⟩ := h; simp only [Fs.size]; omega
    | succ i => rw [Fs.drop] at h; have := ih2 h; simp only [Fs.size]; omega
end Wn
namespace Go.Proofs.YtjlejiphpbaonaaGreatDoor
open Go.RowKit Go.Sort
theorem agg_delim (x : List UInt8) : (Value.agg #[.int .i64 (Wn.dlm x).1, .string (Wn.str (Wn.dlm x).2.1), .int .i64 (Wn.dlm x).2.2]) = .agg #[.int .i64 7, .string (Wn.str x), .int .i64 0] := rfl
set_option maxHeartbeats 400000 in
theorem openingToken_any (k : Int) (t : Wn.Tok) (u : Value) (hu : ∃ ao n c, u = .slice ao n c) (w : World) :
    Calls Tryz.prog 132 #[.agg #[.int .i64 k, .int .i64 t.1, .string (Wn.str t.2.1), .int .i64 t.2.2, u], .agg #[.string (Wn.str (Wn.openB k)), .string (Wn.str (Wn.closeB k))]] w fun e w' => e = .returned (.agg #[.int .i64 (Wn.opening k t).1, .string (Wn.str (Wn.opening k t).2.1), .int .i64 (Wn.opening k t).2.2]) ∧ Below w.heap.size w w' := by
  obtain ⟨ao, n, c, rfl⟩ := hu
  generalize Wn.str (Wn.closeB k) = z
  by_cases h : k = 5
  · have e : Wn.opening k t = t := by unfold Wn.opening; rw [if_pos h]
    rw [e]
    have h5 : (k == 5) = true := by simpa using h
    clear e h
    generalize Wn.str (Wn.openB k) = y
    generalize Wn.str t.2.1 = x
    go_enter Tryz.func132, Tryz.ntmps132
    go_wp2_with fail
    refine bodyPost_ret (v := .agg #[.int .i64 t.1, .string x, .int .i64 t.2.2]) (by simp [results, Tryz.results132, go_sem]) rfl ⟨rfl, ?_⟩
    exact (((Below.refl _ _).alloc (Nat.le_refl _) _).alloc (by simp) _).alloc (by simp; omega) _
  · have e : Wn.opening k t = Wn.dlm (Wn.openB k) := by unfold Wn.opening; rw [if_neg h]
    rw [e, agg_delim]
    have h5 : (k == 5) = false := by simpa using h
    clear e h
    generalize Wn.str (Wn.openB k) = y
    generalize Wn.str t.2.1 = x
    go_enter Tryz.func132, Tryz.ntmps132
    go_wp2_with fail
    have hB : Below w.heap.size w (((w.alloc (.cells #[.int .i64 k, .int .i64 t.1, .string x, .int .i64 t.2.2, .slice ao n c] 49)).alloc (.cells #[.string y, .string z] 129)).alloc (.cells #[.int .i64 0, .string ⟨#[]⟩, .int .i64 0] 47)) := (((Below.refl _ _).alloc (Nat.le_refl _) _).alloc (by simp) _).alloc (by simp; omega) _
    have hn := heap_alloc_new ((w.alloc (.cells #[.int .i64 k, .int .i64 t.1, .string x, .int .i64 t.2.2, .slice ao n c] 49)).alloc (.cells #[.string y, .string z] 129)) (.cells #[.int .i64 0, .string ⟨#[]⟩, .int .i64 0] 47)
    rw [show ((w.alloc (.cells #[.int .i64 k, .int .i64 t.1, .string x, .int .i64 t.2.2, .slice ao n c] 49)).alloc (.cells #[.string y, .string z] 129)).heap.size = w.heap.size + 1 + 1 by simp] at hn
    have HB := Lib.hid hB; clear hB
    generalize ((w.alloc (.cells #[.int .i64 k, .int .i64 t.1, .string x, .int .i64 t.2.2, .slice ao n c] 49)).alloc (.cells #[.string y, .string z] 129)).alloc (.cells #[.int .i64 0, .string ⟨#[]⟩, .int .i64 0] 47) = W at *
    refine (delim_any y W).mono ?_
    rintro e w2 ⟨rfl, b2⟩
    have blk := block_lat b2 hn
    have HB2 := Lib.hid (HB.out.trans (b2.mono HB.out.size))
    have q0 := cell_of_block (o := 0) blk
    have q1 := cell_of_block (o := 1) blk
    have q2 := cell_of_block (o := 2) blk
    have z0 := frozen_blk blk 0
    have z1 := frozen_blk blk 1
    have z2 := frozen_blk blk 2
    simp only [List.getElem?_toArray, List.getElem?_cons_zero, List.getElem?_cons_succ] at q0 q1 q2
    clear blk b2 hn HB
    go_wp2_with fail
    refine bodyPost_ret (v := .agg #[.int .i64 7, .string y, .int .i64 0]) (by simp [results, Tryz.results132, go_sem, q0, q1, q2]) rfl ⟨rfl, ?_⟩
    exact ((HB2.out.setCell (p := ⟨w.heap.size + 1 + 1, 0, none⟩) (by show w.heap.size ≤ w.heap.size + 1 + 1; omega) _).setCell (p := ⟨w.heap.size + 1 + 1, 1, none⟩) (by show w.heap.size ≤ w.heap.size + 1 + 1; omega) _).setCell (p := ⟨w.heap.size + 1 + 1, 2, none⟩) (by show w.heap.size ≤ w.heap.size + 1 + 1; omega) _
/-- what appending has done: all old blocks but the row's own are as they were; the row lies where it lay, or in new memory -/
structure Grow (r : Value) (w w' : World) (r' : Value) : Prop where
  by_ : w.grownBy w' r.ownBlock
  at_ : r'.ownBlock = r.ownBlock ∨ ∃ n, w.heap.size ≤ n ∧ r'.ownBlock = some n
theorem Grow.refl (r : Value) (w : World) : Grow r w w r := ⟨⟨rfl, rfl, rfl, Nat.le_refl _, fun _ _ _ => rfl⟩, .inl rfl⟩
theorem Grow.avoid {r r' : Value} {w w' : World} (h : Grow r w w' r') {b : Nat} (hb : b < w.heap.size) (hr : some b ≠ r.ownBlock) : some b ≠ r'.ownBlock := by
  rcases h.at_ with e | ⟨n, hn, e⟩
  · rw [e]; exact hr
  · rw [e]; intro e'; simp at e'; omega
theorem Grow.trans {r r1 r2 : Value} {w w1 w2 : World} (h : Grow r w w1 r1) (k : Grow r1 w1 w2 r2) : Grow r w w2 r2 := by
  refine ⟨⟨k.by_.os.trans h.by_.os, k.by_.tape.trans h.by_.tape, k.by_.output.trans h.by_.output, Nat.le_trans h.by_.size k.by_.size, fun b hb hr => (k.by_.block b (Nat.lt_of_lt_of_le hb h.by_.size) (h.avoid hb hr)).trans (h.by_.block b hb hr)⟩, ?_⟩
  rcases k.at_ with e | ⟨n, hn, e⟩
  · rw [e]; exact h.at_
  · exact .inr ⟨n, Nat.le_trans h.by_.size hn, e⟩
theorem Grow.below {r r' : Value} {w w' w2 : World} (h : Grow r w w' r') (hb : Below w'.heap.size w' w2) : Grow r w w2 r' := h.trans ⟨grown_none hb |> fun g => ⟨g.os, g.tape, g.output, g.size, fun b hl _ => hb.block b hl⟩, .inl rfl⟩
theorem Grow.vals {r r' : Value} {w w' : World} (h : Grow r w w' r') {base : Nat} (hbase : ∀ b, r.ownBlock = some b → base ≤ b) {v : Value} {f : Wn.Fs} (hv : ValsP w (fun b => b < base) v f) : ValsP w' (fun b => b < base) v f :=
  hv.same (fun b hb hl => h.by_.block b hl (fun e => by have := hbase b e.symm; omega)) (fun _ h _ => h)
theorem Grow.map {r r' : Value} {w w' : World} {B n : Nat} {xs : List Value} (h : Grow r w w' r') (ho : w.ownsRow B 47 3 r n xs) {m : Nat} (hm : w.heap[m]? = some fenceObj) : w'.heap[m]? = some fenceObj := by
  refine (h.by_.block m (block_lt hm) (fun e => ?_)).trans hm
  obtain ⟨_, hh⟩ := ho
  rcases hh with ⟨hv, _⟩ | ⟨q, cap, cur, hv, _, hq, _⟩
  · rw [hv] at e; simp [Value.ownBlock] at e
  · rw [hv] at e
    simp [Value.ownBlock] at e
    rw [← e, hm] at hq
    simp [fenceObj] at hq
/-- a row of tokens of the call's own, and what else it stands on -/
structure Rows3 (base m : Nat) (W : World) (r v : Value) (f : Wn.Fs) (acc : List Wn.Tok) : Prop where
  own : W.ownsRow base 47 3 r acc.length (toksCells acc)
  vals : ValsP W (fun b => b < base) v f
  map : W.heap[m]? = some fenceObj
  size : base ≤ W.heap.size
theorem Rows3.below {base m : Nat} {W W' : World} {r v : Value} {f : Wn.Fs} {acc : List Wn.Tok} (h : Rows3 base m W r v f acc) (hb : Below W.heap.size W W') : Rows3 base m W' r v f acc :=
  ⟨ownsRow_later h.own hb, h.vals.below hb, block_lat hb h.map, Nat.le_trans h.size hb.size⟩
theorem Rows3.grow {base m : Nat} {W W' : World} {r r' v : Value} {f : Wn.Fs} {acc acc' : List Wn.Tok} (h : Rows3 base m W r v f acc) (hg : Grow r W W' r') (ho : W'.ownsRow base 47 3 r' acc'.length (toksCells acc')) : Rows3 base m W' r' v f acc' :=
  ⟨ho, hg.vals (fun b hb => (h.own.lt b hb).1) h.vals, hg.map h.own h.map, Nat.le_trans h.size hg.by_.size⟩
end Go.Proofs.YtjlejiphpbaonaaGreatDoor
set_option linter.unusedVariables false
set_option linter.unusedSimpArgs false
set_option maxRecDepth 20000
namespace Go.Proofs.YtjlejiphpbaonaaGreatDoor
open Go.RowKit Go.Sort
def AFPost (base : Nat) (r : Value) (w : World) (l : List Wn.Tok) (e : Ending) (w' : World) : Prop := ∃ r', e = .returned r' ∧ w'.ownsRow base 47 3 r' l.length (toksCells l) ∧ Grow r w w' r'
def AFSaid (f : Wn.Fs) : Prop := ∀ (base m : Nat) (acc : List Wn.Tok) (r v : Value) (w : World), Rows3 base m w r v f acc → acc.length + (Wn.flat f).length ≤ 1000000 →
  Calls Tryz.prog 112 #[r, v, .map (some m)] w (AFPost base r w (acc ++ Wn.flat f))
theorem flat_tok {k : Int} (t : Wn.Tok) (x r : Wn.Fs) (h : k = 1) : Wn.flat (.cons k t x r) = t :: Wn.flat r := by simp [Wn.flat, h]
theorem flat_none {k : Int} (t : Wn.Tok) (x r : Wn.Fs) (h : ¬ k = 1) (hb : Wn.isBlk k = false) : Wn.flat (.cons k t x r) = Wn.flat r := by simp [Wn.flat, h, hb]
theorem flat_blk {k : Int} (t : Wn.Tok) (x r : Wn.Fs) (hb : Wn.isBlk k = true) : Wn.flat (.cons k t x r) = Wn.opening k t :: (Wn.flat x ++ Wn.dlm (Wn.closeB k) :: Wn.flat r) := by
  have h : ¬ k = 1 := by rintro rfl; simp [Wn.isBlk] at hb
  simp [Wn.flat, h, hb]
theorem toksCells_snoc' (l : List Wn.Tok) (t : Wn.Tok) : toksCells (l ++ [t]) = toksCells l ++ [.int .i64 t.1, .string (Wn.str t.2.1), .int .i64 t.2.2] := toksCells_snoc l t
theorem grow_at {r r' : Value} {w W W' : World} (hb : Below w.heap.size w W) (hg : W.grownBy W' r.ownBlock) (ha : r'.ownBlock = r.ownBlock ∨ r'.ownBlock = some W.heap.size) : Grow r w W' r' :=
  (Grow.refl r w).below hb |>.trans ⟨hg, ha.imp id (fun e => ⟨_, Nat.le_refl _, e⟩)⟩
set_option maxRecDepth 100000 in
set_option maxHeartbeats 2000000 in
theorem appendFlat_step (f : Wn.Fs) (IH : ∀ g : Wn.Fs, g.size < f.size → AFSaid g) : AFSaid f := by
  intro base m acc r v w hR hlen
  have HIH := Lib.hid IH; clear IH
  have HR0 := Lib.hid hR
  obtain ⟨ao, cap, rfl, c1, c2⟩ := hR.vals.form
  unfold maxLen at c2
  have HT : Hid (Wn.flat f = Wn.flat (f.drop 0)) := Lib.hid (by rw [Wn.Fs.drop_zero])
  generalize hL : acc ++ Wn.flat f = L
  have hLl : L.length ≤ 1000000 := by rw [← hL, List.length_append]; exact hlen
  have HL := Lib.hid hL
  obtain ⟨i0, hi, hz0, hz1, hz2⟩ := info_parts info_tok
  clear hR hlen hL
  go_enter Tryz.func112, Tryz.ntmps112
  go_wp2_with fail
  go_loopw [0, 13] (fun v0 v13 wr => ∃ (i : Nat) (ac : List Wn.Tok), i ≤ f.len ∧ v13 = .int .i64 (i : Int) ∧ Hid (Rows3 base m wr v0 (.slice ao f.len cap) f ac) ∧ Hid (Grow r w wr v0) ∧ Hid (ac ++ Wn.flat (f.drop i) = L)) (fun _ v13 _ => f.len - (intOf v13).toNat)
  case atStart => exact ⟨0, acc, by omega, rfl, HR0, Lib.hid (Grow.refl _ _), Lib.hid (by rw [← HT.out]; exact HL.out)⟩
  case round =>
    obtain ⟨i, ac, hil, rfl, HR, HG, HE⟩ := hrel
    by_cases hlt : i < f.len
    · obtain ⟨k, t, x, hd⟩ := Wn.Fs.drop_cons hlt
      obtain ⟨b, o, rfl, j0, ⟨j1, j2, j3⟩, u, j4, hu⟩ := HR.out.vals.at hd
      rw [show o + i * 5 + 1 + 1 = o + i * 5 + 2 by omega] at j2
      rw [show o + i * 5 + 1 + 2 = o + i * 5 + 3 by omega] at j3
      have hsz := Wn.Fs.size_drop hd
      have HD := Lib.hid hd; clear hd
      have HU := Lib.hid hu
      have hform : ∃ ao n c, u = .slice ao n c := by obtain ⟨ao, cap, hv, _⟩ := hu.form; exact ⟨_, _, _, hv⟩
      obtain ⟨uo, un, uc, rfl⟩ := hform
      clear hu
      generalize hx : Wn.str t.2.1 = y at *
      have HX := Lib.hid hx; clear hx
      have hi1 : (i : Int) < (f.len : Int) := by omega
      by_cases h1 : k = 1
      · have h1' : (k == 1) = true := by simpa using h1
        have HE1 : Hid ((ac ++ [t]) ++ Wn.flat (f.drop (i + 1)) = L) := Lib.hid (by rw [← HE.out, HD.out, flat_tok _ _ _ h1]; simp)
        have hacl : ac.length < 1000000 := by have := congrArg List.length HE1.out; simp at this; omega
        clear h1
        have hbs := HR.out.size
        go_wp2_with (at_builtin; refine wpList_append_own_at _ rfl _ _ 67 rfl base 47 i0 (.agg #[.int .i64 0, .string ⟨#[]⟩, .int .i64 0]) 3 32 Tryz.underlying67 hi hz0 hz1 hz2 rfl (by decide) _ ac.length (toksCells ac) rfl ((HR.out.own.alloc _).alloc _) ⟨wr.heap.size + 1, 0, none⟩ 1 1 [.int .i64 t.1, .string y, .int .i64 t.2.2] rfl rfl (cell_three_new _ _ _ _ _ _ (by simp)) (fun x hx => by simp at hx; rcases hx with rfl | rfl | rfl <;> rfl) (by unfold maxLen; omega) (by omega) (by simp; omega) ?_; intro v8 w8 hown8 hgr8 hnil8 hat8; have HZ8 := Lib.hid (And.intro hown8 (And.intro hgr8 hat8)); skip; clear hown8 hgr8 hnil8 hat8)
        obtain ⟨hown8, hgr8, hat8⟩ := HZ8.out
        have hg8 := grow_at (r := u0) (((Below.refl wr.heap.size wr).alloc (Nat.le_refl _) _).alloc (by simp) _) hgr8 hat8
        refine ⟨⟨i + 1, ac ++ [t], by omega, by go_num, Lib.hid (HR.out.grow hg8 ?_), Lib.hid (HG.out.trans hg8), HE1⟩, by simp [intOf]; omega⟩
        rw [List.length_append, toksCells_snoc', HX.out]; exact hown8
      · have h1' : (k == 1) = false := by simpa using h1
        have hmp := HR.out.map
        have hbs := HR.out.size
        have hm1 := block_alloc hmp (.cells #[.int .i64 k, .int .i64 t.1, .string y, .int .i64 t.2.2, .slice uo un uc] 49)
        cases hk : Wn.isBlk k
        · have hl := look_no m k _ hm1 hk
          have HE1 : Hid (ac ++ Wn.flat (f.drop (i + 1)) = L) := Lib.hid (by rw [← HE.out, HD.out, flat_none _ _ _ h1 hk])
          have HB : Hid (Below wr.heap.size wr ((wr.alloc (.cells #[.int .i64 k, .int .i64 t.1, .string y, .int .i64 t.2.2, .slice uo un uc] 49)).alloc (.cells #[.string ⟨#[]⟩, .string ⟨#[]⟩] 129))) := Lib.hid (((Below.refl wr.heap.size wr).alloc (Nat.le_refl _) _).alloc (by simp) _)
          clear h1 hk hmp hm1
          go_wp2_with fail
          exact ⟨⟨i + 1, ac, by omega, by go_num, Lib.hid (HR.out.below HB.out), Lib.hid (HG.out.below HB.out), HE1⟩, by simp [intOf]; omega⟩
        · have hl := look_yes m k _ hm1 hk
          have HE0 : Hid (ac ++ [Wn.opening k t] ++ Wn.flat x ++ [Wn.dlm (Wn.closeB k)] ++ Wn.flat (f.drop (i + 1)) = L) := Lib.hid (by rw [← HE.out, HD.out, flat_blk _ _ _ hk]; simp)
          have hacl : ac.length + (Wn.flat x).length + 2 ≤ 1000000 := by have := congrArg List.length HE0.out; simp at this; omega
          have HB : Hid (Below wr.heap.size wr ((wr.alloc (.cells #[.int .i64 k, .int .i64 t.1, .string y, .int .i64 t.2.2, .slice uo un uc] 49)).alloc (.cells #[.string (Wn.str (Wn.openB k)), .string (Wn.str (Wn.closeB k))] 129))) := Lib.hid (((Below.refl wr.heap.size wr).alloc (Nat.le_refl _) _).alloc (by simp) _)
          have bF := heap_alloc_new (wr.alloc (.cells #[.int .i64 k, .int .i64 t.1, .string y, .int .i64 t.2.2, .slice uo un uc] 49)) (.cells #[.string (Wn.str (Wn.openB k)), .string (Wn.str (Wn.closeB k))] 129)
          rw [show (wr.alloc (.cells #[.int .i64 k, .int .i64 t.1, .string y, .int .i64 t.2.2, .slice uo un uc] 49)).heap.size = wr.heap.size + 1 by simp] at bF
          have bV := block_alloc (heap_alloc_new wr (.cells #[.int .i64 k, .int .i64 t.1, .string y, .int .i64 t.2.2, .slice uo un uc] 49)) (.cells #[.string (Wn.str (Wn.openB k)), .string (Wn.str (Wn.closeB k))] 129)
          have hzW : ((wr.alloc (.cells #[.int .i64 k, .int .i64 t.1, .string y, .int .i64 t.2.2, .slice uo un uc] 49)).alloc (.cells #[.string (Wn.str (Wn.openB k)), .string (Wn.str (Wn.closeB k))] 129)).heap.size = wr.heap.size + 2 := by simp
          have nV : some wr.heap.size ≠ u0.ownBlock := fun e => by have := (HR.out.own.lt _ e.symm).2; omega
          have nF : some (wr.heap.size + 1) ≠ u0.ownBlock := fun e => by have := (HR.out.own.lt _ e.symm).2; omega
          have HRW := Lib.hid (HR.out.below HB.out)
          have HGW := Lib.hid (HG.out.below HB.out)
          have HBV := Lib.hid bV
          have HBF := Lib.hid bF
          have HNV := Lib.hid nV
          have HNF := Lib.hid nF
          have HUW := Lib.hid (HU.out.below HB.out)
          have HZW := Lib.hid hzW
          have QO := Lib.hid (fun w => openingToken_any k t (.slice uo un uc) ⟨_, _, _, rfl⟩ w)
          rw [HX.out] at QO
          clear h1 hk hmp hm1 bV bF nV nF hzW
          go_wp2_with fail
          clear hl
          generalize Wn.str (Wn.openB k) = so at *
          generalize hsc : Wn.str (Wn.closeB k) = sc at *
          have HSC := Lib.hid hsc; clear hsc
          generalize (wr.alloc (.cells #[.int .i64 k, .int .i64 t.1, .string y, .int .i64 t.2.2, .slice uo un uc] 49)).alloc (.cells #[.string so, .string sc] 129) = W at *
          refine (QO.out W).mono ?_
          rintro e w2 ⟨rfl, b2⟩
          have HR2 := Lib.hid (HRW.out.below b2)
          have HG2 := Lib.hid ((Grow.refl u0 W).below b2)
          have hb2 := HR2.out.size
          clear b2 QO
          generalize hop : Wn.opening k t = op at *
          have HOP := Lib.hid hop; clear hop
          generalize hsx : Wn.str op.2.1 = sx at *
          have HSX := Lib.hid hsx; clear hsx
          go_wp2_with (at_builtin; refine wpList_append_own_at _ rfl _ _ 67 rfl base 47 i0 (.agg #[.int .i64 0, .string ⟨#[]⟩, .int .i64 0]) 3 32 Tryz.underlying67 hi hz0 hz1 hz2 rfl (by decide) _ ac.length (toksCells ac) rfl (HR2.out.own.alloc _) ⟨w2.heap.size, 0, none⟩ 1 1 [.int .i64 op.1, .string sx, .int .i64 op.2.2] rfl rfl (cell_three_new _ _ _ _ _ _ (by simp)) (fun x hx => by simp at hx; rcases hx with rfl | rfl | rfl <;> rfl) (by unfold maxLen; omega) (by omega) (by simp; omega) ?_; intro v8 w8 hown8 hgr8 hnil8 hat8; have HZ8 := Lib.hid (And.intro hown8 (And.intro hgr8 hat8)); (have hg8 : Grow u0 W w8 v8 := HG2.out.trans (grow_at ((Below.refl w2.heap.size w2).alloc (Nat.le_refl _) _) hgr8 hat8)); (have HG8 := Lib.hid hg8); (have HR8 : Hid (Rows3 base m w8 v8 (.slice (some ⟨b, o, none⟩) f.len cap) f (ac ++ [op])) := Lib.hid (HRW.out.grow hg8 (by rw [List.length_append, toksCells_snoc', HSX.out]; exact hown8))); (have k4 := cell_of_block (o := 4) ((hg8.by_.block wr.heap.size (by rw [HZW.out]; omega) HNV.out).trans HBV.out)); (simp only [List.getElem?_toArray, List.getElem?_cons_zero, List.getElem?_cons_succ] at k4); clear hg8; clear hown8 hgr8 hnil8 hat8)
          have hbase8 : ∀ b, u0.ownBlock = some b → base ≤ b := fun b hb => (HRW.out.own.lt b hb).1
          have hU8 := HG8.out.vals hbase8 HUW.out
          refine ((HIH.out x hsz) base m (ac ++ [op]) v8 (.slice uo un uc) w8 ⟨HR8.out.own, hU8, HR8.out.map, HR8.out.size⟩ (by rw [List.length_append]; simp; omega)).mono ?_
          rintro e w9 ⟨r9, rfl, hown9, hg9⟩
          have HR9 := Lib.hid (HR8.out.grow hg9 hown9)
          have HG9 := Lib.hid (HG8.out.trans hg9)
          have k1 := cell_of_block (o := 1) ((HG9.out.by_.block (wr.heap.size + 1) (by rw [HZW.out]; omega) HNF.out).trans HBF.out)
          simp only [List.getElem?_toArray, List.getElem?_cons_zero, List.getElem?_cons_succ] at k1
          have hs9 : wr.heap.size + 2 ≤ w9.heap.size := by have := HG9.out.by_.size; rw [HZW.out] at this; exact this
          clear hown9 hg9 hU8 k4 hbase8
          go_wp2_with fail
          refine (delim_any sc _).mono ?_
          rintro e w10 ⟨rfl, b10⟩
          have HR10 := Lib.hid (HR9.out.below b10)
          have HG10 := Lib.hid (HG9.out.below b10)
          have hb10 := HR10.out.size
          clear b10 k1
          generalize hac : ac ++ [op] ++ Wn.flat x = ac9 at *
          have HAC := Lib.hid hac; clear hac
          have hacl9 : ac9.length + 1 ≤ 1000000 := by rw [← HAC.out]; simp; omega
          go_wp2_with (at_builtin; refine wpList_append_own_at _ rfl _ _ 67 rfl base 47 i0 (.agg #[.int .i64 0, .string ⟨#[]⟩, .int .i64 0]) 3 32 Tryz.underlying67 hi hz0 hz1 hz2 rfl (by decide) _ ac9.length (toksCells ac9) rfl (HR10.out.own.alloc _) ⟨w10.heap.size, 0, none⟩ 1 1 [.int .i64 7, .string sc, .int .i64 0] rfl rfl (cell_three_new _ _ _ _ _ _ (by simp)) (fun x hx => by simp at hx; rcases hx with rfl | rfl | rfl <;> rfl) (by unfold maxLen; omega) (by omega) (by simp; omega) ?_; intro v12 w12 hown12 hgr12 hnil12 hat12; have HZ12 := Lib.hid (And.intro hown12 (And.intro hgr12 hat12)); skip; clear hown12 hgr12 hnil12 hat12)
          obtain ⟨hown12, hgr12, hat12⟩ := HZ12.out
          have hg12 := grow_at (r := r9) ((Below.refl w10.heap.size w10).alloc (Nat.le_refl _) _) hgr12 hat12
          refine ⟨⟨i + 1, ac9 ++ [Wn.dlm (Wn.closeB k)], by omega, by go_num, Lib.hid (HR10.out.grow hg12 ?_), Lib.hid (HGW.out.trans (HG10.out.trans hg12)), Lib.hid ?_⟩, by simp [intOf]; omega⟩
          · rw [List.length_append, toksCells_snoc', show Wn.str (Wn.dlm (Wn.closeB k)).2.1 = sc from HSC.out]; exact hown12
          · rw [← HE0.out, ← HAC.out]
    · have HE1 : Hid (ac = L) := Lib.hid (by have := HE.out; rw [Wn.Fs.drop_len (by omega)] at this; simpa [Wn.flat] using this)
      go_wp2_with fail
      go_ret
      have := HR.out.own
      rw [HE1.out] at this
      exact ⟨_, rfl, this, HG.out⟩
theorem appendFlat_all : ∀ (n : Nat) (f : Wn.Fs), f.size < n → AFSaid f
  | 0, f, h => by omega
  | n + 1, f, h => appendFlat_step f fun g hg => appendFlat_all n g (by omega)
theorem Vals.old {w : World} {v : Value} {f : Wn.Fs} (h : Vals w v f) : ValsP w (fun b => b < w.heap.size) v f := ValsP.mono h (fun _ _ hl => hl)
def FlatPost (w : World) (l : List Wn.Tok) (e : Ending) (w' : World) : Prop := ∃ r, e = .returned r ∧ w'.ownsRow w.heap.size 47 3 r l.length (toksCells l) ∧ Below w.heap.size w w'
set_option maxHeartbeats 400000 in
theorem Flat_any (v : Value) (f : Wn.Fs) (w : World) (hv : Vals w v f) (hl : (Wn.flat f).length ≤ 1000000) :
    Calls Tryz.prog 89 #[v] w (FlatPost w (Wn.flat f)) := by
  have hB : Below w.heap.size w (w.alloc fenceObj) := (Below.refl _ _).alloc (Nat.le_refl _) _
  have hR : Rows3 w.heap.size w.heap.size (w.alloc fenceObj) (.slice none 0 0) v f [] := ⟨World.ownsRow_nil _ _ _ _, hv.old.below hB, heap_alloc_new w _, by simp⟩
  have Q := Lib.hid (appendFlat_all (f.size + 1) f (Nat.lt_succ_self _) _ _ [] _ v _ hR (by simpa using hl))
  have HB := Lib.hid hB
  clear hR hB hv hl
  go_enter Tryz.func89, Tryz.ntmps89
  go_wp2_with fail
  refine (fences_any _).mono ?_
  rintro e w1 ⟨rfl, rfl⟩
  go_wp2_with fail
  refine Q.out.mono ?_
  rintro e w2 ⟨r, rfl, hown, hg⟩
  have HO := Lib.hid hown
  have hb2 : Below w.heap.size w w2 := HB.out.trans ⟨hg.by_.os, hg.by_.tape, hg.by_.output, hg.by_.size, fun k hk => hg.by_.block k (by simp; omega) (by simp [Value.ownBlock])⟩
  have HB2 := Lib.hid hb2
  clear hown hg hb2
  go_wp2_with fail
  go_ret
  exact ⟨r, rfl, HO.out, HB2.out⟩
end Go.Proofs.YtjlejiphpbaonaaGreatDoor
