/- What one declaration is told as. What declarations are told as. -/
import Derived.Test.YtjlejiphpbaonaaGreatDoorLB
import Derived.Test.YtjlejiphpbaonaaGreatDoorGU
import Derived.Test.YtjlejiphpbaonaaGreatDoorGY
import Derived.Laws.MakeOwn
set_option linter.unusedVariables false
set_option linter.unusedSimpArgs false
set_option maxRecDepth 20000
namespace Go.Proofs.YtjlejiphpbaonaaGreatDoor
open Go.RowKit Go.Sort
/-- a token as a value, with nothing in it -/
abbrev tokE (k : Int) (s : List UInt8) : Int × Wn.Tok × Value := (1, (k, s, 0), .slice Option.none 0 0)
theorem ownTwo (w : World) (n base : Nat) (k1 k2 : Int) (s1 s2 : List UInt8) (hn : n = w.heap.size) (hb : base ≤ w.heap.size) : (w.alloc (.cells #[.int .i64 1, .int .i64 k1, .string (Wn.str s1), .int .i64 0, .slice none 0 0, .int .i64 1, .int .i64 k2, .string (Wn.str s2), .int .i64 0, .slice none 0 0] 49)).ownsRow base 49 5 (.slice (some ⟨n, 0, none⟩) 2 2) [tokE k1 s1, tokE k2 s2].length (valsCells [tokE k1 s1, tokE k2 s2]) := by
  subst hn
  exact ⟨rfl, .inr ⟨w.heap.size, 2, _, rfl, hb, heap_alloc_new w _, Nat.le_refl _, by unfold maxLen; omega, rfl, rfl⟩⟩
theorem srcTwo (w : World) (n : Nat) (k1 k2 : Int) (s1 s2 : List UInt8) (hn : n = w.heap.size) : VSrc (w.alloc (.cells #[.int .i64 1, .int .i64 k1, .string (Wn.str s1), .int .i64 0, .slice none 0 0, .int .i64 1, .int .i64 k2, .string (Wn.str s2), .int .i64 0, .slice none 0 0] 49)) (.slice (some ⟨n, 0, none⟩) 2 2) [tokE k1 s1, tokE k2 s2] := by
  subst hn
  refine ⟨fun c hc => by simp [valsCells, valCells] at hc; rcases hc with rfl | rfl | rfl | rfl | rfl | rfl | rfl | rfl | rfl | rfl <;> rfl, .inr ⟨_, 2, rfl, fun j u hj => ?_⟩⟩
  have hadd : (⟨w.heap.size, 0, none⟩ : Addr).add j = ⟨w.heap.size, j, none⟩ := by simp only [Addr.add]; split <;> simp_all
  rw [hadd, cell_of_block (o := j) (heap_alloc_new w _)]
  simpa [valsCells, valCells] using hj
theorem row_app {w : World} {ok : Nat → Prop} : ∀ {es fs : List (Int × Wn.Tok × Value)} {f g : Wn.Fs}, Row w ok es f → Row w ok fs g → Row w ok (es ++ fs) (f.app g)
  | [], _, .nil, _, _, h => h
  | _ :: _, _, .cons _ _ _ _, _, ⟨h1, h2, h3, h4⟩, h => ⟨h1, h2, h3, row_app h4 h⟩
theorem row_two (w : World) (ok : Nat → Prop) (s1 s2 : List UInt8) (k1 k2 : Int) : Row w ok [tokE k1 s1, tokE k2 s2] (.cons 1 (k1, s1, 0) .nil (.cons 1 (k2, s2, 0) .nil .nil)) := ⟨rfl, rfl, ValsP.nil _ _, rfl, rfl, ValsP.nil _ _, trivial⟩
set_option maxRecDepth 100000 in
set_option maxHeartbeats 2000000 in
theorem valsOf_v (ok : Nat → Prop) (d : Wn.Dl) (u : Value) (w : World) (hu : ValsP w ok u d.2.1) (hf : d.2.1.len ≤ 100000) :
    Calls Tryz.prog 34 #[.agg #[.string (Wn.str d.1), u, .bool d.2.2]] w fun e w' => ∃ r, e = .returned r ∧ ValsP w' (fun b => ok b ∨ w.heap.size ≤ b) r (Wn.valsOne d) ∧ Below w.heap.size w w' := by
  obtain ⟨nm, f, bb⟩ := d
  dsimp only at hu hf ⊢
  obtain ⟨uo, uc, rfl, c1, c2⟩ := hu.form
  unfold maxLen at c2
  have hB0 : Below w.heap.size w (w.alloc (.cells #[.string (Wn.str nm), .slice uo f.len uc, .bool bb] 44)) := (Below.refl _ _).alloc (Nat.le_refl _) _
  have hN0 := heap_alloc_new w (.cells #[.string (Wn.str nm), .slice uo f.len uc, .bool bb] 44)
  have hs0 : (w.alloc (.cells #[.string (Wn.str nm), .slice uo f.len uc, .bool bb] 44)).heap.size = w.heap.size + 1 := by simp
  obtain ⟨es, hsrc, hrow⟩ := (ValsP.below hu hB0).vsrc
  have hel := hrow.len
  go_enter Tryz.func34, Tryz.ntmps34
  go_wp2_with fail
  generalize w.alloc (.cells #[.string (Wn.str nm), .slice uo f.len uc, .bool bb] 44) = W0 at *
  have HB0 := Lib.hid hB0
  have HN0 := Lib.hid hN0
  have HSRC := Lib.hid hsrc
  have HROW : Hid (∀ W, Below W0.heap.size W0 W → Row W (fun b => ok b ∨ w.heap.size ≤ b) es f) := Lib.hid (fun W h => hrow.same (fun b _ hl => h.block b hl) (fun _ h _ => .inl h))
  have HS0 := Lib.hid hs0
  have HJ : Hid (∀ W, Below W0.heap.size W0 W → W.cell? ⟨w.heap.size, 0, none⟩ = some (.string (Wn.str nm)) ∧ W.cell? ⟨w.heap.size, 1, none⟩ = some (.slice uo f.len uc) ∧ W.cell? ⟨w.heap.size, 2, none⟩ = some (.bool bb) ∧ True) := Lib.hid (fun W h => by
    have h1 := block_lat h hN0
    exact ⟨cell_of_block (o := 0) h1, cell_of_block (o := 1) h1, cell_of_block (o := 2) h1, trivial⟩)
  clear hB0 hN0 hs0 hsrc hrow hu
  generalize hy : Wn.str nm = y at *
  have HY := Lib.hid hy
  clear hy
  refine wp_region_held_drew (S := fun W => Below W0.heap.size W0 W) (by kernel_rfl) (Below.refl _ _).drew ?_
  intro hS
  (refine wpAnyH_take (i := 0) (v := ?_) rfl (by kernel_rfl) (by kernel_rfl) (by kernel_rfl) (fun _ _ _ h => h) (Or.inl ⟨by kernel_rfl, ?hy⟩) (by assumption) ?_; (case hy => (intro W hSw; obtain ⟨x0, x1, x2, x3⟩ := HJ.out W hSw; go_simp; (try with_reducible rfl))); simp only [Act.put])
  (refine wpAnyH_take (i := 1) (v := ?_) rfl (by kernel_rfl) (by kernel_rfl) (by kernel_rfl) (fun _ _ _ h => h) (Or.inl ⟨by kernel_rfl, ?hy⟩) (by assumption) ?_; (case hy => (intro W hSw; obtain ⟨x0, x1, x2, x3⟩ := HJ.out W hSw; go_simp; (try with_reducible rfl))); simp only [Act.put])
  (refine wpAnyH_take (i := 5) (v := ?_) rfl (by kernel_rfl) (by kernel_rfl) (by kernel_rfl) (fun _ _ _ h => h) (Or.inl ⟨by kernel_rfl, ?hy⟩) (by assumption) ?_; (case hy => (intro W hSw; obtain ⟨x0, x1, x2, x3⟩ := HJ.out W hSw; go_simp; (try with_reducible rfl))); simp only [Act.put])
  (refine wpAnyH_take (i := 6) (v := ?_) rfl (by kernel_rfl) (by kernel_rfl) (by kernel_rfl) (fun _ _ _ h => h) (Or.inl ⟨by kernel_rfl, ?hy⟩) (by assumption) ?_; (case hy => (intro W hSw; obtain ⟨x0, x1, x2, x3⟩ := HJ.out W hSw; go_simp; (try with_reducible rfl))); simp only [Act.put])
  try simp only [Act.put]
  generalize W0.drew = Wd at *
  refine wpAnyH_all (rs := [2]) (by kernel_rfl) (by simp) (fun i hi => ?_)
  obtain rfl : i = 2 := by simpa using hi
  refine StepW.op fun K hK => ⟨_, rfl, ?_⟩
  go_simp
  refine (nameD_v y Wd).mono ?_
  rintro e w1 ⟨rfl, b1⟩
  have hS1 := hS.trans (b1.mono hS.size)
  refine hK _ _ ⟨hS1, ?_⟩
  clear hK hi K hS b1
  refine wpAnyH_all (rs := [3]) (by kernel_rfl) (by simp) (fun i hi => ?_)
  obtain rfl : i = 3 := by simpa using hi
  refine StepW.op fun K hK => ⟨_, rfl, ?_⟩
  go_simp
  refine (delim_v ⟨#[58]⟩ w1).mono ?_
  rintro e w2 ⟨rfl, b2⟩
  have hS2 := hS1.trans (b2.mono hS1.size)
  refine hK _ _ ⟨hS2, ?_⟩
  clear hK hi K hS1 b2
  have o3 := ownTwo w2 w2.heap.size W0.heap.size 1 7 nm [58] rfl hS2.size
  have b3 : Below w2.heap.size w2 (w2.alloc (.cells #[.int .i64 1, .int .i64 1, .string (Wn.str nm), .int .i64 0, .slice none 0 0, .int .i64 1, .int .i64 7, .string (Wn.str [58]), .int .i64 0, .slice none 0 0] 49)) := (Below.refl _ _).alloc (Nat.le_refl _) _
  have hS3 := hS2.trans (b3.mono hS2.size)
  rw [HY.out, show Wn.str [58] = ⟨#[58]⟩ from rfl] at o3 hS3 b3
  refine wpAnyH_all (rs := [4]) (by kernel_rfl) (by simp) (fun i hi => ?_)
  obtain rfl : i = 4 := by simpa using hi
  refine StepW.op fun K hK => ⟨_, rfl, ?_⟩
  go_simp
  refine hK _ _ ⟨hS3, ?_⟩
  clear hK hi K b3 hS2
  generalize w2.alloc (.cells #[.int .i64 1, .int .i64 1, .string y, .int .i64 0, .slice none 0 0, .int .i64 1, .int .i64 7, .string ⟨#[58]⟩, .int .i64 0, .slice none 0 0] 49) = W3 at *
  generalize w2.heap.size = g3 at *
  refine wpAnyH_all (rs := [7]) (by kernel_rfl) (by simp) (fun i hi => ?_)
  obtain rfl : i = 7 := by simpa using hi
  refine StepW.op fun K hK => ⟨_, rfl, step_append_v rfl _ _ rfl W0.heap.size (.slice (some ⟨g3, 0, none⟩) 2 2) (.slice uo f.len uc) _ es (by simp [Act.eval]) (by simp [Act.eval]) o3 (HSRC.out.later (Nat.le_refl _) hS3) (by simp; omega) hS3.size fun v' w' q1 q2 => ?_⟩
  have hS4 : Below W0.heap.size W0 w' := Below.grown hS3 q2 hS3.size (fun c hc => (o3.lt c hc).1)
  refine hK _ _ ⟨hS4, ?_⟩
  have HO := Lib.hid q1
  have HR4 : Hid (Row w' (fun b => ok b ∨ w.heap.size ≤ b) ([tokE 1 nm, tokE 7 [58]] ++ es) (Wn.nameV nm (Wn.dlmV [58] f))) := Lib.hid (row_app (row_two _ _ _ _ _ _) (HROW.out _ hS4))
  have HS4 := Lib.hid hS4
  clear hK hi K q1 q2 o3 hS3 HSRC
  try simp only [Act.put]
  refine wpAnyH_all (rs := [8]) (by kernel_rfl) (by simp) (fun i hi => ?_)
  obtain rfl : i = 8 := by simpa using hi
  refine StepW.op fun K hK => ⟨_, rfl, ?_⟩
  go_simp
  refine hK _ _ ⟨hS4, ?_⟩
  clear hK hi K
  refine wpAnyH_done (by kernel_rfl) ?_ _
  obtain ⟨_, _, k2, _⟩ := HJ.out w' hS4
  have hlN := World.block_lt_of_cell? _ _ k2
  have HSZ : Hid (w.heap.size ≤ W0.heap.size) := Lib.hid HB0.out.size
  obtain ⟨vo, vc, rfl, d1, d2⟩ := own_shapeD HO.out
  generalize hln : ([tokE 1 nm, tokE 7 [58]] ++ es).length = ln at *
  have HLN := Lib.hid hln
  have hll : ln ≤ 100002 := by rw [← hln]; simp; omega
  clear hln hS4 HJ HN0 HS0 HY
  cases bb
  · go_wp2_with fail
    go_ret
    have hR := HR4.out
    have e : Wn.valsOne (nm, f, false) = Wn.nameV nm (Wn.dlmV [58] f) := by unfold Wn.valsOne Wn.strongF; dsimp only; rw [if_neg (by decide), Wn.Fs.app_nil]
    refine ⟨_, rfl, ?_, HB0.out.trans (HS4.out.mono HB0.out.size)⟩
    rw [e]
    exact ValsP.ofRow (by rw [HLN.out]; exact HO.out) hR (fun b hb => .inr (Nat.le_trans HSZ.out hb))
  · go_wp2_with fail
    refine (delim_v ⟨#[33]⟩ _).mono ?_
    rintro e w5 ⟨rfl, b5⟩
    go_wp2_with fail
    refine (nameD_v ⟨#[105, 109, 112, 111, 114, 116, 97, 110, 116]⟩ _).mono ?_
    rintro e w6 ⟨rfl, b6⟩
    have b46 := b5.trans (b6.mono b5.size)
    have b7 : Below w6.heap.size w6 (w6.alloc (.cells #[.int .i64 1, .int .i64 7, .string (Wn.str [33]), .int .i64 0, .slice none 0 0, .int .i64 1, .int .i64 1, .string (Wn.str Wn.importantB), .int .i64 0, .slice none 0 0] 49)) := (Below.refl _ _).alloc (Nat.le_refl _) _
    have HSRC := Lib.hid (srcTwo w6 w6.heap.size 7 1 [33] Wn.importantB rfl)
    have b47 := b46.trans (b7.mono b46.size)
    rw [show Wn.str [33] = ⟨#[33]⟩ from rfl, show Wn.str Wn.importantB = ⟨#[105, 109, 112, 111, 114, 116, 97, 110, 116]⟩ from rfl] at HSRC b47
    have hq7 := ownsRow_later HO.out b47
    rw [show (World.ownsRow _ W0.heap.size 49 5 (.slice vo ln vc) ln (valsCells ([tokE 1 nm, tokE 7 [58]] ++ es))) = (World.ownsRow _ W0.heap.size 49 5 (.slice vo ln vc) ([tokE 1 nm, tokE 7 [58]] ++ es).length (valsCells ([tokE 1 nm, tokE 7 [58]] ++ es))) by rw [HLN.out]] at hq7
    have HO7 := Lib.hid hq7
    have HS7 := Lib.hid (HS4.out.trans (b47.mono HS4.out.size))
    have hlen : ([tokE 1 nm, tokE 7 [58]] ++ es).length + [tokE 7 [33], tokE 1 Wn.importantB].length ≤ 1048576 := by rw [HLN.out]; simp; omega
    have hbase := HS7.out.size
    clear b5 b6 b46 b7 b47 HO HR4 k2 hlN
    clear hq7
    go_wp2_with (at_builtin; refine append_v rfl _ _ rfl W0.heap.size _ _ _ _ rfl rfl HO7.out HSRC.out hlen hbase ?_; intro v8 w8 hown8 hgr8; (have HO8 := Lib.hid hown8); (have HB8 : Hid (Below W0.heap.size W0 w8) := Lib.hid (Below.grown HS7.out hgr8 hbase (fun k hk => (HO7.out.lt k hk).1))); clear hown8 hgr8)
    go_ret
    have hR := row_app (row_app (row_two w8 (fun b => ok b ∨ w.heap.size ≤ b) nm [58] 1 7) (HROW.out _ HB8.out)) (row_two w8 (fun b => ok b ∨ w.heap.size ≤ b) [33] Wn.importantB 7 1)
    exact ⟨_, rfl, ValsP.ofRow HO8.out hR (fun b hb => .inr (Nat.le_trans HSZ.out hb)), HB0.out.trans (HB8.out.mono HB0.out.size)⟩
end Go.Proofs.YtjlejiphpbaonaaGreatDoor
set_option linter.unusedVariables false
set_option linter.unusedSimpArgs false
set_option maxRecDepth 20000
namespace Wn
theorem sizes_len : ∀ l : List Fs, l.length ≤ sizes l
  | [] => Nat.le_refl _
  | a :: l => by have := sizes_len l; rw [List.length_cons, sizes]; omega
theorem valsOne_len (d : Dl) : d.2.1.len ≤ (valsOne d).size := by
  obtain ⟨n, f, b⟩ := d
  unfold valsOne nameV dlmV
  have := Fs.len_le_size f
  simp only [Fs.size, Fs.size_app]
  omega
end Wn
namespace Go.Proofs.YtjlejiphpbaonaaGreatDoor
open Go.RowKit Go.Sort
/-- make of n slices of values -/
theorem makeV_run (n : Nat) (hn : n ≤ 1048576) (w : World) :
    ∃ W, (Instr.makeSlice 41 (.int .i64 (n : Int)) (.int .i64 (n : Int))).run Tryz.prog w = .ok (.slice (some ⟨w.heap.size, 0, none⟩) n n) W ∧ W.heap[w.heap.size]? = some (.cells (List.replicate n (Value.slice none 0 0)).toArray 22) ∧ Below w.heap.size w W ∧ W.heap.size = w.heap.size + 1 := by
  obtain ⟨i0, hi, hz0, hz1, hz2⟩ := info_parts info_slv
  have hb : (i0.bytes : Int) * (n : Int) ≤ 281474976710656 := by rw [hz2]; omega
  have hr := run_make (P := Tryz.prog) w 41 22 i0 (.slice none 0 0) Tryz.underlying41 hi hz0 .i64 .i64 n n (by omega) (Int.le_refl _) hb (by omega)
  simp only [Int.toNat_natCast] at hr
  rw [hz1, Nat.mul_one] at hr
  have hm : madeCells (Value.slice none 0 0).cells n = (List.replicate n (Value.slice none 0 0)).toArray := by
    apply Array.ext'
    apply List.ext_getElem?
    intro k
    simp only [madeCells, Array.toList_map]
    rcases Nat.lt_or_ge k n with hk | hk
    · simp [Value.cells, hk, Nat.mod_one]
    · rw [List.getElem?_eq_none (by simp; omega), List.getElem?_eq_none (by simp; omega)]
  rw [hm] at hr
  exact ⟨_, hr, heap_alloc_new w _, (Below.refl _ _).alloc (Nat.le_refl _) _, by simp⟩
theorem each_set {W : World} {A i : Nat} {us : List Value} {gs : List Wn.Fs} {x : Value} (h : Each W (fun b => b ≠ A) us gs) : Each (W.setCell ⟨A, i, none⟩ x) (fun b => b ≠ A) us gs :=
  h.map fun u g hu => hu.same (fun b hb _ => Below.heap_setCell _ _ _ _ hb) (fun _ h _ => h)
set_option maxRecDepth 100000 in
set_option maxHeartbeats 2000000 in
theorem DVals_v (l : List Wn.Dl) (v : Value) (w : World) (hv : dlK.P w (fun _ => True) v l) (hsz : Wn.sizes (l.map Wn.valsOne) ≤ 100000) :
    Calls Tryz.prog 15 #[v] w fun e w' => ∃ r, e = .returned r ∧ ValsP w' (fun b => w.heap.size ≤ b) r (Wn.valsD l) ∧ Below w.heap.size w w' := by
  have HV := Lib.hid hv.old
  obtain ⟨ao, cap, rfl, c1, c2⟩ := hv.form
  unfold maxLen at c2
  have hll : l.length ≤ 100000 := by have := Wn.sizes_len (l.map Wn.valsOne); rw [List.length_map] at this; omega
  have HLE : Hid (∀ d ∈ l, d.2.1.len ≤ 100000) := Lib.hid (fun d hd => by
    have h1 := Wn.valsOne_len d
    have h2 := Wn.size_mem (List.mem_map.2 ⟨d, hd, rfl⟩ : Wn.valsOne d ∈ l.map Wn.valsOne)
    omega)
  obtain ⟨W0, hmk, hA0, hb0, hs0⟩ := makeV_run l.length (by omega) w
  have HSZ := Lib.hid hsz
  have HR : Hid (Wn.valsD l = Wn.joinF [59] (l.map Wn.valsOne)) := Lib.hid rfl
  generalize Wn.valsD l = R at *
  clear hv hsz
  go_enter Tryz.func15, Tryz.ntmps15
  go_wp2_with fail
  generalize hAA : w.heap.size = A at *
  have HAA := Lib.hid hAA
  have HB0 := Lib.hid hb0
  have HS0 : Hid (A < W0.heap.size) := Lib.hid (lt_of_block hA0)
  have HA0 : Hid (W0.heap[A]? = some (.cells ([] ++ List.replicate (l.length - 0) (Value.slice none 0 0)).toArray 22)) := Lib.hid hA0
  have HE0 : Hid (Each W0 (fun b => b ≠ A) [] ((l.take 0).map Wn.valsOne)) := Lib.hid trivial
  clear hmk hA0 hb0 hs0 hAA
  go_loopw [11] (fun v11 wr => ∃ (i : Nat) (us : List Value), i ≤ l.length ∧ v11 = .int .i64 (i : Int) ∧ us.length = i ∧ Hid (Below A w wr) ∧ Hid (A < wr.heap.size) ∧ Hid (wr.heap[A]? = some (.cells (us ++ List.replicate (l.length - i) (Value.slice none 0 0)).toArray 22)) ∧ Hid (Each wr (fun b => b ≠ A) us ((l.take i).map Wn.valsOne))) (fun v11 _ => l.length - (intOf v11).toNat)
  case atStart => exact ⟨0, [], Nat.zero_le _, rfl, rfl, HB0, HS0, HA0, HE0⟩
  case round =>
    clear HB0 HS0 HA0 HE0
    obtain ⟨i, us, hi, rfl, hui, HB, HS, HA, HE⟩ := hrel
    have HUI := Lib.hid hui
    clear hui
    by_cases hil : i < l.length
    · have hiv : (i : Int) < (l.length : Int) := by omega
      obtain ⟨d, hd⟩ : ∃ d, l[i]? = some d := ⟨l[i], List.getElem?_eq_getElem hil⟩
      have hbw : Below w.heap.size w wr := by rw [HAA.out]; exact HB.out
      obtain ⟨b, o, cs, rfl, _, _, hRx, hLx⟩ := (HV.out.below hbw).at hd
      obtain ⟨xu, rfl, hxu⟩ := hRx
      obtain ⟨xo, xc, rfl, _, _⟩ := hxu.form
      have x0 := hLx 0 _ rfl
      have x1 := hLx 1 _ rfl
      have x2 := hLx 2 _ rfl
      simp only [show dlK.sz = 3 from rfl, Nat.add_zero] at x0 x1 x2
      have hln := HLE.out d (List.mem_of_getElem? hd)
      have HTK : Hid ((l.take (i + 1)).map Wn.valsOne = (l.take i).map Wn.valsOne ++ [Wn.valsOne d]) := Lib.hid (by rw [List.take_add_one, hd]; simp)
      have hal : Below wr.heap.size wr (wr.alloc (.cells #[.string (Wn.str d.1), .slice xo d.2.1.len xc, .bool d.2.2] 44)) := (Below.refl _ _).alloc (Nat.le_refl _) _
      have QV := Lib.hid (valsOf_v _ d _ _ (ValsP.below hxu hal) hln)
      have HAL := Lib.hid hal
      clear hLx hxu hal hd hbw hln
      go_wp2_with fail
      refine QV.out.mono ?_
      rintro e w5 ⟨r, rfl, hr, b5⟩
      obtain ⟨ro, rc, rfl, _, _⟩ := hr.form
      have hb15 := HAL.out.trans (b5.mono HAL.out.size)
      have hA5 := block_lat b5 (block_lat HAL.out HA.out)
      have hB5 : Below A w w5 := HB.out.trans (hb15.mono (Nat.le_of_lt HS.out))
      have hcell : w5.cell? ⟨A, i, none⟩ = some (.slice none 0 0) := by
        rw [cell_of_block hA5, List.getElem?_toArray, List.getElem?_append_right (by rw [HUI.out]; exact Nat.le_refl _), HUI.out, Nat.sub_self, List.getElem?_replicate, if_pos (by omega)]
      have f0 := frozen_blk hA5 i
      have hlA := lt_of_block hA5
      have hw5 : wr.heap.size ≤ w5.heap.size := hb15.size
      have N1 : Hid ((w5.setCell ⟨A, i, none⟩ (.slice ro (Wn.valsOne d).len rc)).heap[A]? = some (.cells ((us ++ [Value.slice ro (Wn.valsOne d).len rc]) ++ List.replicate (l.length - (i + 1)) (Value.slice none 0 0)).toArray 22)) := Lib.hid (by
        have e : (us ++ List.replicate (l.length - i) (Value.slice none 0 0)).set i (Value.slice ro (Wn.valsOne d).len rc) = (us ++ [Value.slice ro (Wn.valsOne d).len rc]) ++ List.replicate (l.length - (i + 1)) (Value.slice none 0 0) := by
          rw [List.set_append_right _ _ (by rw [HUI.out]; exact Nat.le_refl _), HUI.out, Nat.sub_self, show l.length - i = (l.length - (i + 1)) + 1 by omega, List.replicate_succ, List.set_cons_zero, List.append_assoc]
          rfl
        simp only [World.setCell, Array.getElem?_modify, if_pos, hA5, Option.map_some]
        rw [← e]
        simp)
      have N2 : Hid (Each (w5.setCell ⟨A, i, none⟩ (.slice ro (Wn.valsOne d).len rc)) (fun b => b ≠ A) (us ++ [Value.slice ro (Wn.valsOne d).len rc]) ((l.take (i + 1)).map Wn.valsOne)) := Lib.hid (by
        rw [HTK.out]
        exact each_set (Each.snoc (hr.mono (fun b hb _ => by have := HS.out; have h7 := HAL.out.size; rcases hb with hb | hb <;> omega)) (HE.out.map fun u g hu => hu.same (fun b _ hl => hb15.block b hl) (fun _ h _ => h))))
      have N3 : Hid (Below A w (w5.setCell ⟨A, i, none⟩ (.slice ro (Wn.valsOne d).len rc))) := Lib.hid (hB5.setCell (p := ⟨A, i, none⟩) (Nat.le_refl _) _)
      have N4 : Hid (A < (w5.setCell ⟨A, i, none⟩ (.slice ro (Wn.valsOne d).len rc)).heap.size) := Lib.hid (by rw [show (w5.setCell ⟨A, i, none⟩ (.slice ro (Wn.valsOne d).len rc)).heap.size = w5.heap.size by simp [World.setCell]]; exact hlA)
      have N5 : Hid ((us ++ [Value.slice ro (Wn.valsOne d).len rc]).length = i + 1) := Lib.hid (by rw [List.length_append, HUI.out]; rfl)
      clear hb15 hA5 hB5 b5 hr QV HAL HB HS HA HE HTK x0 x1 x2
      go_wp2_with fail
      exact ⟨⟨i + 1, _, by omega, by go_num, N5.out, N3, N4, N1, N2⟩, by simp [intOf]; omega⟩
    · have hiv : ¬ (i : Int) < (l.length : Int) := by omega
      have hke : l.take i = l := List.take_of_length_le (by omega)
      have hz : l.length - i = 0 := by omega
      have hA := HA.out
      have hE := HE.out
      rw [hke] at hE
      rw [hz, List.replicate_zero, List.append_nil] at hA
      have hle : us.length = l.length := by rw [HUI.out]; omega
      have hL : ListP wr (fun b => b < wr.heap.size) (.slice (some ⟨A, 0, none⟩) l.length l.length) (l.map Wn.valsOne) := by
        rw [← hle]
        refine ⟨some ⟨A, 0, Option.none⟩, us.length, us, rfl, Nat.le_refl _, by unfold maxLen; omega, hE.map (fun u g hu => hu.mono (fun _ _ h => h)), fun j u hj => ⟨A, 0, rfl, HS.out, ?_⟩⟩
        rw [Nat.zero_add, cell_of_block hA, List.getElem?_toArray]
        exact hj
      have QJ := Lib.hid (Join_any [59] _ _ wr hL HSZ.out)
      have HP : Hid (Wn.str [59] = ⟨#[59]⟩) := Lib.hid rfl
      rw [HP.out] at QJ
      clear hA hE hL HP
      go_wp2_with fail
      refine QJ.out.mono ?_
      rintro e w5 ⟨r, rfl, hr, b5⟩
      have HR5 := Lib.hid hr
      have HB5 := Lib.hid b5
      clear hr b5 QJ
      go_wp2_with fail
      go_ret
      refine ⟨_, rfl, ?_, ?_⟩
      · rw [HR.out]; exact HR5.out.mono (fun b hb _ => by have := HS.out; have := HAA.out; omega)
      · rw [HAA.out]; exact HB.out.trans (HB5.out.mono (Nat.le_of_lt HS.out))
end Go.Proofs.YtjlejiphpbaonaaGreatDoor
