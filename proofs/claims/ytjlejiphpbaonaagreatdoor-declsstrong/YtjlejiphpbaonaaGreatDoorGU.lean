/- The verifier's second writing of split, the state of its loops in memory: a list of lists, and the part that is gathered. Mathematics: the tokens of what was read. The verifier's second writing of split: what Sign, Text, Read, Trim answer. Appending values at a step of a region that draws its order. The verifier's second writing of split: what At and Words answer. The verifier's second writing of split: what Join answers. -/
import Derived.Test.YtjlejiphpbaonaaGreatDoorGY
import Derived.Test.YtjlejiphpbaonaaGreatDoorGH
import Derived.Test.YtjlejiphpbaonaaGreatDoorGT
import Derived.Test.YtjlejiphpbaonaaGreatDoorGV
import Derived.Test.YtjlejiphpbaonaaGreatDoorGM
import Derived.Test.YtjlejiphpbaonaaGreatDoorGR
import Derived.Maps.AppendAt
set_option linter.unusedVariables false
set_option linter.unusedSimpArgs false
set_option maxRecDepth 20000
namespace Go.Proofs.YtjlejiphpbaonaaGreatDoor
open Go.RowKit Go.Sort Go.Shelf
theorem VSrc.one (w : World) (n : Nat) (hn : n = w.heap.size) (k : Int) (t : Wn.Tok) (uo : Option Addr) (un uc : Nat) : VSrc (w.alloc (.cells #[.int .i64 k, .int .i64 t.1, .string (Wn.str t.2.1), .int .i64 t.2.2, .slice uo un uc] 49)) (.slice (some ⟨n, 0, none⟩) 1 1) [(k, t, .slice uo un uc)] := by
  subst hn
  refine ⟨fun c hc => by simp [valsCells, valCells] at hc; rcases hc with rfl | rfl | rfl | rfl | rfl <;> rfl, .inr ⟨_, 1, rfl, fun j u hj => ?_⟩⟩
  have hadd : (⟨w.heap.size, 0, none⟩ : Addr).add j = ⟨w.heap.size, j, none⟩ := by simp only [Addr.add]; split <;> simp_all
  rw [hadd, cell_of_block (o := j) (heap_alloc_new w _)]
  simpa [valsCells, valCells] using hj
/-- the list of lists vo is one's own, and its parts lie beside its row -/
structure OI (w W : World) (vo : Value) (us : List Value) (gs : List Wn.Fs) : Prop where
  below : Below w.heap.size w W
  own : W.ownsRow w.heap.size 22 1 vo us.length us
  each : Each W (fun b => vo.ownBlock ≠ some b) us gs
/-- and vp is the part that is gathered, all of it above P -/
structure PI (w W : World) (P : Nat) (vo : Value) (us : List Value) (gs : List Wn.Fs) (vp : Value) (es : List Ent) (acc : Wn.Fs) : Prop where
  below : Below w.heap.size w W
  lo : w.heap.size ≤ P
  hi : P ≤ W.heap.size
  own : W.ownsRow w.heap.size 22 1 vo us.length us
  lt : ∀ k, vo.ownBlock = some k → k < P
  each : Each W (fun b => b < P ∧ vo.ownBlock ≠ some b) us gs
  pown : W.ownsRow P 49 5 vp es.length (valsCells es)
  row : Row W (fun b => b < w.heap.size) es acc
section
variable {w W W' : World} {P : Nat} {vo vo' vp vp' : Value} {us : List Value} {gs : List Wn.Fs} {es : List Ent} {acc : Wn.Fs} {o : Obj}
theorem OI.start (w : World) : OI w (w.alloc (.cells #[] 22)) (.slice (some ⟨w.heap.size, 0, none⟩) 0 0) [] [] :=
  ⟨(Below.refl _ _).alloc (Nat.le_refl _) _, World.ownsRow_made w #[] 0 (Nat.le_refl _) (by unfold maxLen; omega) rfl, trivial⟩
theorem OI.list (h : OI w W vo us gs) : ListP W (fun _ => True) vo gs := ListP.ofRow h.own (h.each.map (fun _ _ hu => hu.any)) (fun _ _ => trivial)
theorem OI.fresh (h : OI w W vo us gs) : PI w (W.alloc (.cells #[] 49)) W.heap.size vo us gs (.slice (some ⟨W.heap.size, 0, none⟩) 0 0) [] .nil := by
  have hb : Below W.heap.size W (W.alloc (.cells #[] 49)) := (Below.refl _ _).alloc (Nat.le_refl _) _
  refine ⟨h.below.trans (hb.mono h.below.size), h.below.size, hb.size, ownsRow_later h.own hb, fun k hk => (h.own.lt k hk).2, h.each.map (fun u g hu => ?_), World.ownsRow_made W #[] 0 (Nat.le_refl _) (by unfold maxLen; omega) rfl, trivial⟩
  exact hu.same (fun b _ hl => hb.block b hl) (fun b hb' hl => ⟨hl, hb'⟩)
theorem PI.out (h : PI w W P vo us gs vp es acc) : OI w W vo us gs := ⟨h.below, h.own, h.each.map (fun u g hu => hu.mono (fun b hb _ => hb.2))⟩
theorem PI.later (h : PI w W P vo us gs vp es acc) (hb : Below W.heap.size W W') : PI w W' P vo us gs vp es acc :=
  ⟨h.below.trans (hb.mono h.below.size), h.lo, Nat.le_trans h.hi hb.size, ownsRow_later h.own hb, h.lt, h.each.map (fun u g hu => hu.below hb), ownsRow_later h.pown hb, h.row.same (fun b _ hl => hb.block b hl) (fun _ h _ => h)⟩
theorem PI.add {k : Int} {t : Wn.Tok} {u : Value} {x : Wn.Fs} (h : PI w W P vo us gs vp es acc) (hown : W'.ownsRow P 49 5 vp' (es ++ [(k, t, u)]).length (valsCells (es ++ [(k, t, u)]))) (hg : W.grownBy W' vp.ownBlock) (hu : ValsP W (fun b => b < w.heap.size) u x) :
    PI w W' P vo us gs vp' (es ++ [(k, t, u)]) (acc.app (.cons k t x .nil)) := by
  have hpb : ∀ k, vp.ownBlock = some k → P ≤ k := fun k hk => (h.pown.lt k hk).1
  have hhi := h.hi
  have hlo := h.lo
  have hsame : ∀ b, b < P → W'.heap[b]? = W.heap[b]? := fun b hb => hg.block b (by omega) (fun e => by have := hpb b e.symm; omega)
  refine ⟨Below.grown h.below hg h.below.size (fun k hk => by have := hpb k hk; omega), hlo, Nat.le_trans hhi hg.size, h.own.kept hg ?_, h.lt, h.each.map (fun u g hu => hu.same (fun b hb _ => hsame b hb.1) (fun _ h _ => h)), hown, ?_⟩
  · cases hvo : vo.ownBlock with
    | none => exact .inl rfl
    | some k => exact .inr (fun e => by have a := h.lt k hvo; have b := hpb k e.symm; omega)
  · exact Row.app (h.row.same (fun b hb _ => hsame b (by omega)) (fun _ h _ => h)) ⟨rfl, rfl, hu.same (fun b hb _ => hsame b (by omega)) (fun _ h _ => h), trivial⟩
theorem PI.cut (h : PI w W P vo us gs vp es acc) (hown : W'.ownsRow w.heap.size 22 1 vo' (us.length + 1) (us ++ [vp])) (hg : (W.alloc o).grownBy W' vo.ownBlock) (hat : vo'.ownBlock = vo.ownBlock ∨ vo'.ownBlock = some (W.alloc o).heap.size) :
    OI w W' vo' (us ++ [vp]) (gs ++ [acc]) := by
  have hb : Below W.heap.size W (W.alloc o) := (Below.refl _ _).alloc (Nat.le_refl _) _
  have hob : ∀ k, vo.ownBlock = some k → w.heap.size ≤ k ∧ k < P := fun k e => ⟨(h.own.lt k e).1, h.lt k e⟩
  have hlo := h.lo
  have hhi := h.hi
  have hW : ∀ b, b < W.heap.size → vo.ownBlock ≠ some b → W'.heap[b]? = W.heap[b]? := fun b hl hne => (hg.block b (by simp; omega) (fun e => hne e.symm)).trans (Below.heap_alloc _ _ b hl)
  have hav : ∀ b, b < W.heap.size → vo.ownBlock ≠ some b → vo'.ownBlock ≠ some b := fun b hl hb' => by
    rcases hat with e | e
    · rw [e]; exact hb'
    · rw [e]; intro e'; simp at e'; omega
  refine ⟨Below.grown (h.below.trans (hb.mono h.below.size)) hg (by have := h.below.size; simp; omega) (fun k hk => (hob k hk).1), by rw [List.length_append]; exact hown, Each.snoc ?_ (h.each.map (fun u g hu => hu.same (fun b hb' hl => hW b hl hb'.2) (fun b hb' hl => hav b hl hb'.2)))⟩
  have hv : ValsP W (fun b => b < w.heap.size ∨ P ≤ b) vp acc := ValsP.ofRow h.pown (h.row.same (fun _ _ _ => rfl) (fun b hb' _ => .inl hb')) (fun b hb' => .inr hb')
  have hne : ∀ b, (b < w.heap.size ∨ P ≤ b) → vo.ownBlock ≠ some b := fun b hb' e => by have := hob b e; omega
  exact hv.same (fun b hb' hl => hW b hl (hne b hb')) (fun b hb' hl => hav b hl (hne b hb'))
end
end Go.Proofs.YtjlejiphpbaonaaGreatDoor
set_option linter.unusedVariables false
set_option linter.unusedSimpArgs false
set_option maxRecDepth 20000
namespace Go.Proofs.YtjlejiphpbaonaaGreatDoor
open Go.RowKit Go.Sort
theorem fine_of_read {s : List UInt8} {f : Wn.Fs} (h : Wn.readF s = some f) (hs : s.length ≤ 1048576) : ∀ t ∈ Wn.flat f, Fine t := by
  obtain ⟨l', hv⟩ := Wn.parse_some h
  intro t ht
  rcases (Wn.valsL_mem hv).1 t ht with h | ⟨k, rfl⟩
  · exact lex_fine hs t h
  · unfold Wn.closeB Wn.dlm Fine
    split
    · simp
    · split <;> simp
theorem fine_trim {f : Wn.Fs} (h : ∀ t ∈ Wn.flat f, Fine t) : ∀ t ∈ Wn.flat (Wn.trimF f), Fine t := fun t ht => h t (Wn.dropB_flat f t (Wn.rtrim_flat _ t ht))
/-- what Read answers of the text of values that may be: the values, trimmed -/
theorem text_short {f : Wn.Fs} {n : Nat} (hf : ∀ t ∈ Wn.flat f, Fine t) (hl : (Wn.flat f).length ≤ n) (hn : n ≤ 100000) : (Wn.str (Wn.textF f)).size ≤ 1099511627776 := by
  have := fine_text hf
  have e : (Wn.str (Wn.textF f)).size = (Wn.textF f).length := by unfold Wn.str; simp [ByteArray.size]
  rw [e]
  unfold Wn.textF
  have : (Wn.flat f).length * 1048600 ≤ 100000 * 1048600 := Nat.mul_le_mul_right _ (by omega)
  omega
theorem str_data (l : List UInt8) : (Wn.str l).data.toList = l := by simp [Wn.str]
theorem lex_textF {f : Wn.Fs} (h : Wn.mayF f = true) : Wn.lex (Wn.textF f) = Wn.flat f := by unfold Wn.textF; rw [Wn.lex_text _ (Wn.all_valid (Wn.mayF_all h))]
theorem lex_both {f g : Wn.Fs} (hf : Wn.mayF f = true) (hg : Wn.mayF g = true) : Wn.lex (Wn.textF f ++ (Wn.cmtB ++ Wn.textF g)) = Wn.flat f ++ Wn.flat g := by
  unfold Wn.textF; rw [Wn.lex_text2 _ _ (Wn.all_valid (Wn.mayF_all hf)), Wn.lex_text _ (Wn.all_valid (Wn.mayF_all hg))]
end Go.Proofs.YtjlejiphpbaonaaGreatDoor
set_option linter.unusedVariables false
set_option linter.unusedSimpArgs false
set_option maxRecDepth 20000
namespace Go.Proofs.YtjlejiphpbaonaaGreatDoor
open Go.RowKit Go.Sort
set_option maxHeartbeats 400000 in
theorem rSign_v (s0 : List UInt8) (k : Int) (t : Wn.Tok) (u : Value) (w : World) (hu : ∃ ao n c, u = .slice ao n c) :
    Calls Tryz.prog 28 #[.agg #[.int .i64 k, .int .i64 t.1, .string (Wn.str t.2.1), .int .i64 t.2.2, u], .string (Wn.str s0)] w fun e w' => e = .returned (.bool (Wn.signV s0 k t)) ∧ Below w.heap.size w w' := by
  obtain ⟨uo, un, uc, rfl⟩ := hu
  obtain ⟨a, b, c⟩ := t
  dsimp only
  have hs := str_list b
  have hs' := str_list s0
  have e : Wn.signV s0 k (a, b, c) = ((k == 1) && ((a == 7) && (b == s0) && (c == 0))) := by
    unfold Wn.signV Wn.dlm; rw [Bool.eq_iff_iff]; simp [and_assoc]
  rw [e]
  clear e
  generalize Wn.str b = p at *
  generalize Wn.str s0 = q at *
  subst hs hs'
  have HB : Hid (Below w.heap.size w (w.alloc (.cells #[.int .i64 k, .int .i64 a, .string p, .int .i64 c, .slice uo un uc] 49))) := Lib.hid ((Below.refl _ _).alloc (Nat.le_refl _) _)
  cases h0 : (k == 1)
  · go_enter Tryz.func28, Tryz.ntmps28
    go_wp2_with fail
    go_ret
    exact ⟨ret_bool (by simp), HB.out⟩
  · cases h1 : (a == 7)
    · go_enter Tryz.func28, Tryz.ntmps28
      go_wp2_with fail
      go_ret
      exact ⟨ret_bool (by simp), HB.out⟩
    · cases h2 : (p.toList == q.toList)
      · go_enter Tryz.func28, Tryz.ntmps28
        go_wp2_with fail
        go_ret
        exact ⟨ret_bool (by simp), HB.out⟩
      · cases h3 : (c == 0)
        · go_enter Tryz.func28, Tryz.ntmps28
          go_wp2_with fail
          go_ret
          exact ⟨ret_bool (by simp), HB.out⟩
        · go_enter Tryz.func28, Tryz.ntmps28
          go_wp2_with fail
          go_ret
          exact ⟨ret_bool (by simp), HB.out⟩
set_option maxHeartbeats 400000 in
theorem rSText (v : Value) (f : Wn.Fs) (w : World) (hv : Vals w v f) (hl : (Wn.flat f).length ≤ 1000000) (hf : ∀ t ∈ Wn.flat f, ShortTok t) :
    Calls Tryz.prog 23 #[v] w fun e w' => e = .returned (.string (Wn.str (Wn.textF f))) ∧ Below w.heap.size w w' := by
  have QF := Lib.hid (rFlat_any v f w hv hl)
  have QT := Lib.hid (fun v w hv => rText v (Wn.flat f) w hv hf hl)
  clear hv hf
  go_enter Tryz.func23, Tryz.ntmps23
  go_wp2_with fail
  refine QF.out.mono ?_
  rintro e w1 ⟨r1, rfl, ho, b1⟩
  have HO := Lib.hid (Toks.ofRow ho)
  have HB1 := Lib.hid b1
  clear b1 ho QF
  go_wp2_with fail
  refine (QT.out _ _ HO.out).mono ?_
  rintro e w2 ⟨rfl, b2⟩
  have HB2 := Lib.hid (HB1.out.trans (b2.mono HB1.out.size))
  clear b2 HB1 HO QT
  go_wp2_with fail
  go_ret
  exact ⟨rfl, HB2.out⟩
set_option maxRecDepth 100000 in
set_option maxHeartbeats 1000000 in
theorem rTrim_nil (vo : Option Addr) (vc : Nat) (w : World) (hv : Vals w (.slice vo 0 vc) .nil) :
    Calls Tryz.prog 49 #[.slice vo 0 vc] w fun e w' => ∃ r, e = .returned r ∧ Vals w' r .nil ∧ Below w.heap.size w w' := by
  have hc := hv.nilCap
  have HBX : Hid (Below w.heap.size w (w.alloc (.cells #[] 49))) := Lib.hid ((Below.refl _ _).alloc (Nat.le_refl _) _)
  have HOV : Hid ((w.alloc (.cells #[] 49)).ownsRow w.heap.size 49 5 (.slice (some ⟨w.heap.size, 0, none⟩) 0 0) ([] : List Ent).length (valsCells [])) := Lib.hid (World.ownsRow_made w #[] 0 (Nat.le_refl _) (by unfold maxLen; omega) rfl)
  have HZ9 := Lib.hid HBX.out.size
  have HSS : Hid (∀ a c (W : World), VSrc W (.slice (some a) 0 c) []) := Lib.hid (fun a c W => ⟨fun c h => by simp [valsCells] at h, .inr ⟨a, c, rfl, fun j c h => by simp [valsCells] at h⟩⟩)
  have HSN : Hid (∀ (W : World), VSrc W (.slice Option.none 0 0) []) := Lib.hid (fun W => ⟨fun c h => by simp [valsCells] at h, .inl ⟨rfl, rfl⟩⟩)
  have hv2 : vc ≤ maxLen := by obtain ⟨_, _, hv, _, h2, _⟩ := hv; simp only [Value.slice.injEq] at hv; rw [hv.2.2]; exact h2
  unfold maxLen at hv2
  clear hv
  cases vo with
  | none =>
    obtain rfl := hc rfl
    clear hc
    go_enter Tryz.func49, Tryz.ntmps49
    go_wp2_with fail
    go_loopw [3] (fun v3 wr => v3 = .int .i64 0 ∧ wr = w) (fun _ _ => 0)
    case atStart => exact ⟨rfl, rfl⟩
    case round =>
      obtain ⟨rfl, rfl⟩ := hrel
      go_wp2_with fail
      go_loopw [4] (fun v4 wr' => v4 = .int .i64 0 ∧ wr' = wr) (fun _ _ => 0)
      case atStart => exact ⟨rfl, rfl⟩
      case round =>
        obtain ⟨rfl, rfl⟩ := hrel
        go_wp2_with (at_builtin; refine append_v rfl _ _ rfl _ _ _ [] [] rfl rfl HOV.out (HSN.out _) (by simp) HZ9.out ?_; intro v8 w8 hown8 hgr8; (have HO8 := Lib.hid hown8); (have HB8 := Lib.hid (Below.grown HBX.out hgr8 HZ9.out (fun k hk => (HOV.out.lt k hk).1))); clear hown8 hgr8)
        go_ret
        exact ⟨_, rfl, ValsP.ofRow (es := []) HO8.out trivial (fun _ _ => trivial), HB8.out⟩
  | some a =>
    clear hc
    go_enter Tryz.func49, Tryz.ntmps49
    go_wp2_with fail
    go_loopw [3] (fun v3 wr => v3 = .int .i64 0 ∧ wr = w) (fun _ _ => 0)
    case atStart => exact ⟨rfl, rfl⟩
    case round =>
      obtain ⟨rfl, rfl⟩ := hrel
      go_wp2_with fail
      go_loopw [4] (fun v4 wr' => v4 = .int .i64 0 ∧ wr' = wr) (fun _ _ => 0)
      case atStart => exact ⟨rfl, rfl⟩
      case round =>
        obtain ⟨rfl, rfl⟩ := hrel
        go_wp2_with (at_builtin; refine append_v rfl _ _ rfl _ _ _ [] [] rfl rfl HOV.out (HSS.out _ _ _) (by simp) HZ9.out ?_; intro v8 w8 hown8 hgr8; (have HO8 := Lib.hid hown8); (have HB8 := Lib.hid (Below.grown HBX.out hgr8 HZ9.out (fun k hk => (HOV.out.lt k hk).1))); clear hown8 hgr8)
        go_ret
        exact ⟨_, rfl, ValsP.ofRow (es := []) HO8.out trivial (fun _ _ => trivial), HB8.out⟩
set_option maxRecDepth 100000 in
set_option maxHeartbeats 1000000 in
theorem rTrim_some (b o vc : Nat) (f : Wn.Fs) (w : World) (hv : Vals w (.slice (some ⟨b, o, none⟩) f.len vc) f) (hf : f.size ≤ 100000) :
    Calls Tryz.prog 49 #[.slice (some ⟨b, o, none⟩) f.len vc] w fun e w' => ∃ r, e = .returned r ∧ Vals w' r (Wn.trimF f) ∧ Below w.heap.size w w' := by
  have hfl : f.len ≤ 100000 := by have := Wn.Fs.len_le_size f; omega
  have HV := Lib.hid hv.old
  obtain ⟨_, vc', he, c1, c2⟩ := hv.form
  simp only [Value.slice.injEq] at he
  obtain ⟨rfl, _, rfl⟩ := he
  clear hv hf
  unfold maxLen at c2
  go_enter Tryz.func49, Tryz.ntmps49
  go_wp2_with fail
  go_loopw [3] (fun v3 wr => ∃ i : Nat, i ≤ f.len ∧ v3 = .int .i64 (i : Int) ∧ Hid (Wn.dropB (f.drop i) = Wn.dropB f) ∧ Hid (Below w.heap.size w wr)) (fun v3 _ => f.len - (intOf v3).toNat)
  case atStart => exact ⟨0, by omega, rfl, Lib.hid (by rw [Wn.Fs.drop_zero]), Lib.hid (Below.refl _ _)⟩
  case round =>
    obtain ⟨i, hil, rfl, HD, HB⟩ := hrel
    by_cases hlt : i < f.len
    · obtain ⟨k, t, x, hd⟩ := Wn.Fs.drop_cons hlt
      have HY := Lib.hid (fun h : Wn.blankV k t = true => (show Wn.dropB (f.drop (i + 1)) = Wn.dropB f by rw [← HD.out, hd, Wn.dropB, if_pos h]))
      have HN := Lib.hid (fun h : Wn.blankV k t = false => (show Wn.rtrim (f.drop i) = Wn.trimF f by unfold Wn.trimF; rw [← HD.out, hd, Wn.dropB, if_neg (by rw [h]; decide)]))
      obtain ⟨b', o', he, j0, ⟨j1, j2, j3⟩, u, j4, hu⟩ := (HV.out.any.below HB.out).at hd
      simp only [Option.some.injEq, Addr.mk.injEq, and_true] at he
      obtain ⟨rfl, rfl⟩ := he
      rw [show o + i * 5 + 1 + 1 = o + i * 5 + 2 by omega] at j2
      rw [show o + i * 5 + 1 + 2 = o + i * 5 + 3 by omega] at j3
      obtain ⟨uo, uc, rfl, _, _⟩ := hu.form
      have QB := Lib.hid (fun w => rBlank_v k t (.slice uo x.len uc) w ⟨_, _, _, rfl⟩)
      have hi1 : (i : Int) < (f.len : Int) := by omega
      clear hd hu HD
      generalize hbl : Wn.blankV k t = bl at *
      clear hbl
      generalize Wn.str t.2.1 = y at *
      generalize t.1 = tk at *
      generalize t.2.2 = tn at *
      go_wp2_with fail
      refine (QB.out _).mono ?_
      rintro e w5 ⟨rfl, b5⟩
      have HBz := Lib.hid (HB.out.trans (b5.mono HB.out.size))
      clear b5 HB QB j0 j1 j2 j3 j4
      cases bl
      · have HDg : Hid (Wn.rtrim (f.drop i) = Wn.trimF f) := Lib.hid (HN.out (by simp))
        clear HN HY hi1
        go_wp2_with fail
        clear hlt
        go_loopw [4] (fun v4 wr => ∃ j : Nat, i ≤ j ∧ j ≤ f.len ∧ v4 = .int .i64 (j : Int) ∧ Hid (Wn.rtrim ((f.drop i).take (j - i)) = Wn.trimF f) ∧ Hid (Below w.heap.size w wr)) (fun v4 _ => (intOf v4).toNat)
        case atStart => exact ⟨f.len, hil, Nat.le_refl _, rfl, Lib.hid (by rw [Wn.Fs.take_all _ (by rw [Wn.Fs.len_drop]; omega)]; exact HDg.out), HBz⟩
        case round =>
          clear HBz HDg
          obtain ⟨j, hij, hjl, rfl, HE, HB2⟩ := hrel
          by_cases hlt2 : i < j
          · obtain ⟨m, rfl⟩ : ∃ m, j = m + 1 := ⟨j - 1, by omega⟩
            obtain ⟨k, t, x, hd⟩ := Wn.Fs.drop_cons (f := f) (i := m) (by omega)
            have hsn : (f.drop i).take (m + 1 - i) = ((f.drop i).take (m - i)).app (.cons k t x .nil) := by
              rw [show m + 1 - i = (m - i) + 1 by omega]; exact Wn.Fs.take_succ _ (by rw [Wn.Fs.drop_drop, show i + (m - i) = m by omega]; exact hd)
            have hrt := Wn.rtrim_snoc ((f.drop i).take (m - i)) k t x
            have HY := Lib.hid (fun h : Wn.blankV k t = true => (show Wn.rtrim ((f.drop i).take (m - i)) = Wn.trimF f by rw [← HE.out, hsn, hrt, if_pos h]))
            have HN := Lib.hid (fun h : Wn.blankV k t = false => (show (f.drop i).take (m + 1 - i) = Wn.trimF f by rw [← HE.out, hsn, hrt, if_neg (by rw [h]; decide)]))
            obtain ⟨b', o', he, j0, ⟨j1, j2, j3⟩, u, j4, hu⟩ := (HV.out.any.below HB2.out).at hd
            simp only [Option.some.injEq, Addr.mk.injEq, and_true] at he
            obtain ⟨rfl, rfl⟩ := he
            rw [show o + m * 5 + 1 + 1 = o + m * 5 + 2 by omega] at j2
            rw [show o + m * 5 + 1 + 2 = o + m * 5 + 3 by omega] at j3
            obtain ⟨uo, uc, rfl, _, _⟩ := hu.form
            have QB := Lib.hid (fun w => rBlank_v k t (.slice uo x.len uc) w ⟨_, _, _, rfl⟩)
            have hi1 : (i : Int) < (m : Int) + 1 := by omega
            clear hd hu hsn hrt HE
            generalize hbl : Wn.blankV k t = bl at *
            clear hbl
            generalize Wn.str t.2.1 = y at *
            generalize t.1 = tk at *
            generalize t.2.2 = tn at *
            go_wp2_with fail
            refine (QB.out _).mono ?_
            rintro e w6 ⟨rfl, b6⟩
            have HBz := Lib.hid (HB2.out.trans (b6.mono HB2.out.size))
            clear b6 HB2 QB j0 j1 j2 j3 j4
            cases bl
            · have HF : Hid ((f.drop i).take (m + 1 - i) = Wn.trimF f) := Lib.hid (HN.out (by simp))
              clear HN HY
              skip
              have hsub0 := (HV.out.any.below HBz.out).sub i (m + 1) (by omega) (by omega)
              have hsub := hsub0
              rw [HF.out] at hsub
              try simp only [Nat.sub_self] at hsub
              have hsub2 : ValsP w6 (fun b => b < w6.heap.size) _ (Wn.trimF f) := ValsP.mono hsub (fun _ _ h => h)
              obtain ⟨es9, hs9, hw9⟩ := hsub2.vsrc
              have hl9 := hw9.len
              have hlm : (Wn.trimF f).len ≤ 100000 := by have := Wn.trim_len f; omega
              have HBX : Hid (Below w6.heap.size w6 (w6.alloc (.cells #[] 49))) := Lib.hid ((Below.refl _ _).alloc (Nat.le_refl _) _)
              have HS9 := Lib.hid (hs9.later (Nat.le_refl _) HBX.out)
              have HW9 := Lib.hid hw9
              have HOV : Hid ((w6.alloc (.cells #[] 49)).ownsRow w6.heap.size 49 5 (.slice (some ⟨w6.heap.size, 0, none⟩) 0 0) ([] : List Ent).length (valsCells [])) := Lib.hid (World.ownsRow_made w6 #[] 0 (Nat.le_refl _) (by unfold maxLen; omega) rfl)
              have HZ9 := Lib.hid HBX.out.size
              clear hsub hsub0 hsub2 hs9 hw9
              go_wp2_with (at_builtin; refine append_v rfl _ _ rfl w6.heap.size _ _ [] es9 rfl rfl HOV.out HS9.out (by simp; omega) HZ9.out ?_; intro v8 w8 hown8 hgr8; (have HO8 : Hid (w8.ownsRow w6.heap.size 49 5 v8 es9.length (valsCells es9)) := Lib.hid hown8); (have HB8 : Hid (Below w6.heap.size w6 w8) := Lib.hid (Below.grown HBX.out hgr8 HZ9.out (fun k hk => (HOV.out.lt k hk).1))); clear hown8 hgr8)
              go_ret
              exact ⟨_, rfl, ValsP.ofRow HO8.out (HW9.out.same (fun b hb _ => HB8.out.block b hb) (fun _ _ _ => trivial)) (fun _ _ => trivial), HBz.out.trans (HB8.out.mono HBz.out.size)⟩
            · go_wp2_with fail
              exact ⟨⟨m, by omega, by omega, by go_num, Lib.hid (HY.out (by simp)), HBz⟩, by first | (simp [intOf]; done) | (simp [intOf]; omega)⟩
          · have hji : j = i := by omega
            subst hji
            have HF : Hid ((f.drop j).take (j - j) = Wn.trimF f) := Lib.hid (by rw [← HE.out, Nat.sub_self, Wn.Fs.take_zero]; rfl)
            have HBz := HB2
            obtain ⟨Wz, hWz⟩ : ∃ Wz, Wz = wr := ⟨_, rfl⟩
            subst hWz
            clear HE HB2
            by_cases hvi : vc = j
            · have hsub0 := (HV.out.any.below HBz.out).subC j j (by omega) (by omega)
              rw [if_pos hvi, show vc - j = 0 by omega] at hsub0
              skip
              have hsub := hsub0
              rw [HF.out] at hsub
              try simp only [Nat.sub_self] at hsub
              have hsub2 : ValsP Wz (fun b => b < Wz.heap.size) _ (Wn.trimF f) := ValsP.mono hsub (fun _ _ h => h)
              obtain ⟨es9, hs9, hw9⟩ := hsub2.vsrc
              have hl9 := hw9.len
              have hlm : (Wn.trimF f).len ≤ 100000 := by have := Wn.trim_len f; omega
              have HBX : Hid (Below Wz.heap.size Wz (Wz.alloc (.cells #[] 49))) := Lib.hid ((Below.refl _ _).alloc (Nat.le_refl _) _)
              have HS9 := Lib.hid (hs9.later (Nat.le_refl _) HBX.out)
              have HW9 := Lib.hid hw9
              have HOV : Hid ((Wz.alloc (.cells #[] 49)).ownsRow Wz.heap.size 49 5 (.slice (some ⟨Wz.heap.size, 0, none⟩) 0 0) ([] : List Ent).length (valsCells [])) := Lib.hid (World.ownsRow_made Wz #[] 0 (Nat.le_refl _) (by unfold maxLen; omega) rfl)
              have HZ9 := Lib.hid HBX.out.size
              clear hsub hsub0 hsub2 hs9 hw9
              go_wp2_with (at_builtin; refine append_v rfl _ _ rfl Wz.heap.size _ _ [] es9 rfl rfl HOV.out HS9.out (by simp; omega) HZ9.out ?_; intro v8 w8 hown8 hgr8; (have HO8 : Hid (w8.ownsRow Wz.heap.size 49 5 v8 es9.length (valsCells es9)) := Lib.hid hown8); (have HB8 : Hid (Below Wz.heap.size Wz w8) := Lib.hid (Below.grown HBX.out hgr8 HZ9.out (fun k hk => (HOV.out.lt k hk).1))); clear hown8 hgr8)
              go_ret
              exact ⟨_, rfl, ValsP.ofRow HO8.out (HW9.out.same (fun b hb _ => HB8.out.block b hb) (fun _ _ _ => trivial)) (fun _ _ => trivial), HBz.out.trans (HB8.out.mono HBz.out.size)⟩
            · have hsub0 := (HV.out.any.below HBz.out).sub j j (by omega) (by omega)
              skip
              have hsub := hsub0
              rw [HF.out] at hsub
              try simp only [Nat.sub_self] at hsub
              have hsub2 : ValsP Wz (fun b => b < Wz.heap.size) _ (Wn.trimF f) := ValsP.mono hsub (fun _ _ h => h)
              obtain ⟨es9, hs9, hw9⟩ := hsub2.vsrc
              have hl9 := hw9.len
              have hlm : (Wn.trimF f).len ≤ 100000 := by have := Wn.trim_len f; omega
              have HBX : Hid (Below Wz.heap.size Wz (Wz.alloc (.cells #[] 49))) := Lib.hid ((Below.refl _ _).alloc (Nat.le_refl _) _)
              have HS9 := Lib.hid (hs9.later (Nat.le_refl _) HBX.out)
              have HW9 := Lib.hid hw9
              have HOV : Hid ((Wz.alloc (.cells #[] 49)).ownsRow Wz.heap.size 49 5 (.slice (some ⟨Wz.heap.size, 0, none⟩) 0 0) ([] : List Ent).length (valsCells [])) := Lib.hid (World.ownsRow_made Wz #[] 0 (Nat.le_refl _) (by unfold maxLen; omega) rfl)
              have HZ9 := Lib.hid HBX.out.size
              clear hsub hsub0 hsub2 hs9 hw9
              go_wp2_with (at_builtin; refine append_v rfl _ _ rfl Wz.heap.size _ _ [] es9 rfl rfl HOV.out HS9.out (by simp; omega) HZ9.out ?_; intro v8 w8 hown8 hgr8; (have HO8 : Hid (w8.ownsRow Wz.heap.size 49 5 v8 es9.length (valsCells es9)) := Lib.hid hown8); (have HB8 : Hid (Below Wz.heap.size Wz w8) := Lib.hid (Below.grown HBX.out hgr8 HZ9.out (fun k hk => (HOV.out.lt k hk).1))); clear hown8 hgr8)
              go_ret
              exact ⟨_, rfl, ValsP.ofRow HO8.out (HW9.out.same (fun b hb _ => HB8.out.block b hb) (fun _ _ _ => trivial)) (fun _ _ => trivial), HBz.out.trans (HB8.out.mono HBz.out.size)⟩
      · go_wp2_with fail
        exact ⟨⟨i + 1, by omega, by go_num, Lib.hid (HY.out (by simp)), HBz⟩, by simp [intOf]; omega⟩
    · have hni : ¬ (i : Int) < (f.len : Int) := by omega
      have HDg : Hid (Wn.rtrim (f.drop i) = Wn.trimF f) := Lib.hid (by unfold Wn.trimF; rw [← HD.out, Wn.Fs.drop_len (by omega)]; rfl)
      have HBz := HB
      clear HD HB
      go_wp2_with fail
      clear hni hlt
      go_loopw [4] (fun v4 wr => ∃ j : Nat, i ≤ j ∧ j ≤ f.len ∧ v4 = .int .i64 (j : Int) ∧ Hid (Wn.rtrim ((f.drop i).take (j - i)) = Wn.trimF f) ∧ Hid (Below w.heap.size w wr)) (fun v4 _ => (intOf v4).toNat)
      case atStart => exact ⟨f.len, hil, Nat.le_refl _, rfl, Lib.hid (by rw [Wn.Fs.take_all _ (by rw [Wn.Fs.len_drop]; omega)]; exact HDg.out), HBz⟩
      case round =>
        clear HBz HDg
        obtain ⟨j, hij, hjl, rfl, HE, HB2⟩ := hrel
        by_cases hlt2 : i < j
        · obtain ⟨m, rfl⟩ : ∃ m, j = m + 1 := ⟨j - 1, by omega⟩
          obtain ⟨k, t, x, hd⟩ := Wn.Fs.drop_cons (f := f) (i := m) (by omega)
          have hsn : (f.drop i).take (m + 1 - i) = ((f.drop i).take (m - i)).app (.cons k t x .nil) := by
            rw [show m + 1 - i = (m - i) + 1 by omega]; exact Wn.Fs.take_succ _ (by rw [Wn.Fs.drop_drop, show i + (m - i) = m by omega]; exact hd)
          have hrt := Wn.rtrim_snoc ((f.drop i).take (m - i)) k t x
          have HY := Lib.hid (fun h : Wn.blankV k t = true => (show Wn.rtrim ((f.drop i).take (m - i)) = Wn.trimF f by rw [← HE.out, hsn, hrt, if_pos h]))
          have HN := Lib.hid (fun h : Wn.blankV k t = false => (show (f.drop i).take (m + 1 - i) = Wn.trimF f by rw [← HE.out, hsn, hrt, if_neg (by rw [h]; decide)]))
          obtain ⟨b', o', he, j0, ⟨j1, j2, j3⟩, u, j4, hu⟩ := (HV.out.any.below HB2.out).at hd
          simp only [Option.some.injEq, Addr.mk.injEq, and_true] at he
          obtain ⟨rfl, rfl⟩ := he
          rw [show o + m * 5 + 1 + 1 = o + m * 5 + 2 by omega] at j2
          rw [show o + m * 5 + 1 + 2 = o + m * 5 + 3 by omega] at j3
          obtain ⟨uo, uc, rfl, _, _⟩ := hu.form
          have QB := Lib.hid (fun w => rBlank_v k t (.slice uo x.len uc) w ⟨_, _, _, rfl⟩)
          have hi1 : (i : Int) < (m : Int) + 1 := by omega
          clear hd hu hsn hrt HE
          generalize hbl : Wn.blankV k t = bl at *
          clear hbl
          generalize Wn.str t.2.1 = y at *
          generalize t.1 = tk at *
          generalize t.2.2 = tn at *
          go_wp2_with fail
          refine (QB.out _).mono ?_
          rintro e w6 ⟨rfl, b6⟩
          have HBz := Lib.hid (HB2.out.trans (b6.mono HB2.out.size))
          clear b6 HB2 QB j0 j1 j2 j3 j4
          cases bl
          · have HF : Hid ((f.drop i).take (m + 1 - i) = Wn.trimF f) := Lib.hid (HN.out (by simp))
            clear HN HY
            skip
            have hsub0 := (HV.out.any.below HBz.out).sub i (m + 1) (by omega) (by omega)
            have hsub := hsub0
            rw [HF.out] at hsub
            try simp only [Nat.sub_self] at hsub
            have hsub2 : ValsP w6 (fun b => b < w6.heap.size) _ (Wn.trimF f) := ValsP.mono hsub (fun _ _ h => h)
            obtain ⟨es9, hs9, hw9⟩ := hsub2.vsrc
            have hl9 := hw9.len
            have hlm : (Wn.trimF f).len ≤ 100000 := by have := Wn.trim_len f; omega
            have HBX : Hid (Below w6.heap.size w6 (w6.alloc (.cells #[] 49))) := Lib.hid ((Below.refl _ _).alloc (Nat.le_refl _) _)
            have HS9 := Lib.hid (hs9.later (Nat.le_refl _) HBX.out)
            have HW9 := Lib.hid hw9
            have HOV : Hid ((w6.alloc (.cells #[] 49)).ownsRow w6.heap.size 49 5 (.slice (some ⟨w6.heap.size, 0, none⟩) 0 0) ([] : List Ent).length (valsCells [])) := Lib.hid (World.ownsRow_made w6 #[] 0 (Nat.le_refl _) (by unfold maxLen; omega) rfl)
            have HZ9 := Lib.hid HBX.out.size
            clear hsub hsub0 hsub2 hs9 hw9
            go_wp2_with (at_builtin; refine append_v rfl _ _ rfl w6.heap.size _ _ [] es9 rfl rfl HOV.out HS9.out (by simp; omega) HZ9.out ?_; intro v8 w8 hown8 hgr8; (have HO8 : Hid (w8.ownsRow w6.heap.size 49 5 v8 es9.length (valsCells es9)) := Lib.hid hown8); (have HB8 : Hid (Below w6.heap.size w6 w8) := Lib.hid (Below.grown HBX.out hgr8 HZ9.out (fun k hk => (HOV.out.lt k hk).1))); clear hown8 hgr8)
            go_ret
            exact ⟨_, rfl, ValsP.ofRow HO8.out (HW9.out.same (fun b hb _ => HB8.out.block b hb) (fun _ _ _ => trivial)) (fun _ _ => trivial), HBz.out.trans (HB8.out.mono HBz.out.size)⟩
          · go_wp2_with fail
            exact ⟨⟨m, by omega, by omega, by go_num, Lib.hid (HY.out (by simp)), HBz⟩, by first | (simp [intOf]; done) | (simp [intOf]; omega)⟩
        · have hji : j = i := by omega
          subst hji
          have HF : Hid ((f.drop j).take (j - j) = Wn.trimF f) := Lib.hid (by rw [← HE.out, Nat.sub_self, Wn.Fs.take_zero]; rfl)
          have HBz := HB2
          obtain ⟨Wz, hWz⟩ : ∃ Wz, Wz = wr := ⟨_, rfl⟩
          subst hWz
          clear HE HB2
          by_cases hvi : vc = j
          · have hsub0 := (HV.out.any.below HBz.out).subC j j (by omega) (by omega)
            rw [if_pos hvi, show vc - j = 0 by omega] at hsub0
            skip
            have hsub := hsub0
            rw [HF.out] at hsub
            try simp only [Nat.sub_self] at hsub
            have hsub2 : ValsP Wz (fun b => b < Wz.heap.size) _ (Wn.trimF f) := ValsP.mono hsub (fun _ _ h => h)
            obtain ⟨es9, hs9, hw9⟩ := hsub2.vsrc
            have hl9 := hw9.len
            have hlm : (Wn.trimF f).len ≤ 100000 := by have := Wn.trim_len f; omega
            have HBX : Hid (Below Wz.heap.size Wz (Wz.alloc (.cells #[] 49))) := Lib.hid ((Below.refl _ _).alloc (Nat.le_refl _) _)
            have HS9 := Lib.hid (hs9.later (Nat.le_refl _) HBX.out)
            have HW9 := Lib.hid hw9
            have HOV : Hid ((Wz.alloc (.cells #[] 49)).ownsRow Wz.heap.size 49 5 (.slice (some ⟨Wz.heap.size, 0, none⟩) 0 0) ([] : List Ent).length (valsCells [])) := Lib.hid (World.ownsRow_made Wz #[] 0 (Nat.le_refl _) (by unfold maxLen; omega) rfl)
            have HZ9 := Lib.hid HBX.out.size
            clear hsub hsub0 hsub2 hs9 hw9
            go_wp2_with (at_builtin; refine append_v rfl _ _ rfl Wz.heap.size _ _ [] es9 rfl rfl HOV.out HS9.out (by simp; omega) HZ9.out ?_; intro v8 w8 hown8 hgr8; (have HO8 : Hid (w8.ownsRow Wz.heap.size 49 5 v8 es9.length (valsCells es9)) := Lib.hid hown8); (have HB8 : Hid (Below Wz.heap.size Wz w8) := Lib.hid (Below.grown HBX.out hgr8 HZ9.out (fun k hk => (HOV.out.lt k hk).1))); clear hown8 hgr8)
            go_ret
            exact ⟨_, rfl, ValsP.ofRow HO8.out (HW9.out.same (fun b hb _ => HB8.out.block b hb) (fun _ _ _ => trivial)) (fun _ _ => trivial), HBz.out.trans (HB8.out.mono HBz.out.size)⟩
          · have hsub0 := (HV.out.any.below HBz.out).sub j j (by omega) (by omega)
            skip
            have hsub := hsub0
            rw [HF.out] at hsub
            try simp only [Nat.sub_self] at hsub
            have hsub2 : ValsP Wz (fun b => b < Wz.heap.size) _ (Wn.trimF f) := ValsP.mono hsub (fun _ _ h => h)
            obtain ⟨es9, hs9, hw9⟩ := hsub2.vsrc
            have hl9 := hw9.len
            have hlm : (Wn.trimF f).len ≤ 100000 := by have := Wn.trim_len f; omega
            have HBX : Hid (Below Wz.heap.size Wz (Wz.alloc (.cells #[] 49))) := Lib.hid ((Below.refl _ _).alloc (Nat.le_refl _) _)
            have HS9 := Lib.hid (hs9.later (Nat.le_refl _) HBX.out)
            have HW9 := Lib.hid hw9
            have HOV : Hid ((Wz.alloc (.cells #[] 49)).ownsRow Wz.heap.size 49 5 (.slice (some ⟨Wz.heap.size, 0, none⟩) 0 0) ([] : List Ent).length (valsCells [])) := Lib.hid (World.ownsRow_made Wz #[] 0 (Nat.le_refl _) (by unfold maxLen; omega) rfl)
            have HZ9 := Lib.hid HBX.out.size
            clear hsub hsub0 hsub2 hs9 hw9
            go_wp2_with (at_builtin; refine append_v rfl _ _ rfl Wz.heap.size _ _ [] es9 rfl rfl HOV.out HS9.out (by simp; omega) HZ9.out ?_; intro v8 w8 hown8 hgr8; (have HO8 : Hid (w8.ownsRow Wz.heap.size 49 5 v8 es9.length (valsCells es9)) := Lib.hid hown8); (have HB8 : Hid (Below Wz.heap.size Wz w8) := Lib.hid (Below.grown HBX.out hgr8 HZ9.out (fun k hk => (HOV.out.lt k hk).1))); clear hown8 hgr8)
            go_ret
            exact ⟨_, rfl, ValsP.ofRow HO8.out (HW9.out.same (fun b hb _ => HB8.out.block b hb) (fun _ _ _ => trivial)) (fun _ _ => trivial), HBz.out.trans (HB8.out.mono HBz.out.size)⟩
theorem rTrim_any (v : Value) (f : Wn.Fs) (w : World) (hv : Vals w v f) (hf : f.size ≤ 100000) :
    Calls Tryz.prog 49 #[v] w fun e w' => ∃ r, e = .returned r ∧ Vals w' r (Wn.trimF f) ∧ Below w.heap.size w w' := by
  obtain ⟨vo, vc, rfl, c1, c2⟩ := hv.form
  by_cases hz : f = .nil
  · subst hz
    exact rTrim_nil vo vc w hv
  · obtain ⟨ao, cap, he, _, _, _, h3⟩ := id hv
    obtain ⟨b, o, ha, _⟩ := h3 hz
    simp only [Value.slice.injEq] at he
    rw [he.1, ha] at hv ⊢
    exact rTrim_some b o vc f w hv hf
set_option maxHeartbeats 400000 in
theorem rRead_any (s : ByteArray) (w : World) (hs : s.size ≤ 100000) :
    Calls Tryz.prog 22 #[.string s] w fun e w' => ∃ r c, e = .returned (.tuple #[r, .int .i64 c]) ∧ Below w.heap.size w w' ∧ ((c = 20 ∧ r = .slice Option.none 0 0 ∧ Wn.readF s.data.toList = none) ∨ (c = 0 ∧ ∃ f, Wn.readF s.data.toList = some f ∧ Vals w' r (Wn.trimF f))) := by
  have hll : (Wn.lex s.data.toList).length ≤ 100000 := lex_short hs
  have QA := Lib.hid (rAll s _ w (by omega) rfl)
  have QP := Lib.hid (fun v w hv => rParse_any v (Wn.lex s.data.toList) 60 w hv (by omega))
  have HLL := Lib.hid hll
  clear hll hs
  have hrd : Wn.parse (Wn.lex s.data.toList) (60 : Int).toNat = Wn.readF s.data.toList := rfl
  have HRD := Lib.hid hrd; clear hrd
  go_enter Tryz.func22, Tryz.ntmps22
  go_wp2_with fail
  refine QA.out.mono ?_
  rintro e w1 ⟨r1, rfl, ho, b1⟩
  have HO := Lib.hid ho.toks
  have HB1 := Lib.hid b1
  clear b1 ho QA
  go_wp2_with fail
  refine (QP.out _ _ HO.out).mono ?_
  rintro e w2 ⟨b2, hpost⟩
  rw [if_neg (by omega), HRD.out] at hpost
  have HB2 := Lib.hid (HB1.out.trans (b2.mono HB1.out.size))
  clear b2 HB1 HO QP
  cases hp : Wn.readF s.data.toList with
  | none =>
    rw [hp] at hpost
    dsimp only at hpost
    subst hpost
    have HPN := Lib.hid hp
    clear hp
    go_wp2_with fail
    exact bodyPost_ret (v := .tuple #[.slice none 0 0, .int .i64 20]) (by simp [results, Tryz.results22, go_sem]) rfl ⟨_, _, rfl, HB2.out, .inl ⟨rfl, rfl, HPN.out⟩⟩
  | some f =>
    rw [hp] at hpost
    dsimp only at hpost
    obtain ⟨r2, rfl, hv2⟩ := hpost
    have hsz := Wn.parse_size hp
    have hll := HLL.out
    have QT := Lib.hid (fun v w hv => rTrim_any v f w hv (by omega))
    have HV2 := Lib.hid hv2.any
    have HPN := Lib.hid hp
    clear hsz hll hv2 hp
    go_wp2_with fail
    refine (QT.out _ _ HV2.out).mono ?_
    rintro e w3 ⟨r3, rfl, hv3, b3⟩
    have HB3 := Lib.hid (HB2.out.trans (b3.mono HB2.out.size))
    have HV3 := Lib.hid hv3
    clear b3 hv3 HB2 HV2 QT
    go_wp2_with fail
    exact bodyPost_ret (v := .tuple #[r3, .int .i64 0]) (by simp [results, Tryz.results22, go_sem]) rfl ⟨_, _, rfl, HB3.out, .inr ⟨rfl, f, HPN.out, HV3.out⟩⟩
end Go.Proofs.YtjlejiphpbaonaaGreatDoor
set_option linter.unusedVariables false
set_option linter.unusedSimpArgs false
set_option maxRecDepth 20000
namespace Go.Proofs.YtjlejiphpbaonaaGreatDoor
open Go.RowKit Go.Sort
theorem step_append_v {w : World} {ops : Array Oper} {o : Oper} {a : Act} {K : Act → World → Prop} {Q : Exit → Act → World → Prop} {E : Prop} (hgd : o.guard = none) (s x : Operand)
    (ho : o.op = .call { callee := .builtin .append, args := #[s, x], argTypes := #[22, 22] })
    (base : Nat) (v u : Value) (l m : List (Int × Wn.Tok × Value)) (hs : a.eval s = v) (hx : a.eval x = u) (hown : w.ownsRow base 49 5 v l.length (valsCells l)) (hU : VSrc w u m)
    (hlen : l.length + m.length ≤ 1048576) (hbase : base ≤ w.heap.size)
    (h : ∀ v' w', w'.ownsRow base 49 5 v' (l ++ m).length (valsCells (l ++ m)) → w.grownBy w' v.ownBlock → K (a.put o.dst v') w') : if Region.wanted o (yielded ops a.tmps) = true then Oper.wp Tryz.prog o a w K Q else E := by
  have hw : Region.wanted o (yielded ops a.tmps) = true := by simp [Region.wanted, hgd]
  rw [if_pos hw]
  obtain ⟨i0, hi, hz0, hz1, hz2⟩ := info_parts info_val
  obtain ⟨h1c, hU⟩ := hU
  rcases hU with ⟨rfl, rfl⟩ | ⟨ad, cap, rfl, h3⟩
  · have hrun := run_append_owned_none (P := Tryz.prog) (w := w) base 22 o.type 49 i0 5 Tryz.underlying22 hi v _ _ hown
    have hk := h v w (by rw [List.append_nil]; exact hown) ⟨rfl, rfl, rfl, Nat.le_refl _, fun _ _ _ => rfl⟩
    unfold Oper.wp
    simp [execOp, ho, resolve, invoke, builtin, hs, hx, hrun, Result.andThen]
    exact hk
  · obtain ⟨v', w', hr, h2, h3', _, _⟩ := run_append_own_at (P := Tryz.prog) w base 22 o.type 49 i0 (.agg #[.int .i64 0, .int .i64 0, .string ⟨#[]⟩, .int .i64 0, .slice none 0 0]) 5 64 Tryz.underlying22 hi hz0 hz1 hz2 rfl (by decide) v _ _ hown ad m.length cap (valsCells m) (valsCells_length m) h3 h1c (by unfold maxLen; omega) (by omega) hbase
    have hk := h v' w' (by rw [List.length_append, valsCells_app]; exact h2) h3'
    unfold Oper.wp
    simp [execOp, ho, resolve, invoke, builtin, hs, hx, hr, Result.andThen]
    exact hk
theorem VSrc.far {w w' : World} {g o n cap : Nat} {es : List (Int × Wn.Tok × Value)} {row : Option Nat} (h : VSrc w (.slice (some ⟨g, o, none⟩) n cap) es) (hg : w.grownBy w' row) (hne : row ≠ some g) : VSrc w' (.slice (some ⟨g, o, none⟩) n cap) es := by
  refine ⟨h.1, ?_⟩
  rcases h.2 with ⟨hv, _⟩ | ⟨ad, c, hv, hc⟩
  · cases hv
  · refine .inr ⟨ad, c, hv, fun j u hj => ?_⟩
    have := hc j u hj
    simp only [Value.slice.injEq, Option.some.injEq] at hv
    have hb : (ad.add j).block = g := by rw [← hv.1]; simp only [Addr.add]; split <;> rfl
    rw [← this]
    exact World.cell?_of_block (hg.block _ (World.block_lt_of_cell? w _ this) (by rw [hb]; exact fun e => hne e.symm))
/-- the blank that the law lays round its values -/
abbrev bE : Int × Wn.Tok × Value := (1, (8, [10], 0), .slice Option.none 0 0)
theorem made1 (w : World) (n base : Nat) (hn : n = w.heap.size) (hb : base ≤ w.heap.size) : (w.alloc (.cells #[.int .i64 1, .int .i64 8, .string ⟨#[10]⟩, .int .i64 0, .slice none 0 0] 49)).ownsRow base 49 5 (.slice (some ⟨n, 0, none⟩) 1 1) [bE].length (valsCells [bE]) := by
  subst hn
  exact ⟨rfl, .inr ⟨w.heap.size, 1, _, rfl, hb, heap_alloc_new w _, Nat.le_refl _, by unfold maxLen; omega, rfl, rfl⟩⟩
theorem made2 (w : World) (n : Nat) (hn : n = w.heap.size) : VSrc (w.alloc (.cells #[.int .i64 1, .int .i64 8, .string ⟨#[10]⟩, .int .i64 0, .slice none 0 0, .int .i64 1, .int .i64 8, .string ⟨#[10]⟩, .int .i64 0, .slice none 0 0] 49)) (.slice (some ⟨n, 0, none⟩) 2 2) [bE, bE] := by
  subst hn
  refine ⟨fun c hc => by simp [valsCells, valCells] at hc; rcases hc with rfl | rfl | rfl | rfl | rfl | rfl | rfl | rfl | rfl | rfl <;> rfl, .inr ⟨_, 2, rfl, fun j u hj => ?_⟩⟩
  have hadd : (⟨w.heap.size, 0, none⟩ : Addr).add j = ⟨w.heap.size, j, none⟩ := by simp only [Addr.add]; split <;> simp_all
  rw [hadd, cell_of_block (o := j) (heap_alloc_new w _)]
  have e : Wn.str [10] = (⟨#[10]⟩ : ByteArray) := rfl
  simpa [valsCells, valCells, e] using hj
theorem VSrc.drew {w : World} {u : Value} {es : List (Int × Wn.Tok × Value)} (h : VSrc w u es) : VSrc w.drew u es := h.later (Nat.le_refl _) (Below.refl _ _).drew
theorem VSrc.alloc {w : World} {u : Value} {es : List (Int × Wn.Tok × Value)} (h : VSrc w u es) (o : Obj) : VSrc (w.alloc o) u es := h.later (Nat.le_refl _) ((Below.refl _ _).alloc (Nat.le_refl _) _)
theorem cell_late {W w1 : World} (hb : Below W.heap.size W w1) {a : Addr} {v : Value} (h : W.cell? a = some v) : w1.cell? a = some v := by
  rw [hb.cell (World.block_lt_of_cell? W _ h)]; exact h
end Go.Proofs.YtjlejiphpbaonaaGreatDoor
set_option linter.unusedVariables false
set_option linter.unusedSimpArgs false
set_option maxRecDepth 20000
namespace Go.Proofs.YtjlejiphpbaonaaGreatDoor
open Go.RowKit Go.Sort Go.Shelf
theorem own_form {W : World} {B : Nat} {T : TypeId} {n m : Nat} {v : Value} {xs : List Value} (h : W.ownsRow B T n v m xs) : ∃ ao c, v = .slice ao m c := by
  rcases h.2 with ⟨hv, h0⟩ | ⟨q, cap, cur, hv, _⟩
  · exact ⟨Option.none, 0, by rw [hv, h0]⟩
  · exact ⟨_, _, hv⟩
theorem wordsOf_nil (l : List Wn.Fs) : wordsOf (.nil :: l) = wordsOf l := by unfold wordsOf; rw [List.filter_cons]; simp
theorem wordsOf_ne {a : Wn.Fs} (h : a ≠ .nil) (l : List Wn.Fs) : wordsOf (a :: l) = a :: wordsOf l := by unfold wordsOf; rw [List.filter_cons]; simp [h]
section
variable {p : Int → Wn.Tok → Bool} {gs : List Wn.Fs} {acc f : Wn.Fs} {i : Nat} {k : Int} {t : Wn.Tok} {x : Wn.Fs} {L : List Wn.Fs}
theorem addHead_yes (hd : f.drop i = .cons k t x (f.drop (i + 1))) (h : p k t = true) : Wn.addHead acc (Wn.cuts p (f.drop i)) = acc :: Wn.cuts p (f.drop (i + 1)) := by
  rw [hd, Wn.cuts_yes h]; simp [Wn.addHead, Wn.Fs.app_nil]
theorem addHead_no (hd : f.drop i = .cons k t x (f.drop (i + 1))) (h : p k t = false) : Wn.addHead acc (Wn.cuts p (f.drop i)) = Wn.addHead (acc.app (.cons k t x .nil)) (Wn.cuts p (f.drop (i + 1))) := by
  rw [hd, Wn.cuts_no h, Wn.addHead_app _ _ (Wn.cuts_ne _ _)]
theorem addHead_end (hd : f.drop i = .nil) : Wn.addHead acc (Wn.cuts p (f.drop i)) = [acc] := by
  rw [hd]; simp [Wn.cuts, Wn.addHead, Wn.Fs.app_nil]
theorem at_yes (he : gs ++ Wn.addHead acc (Wn.cuts p (f.drop i)) = L) (hd : f.drop i = .cons k t x (f.drop (i + 1))) (h : p k t = true) : (gs ++ [acc]) ++ Wn.addHead .nil (Wn.cuts p (f.drop (i + 1))) = L := by
  rw [← he, addHead_yes hd h, Wn.addHead_nil (Wn.cuts_ne _ _)]; simp
theorem at_no (he : gs ++ Wn.addHead acc (Wn.cuts p (f.drop i)) = L) (hd : f.drop i = .cons k t x (f.drop (i + 1))) (h : p k t = false) : gs ++ Wn.addHead (acc.app (.cons k t x .nil)) (Wn.cuts p (f.drop (i + 1))) = L := by
  rw [← he, addHead_no hd h]
theorem wo_yes0 (he : gs ++ wordsOf (Wn.addHead .nil (Wn.cuts p (f.drop i))) = L) (hd : f.drop i = .cons k t x (f.drop (i + 1))) (h : p k t = true) : gs ++ wordsOf (Wn.addHead .nil (Wn.cuts p (f.drop (i + 1)))) = L := by
  rw [← he, addHead_yes hd h, Wn.addHead_nil (Wn.cuts_ne _ _), wordsOf_nil]
theorem wo_yes1 (ha : acc ≠ .nil) (he : gs ++ wordsOf (Wn.addHead acc (Wn.cuts p (f.drop i))) = L) (hd : f.drop i = .cons k t x (f.drop (i + 1))) (h : p k t = true) : (gs ++ [acc]) ++ wordsOf (Wn.addHead .nil (Wn.cuts p (f.drop (i + 1)))) = L := by
  rw [← he, addHead_yes hd h, Wn.addHead_nil (Wn.cuts_ne _ _), wordsOf_ne ha]; simp
theorem wo_no (he : gs ++ wordsOf (Wn.addHead acc (Wn.cuts p (f.drop i))) = L) (hd : f.drop i = .cons k t x (f.drop (i + 1))) (h : p k t = false) : gs ++ wordsOf (Wn.addHead (acc.app (.cons k t x .nil)) (Wn.cuts p (f.drop (i + 1)))) = L := by
  rw [← he, addHead_no hd h]
theorem wo_end0 (he : gs ++ wordsOf (Wn.addHead .nil (Wn.cuts p (f.drop i))) = L) (hd : f.drop i = .nil) : gs = L := by
  rw [← he, addHead_end hd, wordsOf_nil]; simp [wordsOf]
theorem wo_end1 (ha : acc ≠ .nil) (he : gs ++ wordsOf (Wn.addHead acc (Wn.cuts p (f.drop i))) = L) (hd : f.drop i = .nil) : gs ++ [acc] = L := by
  rw [← he, addHead_end hd, wordsOf_ne ha]; simp [wordsOf]
end
set_option maxRecDepth 100000 in
set_option maxHeartbeats 1000000 in
theorem rAt_any (s0 : List UInt8) (v : Value) (f : Wn.Fs) (w : World) (hv : Vals w v f) (hf : f.size ≤ 100000) :
    Calls Tryz.prog 25 #[v, .string (Wn.str s0)] w fun e w' => ∃ r, e = .returned r ∧ ListP w' (fun _ => True) r (Wn.cuts (Wn.signV s0) f) ∧ Below w.heap.size w w' := by
  have hfl : f.len ≤ 100000 := by have := Wn.Fs.len_le_size f; omega
  have HV := Lib.hid hv.old
  obtain ⟨vo, vc, rfl, c1, c2⟩ := hv.form
  clear hv hf
  unfold maxLen at c2
  obtain ⟨i0, hi0, hz0, hz1, hz2⟩ := info_parts info_slv
  have H0 := Lib.hid (OI.start w).fresh
  have HE0 : Hid ([] ++ Wn.addHead .nil (Wn.cuts (Wn.signV s0) (f.drop 0)) = Wn.cuts (Wn.signV s0) f) := Lib.hid (by rw [Wn.Fs.drop_zero, Wn.addHead_nil (Wn.cuts_ne _ _)]; rfl)
  generalize Wn.cuts (Wn.signV s0) f = L at *
  go_enter Tryz.func25, Tryz.ntmps25
  go_wp2_with fail
  go_loopw [5, 6, 7] (fun v5 v6 v7 wr => ∃ (i P : Nat) (us : List Value) (gs : List Wn.Fs) (es : List Ent) (acc : Wn.Fs), i ≤ f.len ∧ us.length ≤ i ∧ es.length ≤ i ∧ v7 = .int .i64 (i : Int) ∧ Hid (PI w wr P v5 us gs v6 es acc) ∧ Hid (gs ++ Wn.addHead acc (Wn.cuts (Wn.signV s0) (f.drop i)) = L)) (fun _ _ v7 _ => f.len - (intOf v7).toNat)
  case atStart => exact ⟨0, _, [], [], [], .nil, by omega, Nat.le_refl _, Nat.le_refl _, rfl, by simpa using H0, HE0⟩
  case round =>
    clear H0 HE0
    obtain ⟨i, P, us, gs, es, acc, hil, hul, hel, rfl, HP, HE⟩ := hrel
    obtain ⟨po, pc, rfl⟩ := own_form HP.out.pown
    have hPw := HP.out.hi
    have hwP := HP.out.lo
    by_cases hlt : i < f.len
    · obtain ⟨k, t, x, hd⟩ := Wn.Fs.drop_cons hlt
      have HY := Lib.hid (fun h : Wn.signV s0 k t = true => at_yes HE.out hd h)
      have HN := Lib.hid (fun h : Wn.signV s0 k t = false => at_no HE.out hd h)
      obtain ⟨b, o, rfl, g0, ⟨g1, g2, g3⟩, u, g4, hu⟩ := HV.out.at hd
      have hbw : b < w.heap.size := World.block_lt_of_cell? _ _ g0
      have j0 := (HP.out.below.cell (p := ⟨b, o + i * 5, none⟩) hbw).trans g0
      have j1 := (HP.out.below.cell (p := ⟨b, o + i * 5 + 1, none⟩) hbw).trans g1
      have j2 := (HP.out.below.cell (p := ⟨b, o + i * 5 + 1 + 1, none⟩) hbw).trans g2
      have j3 := (HP.out.below.cell (p := ⟨b, o + i * 5 + 1 + 2, none⟩) hbw).trans g3
      have j4 := (HP.out.below.cell (p := ⟨b, o + i * 5 + 4, none⟩) hbw).trans g4
      clear g0 g1 g2 g3 g4
      rw [show o + i * 5 + 1 + 1 = o + i * 5 + 2 by omega] at j2
      rw [show o + i * 5 + 1 + 2 = o + i * 5 + 3 by omega] at j3
      obtain ⟨uo, uc, rfl, _, _⟩ := hu.form
      have HU := Lib.hid hu
      have hi1 : (i : Int) < (f.len : Int) := by omega
      clear hu
      have QB := Lib.hid (fun w => rSign_v s0 k t (.slice uo x.len uc) w ⟨_, _, _, rfl⟩)
      clear hd HE
      generalize hbl : Wn.signV s0 k t = bl at *
      clear hbl
      have HS := Lib.hid (fun (w : World) => VSrc.one w w.heap.size rfl k t uo x.len uc)
      generalize hy : Wn.str t.2.1 = y at *
      go_wp2_with fail
      refine (QB.out _).mono ?_
      rintro e w5 ⟨rfl, b5⟩
      have HP5 := Lib.hid (HP.out.later b5)
      have hz5 : wr.heap.size ≤ w5.heap.size := b5.size
      have k0 := cell_late b5 j0
      have k1 := cell_late b5 j1
      have k2 := cell_late b5 j2
      have k3 := cell_late b5 j3
      have k4 := cell_late b5 j4
      clear j0 j1 j2 j3 j4
      clear b5 HP QB
      cases bl
      · clear HY
        skip
        have HBA : Hid (Below w5.heap.size w5 (w5.alloc (.cells #[.int .i64 k, .int .i64 t.1, .string y, .int .i64 t.2.2, .slice uo x.len uc] 49))) := Lib.hid ((Below.refl _ _).alloc (Nat.le_refl _) _)
        have HP6 := Lib.hid (HP5.out.later HBA.out)
        have HU6 : Hid (ValsP (w5.alloc (.cells #[.int .i64 k, .int .i64 t.1, .string y, .int .i64 t.2.2, .slice uo x.len uc] 49)) (fun b => b < w.heap.size) (.slice uo x.len uc) x) := Lib.hid (HU.out.same (fun b hb _ => HP6.out.below.block b hb) (fun _ h _ => h))
        clear HP5 HU HBA
        go_wp2_with (at_builtin; refine append_v rfl _ _ rfl P _ _ es [(k, t, .slice uo x.len uc)] rfl rfl HP6.out.pown (HS.out _) (by simp; omega) HP6.out.hi ?_; intro v8 w8 hown8 hgr8; (have HI8 := Lib.hid (HP6.out.add hown8 hgr8 HU6.out)); clear hown8 hgr8)
        exact ⟨⟨i + 1, P, us, gs, _, _, by omega, by omega, by simp; omega, by go_num, HI8, Lib.hid (HN.out (by simp))⟩, by simp [intOf]; omega⟩
      · clear HN HU k0 k1 k2 k3 k4
        skip
        have HOA := Lib.hid (ownsRow_later HP5.out.own ((Below.refl w5.heap.size w5).alloc (Nat.le_refl _) (.cells #[.slice po es.length pc] 22)))
        have HZA : Hid (w.heap.size ≤ (w5.alloc (.cells #[.slice po es.length pc] 22)).heap.size) := Lib.hid (by have := HP5.out.below.size; simp; omega)
        go_wp2_with (at_builtin; refine wpList_append_own_at _ rfl _ _ 41 rfl w.heap.size 22 i0 (.slice none 0 0) 1 24 Tryz.underlying41 hi0 hz0 hz1 hz2 rfl (by decide) _ us.length us rfl HOA.out ⟨w5.heap.size, 0, none⟩ 1 1 [.slice po es.length pc] rfl rfl (cell_one_new _ _ _) (by simp [Value.oneCell']) (by unfold maxLen; omega) (by omega) HZA.out ?_; intro v8 w8 hown8 hgr8 hnil8 hat8; (have HI8 := Lib.hid ((HP5.out.cut hown8 hgr8 hat8).fresh)); clear hown8 hgr8 hnil8 hat8)
        clear HOA HZA HP5
        exact ⟨⟨i + 1, _, _, gs ++ [acc], [], .nil, by omega, by simp; omega, by simp, by go_num, HI8, Lib.hid (HY.out (by simp))⟩, by simp [intOf]; omega⟩
    · have hni : ¬ (i : Int) < (f.len : Int) := by omega
      have HL : Hid (gs ++ [acc] = L) := Lib.hid (by rw [← HE.out, addHead_end (Wn.Fs.drop_len (by omega))])
      obtain ⟨w5, hw5⟩ : ∃ w5, w5 = wr := ⟨_, rfl⟩
      subst hw5
      have HP5 := HP
      clear HE HP
      skip
      have HOA := Lib.hid (ownsRow_later HP5.out.own ((Below.refl w5.heap.size w5).alloc (Nat.le_refl _) (.cells #[.slice po es.length pc] 22)))
      have HZA : Hid (w.heap.size ≤ (w5.alloc (.cells #[.slice po es.length pc] 22)).heap.size) := Lib.hid (by have := HP5.out.below.size; simp; omega)
      go_wp2_with (at_builtin; refine wpList_append_own_at _ rfl _ _ 41 rfl w.heap.size 22 i0 (.slice none 0 0) 1 24 Tryz.underlying41 hi0 hz0 hz1 hz2 rfl (by decide) _ us.length us rfl HOA.out ⟨w5.heap.size, 0, none⟩ 1 1 [.slice po es.length pc] rfl rfl (cell_one_new _ _ _) (by simp [Value.oneCell']) (by unfold maxLen; omega) (by omega) HZA.out ?_; intro v8 w8 hown8 hgr8 hnil8 hat8; (have HI8 := Lib.hid ((HP5.out.cut hown8 hgr8 hat8))); clear hown8 hgr8 hnil8 hat8)
      clear HOA HZA HP5
      go_ret
      have hl := HI8.out.list
      rw [HL.out] at hl
      exact ⟨_, rfl, hl, HI8.out.below⟩
end Go.Proofs.YtjlejiphpbaonaaGreatDoor
set_option linter.unusedVariables false
set_option linter.unusedSimpArgs false
set_option maxRecDepth 20000
namespace Go.Proofs.YtjlejiphpbaonaaGreatDoor
open Go.RowKit Go.Sort Go.Shelf
set_option maxRecDepth 100000 in
set_option maxHeartbeats 1000000 in
theorem rJoin_any (s0 : List UInt8) (v : Value) (gs : List Wn.Fs) (w : World) (hv : ListP w (fun b => b < w.heap.size) v gs) (hf : Wn.sizes gs ≤ 100000) :
    Calls Tryz.prog 24 #[v, .string (Wn.str s0)] w fun e w' => ∃ r, e = .returned r ∧ Vals w' r (Wn.joinF s0 gs) ∧ Below w.heap.size w w' := by
  have HV := Lib.hid hv
  obtain ⟨vo, vc, rfl, c1, c2⟩ := hv.form
  clear hv
  unfold maxLen at c2
  have HBX : Hid (Below w.heap.size w (w.alloc (.cells #[] 49))) := Lib.hid ((Below.refl _ _).alloc (Nat.le_refl _) _)
  have HOV : Hid ((w.alloc (.cells #[] 49)).ownsRow w.heap.size 49 5 (.slice (some ⟨w.heap.size, 0, none⟩) 0 0) ([] : List Ent).length (valsCells [])) := Lib.hid (World.ownsRow_made w #[] 0 (Nat.le_refl _) (by unfold maxLen; omega) rfl)
  go_enter Tryz.func24, Tryz.ntmps24
  go_wp2_with fail
  generalize w.alloc (.cells #[] 49) = W0 at *
  go_loopw [5, 6] (fun v5 v6 wr => ∃ (i : Nat) (es : List Ent), i ≤ gs.length ∧ v6 = .int .i64 (i : Int) ∧ Hid (wr.ownsRow w.heap.size 49 5 v5 es.length (valsCells es)) ∧ Hid (Row w (fun b => b < w.heap.size) es (Wn.joinF s0 (gs.take i))) ∧ Hid (Below w.heap.size w wr)) (fun _ v6 _ => gs.length - (intOf v6).toNat)
  case atStart => exact ⟨0, [], by omega, rfl, HOV, Lib.hid trivial, HBX⟩
  case round =>
    clear HOV HBX
    obtain ⟨i, es, hil, rfl, HO, HR, HB⟩ := hrel
    by_cases hlt : i < gs.length
    · obtain ⟨g, hd⟩ : ∃ g, gs[i]? = some g := ⟨_, List.getElem?_eq_getElem hlt⟩
      obtain ⟨b, o, u, rfl, jw, hu⟩ := HV.out.at hd
      have j0 := jw
      rw [← HB.out.cell (World.block_lt_of_cell? w _ jw)] at j0
      have hgs := Wn.size_mem (List.mem_of_getElem? hd)
      have hgl := Wn.Fs.len_le_size g
      have hel : es.length ≤ 100000 := by
        have a := HR.out.len
        have b := Wn.Fs.len_le_size (Wn.joinF s0 (gs.take i))
        have c := Wn.joinF_size s0 (gs.take i)
        have d := Wn.sizes_take gs i
        omega
      obtain ⟨uo, uc, rfl, _, _⟩ := hu.form
      obtain ⟨es1, hs1, hw1⟩ := hu.vsrc
      have hl1 := hw1.len
      have hle1 : es1.length ≤ 100000 := by omega
      have HS1 := Lib.hid hs1
      have HW1 := Lib.hid hw1
      have hi1 : (i : Int) < (gs.length : Int) := by omega
      have hz0 : w.heap.size ≤ wr.heap.size := HB.out.size
      clear hu hs1 hw1 jw hgs hgl hl1
      by_cases h0 : i = 0
      · subst h0
        have HJ : Hid (Row w (fun b => b < w.heap.size) (es ++ es1) (Wn.joinF s0 (gs.take (0 + 1)))) := Lib.hid (by rw [Wn.joinF_one s0 hd]; exact Row.app (f := .nil) HR.out HW1.out)
        have HS2 := Lib.hid (HS1.out.later (Nat.le_refl _) HB.out)
        clear hd HR
        simp only [Nat.add_zero] at j0
        go_wp2_with (at_builtin; refine append_v rfl _ _ rfl w.heap.size _ _ es es1 rfl rfl HO.out HS2.out (by omega) hz0 ?_; intro v8 w8 hown8 hgr8; (have HO8 := Lib.hid hown8); (have HB8 : Hid (Below w.heap.size w w8) := Lib.hid (Below.grown HB.out hgr8 hz0 (fun k hk => (HO.out.lt k hk).1))); clear hown8 hgr8)
        exact ⟨⟨0 + 1, _, by omega, by go_num, HO8, HJ, HB8⟩, by simp [intOf]; omega⟩
      · have HJ : Hid (Row w (fun b => b < w.heap.size) ((es ++ [((1, (7, s0, 0), Value.slice Option.none 0 0) : Ent)]) ++ es1) (Wn.joinF s0 (gs.take (i + 1)))) := Lib.hid (by rw [Wn.joinF_take s0 hd (by omega)]; exact Row.app (Row.app HR.out ⟨rfl, rfl, ValsP.nil _ _, trivial⟩) HW1.out)
        have hi2 : 0 < (i : Int) := by omega
        have HBA : Hid (Below wr.heap.size wr (wr.alloc (.cells #[.int .i64 1, .int .i64 7, .string (Wn.str s0), .int .i64 0, .slice none 0 0] 49))) := Lib.hid ((Below.refl _ _).alloc (Nat.le_refl _) _)
        have HO6 := Lib.hid (ownsRow_later HO.out HBA.out)
        have HB6 := Lib.hid (HB.out.trans (HBA.out.mono HB.out.size))
        have HZ6 := Lib.hid HB6.out.size
        have HSD : Hid (VSrc (wr.alloc (.cells #[.int .i64 1, .int .i64 7, .string (Wn.str s0), .int .i64 0, .slice none 0 0] 49)) (.slice (some ⟨wr.heap.size, 0, none⟩) 1 1) [((1, (7, s0, 0), Value.slice Option.none 0 0) : Ent)]) := Lib.hid (VSrc.one wr wr.heap.size rfl 1 (7, s0, 0) Option.none 0 0)
        have JW : Hid (∀ W : World, Below w.heap.size w W → W.cell? ⟨b, o + i, none⟩ = some (.slice uo g.len uc)) := Lib.hid (fun W h => by have := HV.out.at hd; obtain ⟨b', o', u', he, hc, _⟩ := this; simp only [Option.some.injEq, Addr.mk.injEq, and_true] at he; obtain ⟨rfl, rfl⟩ := he; have e1 := (HB.out.cell (World.block_lt_of_cell? w _ hc)).trans hc; rw [j0] at e1; rw [e1]; exact (h.cell (World.block_lt_of_cell? w _ hc)).trans hc)
        clear hd HR HBA j0
        go_wp2_with (first
          | (at_builtin; refine append_v rfl _ _ rfl w.heap.size _ _ (es ++ [((1, (7, s0, 0), Value.slice Option.none 0 0) : Ent)]) es1 rfl rfl HO8.out HS8.out (by simp; omega) hz8 ?_; intro v9 w9 hown9 hgr9; (have HO9 := Lib.hid hown9); (have HB9 : Hid (Below w.heap.size w w9) := Lib.hid (Below.grown HB8.out hgr9 hz8 (fun k hk => (HO8.out.lt k hk).1))); clear hown9 hgr9)
          | (at_builtin; refine append_v rfl _ _ rfl w.heap.size _ _ es [((1, (7, s0, 0), Value.slice Option.none 0 0) : Ent)] rfl rfl HO6.out HSD.out (by simp; omega) HZ6.out ?_; intro v8 w8 hown8 hgr8; (have HO8 := Lib.hid hown8); (have HB8 : Hid (Below w.heap.size w w8) := Lib.hid (Below.grown HB6.out hgr8 HZ6.out (fun k hk => (HO6.out.lt k hk).1))); (have hz8 : w.heap.size ≤ w8.heap.size := HB8.out.size); (have HS8 := Lib.hid (HS1.out.later (Nat.le_refl _) HB8.out)); (have j8 := JW.out _ HB8.out); clear hown8 hgr8))
        exact ⟨⟨i + 1, _, by omega, by go_num, HO9, HJ, HB9⟩, by simp [intOf]; omega⟩
    · have hni : ¬ (i : Int) < (gs.length : Int) := by omega
      have HJ : Hid (Row w (fun b => b < w.heap.size) es (Wn.joinF s0 gs)) := Lib.hid (by have := HR.out; rw [List.take_of_length_le (by omega)] at this; exact this)
      clear HR
      go_wp2_with fail
      go_ret
      exact ⟨_, rfl, ValsP.ofRow HO.out (HJ.out.same (fun b hb _ => HB.out.block b hb) (fun _ _ _ => trivial)) (fun _ _ => trivial), HB.out⟩
end Go.Proofs.YtjlejiphpbaonaaGreatDoor
