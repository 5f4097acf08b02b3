/- Lists of values in memory; what split.Join answers. What ref03.Lists answers: are two lists of values the same? What is trimmed, what is cut, what is joined: plain mathematics of values. Mathematics: all words, one behind the other. What is read from the text of values that may be: plain mathematics. What split.Text and split.Read answer. -/
import Derived.Test.YtjlejiphpbaonaaGreatDoorGX
import Derived.Test.YtjlejiphpbaonaaGreatDoorGR
import Derived.Test.YtjlejiphpbaonaaGreatDoorGS
import Derived.Test.YtjlejiphpbaonaaGreatDoorGT
import Derived.Test.YtjlejiphpbaonaaGreatDoorGH
import Derived.Test.YtjlejiphpbaonaaGreatDoorGW
import Derived.Test.YtjlejiphpbaonaaGreatDoorGQ
set_option linter.unusedVariables false
set_option linter.unusedSimpArgs false
set_option maxRecDepth 20000
namespace Wn
/-- values of all parts, with the delimiter between any two -/
def joinF (s : List UInt8) : List Fs → Fs
  | [] => .nil
  | [a] => a
  | a :: b :: l => a.app (.cons 1 (dlm s) .nil (joinF s (b :: l)))
theorem joinF_snoc (s : List UInt8) : ∀ (l : List Fs) (a : Fs), l ≠ [] → joinF s (l ++ [a]) = (joinF s l).app (.cons 1 (dlm s) .nil a)
  | [], a, h => absurd rfl h
  | [b], a, _ => rfl
  | b :: c :: l, a, _ => by
    rw [List.cons_append, List.cons_append, joinF, joinF, ← List.cons_append, joinF_snoc s (c :: l) a (by simp), Fs.app_assoc]; rfl
def sizes : List Fs → Nat
  | [] => 0
  | a :: l => a.size + 1 + sizes l
theorem sizes_app : ∀ l m : List Fs, sizes (l ++ m) = sizes l + sizes m
  | [], m => by simp [sizes]
  | a :: l, m => by rw [List.cons_append, sizes, sizes, sizes_app l m]; omega
theorem joinF_size (s : List UInt8) : ∀ l : List Fs, (joinF s l).size ≤ sizes l
  | [] => Nat.le_refl _
  | [a] => by simp [joinF, sizes]
  | a :: b :: l => by
    have := joinF_size s (b :: l)
    rw [joinF, Fs.size_app, sizes, Fs.size]
    simp only [Fs.size] at this ⊢
    omega
theorem joinF_take (s : List UInt8) {gs : List Fs} {i : Nat} {g : Fs} (h : gs[i]? = some g) (h0 : 0 < i) : joinF s (gs.take (i + 1)) = ((joinF s (gs.take i)).app (.cons 1 (dlm s) .nil .nil)).app g := by
  have hl := (List.getElem?_eq_some_iff.1 h).1
  rw [List.take_add_one, h, Option.toList_some, joinF_snoc s _ g (by intro e; have := congrArg List.length e; rw [List.length_take, List.length_nil] at this; omega), Fs.app_assoc]
  rfl
theorem joinF_one (s : List UInt8) {gs : List Fs} {g : Fs} (h : gs[0]? = some g) : joinF s (gs.take 1) = g := by
  rw [List.take_add_one, h]; rfl
theorem sizes_take (l : List Fs) (i : Nat) : sizes (l.take i) ≤ sizes l := by
  have := sizes_app (l.take i) (l.drop i)
  rw [List.take_append_drop] at this
  omega
theorem size_mem {g : Fs} : ∀ {l : List Fs}, g ∈ l → g.size + 1 ≤ sizes l
  | a :: l, h => by
    rw [sizes]
    rcases List.mem_cons.1 h with rfl | h
    · omega
    · have := size_mem h; omega
end Wn
namespace Go.Proofs.YtjlejiphpbaonaaGreatDoor
open Go.RowKit Go.Sort Go.Shelf
/-- a slice of slices that read as values -/
def ListP (w : World) (ok : Nat → Prop) (v : Value) (gs : List Wn.Fs) : Prop :=
  ∃ ao cap us, v = .slice ao us.length cap ∧ us.length ≤ cap ∧ cap ≤ maxLen ∧ Each w ok us gs ∧ ∀ i u, us[i]? = some u → ∃ b o, ao = some ⟨b, o, none⟩ ∧ ok b ∧ w.cell? ⟨b, o + i, none⟩ = some u
theorem ListP.same {w w' : World} {ok ok' : Nat → Prop} {v : Value} {gs : List Wn.Fs} (h : ListP w ok v gs) (hs : ∀ b, ok b → b < w.heap.size → w'.heap[b]? = w.heap[b]?) (hok : ∀ b, ok b → b < w.heap.size → ok' b) : ListP w' ok' v gs := by
  obtain ⟨ao, cap, us, hv, h1, h2, he, hc⟩ := h
  refine ⟨ao, cap, us, hv, h1, h2, he.map (fun u g hu => hu.same hs hok), fun i u hi => ?_⟩
  obtain ⟨b, o, ha, hb, hcl⟩ := hc i u hi
  have hl := World.block_lt_of_cell? w _ hcl
  exact ⟨b, o, ha, hok b hb hl, by rw [← hcl]; exact World.cell?_of_block (a := ⟨b, o + i, none⟩) (hs b hb hl)⟩
theorem ListP.below {w w' : World} {ok : Nat → Prop} {v : Value} {gs : List Wn.Fs} (h : ListP w ok v gs) (hb : Below w.heap.size w w') : ListP w' ok v gs := h.same (fun b _ hl => hb.block b hl) (fun _ h _ => h)
theorem ListP.mono {w : World} {ok ok' : Nat → Prop} {v : Value} {gs : List Wn.Fs} (h : ListP w ok v gs) (hok : ∀ b, ok b → b < w.heap.size → ok' b) : ListP w ok' v gs := h.same (fun _ _ _ => rfl) hok
theorem ListP.any {w : World} {ok : Nat → Prop} {v : Value} {gs : List Wn.Fs} (h : ListP w ok v gs) : ListP w (fun _ => True) v gs := h.mono (fun _ _ _ => trivial)
theorem ListP.old {w : World} {ok : Nat → Prop} {v : Value} {gs : List Wn.Fs} (h : ListP w ok v gs) : ListP w (fun b => b < w.heap.size) v gs := h.mono (fun _ _ h => h)
theorem ListP.form {w : World} {ok : Nat → Prop} {v : Value} {gs : List Wn.Fs} (h : ListP w ok v gs) : ∃ ao cap, v = .slice ao gs.length cap ∧ gs.length ≤ cap ∧ cap ≤ maxLen := by
  obtain ⟨ao, cap, us, hv, h1, h2, he, _⟩ := h
  rw [he.len] at hv h1
  exact ⟨ao, cap, hv, h1, h2⟩
theorem ListP.at {w : World} {ok : Nat → Prop} {ao : Option Addr} {n cap : Nat} {gs : List Wn.Fs} (h : ListP w ok (.slice ao n cap) gs) {i : Nat} {g : Wn.Fs} (hg : gs[i]? = some g) : ∃ b o u, ao = some ⟨b, o, none⟩ ∧ w.cell? ⟨b, o + i, none⟩ = some u ∧ ValsP w ok u g := by
  obtain ⟨ao', cap', us, hv, h1, h2, he, hc⟩ := h
  simp only [Value.slice.injEq] at hv
  obtain ⟨rfl, _, _⟩ := hv
  obtain ⟨u, hu, hp⟩ := he.get hg
  obtain ⟨b, o, ha, _, hcl⟩ := hc i u hu
  exact ⟨b, o, u, ha, hcl, hp⟩
theorem ListP.ofRow {w : World} {ok : Nat → Prop} {base : Nat} {v : Value} {us : List Value} {gs : List Wn.Fs} (h : w.ownsRow base 22 1 v us.length us) (he : Each w ok us gs) (hok : ∀ b, base ≤ b → ok b) : ListP w ok v gs := by
  rcases h.2 with ⟨hv, h0⟩ | ⟨g, cap, cur, hv, hg, hblk, hle, hcm, hsz, htk⟩
  · have hu : us = [] := List.length_eq_zero_iff.1 h0
    subst hu
    exact ⟨Option.none, 0, [], hv, Nat.zero_le _, by unfold maxLen; omega, he, fun i u hi => by simp at hi⟩
  · refine ⟨some ⟨g, 0, none⟩, cap, us, hv, hle, hcm, he, fun i u hi => ⟨g, 0, rfl, hok g hg, ?_⟩⟩
    rw [cell_of_block (o := 0 + i) hblk, Nat.zero_add]
    have hl := (List.getElem?_eq_some_iff.1 hi).1
    rw [← htk, List.getElem?_take, if_pos (by omega)] at hi
    simpa using hi
section
variable {base : Nat} {r r1 r2 : Value} {w w1 w2 : World} {es es1 es2 : List Ent} {f g : Wn.Fs}
theorem AC.trans (h : AC base r w es w1 r1 es1 f) (k : AC base r1 w1 (es ++ es1) w2 r2 es2 g) : AC base r w es w2 r2 (es1 ++ es2) (f.app g) := by
  have hle := h.le
  refine ⟨by rw [← List.append_assoc]; exact k.own, ?_, h.grow.trans k.grow, h.size⟩
  refine Row.app (h.row.same (fun b hb hl => k.grow.by_.block b hl (fun e => hb.2 e.symm)) (fun b hb hl => ⟨hb.1, fun e => ?_⟩)) (k.row.same (fun _ _ _ => rfl) (fun b hb _ => ⟨by omega, hb.2⟩))
  exact k.grow.avoid hl (fun e' => hb.2 e'.symm) e.symm
end
set_option maxRecDepth 100000 in
set_option maxHeartbeats 1000000 in
theorem Join_any (s0 : List UInt8) (v : Value) (gs : List Wn.Fs) (w : World) (hv : ListP w (fun b => b < w.heap.size) v gs) (hf : Wn.sizes gs ≤ 100000) :
    Calls Tryz.prog 35 #[v, .string (Wn.str s0)] w fun e w' => ∃ r, e = .returned r ∧ ValsP w' (fun b => w.heap.size ≤ b) r (Wn.joinF s0 gs) ∧ Below w.heap.size w w' := by
  have HV := Lib.hid hv
  obtain ⟨vo, vc, rfl, c1, c2⟩ := hv.form
  clear hv
  unfold maxLen at c2
  obtain ⟨i0, hi0, hz0, hz1, hz2⟩ := info_parts info_val
  have H0 : Hid (AC w.heap.size (.slice none 0 0) w [] w (.slice none 0 0) [] .nil) := Lib.hid (AC.start (World.ownsRow_nil _ _ _ _) (Nat.le_refl _) (World.ownsRow_nil _ _ _ _) (Grow.refl _ _))
  go_enter Tryz.func35, Tryz.ntmps35
  go_wp2_with fail
  go_loopw [5, 10] (fun v3 vi wr => ∃ (i : Nat) (es' : List Ent), i ≤ gs.length ∧ vi = .int .i64 (i : Int) ∧ Hid (AC w.heap.size (.slice none 0 0) w [] wr v3 es' (Wn.joinF s0 (gs.take i)))) (fun _ vi _ => gs.length - (intOf vi).toNat)
  case atStart => exact ⟨0, [], by omega, rfl, H0⟩
  case round =>
    obtain ⟨i, es', hil, rfl, HA⟩ := hrel
    by_cases hlt : i < gs.length
    · obtain ⟨g, hd⟩ : ∃ g, gs[i]? = some g := ⟨_, List.getElem?_eq_getElem hlt⟩
      have hbw : Below w.heap.size w wr := below_of_grow HA.out.grow
      obtain ⟨b, o, u, rfl, jw, hu⟩ := HV.out.at hd
      have j0 := jw
      rw [← hbw.cell (World.block_lt_of_cell? w _ jw)] at j0
      have hgs := Wn.size_mem (List.mem_of_getElem? hd)
      have hgl := Wn.Fs.len_le_size g
      have hel : es'.length ≤ 100000 := by
        have a := HA.out.row.len
        have b := Wn.Fs.len_le_size (Wn.joinF s0 (gs.take i))
        have c := Wn.joinF_size s0 (gs.take i)
        have d := Wn.sizes_take gs i
        omega
      obtain ⟨uo, uc, rfl, _, _⟩ := hu.form
      have HU := Lib.hid hu
      have hi1 : (i : Int) < (gs.length : Int) := by omega
      have hle := HA.out.le
      clear hbw hu jw
      have QA : Hid (∀ (v : Value) (es2 : List Ent) (acc : Wn.Fs) (W : World), AC w.heap.size (.slice none 0 0) w [] W v es2 acc → es2.length ≤ 100001 → Calls Tryz.prog 56 #[v, .slice uo g.len uc] W (ACPost w.heap.size v W ([] ++ es2) g)) := Lib.hid (fun v es2 acc W h hl => appendCopy_any g w.heap.size ([] ++ es2) v (.slice uo g.len uc) W h.own h.le (HU.out.same (fun b hb _ => (below_of_grow h.grow).block b hb) (fun b hb _ e => by have := (h.own.lt b e).1; omega)) (by simp; omega) (by omega))
      by_cases h0 : i = 0
      · subst h0
        have HJ : Hid ((Wn.joinF s0 (gs.take 0)).app g = Wn.joinF s0 (gs.take (0 + 1))) := Lib.hid (by rw [Wn.joinF_one s0 hd]; rfl)
        clear hd
        simp only [Nat.add_zero] at j0
        go_wp2_with fail
        refine (QA.out _ _ _ _ HA.out (by omega)).mono ?_
        rintro e w1 ⟨r1, es1, rfl, hA1⟩
        have HA1 := Lib.hid (HA.out.trans hA1)
        rw [HJ.out] at HA1
        clear hA1 QA HA HJ
        go_wp2_with fail
        exact ⟨⟨0 + 1, _, by omega, by go_num, HA1⟩, by simp [intOf]; omega⟩
      · have HJ := Lib.hid (Wn.joinF_take s0 hd (by omega))
        have hi2 : 0 < (i : Int) := by omega
        clear hd
        go_wp2_with fail
        refine (delimiter_v _ _).mono ?_
        rintro e w1 ⟨rfl, b1⟩
        have HA1 := Lib.hid (HA.out.later b1)
        have hBA : Below w1.heap.size w1 (w1.alloc (.cells #[.int .i64 1, .int .i64 7, .string (Wn.str s0), .int .i64 0, .slice none 0 0] 49)) := (Below.refl _ _).alloc (Nat.le_refl _) _
        have HA2 := Lib.hid (HA1.out.later hBA)
        have hle1 := HA1.out.le
        have HBZ : Hid (w.heap.size ≤ (w1.alloc (.cells #[.int .i64 1, .int .i64 7, .string (Wn.str s0), .int .i64 0, .slice none 0 0] 49)).heap.size) := Lib.hid (by simp; omega)
        clear HA b1 hBA j0
        have hee : ([] ++ es').length ≤ 100000 := by simpa using hel
        generalize hn9 : ([] ++ es').length = n9 at hee
        have HN9 := Lib.hid hn9; clear hn9
        go_wp2_with (at_builtin; refine wpList_append_own_at _ rfl _ _ 22 rfl w.heap.size 49 i0 (.agg #[.int .i64 0, .int .i64 0, .string ⟨#[]⟩, .int .i64 0, .slice none 0 0]) 5 64 Tryz.underlying22 hi0 hz0 hz1 hz2 rfl (by decide) u5 ([] ++ es').length (valsCells ([] ++ es')) rfl HA2.out.own ⟨w1.heap.size, 0, none⟩ 1 1 [.int .i64 1, .int .i64 7, .string (Wn.str s0), .int .i64 0, .slice none 0 0] rfl rfl (cell_five_new _ _ _ _ _ _ _ _ rfl) (fun x hx => by simp at hx; rcases hx with rfl | rfl | rfl | rfl | rfl <;> rfl) (by unfold maxLen; rw [HN9.out]; omega) (by rw [HN9.out]; omega) HBZ.out ?_; intro v8 w8 hown8 hgr8 hnil8 hat8; (have HZ8 := Lib.hid (And.intro hown8 (And.intro hgr8 hat8))); clear hown8 hgr8 hnil8 hat8)
        obtain ⟨hown8, hgr8, hat8⟩ := HZ8.out
        have hnext := HA2.out.next (k := 1) (t := (7, s0, 0)) (u := .slice none 0 0) (x := .nil) (B := (w1.alloc (.cells #[.int .i64 1, .int .i64 7, .string (Wn.str s0), .int .i64 0, .slice none 0 0] 49)).heap.size) ⟨Option.none, 0, rfl, Nat.zero_le _, by unfold maxLen; omega, fun _ => rfl, fun h => absurd rfl h⟩ HBZ.out (fun b hb => (HA2.out.own.lt b hb).2) hown8 hgr8 hat8
        have HA3 := Lib.hid hnext
        clear hown8 hgr8 hat8 HZ8 HA2 HA1 hnext
        refine (QA.out _ _ _ _ HA3.out (by simp; omega)).mono ?_
        rintro e w9 ⟨r9, es9, rfl, hA9⟩
        have HA9 := Lib.hid (HA3.out.trans hA9)
        rw [show Wn.dlm s0 = (7, s0, 0) from rfl] at HJ
        rw [← HJ.out] at HA9
        clear hA9 QA HA3 HJ
        go_wp2_with fail
        exact ⟨⟨i + 1, _, by omega, by go_num, HA9⟩, by simp [intOf]; omega⟩
    · have hge : gs.take i = gs := List.take_of_length_le (by omega)
      have HA1 := HA
      rw [hge] at HA1
      clear HA hge
      go_wp2_with fail
      go_ret
      exact ⟨_, rfl, ValsP.ofRow (es := es') (by simpa using HA1.out.own) (HA1.out.row.same (fun _ _ _ => rfl) (fun b hb _ => hb.1)) (fun _ h => h), below_of_grow HA1.out.grow⟩
end Go.Proofs.YtjlejiphpbaonaaGreatDoor
set_option linter.unusedVariables false
set_option linter.unusedSimpArgs false
set_option maxRecDepth 20000
namespace Go.Proofs.YtjlejiphpbaonaaGreatDoor
open Go.RowKit Go.Sort
theorem drop_get {l : List Wn.Fs} {i : Nat} {x : Wn.Fs} (h : l[i]? = some x) : l.drop i = x :: l.drop (i + 1) := by
  obtain ⟨hl, he⟩ := List.getElem?_eq_some_iff.1 h
  rw [List.drop_eq_getElem_cons hl, he]
end Go.Proofs.YtjlejiphpbaonaaGreatDoor
set_option linter.unusedVariables false
set_option linter.unusedSimpArgs false
set_option maxRecDepth 20000
namespace Wn
theorem blank_head {f : Fs} {k : Int} {t : Tok} {x r : Fs} (h : dropB f = .cons k t x r) : blankV k t = false := by
  induction f with
  | nil => cases h
  | cons k' t' x' r' _ ih =>
    rw [dropB] at h
    split at h
    · exact ih h
    · rename_i hb
      cases h
      simpa using hb
theorem rtrim_nil_iff {k : Int} {t : Tok} {x r : Fs} (h : blankV k t = false) : rtrim (.cons k t x r) = .cons k t x (rtrim r) := by
  rw [rtrim]
  cases rtrim r with
  | nil => simp [h]
  | cons => rfl
theorem rtrim_idem : ∀ f : Fs, rtrim (rtrim f) = rtrim f
  | .nil => rfl
  | .cons k t x r => by
    have ih := rtrim_idem r
    rw [rtrim]
    cases h : rtrim r with
    | nil =>
      dsimp only
      by_cases hb : blankV k t = true
      · simp [hb, rtrim]
      · simp [hb, rtrim]
    | cons k' t' x' r' =>
      dsimp only
      rw [h] at ih
      rw [rtrim, ih]
theorem dropB_self {f : Fs} (h : ∀ k t x r, f = .cons k t x r → blankV k t = false) : dropB f = f := by
  cases f with
  | nil => rfl
  | cons k t x r => rw [dropB, if_neg (by simp [h k t x r rfl])]
theorem rtrim_head {f : Fs} {k : Int} {t : Tok} {x r : Fs} (h : rtrim f = .cons k t x r) : ∃ r', f = .cons k t x r' := by
  cases f with
  | nil => cases h
  | cons k' t' x' r' =>
    rw [rtrim] at h
    cases h' : rtrim r' with
    | nil =>
      rw [h'] at h
      dsimp only at h
      split at h
      · cases h
      · cases h; exact ⟨_, rfl⟩
    | cons =>
      rw [h'] at h
      dsimp only at h
      cases h; exact ⟨_, rfl⟩
theorem trim_head {f : Fs} {k : Int} {t : Tok} {x r : Fs} (h : trimF f = .cons k t x r) : blankV k t = false := by
  obtain ⟨r', h'⟩ := rtrim_head h
  exact blank_head h'
theorem trim_idem (f : Fs) : trimF (trimF f) = trimF f := by
  unfold trimF
  rw [dropB_self (f := rtrim (dropB f)) (fun k t x r h => trim_head h), rtrim_idem]
theorem rtrim_last : ∀ {f : Fs} {i : Nat} {k : Int} {t : Tok} {x : Fs}, (rtrim f).drop i = .cons k t x .nil → blankV k t = false
  | .nil, i, k, t, x, h => by cases i <;> cases h
  | .cons k' t' x' r', i, k, t, x, h => by
    rw [rtrim] at h
    cases h' : rtrim r' with
    | nil =>
      rw [h'] at h
      dsimp only at h
      split at h
      · cases i <;> cases h
      · rename_i hb
        cases i with
        | zero => rw [Fs.drop_zero] at h; cases h; simpa using hb
        | succ i => rw [Fs.drop] at h; cases i <;> cases h
    | cons k1 t1 x1 r1 =>
      rw [h'] at h
      dsimp only at h
      cases i with
      | zero => rw [Fs.drop_zero] at h; cases h
      | succ i => rw [Fs.drop, ← h'] at h; exact rtrim_last h
theorem trim_last {f : Fs} {i : Nat} {k : Int} {t : Tok} {x : Fs} (h : (trimF f).drop i = .cons k t x .nil) : blankV k t = false := rtrim_last h
theorem dropB_len : ∀ f : Fs, (dropB f).len ≤ f.len ∧ (dropB f).size ≤ f.size
  | .nil => ⟨Nat.le_refl _, Nat.le_refl _⟩
  | .cons k t x r => by
    have := dropB_len r
    rw [dropB]
    split <;> simp only [Fs.len, Fs.size] <;> omega
theorem rtrim_len : ∀ f : Fs, (rtrim f).len ≤ f.len ∧ (rtrim f).size ≤ f.size
  | .nil => ⟨Nat.le_refl _, Nat.le_refl _⟩
  | .cons k t x r => by
    have ih := rtrim_len r
    rw [rtrim]
    cases h : rtrim r with
    | nil => dsimp only; split <;> simp only [Fs.len, Fs.size] <;> omega
    | cons => rw [h] at ih; dsimp only; simp only [Fs.len, Fs.size] at ih ⊢; omega
theorem trim_len (f : Fs) : (trimF f).len ≤ f.len := Nat.le_trans (rtrim_len _).1 (dropB_len f).1
theorem trim_size (f : Fs) : (trimF f).size ≤ f.size := Nat.le_trans (rtrim_len _).2 (dropB_len f).2
/-- blanks at the end are of no moment -/
theorem dropB_snoc : ∀ (f : Fs) {k : Int} {t : Tok} (x : Fs), blankV k t = true → rtrim (dropB (f.app (.cons k t x .nil))) = rtrim (dropB f)
  | .nil, k, t, x, h => by simp [Fs.app, dropB, h, rtrim]
  | .cons k' t' x' r, k, t, x, h => by
    rw [Fs.app, dropB, dropB]
    by_cases hb : blankV k' t' = true
    · rw [if_pos hb, if_pos hb]; exact dropB_snoc r x h
    · rw [if_neg hb, if_neg hb]
      have := rtrim_snoc (.cons k' t' x' r) k t x
      rw [if_pos h] at this
      rw [Fs.app] at this
      exact this
theorem trim_snoc (f : Fs) {k : Int} {t : Tok} (x : Fs) (h : blankV k t = true) : trimF (f.app (.cons k t x .nil)) = trimF f := dropB_snoc f x h
theorem trim_cons {k : Int} {t : Tok} (x f : Fs) (h : blankV k t = true) : trimF (.cons k t x f) = trimF f := by unfold trimF; rw [dropB, if_pos h]
/-- the value that SplitTrims lays around -/
def blankVal (r : Fs) : Fs := .cons 1 (8, [10], 0) .nil r
def moreF (f : Fs) : Fs := blankVal (f.app (blankVal (blankVal .nil)))
theorem trim_more (f : Fs) : trimF (moreF f) = trimF f := by
  unfold moreF blankVal
  rw [trim_cons _ _ (by decide), show (Fs.cons 1 (8, [10], 0) .nil (.cons 1 (8, [10], 0) .nil .nil)) = (Fs.cons 1 (8, [10], 0) .nil .nil).app (.cons 1 (8, [10], 0) .nil .nil) from rfl, ← Fs.app_assoc, trim_snoc _ _ (by decide), trim_snoc _ _ (by decide)]
/-- words -/
def joinAll : List Fs → Fs
  | [] => .nil
  | a :: l => a.app (joinAll l)
theorem joinAll_snoc : ∀ (l : List Fs) (a : Fs), joinAll (l ++ [a]) = (joinAll l).app a
  | [], a => by simp [joinAll, Fs.app, Fs.app_nil]
  | b :: l, a => by rw [List.cons_append, joinAll, joinAll, joinAll_snoc l a, Fs.app_assoc]
def lessF (p : Int → Tok → Bool) : Fs → Fs
  | .nil => .nil
  | .cons k t x r => if p k t then lessF p r else .cons k t x (lessF p r)
theorem joinAll_cuts (p : Int → Tok → Bool) : ∀ f : Fs, joinAll (cuts p f) = lessF p f
  | .nil => rfl
  | .cons k t x r => by
    have ih := joinAll_cuts p r
    rw [lessF]
    cases h : p k t
    · rw [cuts_no h]
      cases hc : cuts p r with
      | nil => exact absurd hc (cuts_ne p r)
      | cons a l => rw [hc] at ih; rw [← ih]; simp [addHead, joinAll, Fs.app]
    · rw [cuts_yes h, joinAll, ih]; simp [Fs.app]
def noneF (p : Int → Tok → Bool) : Fs → Prop
  | .nil => True
  | .cons k t _ r => p k t = false ∧ noneF p r
theorem cuts_none (p : Int → Tok → Bool) : ∀ f : Fs, ∀ g ∈ cuts p f, noneF p g
  | .nil, g, h => by simp [cuts] at h; subst h; trivial
  | .cons k t x r, g, h => by
    have ih := cuts_none p r
    cases hp : p k t
    · rw [cuts_no hp] at h
      cases hc : cuts p r with
      | nil => exact absurd hc (cuts_ne p r)
      | cons a l =>
        rw [hc] at h ih
        simp only [addHead, List.mem_cons] at h
        rcases h with rfl | h
        · exact ⟨hp, ih a (by simp)⟩
        · exact ih g (by simp [h])
    · rw [cuts_yes hp] at h
      simp only [List.mem_cons] at h
      rcases h with rfl | h
      · trivial
      · exact ih g h
theorem cuts_self {p : Int → Tok → Bool} : ∀ {f : Fs}, noneF p f → cuts p f = [f]
  | .nil, _ => rfl
  | .cons k t x r, h => by rw [cuts_no h.1, cuts_self h.2]; rfl
theorem cuts_len (p : Int → Tok → Bool) : ∀ f : Fs, (cuts p f).length ≤ f.len + 1
  | .nil => by simp [cuts, Fs.len]
  | .cons k t x r => by
    have ih := cuts_len p r
    cases h : p k t
    · rw [cuts_no h]
      cases hc : cuts p r with
      | nil => exact absurd hc (cuts_ne p r)
      | cons a l => rw [hc] at ih; simp only [addHead, Fs.len, List.length_cons] at ih ⊢; omega
    · rw [cuts_yes h]; simp only [Fs.len, List.length_cons]; omega
theorem cuts_rtrim : ∀ f : Fs, ∃ m, cuts blankV f = cuts blankV (rtrim f) ++ List.replicate m .nil
  | .nil => ⟨0, by simp [rtrim]⟩
  | .cons k t x r => by
    obtain ⟨m, ih⟩ := cuts_rtrim r
    rw [rtrim]
    cases h : rtrim r with
    | nil =>
      dsimp only
      rw [h] at ih
      cases hb : blankV k t
      · refine ⟨m, ?_⟩
        rw [cuts_no hb, ih]
        simp [cuts, addHead, Fs.app, hb]
      · refine ⟨m + 1, ?_⟩
        rw [cuts_yes hb, ih]
        simp [cuts, List.replicate_succ]
    | cons k' t' x' r' =>
      dsimp only
      rw [← h]
      refine ⟨m, ?_⟩
      cases hb : blankV k t
      · rw [cuts_no hb, cuts_no hb, ih]
        cases hc : cuts blankV (rtrim r) with
        | nil => exact absurd hc (cuts_ne _ _)
        | cons a l => simp [addHead]
      · rw [cuts_yes hb, cuts_yes hb, ih]; rfl
end Wn
namespace Go.Proofs.YtjlejiphpbaonaaGreatDoor
def words (f : Wn.Fs) : List Wn.Fs := wordsOf (Wn.cuts Wn.blankV f)
theorem wordsOf_app (a b : List Wn.Fs) : wordsOf (a ++ b) = wordsOf a ++ wordsOf b := by unfold wordsOf; rw [List.filter_append]
theorem wordsOf_nils (m : Nat) : wordsOf (List.replicate m .nil) = [] := by unfold wordsOf; rw [List.filter_eq_nil_iff]; intro a ha; rw [List.mem_replicate] at ha; simp [ha.2]
theorem words_rtrim (f : Wn.Fs) : words (Wn.rtrim f) = words f := by
  obtain ⟨m, h⟩ := Wn.cuts_rtrim f
  unfold words
  rw [h, wordsOf_app, wordsOf_nils, List.append_nil]
theorem words_blank {k : Int} {t : Wn.Tok} (x r : Wn.Fs) (h : Wn.blankV k t = true) : words (.cons k t x r) = words r := by
  unfold words; rw [Wn.cuts_yes h]; simp [wordsOf]
theorem words_drop : ∀ f : Wn.Fs, words (Wn.dropB f) = words f
  | .nil => rfl
  | .cons k t x r => by
    rw [Wn.dropB]
    split
    · rename_i h; rw [words_blank x r h, words_drop r]
    · rfl
theorem words_trim (f : Wn.Fs) : words (Wn.trimF f) = words f := by unfold Wn.trimF; rw [words_rtrim, words_drop]
theorem words_more (f : Wn.Fs) : words (Wn.moreF f) = words f := by rw [← words_trim, Wn.trim_more, words_trim]
theorem words_each {f g : Wn.Fs} (h : g ∈ words f) : g ≠ .nil ∧ words g = [g] := by
  unfold words wordsOf at h
  rw [List.mem_filter] at h
  have hn := of_decide_eq_true h.2
  refine ⟨hn, ?_⟩
  unfold words
  rw [Wn.cuts_self (Wn.cuts_none _ f g h.1)]
  simp [wordsOf, hn]
theorem joinAll_wordsOf : ∀ l : List Wn.Fs, Wn.joinAll (wordsOf l) = Wn.joinAll l
  | [] => rfl
  | a :: l => by
    have ih := joinAll_wordsOf l
    unfold wordsOf at ih ⊢
    rw [List.filter_cons]
    split
    · rw [Wn.joinAll, Wn.joinAll, ih]
    · rename_i h
      have : a = .nil := by simpa using h
      subst this
      rw [ih, Wn.joinAll]; rfl
theorem words_all (f : Wn.Fs) : Wn.joinAll (words f) = Wn.lessF Wn.blankV f := by unfold words; rw [joinAll_wordsOf, Wn.joinAll_cuts]
theorem words_len (f : Wn.Fs) : (words f).length ≤ f.len + 1 := Nat.le_trans (List.length_filter_le _ _) (Wn.cuts_len _ f)
end Go.Proofs.YtjlejiphpbaonaaGreatDoor
set_option linter.unusedVariables false
set_option linter.unusedSimpArgs false
set_option maxRecDepth 20000
namespace Wn
theorem joinAll_take {gs : List Fs} {i : Nat} {g : Fs} (h : gs[i]? = some g) : joinAll (gs.take (i + 1)) = (joinAll (gs.take i)).app g := by
  rw [List.take_add_one, h, Option.toList_some, joinAll_snoc]
theorem joinAll_app : ∀ l m : List Fs, joinAll (l ++ m) = (joinAll l).app (joinAll m)
  | [], m => rfl
  | a :: l, m => by rw [List.cons_append, joinAll, joinAll, joinAll_app l m, Fs.app_assoc]
theorem joinAll_take_size (gs : List Fs) (i : Nat) : (joinAll (gs.take i)).size ≤ (joinAll gs).size := by
  have := congrArg Fs.size (joinAll_app (gs.take i) (gs.drop i))
  rw [List.take_append_drop, Fs.size_app] at this
  omega
theorem joinAll_mem_size {g : Fs} : ∀ {l : List Fs}, g ∈ l → g.size ≤ (joinAll l).size
  | a :: l, h => by
    rw [joinAll, Fs.size_app]
    rcases List.mem_cons.1 h with rfl | h
    · omega
    · have := joinAll_mem_size h; omega
theorem lessF_size (p : Int → Tok → Bool) : ∀ f : Fs, (lessF p f).size ≤ f.size
  | .nil => Nat.le_refl _
  | .cons k t x r => by
    have := lessF_size p r
    rw [lessF]
    split <;> simp only [Fs.size] <;> omega
theorem lessF_yes {p : Int → Tok → Bool} {k : Int} {t : Tok} (h : p k t = true) (x r : Fs) : lessF p (.cons k t x r) = lessF p r := by rw [lessF, if_pos h]
theorem lessF_no {p : Int → Tok → Bool} {k : Int} {t : Tok} (h : p k t = false) (x r : Fs) : lessF p (.cons k t x r) = .cons k t x (lessF p r) := by rw [lessF, if_neg (by rw [h]; decide)]
end Wn
namespace Go.Proofs.YtjlejiphpbaonaaGreatDoor
theorem word_size {f g : Wn.Fs} (h : g ∈ words f) : g.size ≤ f.size := by
  have a := Wn.joinAll_mem_size h
  rw [words_all] at a
  exact Nat.le_trans a (Wn.lessF_size _ f)
theorem words_take_size (f : Wn.Fs) (i : Nat) : (Wn.joinAll ((words f).take i)).size ≤ f.size := by
  have a := Wn.joinAll_take_size (words f) i
  rw [words_all] at a
  exact Nat.le_trans a (Wn.lessF_size _ f)
end Go.Proofs.YtjlejiphpbaonaaGreatDoor
set_option linter.unusedVariables false
set_option linter.unusedSimpArgs false
set_option maxRecDepth 20000
namespace Wn
theorem follows_texts2 (R : List UInt8) : ∀ (l : List Tok) (a : Tok), Valid a → (∀ t ∈ l, Valid t) → Follows a (texts (some a) l ++ (cmtB ++ R))
  | [], a, _, _ => follows_slash a rfl
  | b :: l, a, ha, hl => by
    rw [texts_some]
    cases hap : apart (oneText a ++ oneText b) a b
    · rw [if_neg (by decide), List.nil_append, text_cons, List.append_assoc]
      have hb := hl b (by simp)
      exact follows_app hb (follows_of_two ha hb (apart_false hap)) (follows_texts2 R l b hb (fun t ht => hl t (by simp [ht])))
    · rw [if_pos rfl]
      exact follows_slash a rfl
/-- valid tokens, and a comment, and another text -/
theorem lex_text2 (R : List UInt8) : ∀ l : List Tok, (∀ t ∈ l, Valid t) → lex (text l ++ (cmtB ++ R)) = l ++ lex R
  | [], _ => by show lex (cmtB ++ R) = lex R; exact lex_cmtB R
  | a :: l, h => by
    have ha := h a (by simp)
    have hl : ∀ t ∈ l, Valid t := fun t ht => h t (by simp [ht])
    rw [text_cons, List.append_assoc, read_valid ha (follows_texts2 R l a ha hl), List.cons_append]
    congr 1
    have ih := lex_text2 R l hl
    cases l with
    | nil => exact ih
    | cons b l =>
      rw [texts_some]
      cases hap : apart (oneText a ++ oneText b) a b
      · rw [if_neg (by decide), List.nil_append]; exact ih
      · rw [if_pos rfl, List.append_assoc, lex_comment (l := [47, 42, 42, 47] ++ (text (b :: l) ++ (cmtB ++ R))) rfl]
        exact ih
theorem all_valid {l : List Tok} (h : l.all may = true) : ∀ t ∈ l, Valid t := fun t ht => may_valid (List.all_eq_true.1 h t ht)
theorem lex_all_may (s : List UInt8) : (lex s).all may = true := List.all_eq_true.2 fun t ht => valid_may (lex_valid _ s (Nat.le_refl _) t ht)
/-- what the values of a text are, before they are trimmed -/
def readF (s : List UInt8) : Option Fs := parse (lex s) 60
def textF (f : Fs) : List UInt8 := text (flat f)
theorem mayF_ok {f : Fs} (h : mayF f = true) : Ok 0 f ∧ depth f ≤ 60 := by
  have hp := mayF_parse h
  obtain ⟨l', hv⟩ := parse_some hp
  have hok := valsL_ok hv
  refine ⟨hok, ?_⟩
  refine Classical.byContradiction fun hn => ?_
  rw [parse_less hok (by omega)] at hp
  cases hp
theorem mayF_of {f : Fs} (h1 : Ok 0 f) (h2 : depth f ≤ 60) (h3 : (flat f).all may = true) : mayF f = true := by
  unfold mayF; rw [h3, parse_flat h1 h2]; simp
theorem read_text {f : Fs} (h : mayF f = true) : readF (textF f) = some f := by
  unfold readF textF
  rw [lex_text _ (all_valid (mayF_all h)), mayF_parse h]
theorem read_both {f g : Fs} (hf : mayF f = true) (hg : mayF g = true) : readF (textF f ++ (cmtB ++ textF g)) = some (f.app g) := by
  unfold readF textF
  rw [lex_text2 _ _ (all_valid (mayF_all hf)), lex_text _ (all_valid (mayF_all hg))]
  exact parse_both (mayF_ok hf).1 (mayF_ok hf).2 (mayF_parse hg)
theorem may_read {s : List UInt8} {f : Fs} (h : readF s = some f) : mayF f = true := may_parsed h (lex_all_may s)
theorem sub_ok {k : Int} {f : Fs} (h : Ok k f) : Ok k (dropB f) := by
  induction f with
  | nil => exact h
  | cons k' t x r _ ih => rw [dropB]; split; exact ih h.2; exact h
theorem rtrim_ok {k : Int} {f : Fs} (h : Ok k f) : Ok k (rtrim f) := by
  induction f with
  | nil => exact h
  | cons k' t x r _ ih =>
    have := ih h.2
    rw [rtrim]
    cases h' : rtrim r with
    | nil => dsimp only; split; trivial; exact ⟨h.1, trivial⟩
    | cons => dsimp only; rw [h'] at this; exact ⟨h.1, this⟩
theorem dropB_depth : ∀ f : Fs, depth (dropB f) ≤ depth f
  | .nil => Nat.le_refl _
  | .cons k t x r => by
    have := dropB_depth r
    rw [dropB]; split
    · simp only [depth]; omega
    · exact Nat.le_refl _
theorem rtrim_depth : ∀ f : Fs, depth (rtrim f) ≤ depth f
  | .nil => Nat.le_refl _
  | .cons k t x r => by
    have := rtrim_depth r
    rw [rtrim]
    cases h' : rtrim r with
    | nil => dsimp only; split <;> (simp only [depth]; omega)
    | cons => dsimp only; rw [h'] at this; simp only [depth] at this ⊢; omega
theorem dropB_flat : ∀ f : Fs, ∀ t ∈ flat (dropB f), t ∈ flat f
  | .nil, t, h => h
  | .cons k u x r, t, h => by
    rw [dropB] at h
    split at h
    · rw [flat, List.mem_append]; exact .inr (dropB_flat r t h)
    · exact h
theorem rtrim_flat : ∀ f : Fs, ∀ t ∈ flat (rtrim f), t ∈ flat f
  | .nil, t, h => h
  | .cons k u x r, t, h => by
    have ih := rtrim_flat r t
    rw [rtrim] at h
    cases h' : rtrim r with
    | nil =>
      rw [h'] at h
      dsimp only at h
      split at h
      · cases h
      · rw [flat, List.mem_append] at h ⊢
        rcases h with h | h
        · exact .inl h
        · cases h
    | cons k1 t1 x1 r1 =>
      rw [h'] at h ih
      dsimp only at h
      rw [flat, List.mem_append] at h ⊢
      rcases h with h | h
      · exact .inl h
      · exact .inr (ih h)
theorem may_trim {f : Fs} (h : mayF f = true) : mayF (trimF f) = true := by
  obtain ⟨h1, h2⟩ := mayF_ok h
  refine mayF_of (rtrim_ok (sub_ok h1)) (Nat.le_trans (rtrim_depth _) (Nat.le_trans (dropB_depth f) h2)) ?_
  rw [List.all_eq_true]
  exact fun t ht => List.all_eq_true.1 (mayF_all h) t (dropB_flat f t (rtrim_flat _ t ht))
theorem trim_all {p : Tok → Prop} {f : Fs} (h : f.all p) : (trimF f).all p := by
  have h1 : ∀ f : Fs, f.all p → (dropB f).all p := fun f => by
    induction f with
    | nil => exact fun h => h
    | cons k t x r _ ih => intro h; rw [dropB]; split; exact ih h.2.2; exact h
  have h2 : ∀ f : Fs, f.all p → (rtrim f).all p := fun f => by
    induction f with
    | nil => exact fun h => h
    | cons k t x r _ ih =>
      intro h
      have := ih h.2.2
      rw [rtrim]
      cases h' : rtrim r with
      | nil => dsimp only; split; trivial; exact ⟨h.1, h.2.1, trivial⟩
      | cons => dsimp only; rw [h'] at this; exact ⟨h.1, h.2.1, this⟩
  exact h2 _ (h1 _ h)
end Wn
set_option linter.unusedVariables false
set_option linter.unusedSimpArgs false
set_option maxRecDepth 20000
namespace Go.Proofs.YtjlejiphpbaonaaGreatDoor
open Go.RowKit Go.Sort
theorem lex_short {s : ByteArray} {n : Nat} (h : s.size ≤ n) : (Wn.lex s.data.toList).length ≤ n := by have := Wn.lex_length s.data.toList; simp at this; exact Nat.le_trans this h
end Go.Proofs.YtjlejiphpbaonaaGreatDoor
