/- Values that may be are told apart by how they are told flat; values in a block more: plain mathematics. The verifier's second writing of nest: what Flat answers. The verifier's second writing of nest: the state of until in memory. The verifier's second writing of nest: the memory of until between the inner call and the append. The verifier's second writing of nest: what Depth answers. -/
import Derived.Test.YtjlejiphpbaonaaGreatDoorGQ
import Derived.Test.YtjlejiphpbaonaaGreatDoorGR
import Derived.Test.YtjlejiphpbaonaaGreatDoorGS
set_option linter.unusedVariables false
set_option linter.unusedSimpArgs false
set_option maxRecDepth 20000
namespace Wn
theorem mayF_parse {f : Fs} (h : mayF f = true) : parse (flat f) 60 = some f := by
  unfold mayF at h
  rw [Bool.and_eq_true] at h
  exact of_decide_eq_true h.2
theorem mayF_all {f : Fs} (h : mayF f = true) : (flat f).all may = true := by
  unfold mayF at h
  rw [Bool.and_eq_true] at h
  exact h.1
theorem may_apart {a b : Fs} (ha : mayF a = true) (hb : mayF b = true) : decide (a = b) = decide (flat a = flat b) := by
  rw [Bool.eq_iff_iff]
  simp only [decide_eq_true_eq]
  refine ⟨fun h => by rw [h], fun h => ?_⟩
  have := mayF_parse ha
  rw [h, mayF_parse hb] at this
  exact (Option.some.inj this).symm
/-- is a value a last token of a kind of blocks? -/
def endsV (k k' : Int) (t : Tok) : Bool := decide (k' = 1) && (decide (t.1 = 7) && decide (t.2.1 = closeB k))
def endsF (k : Int) : Fs → Bool
  | .nil => false
  | .cons k' t _ r => endsV k k' t || endsF k r
theorem ok_in {k : Int} : ∀ {f : Fs}, Ok 0 f → endsF k f = false → Ok k f
  | .nil, _, _ => trivial
  | .cons k' t x r, h, he => by
    rw [endsF, Bool.or_eq_false_iff] at he
    refine ⟨?_, ok_in h.2 he.2⟩
    rcases h.1 with ⟨h1, h2, h3, _⟩ | h4
    · refine .inl ⟨h1, h2, h3, ?_⟩
      cases hc : closes t k
      · rfl
      · obtain ⟨_, rfl⟩ := closes_tok hc
        subst h1
        simp [endsV, dlm] at he
    · exact .inr h4
def wrapTok (k : Int) : Tok := if k = 5 then (2, [102], 0) else (0, [], 0)
theorem kind_four {k : Int} (h1 : 2 ≤ k) (h2 : k ≤ 5) : k = 2 ∨ k = 3 ∨ k = 4 ∨ k = 5 := by omega
theorem wrap_open {k : Int} (h1 : 2 ≤ k) (h2 : k ≤ 5) : isBlk k = true ∧ wrapTok k = blockTok k (opening k (wrapTok k)) ∧ kindOf (opening k (wrapTok k)) = k ∧ may (opening k (wrapTok k)) = true := by
  rcases kind_four h1 h2 with rfl | rfl | rfl | rfl <;> exact ⟨by decide, by decide, by decide, by decide +kernel⟩
theorem may_wrap {k : Int} {f : Fs} (h1 : 2 ≤ k) (h2 : k ≤ 5) (hm : mayF f = true) (he : endsF k f = false) : mayF (.cons k (wrapTok k) f .nil) = decide (depth f < 60) := by
  obtain ⟨hb, ho, hk, hmo⟩ := wrap_open h1 h2
  have hp := mayF_parse hm
  obtain ⟨l', hv⟩ := parse_some hp
  have hok : Ok 0 (.cons k (wrapTok k) f .nil) := ⟨.inr ⟨hb, ho, hk, ok_in (valsL_ok hv) he⟩, trivial⟩
  have hd : depth (.cons k (wrapTok k) f .nil) = 1 + depth f := by rw [depth_block _ _ _ hb]; simp [depth]
  have hall : (flat (.cons k (wrapTok k) f .nil)).all may = true := by
    rw [flat_block _ _ _ hb]
    simp only [List.all_cons, List.all_append, flat, List.all_nil, hmo, may_close, mayF_all hm, Bool.and_true]
  unfold mayF
  rw [hall, Bool.true_and]
  by_cases h : depth f < 60
  · rw [parse_flat hok (by omega)]; simp [h]
  · rw [parse_less hok (by omega)]; simp [h]
theorem depth_wrap {k : Int} (f : Fs) (h1 : 2 ≤ k) (h2 : k ≤ 5) : depth (.cons k (wrapTok k) f .nil) = depth f + 1 := by
  rw [depth_block _ _ _ (wrap_open h1 h2).1]; simp [depth]; omega
theorem flat_wrap {k : Int} (f : Fs) (h1 : 2 ≤ k) (h2 : k ≤ 5) : (flat (.cons k (wrapTok k) f .nil)).length = (flat f).length + 2 := by
  rw [flat_block _ _ _ (wrap_open h1 h2).1]; simp [flat]
/-- each token that is told flat is one of the values' own, or opens or closes a block -/
theorem flat_all {p : Tok → Prop} (h1 : ∀ k, p (dlm (openB k))) (h2 : ∀ k, p (dlm (closeB k))) : ∀ f : Fs, f.all p → ∀ t ∈ flat f, p t
  | .nil, _, t, ht => by simp [flat] at ht
  | .cons k t x r, h, u, hu => by
    obtain ⟨ht, hx, hr⟩ := h
    simp only [flat, List.mem_append] at hu
    rcases hu with hu | hu
    · split at hu
      · simp at hu; rw [hu]; exact ht
      · split at hu
        · simp only [List.mem_cons, List.mem_append, List.mem_singleton, List.not_mem_nil, or_false] at hu
          rcases hu with rfl | hu | rfl
          · unfold opening; split
            · exact ht
            · exact h1 k
          · exact flat_all h1 h2 x hx u hu
          · exact h2 k
        · simp at hu
    · exact flat_all h1 h2 r hr u hu
theorem all_and {p q : Tok → Prop} : ∀ {f : Fs}, f.all p → f.all q → f.all fun t => p t ∧ q t
  | .nil, _, _ => trivial
  | .cons _ _ _ _, h, g => ⟨⟨h.1, g.1⟩, all_and h.2.1 g.2.1, all_and h.2.2 g.2.2⟩
theorem all_imp {p q : Tok → Prop} (hpq : ∀ t, p t → q t) : ∀ {f : Fs}, f.all p → f.all q
  | .nil, _ => trivial
  | .cons _ _ _ _, h => ⟨hpq _ h.1, all_imp hpq h.2.1, all_imp hpq h.2.2⟩
theorem openB_len (k : Int) : (openB k).length ≤ 1 := by unfold openB; (repeat' split) <;> simp
theorem closeB_len (k : Int) : (closeB k).length ≤ 1 := by unfold closeB; (repeat' split) <;> simp
end Wn
namespace Go.Proofs.YtjlejiphpbaonaaGreatDoor
open Go.RowKit Go.Sort
/-- tokens that are told flat, of values whose texts are short and whose numbers are Go's -/
theorem flat_fine {f : Wn.Fs} (hs : Short100 f) (hn : FNums f) : (∀ t ∈ Wn.flat f, Fine t) ∧ ∀ t ∈ Wn.flat f, ShortTok t := by
  have h : ∀ t ∈ Wn.flat f, t.2.1.length ≤ 100 ∧ Nums t := Wn.flat_all (p := fun t => t.2.1.length ≤ 100 ∧ Nums t) (fun k => ⟨by have := Wn.openB_len k; show (Wn.openB k).length ≤ 100; omega, by unfold Nums Wn.dlm; simp⟩) (fun k => ⟨by have := Wn.closeB_len k; show (Wn.closeB k).length ≤ 100; omega, by unfold Nums Wn.dlm; simp⟩) f (Wn.all_imp (fun t ht => ⟨ht.1, ht.2.1⟩) (Wn.all_and hs hn))
  exact ⟨fun t ht => ⟨by have := (h t ht).1; omega, (h t ht).2⟩, fun t ht => ⟨by have := (h t ht).1; omega, (h t ht).2⟩⟩
end Go.Proofs.YtjlejiphpbaonaaGreatDoor
set_option linter.unusedVariables false
set_option linter.unusedSimpArgs false
set_option maxRecDepth 20000
namespace Go.Proofs.YtjlejiphpbaonaaGreatDoor
open Go.RowKit Go.Sort
def RFSaid (f : Wn.Fs) : Prop := ∀ (v : Value) (w : World), Vals w v f → (Wn.flat f).length ≤ 1000000 → Calls Tryz.prog 51 #[v] w (FlatPost w (Wn.flat f))
theorem tsrc_new {w : World} {g : Nat} (hg : g = w.heap.size) (t : Wn.Tok) (x : ByteArray) (hx : Wn.str t.2.1 = x) : TSrc (w.alloc (.cells #[.int .i64 t.1, .string x, .int .i64 t.2.2] 47)) (.slice (some ⟨g, 0, none⟩) 1 1) [t] := by
  subst hg hx
  exact (Toks.mk1 w t).tsrc (fun n c h => by simp at h)
/-- the state of Flat -/
structure FMid (w wr : World) (r : Value) (ac : List Wn.Tok) : Prop where
  own : wr.ownsRow w.heap.size 47 3 r ac.length (toksCells ac)
  below : Below w.heap.size w wr
theorem FMid.later {w wr wr' : World} {r : Value} {ac : List Wn.Tok} (h : FMid w wr r ac) (hb : Below wr.heap.size wr wr') : FMid w wr' r ac := ⟨ownsRow_later h.own hb, h.below.trans (hb.mono h.below.size)⟩
theorem FMid.next {w wr wr' : World} {r r' : Value} {ac ac' : List Wn.Tok} (h : FMid w wr r ac) (hg : wr.grownBy wr' r.ownBlock) (ho : wr'.ownsRow w.heap.size 47 3 r' ac'.length (toksCells ac')) : FMid w wr' r' ac' :=
  ⟨ho, Below.grown h.below hg h.below.size (fun k hk => (h.own.lt k hk).1)⟩
set_option maxRecDepth 100000 in
set_option maxHeartbeats 2000000 in
theorem rFlat_step (f : Wn.Fs) (IH : ∀ g : Wn.Fs, g.size < f.size → RFSaid g) : RFSaid f := by
  intro v w hv hlen
  have HIH := Lib.hid IH; clear IH
  have HV := Lib.hid hv
  obtain ⟨ao, cap, rfl, c1, c2⟩ := hv.form
  unfold maxLen at c2
  clear hv
  generalize hL : Wn.flat f = L at *
  have HL : Hid ([] ++ Wn.flat (f.drop 0) = L) := Lib.hid (by rw [Wn.Fs.drop_zero]; simpa using hL)
  clear hL
  have H0 : Hid (FMid w (w.alloc (.cells #[] 47)) (.slice (some ⟨w.heap.size, 0, none⟩) 0 0) []) := Lib.hid ⟨World.ownsRow_made w #[] 0 (Nat.le_refl _) (by unfold maxLen; omega) rfl, (Below.refl _ _).alloc (Nat.le_refl _) _⟩
  go_enter Tryz.func51, Tryz.ntmps51
  go_wp2_with fail
  go_loopw [3, 4] (fun v3 v4 wr => ∃ (i : Nat) (ac : List Wn.Tok), i ≤ f.len ∧ v4 = .int .i64 (i : Int) ∧ Hid (FMid w wr v3 ac) ∧ Hid (ac ++ Wn.flat (f.drop i) = L)) (fun _ v4 _ => f.len - (intOf v4).toNat)
  case atStart => exact ⟨0, [], by omega, rfl, H0, HL⟩
  case round =>
    obtain ⟨i, ac, hil, rfl, HF, HE⟩ := hrel
    have hz := HF.out.below.size
    by_cases hlt : i < f.len
    · obtain ⟨k, t, x, hd⟩ := Wn.Fs.drop_cons hlt
      obtain ⟨b, o, rfl, g0, ⟨g1, g2, g3⟩, u, g4, hu⟩ := HV.out.at hd
      have hbw : b < w.heap.size := World.block_lt_of_cell? _ _ g0
      have j0 := (HF.out.below.cell (p := ⟨b, o + i * 5, none⟩) hbw).trans g0
      have j1 := (HF.out.below.cell (p := ⟨b, o + i * 5 + 1, none⟩) hbw).trans g1
      have j2 := (HF.out.below.cell (p := ⟨b, o + i * 5 + 1 + 1, none⟩) hbw).trans g2
      have j3 := (HF.out.below.cell (p := ⟨b, o + i * 5 + 1 + 2, none⟩) hbw).trans g3
      have j4 := (HF.out.below.cell (p := ⟨b, o + i * 5 + 4, none⟩) hbw).trans g4
      have J4 := Lib.hid g4
      clear g0 g1 g2 g3 g4
      rw [show o + i * 5 + 1 + 1 = o + i * 5 + 2 by omega] at j2
      rw [show o + i * 5 + 1 + 2 = o + i * 5 + 3 by omega] at j3
      have hsz := Wn.Fs.size_drop hd
      have HDr := Lib.hid hd; clear hd
      have HU := Lib.hid hu
      have hform : ∃ ao n c, u = .slice ao n c := by obtain ⟨ao, cap, hv, _⟩ := hu.form; exact ⟨_, _, _, hv⟩
      obtain ⟨uo, un, uc, rfl⟩ := hform
      clear hu
      have hbl : b < wr.heap.size := World.block_lt_of_cell? _ _ j0
      generalize hx : Wn.str t.2.1 = y at *
      have HX := Lib.hid hx; clear hx
      have hi1 : (i : Int) < (f.len : Int) := by omega
      by_cases h1 : k = 1
      · subst h1
        have HE1 : Hid ((ac ++ [t]) ++ Wn.flat (f.drop (i + 1)) = L) := Lib.hid (by rw [← HE.out, HDr.out, flat_tok _ _ _ rfl]; simp)
        have hacl : ac.length < 1000000 := by have := congrArg List.length HE1.out; simp at this; omega
        have HF1 := Lib.hid (HF.out.later ((Below.refl wr.heap.size wr).alloc (Nat.le_refl _) (.cells #[.int .i64 t.1, .string y, .int .i64 t.2.2] 47)))
        have HS1 := Lib.hid (tsrc_new (w := wr) rfl t y HX.out)
        go_wp2_with (at_builtin; refine append_t rfl _ _ rfl w.heap.size _ _ ac [t] rfl rfl HF1.out.own HS1.out (by simp; omega) HF1.out.below.size ?_; intro v8 w8 hown8 hgr8; (have HF8 := Lib.hid (HF1.out.next hgr8 hown8)); clear hown8 hgr8)
        exact ⟨⟨i + 1, ac ++ [t], by omega, by go_num, HF8, HE1⟩, by simp [intOf]; omega⟩
      · by_cases hb : 2 ≤ k ∧ k ≤ 5
        · have hk : Wn.isBlk k = true := by unfold Wn.isBlk; simp; omega
          have HE0 : Hid (ac ++ [Wn.opening k t] ++ Wn.flat x ++ [Wn.dlm (Wn.closeB k)] ++ Wn.flat (f.drop (i + 1)) = L) := Lib.hid (by rw [← HE.out, HDr.out, flat_blk _ _ _ hk]; simp)
          have hacl : ac.length + (Wn.flat x).length + 2 ≤ 1000000 := by have := congrArg List.length HE0.out; simp at this; omega
          have hkk : k = 2 ∨ k = 3 ∨ k = 4 ∨ k = 5 := by omega
          clear hk h1 hb
          rcases hkk with rfl | rfl | rfl | rfl
          · go_wp2_with fail
            refine (rdelim_any _ _).mono ?_
            rintro e w2 ⟨rfl, b2⟩
            rw [show (ByteArray.mk #[40, 91, 123]).extract 0 1 = Wn.str (Wn.openB 2) from by rw [Wn.extract_sfx]; rfl]
            have HF2 := Lib.hid (HF.out.later b2)
            have HF3 := Lib.hid (HF2.out.later ((Below.refl w2.heap.size w2).alloc (Nat.le_refl _) (.cells #[.int .i64 7, .string (Wn.str (Wn.openB 2)), .int .i64 0] 47)))
            have HS1 := Lib.hid (tsrc_new (w := w2) rfl (Wn.dlm (Wn.openB 2)) (Wn.str (Wn.openB 2)) rfl)
            have hz2 := HF2.out.below.size
            clear b2
            go_wp2_with (at_builtin; refine append_t rfl _ _ rfl w.heap.size _ _ ac [Wn.dlm (Wn.openB 2)] rfl rfl HF3.out.own HS1.out (by simp; omega) HF3.out.below.size ?_; intro v8 w8 hown8 hgr8; (have HF8 := Lib.hid (HF3.out.next hgr8 hown8)); (have j4' := (HF8.out.below.cell (p := ⟨b, o + i * 5 + 4, none⟩) hbw).trans J4.out); clear hown8 hgr8)
            generalize hop : Wn.dlm (Wn.openB 2) = op at HF8
            have HOQ : Hid (Wn.opening 2 t = op) := Lib.hid (by rw [← hop]; rfl)
            refine ((HIH.out x hsz) (.slice uo un uc) w8 (HU.out.below HF8.out.below) (by omega)).mono ?_
            rintro e w9 ⟨r9, rfl, hown9, b9⟩
            have HF9 := Lib.hid (HF8.out.later b9)
            have HS9 := Lib.hid (TSrc.ofRow hown9)
            have hz9 := HF9.out.below.size
            clear hown9 b9
            go_wp2_with (at_builtin; refine append_t rfl _ _ rfl w.heap.size _ _ (ac ++ [op]) (Wn.flat x) rfl rfl HF9.out.own HS9.out (by simp; omega) hz9 ?_; intro v10 w10 hown10 hgr10; (have HF10 := Lib.hid (HF9.out.next hgr10 hown10)); clear hown10 hgr10)
            refine (rdelim_any _ _).mono ?_
            rintro e w11 ⟨rfl, b11⟩
            rw [show (ByteArray.mk #[41, 93, 125, 41]).extract 0 1 = Wn.str (Wn.closeB 2) from by rw [Wn.extract_sfx]; rfl]
            have HF11 := Lib.hid (HF10.out.later b11)
            have HF12 := Lib.hid (HF11.out.later ((Below.refl w11.heap.size w11).alloc (Nat.le_refl _) (.cells #[.int .i64 7, .string (Wn.str (Wn.closeB 2)), .int .i64 0] 47)))
            have HS12 := Lib.hid (tsrc_new (w := w11) rfl (Wn.dlm (Wn.closeB 2)) (Wn.str (Wn.closeB 2)) rfl)
            have hz11 := HF11.out.below.size
            clear b11
            go_wp2_with (at_builtin; refine append_t rfl _ _ rfl w.heap.size _ _ (ac ++ [op] ++ Wn.flat x) [Wn.dlm (Wn.closeB 2)] rfl rfl HF12.out.own HS12.out (by simp; omega) HF12.out.below.size ?_; intro v13 w13 hown13 hgr13; (have HF13 := Lib.hid (HF12.out.next hgr13 hown13)); clear hown13 hgr13)
            exact ⟨⟨i + 1, ac ++ [op] ++ Wn.flat x ++ [Wn.dlm (Wn.closeB 2)], by omega, by go_num, HF13, Lib.hid (by rw [← HE0.out, HOQ.out])⟩, by simp [intOf]; omega⟩
          · go_wp2_with fail
            refine (rdelim_any _ _).mono ?_
            rintro e w2 ⟨rfl, b2⟩
            rw [show (ByteArray.mk #[40, 91, 123]).extract 1 2 = Wn.str (Wn.openB 3) from by rw [Wn.extract_sfx]; rfl]
            have HF2 := Lib.hid (HF.out.later b2)
            have HF3 := Lib.hid (HF2.out.later ((Below.refl w2.heap.size w2).alloc (Nat.le_refl _) (.cells #[.int .i64 7, .string (Wn.str (Wn.openB 3)), .int .i64 0] 47)))
            have HS1 := Lib.hid (tsrc_new (w := w2) rfl (Wn.dlm (Wn.openB 3)) (Wn.str (Wn.openB 3)) rfl)
            have hz2 := HF2.out.below.size
            clear b2
            go_wp2_with (at_builtin; refine append_t rfl _ _ rfl w.heap.size _ _ ac [Wn.dlm (Wn.openB 3)] rfl rfl HF3.out.own HS1.out (by simp; omega) HF3.out.below.size ?_; intro v8 w8 hown8 hgr8; (have HF8 := Lib.hid (HF3.out.next hgr8 hown8)); (have j4' := (HF8.out.below.cell (p := ⟨b, o + i * 5 + 4, none⟩) hbw).trans J4.out); clear hown8 hgr8)
            generalize hop : Wn.dlm (Wn.openB 3) = op at HF8
            have HOQ : Hid (Wn.opening 3 t = op) := Lib.hid (by rw [← hop]; rfl)
            refine ((HIH.out x hsz) (.slice uo un uc) w8 (HU.out.below HF8.out.below) (by omega)).mono ?_
            rintro e w9 ⟨r9, rfl, hown9, b9⟩
            have HF9 := Lib.hid (HF8.out.later b9)
            have HS9 := Lib.hid (TSrc.ofRow hown9)
            have hz9 := HF9.out.below.size
            clear hown9 b9
            go_wp2_with (at_builtin; refine append_t rfl _ _ rfl w.heap.size _ _ (ac ++ [op]) (Wn.flat x) rfl rfl HF9.out.own HS9.out (by simp; omega) hz9 ?_; intro v10 w10 hown10 hgr10; (have HF10 := Lib.hid (HF9.out.next hgr10 hown10)); clear hown10 hgr10)
            refine (rdelim_any _ _).mono ?_
            rintro e w11 ⟨rfl, b11⟩
            rw [show (ByteArray.mk #[41, 93, 125, 41]).extract 1 2 = Wn.str (Wn.closeB 3) from by rw [Wn.extract_sfx]; rfl]
            have HF11 := Lib.hid (HF10.out.later b11)
            have HF12 := Lib.hid (HF11.out.later ((Below.refl w11.heap.size w11).alloc (Nat.le_refl _) (.cells #[.int .i64 7, .string (Wn.str (Wn.closeB 3)), .int .i64 0] 47)))
            have HS12 := Lib.hid (tsrc_new (w := w11) rfl (Wn.dlm (Wn.closeB 3)) (Wn.str (Wn.closeB 3)) rfl)
            have hz11 := HF11.out.below.size
            clear b11
            go_wp2_with (at_builtin; refine append_t rfl _ _ rfl w.heap.size _ _ (ac ++ [op] ++ Wn.flat x) [Wn.dlm (Wn.closeB 3)] rfl rfl HF12.out.own HS12.out (by simp; omega) HF12.out.below.size ?_; intro v13 w13 hown13 hgr13; (have HF13 := Lib.hid (HF12.out.next hgr13 hown13)); clear hown13 hgr13)
            exact ⟨⟨i + 1, ac ++ [op] ++ Wn.flat x ++ [Wn.dlm (Wn.closeB 3)], by omega, by go_num, HF13, Lib.hid (by rw [← HE0.out, HOQ.out])⟩, by simp [intOf]; omega⟩
          · go_wp2_with fail
            refine (rdelim_any _ _).mono ?_
            rintro e w2 ⟨rfl, b2⟩
            rw [show (ByteArray.mk #[40, 91, 123]).extract 2 3 = Wn.str (Wn.openB 4) from by rw [Wn.extract_sfx]; rfl]
            have HF2 := Lib.hid (HF.out.later b2)
            have HF3 := Lib.hid (HF2.out.later ((Below.refl w2.heap.size w2).alloc (Nat.le_refl _) (.cells #[.int .i64 7, .string (Wn.str (Wn.openB 4)), .int .i64 0] 47)))
            have HS1 := Lib.hid (tsrc_new (w := w2) rfl (Wn.dlm (Wn.openB 4)) (Wn.str (Wn.openB 4)) rfl)
            have hz2 := HF2.out.below.size
            clear b2
            go_wp2_with (at_builtin; refine append_t rfl _ _ rfl w.heap.size _ _ ac [Wn.dlm (Wn.openB 4)] rfl rfl HF3.out.own HS1.out (by simp; omega) HF3.out.below.size ?_; intro v8 w8 hown8 hgr8; (have HF8 := Lib.hid (HF3.out.next hgr8 hown8)); (have j4' := (HF8.out.below.cell (p := ⟨b, o + i * 5 + 4, none⟩) hbw).trans J4.out); clear hown8 hgr8)
            generalize hop : Wn.dlm (Wn.openB 4) = op at HF8
            have HOQ : Hid (Wn.opening 4 t = op) := Lib.hid (by rw [← hop]; rfl)
            refine ((HIH.out x hsz) (.slice uo un uc) w8 (HU.out.below HF8.out.below) (by omega)).mono ?_
            rintro e w9 ⟨r9, rfl, hown9, b9⟩
            have HF9 := Lib.hid (HF8.out.later b9)
            have HS9 := Lib.hid (TSrc.ofRow hown9)
            have hz9 := HF9.out.below.size
            clear hown9 b9
            go_wp2_with (at_builtin; refine append_t rfl _ _ rfl w.heap.size _ _ (ac ++ [op]) (Wn.flat x) rfl rfl HF9.out.own HS9.out (by simp; omega) hz9 ?_; intro v10 w10 hown10 hgr10; (have HF10 := Lib.hid (HF9.out.next hgr10 hown10)); clear hown10 hgr10)
            refine (rdelim_any _ _).mono ?_
            rintro e w11 ⟨rfl, b11⟩
            rw [show (ByteArray.mk #[41, 93, 125, 41]).extract 2 3 = Wn.str (Wn.closeB 4) from by rw [Wn.extract_sfx]; rfl]
            have HF11 := Lib.hid (HF10.out.later b11)
            have HF12 := Lib.hid (HF11.out.later ((Below.refl w11.heap.size w11).alloc (Nat.le_refl _) (.cells #[.int .i64 7, .string (Wn.str (Wn.closeB 4)), .int .i64 0] 47)))
            have HS12 := Lib.hid (tsrc_new (w := w11) rfl (Wn.dlm (Wn.closeB 4)) (Wn.str (Wn.closeB 4)) rfl)
            have hz11 := HF11.out.below.size
            clear b11
            go_wp2_with (at_builtin; refine append_t rfl _ _ rfl w.heap.size _ _ (ac ++ [op] ++ Wn.flat x) [Wn.dlm (Wn.closeB 4)] rfl rfl HF12.out.own HS12.out (by simp; omega) HF12.out.below.size ?_; intro v13 w13 hown13 hgr13; (have HF13 := Lib.hid (HF12.out.next hgr13 hown13)); clear hown13 hgr13)
            exact ⟨⟨i + 1, ac ++ [op] ++ Wn.flat x ++ [Wn.dlm (Wn.closeB 4)], by omega, by go_num, HF13, Lib.hid (by rw [← HE0.out, HOQ.out])⟩, by simp [intOf]; omega⟩
          · have HF1 := Lib.hid (HF.out.later ((Below.refl wr.heap.size wr).alloc (Nat.le_refl _) (.cells #[.int .i64 t.1, .string y, .int .i64 t.2.2] 47)))
            have HS1 := Lib.hid (tsrc_new (w := wr) rfl t y HX.out)
            go_wp2_with (at_builtin; refine append_t rfl _ _ rfl w.heap.size _ _ ac [t] rfl rfl HF1.out.own HS1.out (by simp; omega) HF1.out.below.size ?_; intro v8 w8 hown8 hgr8; (have HF8 := Lib.hid (HF1.out.next hgr8 hown8)); (have j4' := (HF8.out.below.cell (p := ⟨b, o + i * 5 + 4, none⟩) hbw).trans J4.out); clear hown8 hgr8)
            have HOP : Hid (Wn.opening 5 t = t) := Lib.hid rfl
            generalize hop : t = op at HF8
            have HOQ : Hid (Wn.opening 5 t = op) := Lib.hid (by rw [HOP.out, hop])
            refine ((HIH.out x hsz) (.slice uo un uc) w8 (HU.out.below HF8.out.below) (by omega)).mono ?_
            rintro e w9 ⟨r9, rfl, hown9, b9⟩
            have HF9 := Lib.hid (HF8.out.later b9)
            have HS9 := Lib.hid (TSrc.ofRow hown9)
            have hz9 := HF9.out.below.size
            clear hown9 b9
            go_wp2_with (at_builtin; refine append_t rfl _ _ rfl w.heap.size _ _ (ac ++ [op]) (Wn.flat x) rfl rfl HF9.out.own HS9.out (by simp; omega) hz9 ?_; intro v10 w10 hown10 hgr10; (have HF10 := Lib.hid (HF9.out.next hgr10 hown10)); clear hown10 hgr10)
            refine (rdelim_any _ _).mono ?_
            rintro e w11 ⟨rfl, b11⟩
            rw [show (ByteArray.mk #[41, 93, 125, 41]).extract 3 4 = Wn.str (Wn.closeB 5) from by rw [Wn.extract_sfx]; rfl]
            have HF11 := Lib.hid (HF10.out.later b11)
            have HF12 := Lib.hid (HF11.out.later ((Below.refl w11.heap.size w11).alloc (Nat.le_refl _) (.cells #[.int .i64 7, .string (Wn.str (Wn.closeB 5)), .int .i64 0] 47)))
            have HS12 := Lib.hid (tsrc_new (w := w11) rfl (Wn.dlm (Wn.closeB 5)) (Wn.str (Wn.closeB 5)) rfl)
            have hz11 := HF11.out.below.size
            clear b11
            go_wp2_with (at_builtin; refine append_t rfl _ _ rfl w.heap.size _ _ (ac ++ [op] ++ Wn.flat x) [Wn.dlm (Wn.closeB 5)] rfl rfl HF12.out.own HS12.out (by simp; omega) HF12.out.below.size ?_; intro v13 w13 hown13 hgr13; (have HF13 := Lib.hid (HF12.out.next hgr13 hown13)); clear hown13 hgr13)
            exact ⟨⟨i + 1, ac ++ [op] ++ Wn.flat x ++ [Wn.dlm (Wn.closeB 5)], by omega, by go_num, HF13, Lib.hid (by rw [← HE0.out, HOQ.out])⟩, by simp [intOf]; omega⟩
        · have hk : Wn.isBlk k = false := by unfold Wn.isBlk; simp; omega
          have HE1 : Hid (ac ++ Wn.flat (f.drop (i + 1)) = L) := Lib.hid (by rw [← HE.out, HDr.out, flat_none _ _ _ h1 hk])
          have hko : k < 1 ∨ 5 < k := by omega
          clear hk h1 hb
          rcases hko with hko | hko
          · go_wp2_with fail
            exact ⟨⟨i + 1, ac, by omega, by go_num, HF, HE1⟩, by simp [intOf]; omega⟩
          · go_wp2_with fail
            exact ⟨⟨i + 1, ac, by omega, by go_num, HF, HE1⟩, by simp [intOf]; omega⟩
    · have HE1 : Hid (ac = L) := Lib.hid (by have := HE.out; rw [Wn.Fs.drop_len (by omega)] at this; simpa [Wn.flat] using this)
      go_wp2_with fail
      go_ret
      have h := HF.out.own
      rw [HE1.out] at h
      exact ⟨_, rfl, h, HF.out.below⟩
theorem rFlat_all : ∀ (n : Nat) (f : Wn.Fs), f.size < n → RFSaid f
  | 0, f, h => by omega
  | n + 1, f, h => rFlat_step f fun g hg => rFlat_all n g (by omega)
end Go.Proofs.YtjlejiphpbaonaaGreatDoor
set_option linter.unusedVariables false
set_option linter.unusedSimpArgs false
set_option maxRecDepth 20000
namespace Wn
theorem openK_zero {t : Tok} : openK t = 0 ↔ kindOf t = 1 := by
  unfold openK
  rcases kindOf_cases t with h | ⟨h, h'⟩
  · simp [h]
  · rw [if_neg (by omega)]; omega
theorem openK_blk {t : Tok} (h : ¬ kindOf t = 1) : openK t = kindOf t := by unfold openK; rw [if_neg h]
/-- a kind that until is called with -/
def KindOk (k : Int) : Prop := k = 0 ∨ (2 ≤ k ∧ k ≤ 5)
theorem closes_last {t : Tok} {k : Int} (hk : KindOk k) : closes t k = (decide (0 < k) && lastOf t k) := by
  unfold closes lastOf
  congr 1
  unfold isBlk
  rcases hk with rfl | ⟨h1, h2⟩
  · rfl
  · rw [Bool.eq_iff_iff]; simp; omega
end Wn
namespace Go.Proofs.YtjlejiphpbaonaaGreatDoor
open Go.RowKit Go.Sort
theorem own_slice {w : World} {base : Nat} {e : TypeId} {size : Nat} {v : Value} {n : Nat} {xs : List Value} (h : w.ownsRow base e size v n xs) : ∃ ao m c, v = .slice ao m c := by
  rcases h.2 with ⟨hv, _⟩ | ⟨g, cap, cur, hv, _⟩
  · exact ⟨_, _, _, hv⟩
  · exact ⟨_, _, _, hv⟩
/-- what until leaves -/
def GPost (w : World) (n : Nat) (res : Option (Wn.Fs × List Wn.Tok)) (e : Ending) (w' : World) : Prop :=
  Below w.heap.size w w' ∧ match res with
  | some p => ∃ r, e = .returned (.agg #[r, .int .i64 ((n : Int) - p.2.length), .bool false]) ∧ ValsP w' (fun b => w.heap.size ≤ b) r p.1
  | none => ∃ ao c d to, e = .returned (.agg #[.slice ao c d, .int .i64 to, .bool true])
def GSaid (l : List Wn.Tok) (N : Nat) : Prop := ∀ (k : Int) (left : Nat) (i : Nat) (v : Value) (w : World) (a b : Int), Wn.KindOk k → left ≤ 1000 → i ≤ l.length → l.length - i < N → Toks w v l → a = i → b = left →
  Calls Tryz.prog 74 #[v, .int .i64 a, .int .i64 k, .int .i64 b] w (GPost w l.length (Wn.valsL k left (l.drop i)))
/-- the state of until -/
structure GM (w W : World) (r : Value) (to : Int) (es : List (Int × Wn.Tok × Value)) (acc : Wn.Fs) : Prop where
  below : Below w.heap.size w W
  res : W.heap[w.heap.size]? = some (.cells #[.slice none 0 0, .int .i64 0, .bool false] 83)
  g : W.heap[w.heap.size + 1]? = some (.cells #[r, .int .i64 to, .bool false] 83)
  own : W.ownsRow (w.heap.size + 2) 49 5 r es.length (valsCells es)
  row : Row W (fun b => w.heap.size + 2 ≤ b ∧ r.ownBlock ≠ some b) es acc
section
variable {w W W' : World} {r : Value} {to : Int} {es : List (Int × Wn.Tok × Value)} {acc : Wn.Fs}
theorem GM.size (h : GM w W r to es acc) : w.heap.size + 2 ≤ W.heap.size := by have := block_lt h.g; omega
theorem GM.later (h : GM w W r to es acc) (hb : Below W.heap.size W W') : GM w W' r to es acc :=
  ⟨h.below.trans (hb.mono h.below.size), block_lat hb h.res, block_lat hb h.g, ownsRow_later h.own hb, h.row.same (fun b _ hl => hb.block b hl) (fun _ h _ => h)⟩
theorem GM.sl (h : GM w W r to es acc) : ∃ ao n c, r = .slice ao n c := by
  rcases h.own.2 with ⟨hv, _⟩ | ⟨g, cap, cur, hv, _⟩
  · exact ⟨_, _, _, hv⟩
  · exact ⟨_, _, _, hv⟩
/-- the place moves on -/
theorem GM.move (h : GM w W r to es acc) (to' : Int) : GM w (W.setCell ⟨w.heap.size + 1, 1, none⟩ (.int .i64 to')) r to' es acc := by
  have hg : W.grownBy (W.setCell ⟨w.heap.size + 1, 1, none⟩ (.int .i64 to')) (some (w.heap.size + 1)) := ⟨rfl, rfl, rfl, by simp [World.setCell], fun k _ hk => Below.heap_setCell _ _ _ _ (by show k ≠ w.heap.size + 1; intro e; exact hk (by rw [e]))⟩
  refine ⟨h.below.setCell (p := ⟨w.heap.size + 1, 1, none⟩) (Nat.le_succ _) _, ?_, ?_, h.own.kept hg (Or.inr (fun e => by have := (h.own.lt _ e).1; omega)), h.row.same (fun b hb _ => Below.heap_setCell _ _ _ _ (by show b ≠ w.heap.size + 1; have := hb.1; omega)) (fun _ h _ => h)⟩
  · rw [Below.heap_setCell _ _ _ _ (by show w.heap.size ≠ w.heap.size + 1; omega)]; exact h.res
  · simp [World.setCell, Array.getElem?_modify, h.g]
/-- one value more, its row put back -/
theorem GM.next (h : GM w W r to es acc) {k : Int} {t : Wn.Tok} {u r' : Value} {x : Wn.Fs} {base : Nat} (hu : ValsP W (fun b => base ≤ b) u x) (hb1 : w.heap.size + 2 ≤ base) (hb2 : ∀ b, r.ownBlock = some b → b < base)
    (hown : W'.ownsRow (w.heap.size + 2) 49 5 r' (es.length + 1) (valsCells es ++ valCells (k, t, u))) (hgr : W.grownBy W' r.ownBlock) (hat : r'.ownBlock = r.ownBlock ∨ ∃ n, W.heap.size ≤ n ∧ r'.ownBlock = some n) :
    GM w (W'.setCell ⟨w.heap.size + 1, 0, none⟩ r') r' to (es ++ [(k, t, u)]) (acc.app (.cons k t x .nil)) := by
  have hlt := h.size
  have hav : ∀ b, b < W.heap.size → r.ownBlock ≠ some b → r'.ownBlock ≠ some b := fun b hl hb => by
    rcases hat with e | ⟨n, hn, e⟩
    · rw [e]; exact hb
    · rw [e]; intro e'; simp at e'; omega
  have n0 : some w.heap.size ≠ r.ownBlock := fun e => by have := (h.own.lt _ e.symm).1; omega
  have n1 : some (w.heap.size + 1) ≠ r.ownBlock := fun e => by have := (h.own.lt _ e.symm).1; omega
  have hg1 := (hgr.block (w.heap.size + 1) (by omega) n1).trans h.g
  have hset : ∀ b, b ≠ w.heap.size + 1 → (W'.setCell ⟨w.heap.size + 1, 0, none⟩ r').heap[b]? = W'.heap[b]? := fun b hb => Below.heap_setCell _ _ _ _ hb
  have hg2 : W'.grownBy (W'.setCell ⟨w.heap.size + 1, 0, none⟩ r') (some (w.heap.size + 1)) := ⟨rfl, rfl, rfl, by simp [World.setCell], fun k _ hk => hset k (fun e => hk (by rw [e]))⟩
  refine ⟨(Below.grown h.below hgr h.below.size (fun k hk => by have := (h.own.lt k hk).1; omega)).setCell (p := ⟨w.heap.size + 1, 0, none⟩) (Nat.le_succ _) _, ?_, ?_, ?_, ?_⟩
  · rw [hset _ (by omega)]; exact (hgr.block _ (by omega) n0).trans h.res
  · simp [World.setCell, Array.getElem?_modify, hg1]
  · rw [List.length_append, valsCells_snoc]
    exact hown.kept hg2 (Or.inr (fun e => by have := (hown.lt _ e).1; omega))
  · refine Row.snoc (ok := fun b => w.heap.size + 2 ≤ b ∧ r'.ownBlock ≠ some b) ?_ (h.row.same (fun b hb hl => (hset b (by have := hb.1; omega)).trans (hgr.block b hl (fun e => hb.2 e.symm))) (fun b hb hl => ⟨hb.1, hav b hl hb.2⟩))
    have hx : ∀ b, base ≤ b → r.ownBlock ≠ some b := fun b hb e => by have := hb2 b e; omega
    exact hu.same (fun b hb hl => (hset b (by omega)).trans (hgr.block b hl (fun e => hx b hb e.symm))) (fun b hb hl => ⟨by omega, hav b hl (hx b hb)⟩)
/-- all but the block of the state is as it was -/
theorem GM.jump (h : GM w W r to es acc) {to' : Int} (hb : Below w.heap.size w W') (hz : W.heap.size ≤ W'.heap.size) (hs : ∀ b, b < W.heap.size → b ≠ w.heap.size + 1 → W'.heap[b]? = W.heap[b]?) (hg : W'.heap[w.heap.size + 1]? = some (.cells #[r, .int .i64 to', .bool false] 83)) (ho : W'.os = W.os) (ht : W'.tape = W.tape) (hu : W'.output = W.output) : GM w W' r to' es acc := by
  have hsz := h.size
  exact ⟨hb, (hs _ (by omega) (by omega)).trans h.res, hg, h.own.kept (row := some (w.heap.size + 1)) ⟨ho, ht, hu, hz, fun k hk hne => hs k hk (fun e => hne (by rw [e]))⟩ (Or.inr (fun e => by have := (h.own.lt _ e).1; omega)), h.row.same (fun b hb hl => hs b hl (by have := hb.1; omega)) (fun _ h _ => h)⟩
theorem GM.vals (h : GM w W r to es acc) : ValsP W (fun b => w.heap.size + 2 ≤ b) r acc := ValsP.ofRow h.own (h.row.same (fun _ _ _ => rfl) (fun _ h _ => h.1)) (fun _ h => h)
end
theorem gm_start (w : World) (a : Int) : GM w ((w.alloc (.cells #[.slice none 0 0, .int .i64 0, .bool false] 83)).alloc (.cells #[.slice none 0 0, .int .i64 a, .bool false] 83)) (.slice none 0 0) a [] .nil := by
  have hz : (w.alloc (.cells #[.slice none 0 0, .int .i64 0, .bool false] 83)).heap.size = w.heap.size + 1 := by simp
  refine ⟨((Below.refl _ _).alloc (Nat.le_refl _) _).alloc (by simp) _, block_alloc (heap_alloc_new w _) _, ?_, World.ownsRow_nil _ _ _ _, trivial⟩
  have := heap_alloc_new (w.alloc (.cells #[.slice none 0 0, .int .i64 0, .bool false] 83)) (.cells #[.slice none 0 0, .int .i64 a, .bool false] 83)
  rw [hz] at this; exact this
abbrev set3 (w : World) (b : Nat) (a0 a1 a2 : Value) : World := ((w.setCell ⟨b, 0, none⟩ a0).setCell ⟨b, 1, none⟩ a1).setCell ⟨b, 2, none⟩ a2
theorem set3_block {w : World} {b k : Nat} (h : k ≠ b) (a0 a1 a2 : Value) : (set3 w b a0 a1 a2).heap[k]? = w.heap[k]? := by
  unfold set3
  rw [Below.heap_setCell _ _ _ _ h, Below.heap_setCell _ _ _ _ h, Below.heap_setCell _ _ _ _ h]
theorem Below.set3 {B : Nat} {a w : World} (h : Below B a w) {b : Nat} (hb : B ≤ b) (a0 a1 a2 : Value) : Below B a (set3 w b a0 a1 a2) :=
  ((h.setCell (p := ⟨b, 0, none⟩) hb _).setCell (p := ⟨b, 1, none⟩) hb _).setCell (p := ⟨b, 2, none⟩) hb _
theorem GM.leave {w W : World} {r : Value} {to : Int} {es : List (Int × Wn.Tok × Value)} {acc : Wn.Fs} (h : GM w W r to es acc) (a0 a1 a2 : Value) : Below w.heap.size w (set3 W w.heap.size a0 a1 a2) ∧ ValsP (set3 W w.heap.size a0 a1 a2) (fun b => w.heap.size ≤ b) r acc :=
  ⟨Below.set3 h.below (Nat.le_refl _) _ _ _, h.vals.same (fun b hb _ => set3_block (by omega) _ _ _) (fun b hb _ => by omega)⟩
/-- the place in block g -/
def toOf (g : Nat) (w : World) : Nat := match w.cell? ⟨g, 1, none⟩ with | some (.int _ n) => n.toNat | _ => 0
theorem toOf_at {w W : World} {r : Value} {to : Int} {es : List (Int × Wn.Tok × Value)} {acc : Wn.Fs} (h : GM w W r to es acc) : toOf (w.heap.size + 1) W = to.toNat := by
  unfold toOf; rw [cell_of_block (o := 1) h.g]; rfl
end Go.Proofs.YtjlejiphpbaonaaGreatDoor
set_option linter.unusedVariables false
set_option linter.unusedSimpArgs false
set_option maxRecDepth 20000
namespace Go.Proofs.YtjlejiphpbaonaaGreatDoor
open Go.RowKit Go.Sort
/-- memory behind the inner call: w3: where the value was laid; w5: behind the call; its block holds cv, the state's cg, the answer's cx -/
structure UJ (w w3 w5 W : World) (cx cv cg : Array Value) : Prop where
  ne : w.heap.size + 1 < w3.heap.size
  lt : w3.heap.size < w5.heap.size
  below : Below w.heap.size w W
  size : w5.heap.size + 1 ≤ W.heap.size
  same : ∀ b, b ≠ w.heap.size + 1 → b ≠ w3.heap.size → b < w5.heap.size → W.heap[b]? = w5.heap[b]?
  os : W.os = w5.os
  tape : W.tape = w5.tape
  output : W.output = w5.output
  x : W.heap[w5.heap.size]? = some (.cells cx 83)
  v : W.heap[w3.heap.size]? = some (.cells cv 49)
  g : W.heap[w.heap.size + 1]? = some (.cells cg 83)
section
variable {w w3 w5 W : World} {cx cv cg : Array Value}
theorem heap_set_at {W : World} {b o : Nat} {c : Array Value} {T : TypeId} (h : W.heap[b]? = some (.cells c T)) (a : Value) : (W.setCell ⟨b, o, none⟩ a).heap[b]? = some (.cells (c.setIfInBounds o a) T) := by
  simp [World.setCell, Array.getElem?_modify, h]
theorem size_set (W : World) (p : Addr) (a : Value) : (W.setCell p a).heap.size = W.heap.size := by simp [World.setCell]
theorem UJ.start (hne : w.heap.size + 1 < w3.heap.size) (hlt : w3.heap.size < w5.heap.size) (hb : Below w.heap.size w w5) (hv : w5.heap[w3.heap.size]? = some (.cells cv 49)) (hg : w5.heap[w.heap.size + 1]? = some (.cells cg 83)) : UJ w w3 w5 (w5.alloc (.cells cx 83)) cx cv cg :=
  ⟨hne, hlt, hb.alloc hb.size _, by simp, fun b _ _ hl => Below.heap_alloc _ _ b hl, rfl, rfl, rfl, heap_alloc_new _ _, block_alloc hv _, block_alloc hg _⟩
theorem UJ.setV (h : UJ w w3 w5 W cx cv cg) (o : Nat) (a : Value) : UJ w w3 w5 (W.setCell ⟨w3.heap.size, o, none⟩ a) cx (cv.setIfInBounds o a) cg :=
  ⟨h.ne, h.lt, h.below.setCell (p := ⟨w3.heap.size, o, none⟩) (by have := h.ne; show w.heap.size ≤ w3.heap.size; omega) _, by rw [size_set]; exact h.size, fun b h1 h2 h3 => (Below.heap_setCell _ _ _ _ h2).trans (h.same b h1 h2 h3), h.os, h.tape, h.output,
    (Below.heap_setCell _ _ _ _ (by show w5.heap.size ≠ w3.heap.size; have := h.lt; omega)).trans h.x, heap_set_at h.v a, (Below.heap_setCell _ _ _ _ (by show w.heap.size + 1 ≠ w3.heap.size; have := h.ne; omega)).trans h.g⟩
theorem UJ.setG (h : UJ w w3 w5 W cx cv cg) (o : Nat) (a : Value) : UJ w w3 w5 (W.setCell ⟨w.heap.size + 1, o, none⟩ a) cx cv (cg.setIfInBounds o a) :=
  ⟨h.ne, h.lt, h.below.setCell (p := ⟨w.heap.size + 1, o, none⟩) (Nat.le_succ _) _, by rw [size_set]; exact h.size, fun b h1 h2 h3 => (Below.heap_setCell _ _ _ _ h1).trans (h.same b h1 h2 h3), h.os, h.tape, h.output,
    (Below.heap_setCell _ _ _ _ (by show w5.heap.size ≠ w.heap.size + 1; have := h.lt; have := h.ne; omega)).trans h.x, (Below.heap_setCell _ _ _ _ (by show w3.heap.size ≠ w.heap.size + 1; have := h.ne; omega)).trans h.v, heap_set_at h.g a⟩
theorem UJ.val {u : Value} {xs : Wn.Fs} (h : UJ w w3 w5 W cx cv cg) (hu : ValsP w5 (fun b => w3.heap.size + 1 ≤ b) u xs) : ValsP W (fun b => w3.heap.size + 1 ≤ b) u xs :=
  hu.same (fun b hb hl => h.same b (by have := h.ne; omega) (by omega) hl) (fun _ h _ => h)
theorem UJ.tok {b o : Nat} {t : Wn.Tok} (h : UJ w w3 w5 W cx cv cg) (ht : TokIn w5 b o t) (h1 : b ≠ w.heap.size + 1) (h2 : b ≠ w3.heap.size) : TokIn W b o t := by
  have hb := h.same b h1 h2 ht.lt
  have e : ∀ o, W.cell? ⟨b, o, none⟩ = w5.cell? ⟨b, o, none⟩ := fun o => by simp [World.cell?, hb]
  exact ⟨(e _).trans ht.c0, (e _).trans ht.c1, (e _).trans ht.c2⟩
theorem UJ.mid {r : Value} {to : Int} {es : List (Int × Wn.Tok × Value)} {acc : Wn.Fs} {to' : Int} (h : UJ w w3 w5 W cx cv #[r, .int .i64 to', .bool false]) (hm : GM w w3 r to es acc) (h35 : Below w3.heap.size w3 w5) : GM w W r to' es acc :=
  hm.jump h.below (by have := h.lt; have := h.size; omega) (fun b hl hne => (h.same b hne (by omega) (by have := h.lt; omega)).trans (h35.block b hl)) h.g (h.os.trans h35.os) (h.tape.trans h35.tape) (h.output.trans h35.output)
end
end Go.Proofs.YtjlejiphpbaonaaGreatDoor
set_option linter.unusedVariables false
set_option linter.unusedSimpArgs false
set_option maxRecDepth 20000
namespace Go.Proofs.YtjlejiphpbaonaaGreatDoor
open Go.RowKit Go.Sort
def RDSaid (f : Wn.Fs) : Prop := ∀ (v : Value) (w : World), Vals w v f → Calls Tryz.prog 42 #[v] w fun e w' => e = .returned (.int .i64 (Wn.depth f)) ∧ w = w'
set_option maxRecDepth 100000 in
set_option maxHeartbeats 1000000 in
theorem rDepth_step (f : Wn.Fs) (hf : f.size ≤ 1000000) (IH : ∀ g : Wn.Fs, g.size < f.size → RDSaid g) : RDSaid f := by
  intro v w hv
  have HIH := Lib.hid IH; clear IH
  have HV := Lib.hid hv
  obtain ⟨ao, cap, rfl, c1, c2⟩ := hv.form
  unfold maxLen at c2
  clear hv
  have hD := Wn.depth_le_size f
  generalize hDD : Wn.depth f = D at *
  have HD0 : Hid (max 0 (Wn.depth (f.drop 0)) = D) := Lib.hid (by rw [Wn.Fs.drop_zero, hDD]; omega)
  clear hDD
  go_enter Tryz.func42, Tryz.ntmps42
  go_wp2_with fail
  go_loop [3, 4] (fun v3 v4 => ∃ (i mx : Nat), i ≤ f.len ∧ mx ≤ D ∧ v4 = .int .i64 (i : Int) ∧ v3 = .int .i64 (mx : Int) ∧ Hid (max mx (Wn.depth (f.drop i)) = D)) (fun _ v4 => f.len - (intOf v4).toNat)
  case atStart => exact ⟨0, 0, by omega, by omega, rfl, rfl, HD0⟩
  case round =>
    obtain ⟨i, mx, hil, hmx, rfl, rfl, HE⟩ := hrel
    by_cases hlt : i < f.len
    · obtain ⟨k, t, x, hd⟩ := Wn.Fs.drop_cons hlt
      obtain ⟨b, o, rfl, j0, _, u, j4, hu⟩ := HV.out.at hd
      have hsz := Wn.Fs.size_drop hd
      have HDr := Lib.hid hd; clear hd
      have hi1 : (i : Int) < (f.len : Int) := by omega
      have HU := Lib.hid hu
      have hform : ∃ ao n c, u = .slice ao n c := by obtain ⟨ao, cap, hv, _⟩ := hu.form; exact ⟨_, _, _, hv⟩
      obtain ⟨uo, un, uc, rfl⟩ := hform
      clear hu
      by_cases hb : 2 ≤ k ∧ k ≤ 5
      · have hk : Wn.isBlk k = true := by unfold Wn.isBlk; simp; omega
        have HE2 : Hid (max (max mx (1 + Wn.depth x)) (Wn.depth (f.drop (i + 1))) = D) := Lib.hid (by rw [← HE.out, HDr.out]; simp [Wn.depth, hk])
        have hdx : 1 + Wn.depth x ≤ D := by have := HE2.out; omega
        have QD := Lib.hid (HIH.out x hsz (.slice uo un uc) w HU.out)
        generalize Wn.depth x = dx at *
        obtain ⟨hb1, hb2⟩ := hb
        have hb3 : 1 < k := by omega
        clear hk
        go_wp2_with fail
        refine QD.out.mono ?_
        rintro e w' ⟨rfl, rfl⟩
        go_wp2_with fail
        exact ⟨⟨i + 1, max mx (1 + dx), by omega, by omega, by go_num, by congr 1; omega, HE2⟩, by simp [intOf]; omega⟩
      · have hk : Wn.isBlk k = false := by unfold Wn.isBlk; simp; omega
        have HE2 : Hid (max mx (Wn.depth (f.drop (i + 1))) = D) := Lib.hid (by rw [← HE.out, HDr.out]; simp [Wn.depth, hk])
        have hko : k ≤ 1 ∨ (1 < k ∧ 5 < k) := by omega
        clear hk hb
        rcases hko with hko | ⟨hko, hko2⟩
        · go_wp2_with fail
          exact ⟨⟨i + 1, mx, by omega, hmx, by go_num, rfl, HE2⟩, by simp [intOf]; omega⟩
        · go_wp2_with fail
          exact ⟨⟨i + 1, mx, by omega, hmx, by go_num, rfl, HE2⟩, by simp [intOf]; omega⟩
    · have HE2 : Hid (mx = D) := Lib.hid (by have := HE.out; rw [Wn.Fs.drop_len (by omega)] at this; simpa [Wn.depth] using this)
      go_wp2_with fail
      go_ret
      exact ⟨ret_int (by rw [HE2.out]), rfl⟩
theorem rDepth_all : ∀ (n : Nat) (f : Wn.Fs), f.size < n → f.size ≤ 1000000 → RDSaid f
  | 0, f, h, _ => by omega
  | n + 1, f, h, hf => rDepth_step f hf fun g hg => rDepth_all n g (by omega) (by omega)
end Go.Proofs.YtjlejiphpbaonaaGreatDoor
