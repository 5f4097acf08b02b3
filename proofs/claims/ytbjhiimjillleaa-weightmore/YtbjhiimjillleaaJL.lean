/- The verifier's Parse and Read. -/
import Derived.Test.YtbjhiimjillleaaJK
import Derived.Test.YtbjhiimjillleaaHH
set_option linter.unusedVariables false
set_option linter.unusedSimpArgs false
set_option maxRecDepth 20000
namespace Wn
theorem cx_cplx (g : Fs) : cplxF g = cxF (trimF g) := cplxF_fin g
theorem sels_step {gs : List Fs} {i : Nat} {g : Fs} {done : List Cx} {R : Option (List Cx)} (hR : R = (allF cplxF (gs.drop i)).map fun y => done ++ y) (hg : gs[i]? = some g) : R = match cxF (trimF g) with
    | none => none
    | some c => (allF cplxF (gs.drop (i + 1))).map fun y => (done ++ [c]) ++ y := by
  rw [hR, allF_drop hg, ← cx_cplx]
  cases cplxF g with
  | none => rfl
  | some x => simp only; cases allF cplxF (gs.drop (i + 1)) <;> simp
theorem cuts_size {p : Int → Tok → Bool} : ∀ {f : Fs}, ∀ g ∈ cuts p f, g.size ≤ f.size
  | .nil, g, hg => by simp [cuts] at hg; subst hg; exact Nat.le_refl _
  | .cons k t x r, g, hg => by
    have ih := cuts_size (p := p) (f := r)
    rw [cuts] at hg
    split at hg
    · simp at hg
      rcases hg with rfl | hg
      · exact Nat.zero_le _
      · have := ih g hg; simp only [Fs.size]; omega
    · split at hg
      · simp at hg; subst hg; simp only [Fs.size]; omega
      · rename_i a l e
        simp at hg
        rcases hg with rfl | hg
        · have := ih a (by rw [e]; simp); simp only [Fs.size]; omega
        · have := ih g (by rw [e]; simp [hg]); simp only [Fs.size]; omega
theorem allF_some {gs : List Fs} {l : List Cx} (h : allF cplxF gs = some l) : l.length = gs.length := by
  induction gs generalizing l with
  | nil => simp [allF] at h; subst h; rfl
  | cons g gs ih =>
    rw [allF] at h
    cases hc : cplxF g with
    | none => rw [hc] at h; cases h
    | some x =>
      rw [hc] at h
      dsimp only at h
      cases ha : allF cplxF gs with
      | none => rw [ha] at h; cases h
      | some y => rw [ha] at h; cases h; simp [ih ha]
end Wn
namespace Go.Proofs.Ytbjhiimjillleaa
open Go.RowKit Go.Sort
theorem VAt.avoid {w : World} {ok : Nat → Prop} {B : Nat} {T : TypeId} (hB : w.heap[B]? = some (.cells #[] T)) : ∀ {f : Wn.Fs} {b o : Nat}, VAt w ok f b o → VAt w (fun b => ok b ∧ b ≠ B) f b o
  | .nil, _, _, _ => trivial
  | .cons k t x r, b, o, ⟨h0, h1, h2, ⟨ao, cap, h3, h4, h5, h5b, h6⟩, h7⟩ =>
    ⟨⟨h0, by rintro rfl; rw [cell_far hB (Nat.zero_le _)] at h1; cases h1⟩, h1, h2, ⟨ao, cap, h3, h4, h5, h5b, fun hx => let ⟨b', o', ha, hv⟩ := h6 hx; ⟨b', o', ha, VAt.avoid hB hv⟩⟩, VAt.avoid hB h7⟩
theorem ValsP.avoid {w : World} {ok : Nat → Prop} {B : Nat} {T : TypeId} {v : Value} {f : Wn.Fs} (hB : w.heap[B]? = some (.cells #[] T)) (h : ValsP w ok v f) : ValsP w (fun b => ok b ∧ b ≠ B) v f := by
  obtain ⟨ao, cap, hv, h1, h2, h2b, h3⟩ := h
  exact ⟨ao, cap, hv, h1, h2, h2b, fun hf => let ⟨b, o, ha, hx⟩ := h3 hf; ⟨b, o, ha, hx.avoid hB⟩⟩
theorem ListP.avoid {w : World} {ok : Nat → Prop} {B : Nat} {T : TypeId} {v : Value} {gs : List Wn.Fs} (hB : w.heap[B]? = some (.cells #[] T)) (h : ListP w ok v gs) : ListP w (fun b => ok b ∧ b ≠ B) v gs := by
  obtain ⟨ao, cap, us, hv, h1, h2, he, hc⟩ := h
  refine ⟨ao, cap, us, hv, h1, h2, he.map (fun u g hu => ValsP.avoid hB hu), fun i u hi => ?_⟩
  obtain ⟨b, o, ha, hb, hcl⟩ := hc i u hi
  exact ⟨b, o, ha, ⟨hb, by rintro rfl; rw [cell_far hB (Nat.zero_le _)] at hcl; cases hcl⟩, hcl⟩
/-- what Parse and Read answer -/
def P4 (R : Option (List Wn.Cx)) (w : World) (e : Ending) (w' : World) : Prop :=
  ∃ (v : Value) (c : Int), e = .returned (.tuple #[v, .int .i64 c]) ∧ Below w.heap.size w w' ∧ (c = 0 ∧ (∃ l, R = some l ∧ cxK.P w' (fun b => w.heap.size ≤ b) v l) ∨ c = 40 ∧ v = .slice none 0 0 ∧ R = none)
set_option maxRecDepth 100000 in
set_option maxHeartbeats 4000000 in
theorem r4Parse (v : Value) (f : Wn.Fs) (w : World) (hv : Vals w v f) (hs : f.size ≤ 100000) (ht : Tl f) :
    Calls Try.prog 26 #[v] w (P4 (Wn.selsF f) w) := by
  have hB0 : Below w.heap.size w (w.alloc (.cells #[] 31)) := (Below.refl _ _).alloc (Nat.le_refl _) _
  have QA := Lib.hid (rAt_any [44] v f _ (hv.below hB0) hs)
  have HB0 := Lib.hid hB0
  have HSF : Hid (Wn.selsF f = if (Wn.cuts (Wn.signV [44]) f).length ≤ 32 then Wn.allF Wn.cplxF (Wn.cuts (Wn.signV [44]) f) else none) := Lib.hid rfl
  have HSZ : Hid (∀ g ∈ Wn.cuts (Wn.signV [44]) f, g.size ≤ 100000) := Lib.hid (fun g hg => Nat.le_trans (Wn.cuts_size g hg) hs)
  have hcl : (Wn.cuts (Wn.signV [44]) f).length ≤ 100001 := by have := Wn.cuts_len (Wn.signV [44]) f; have := Wn.Fs.len_le_size f; omega
  have HTL : Hid (∀ g ∈ Wn.cuts (Wn.signV [44]) f, Tl g) := Lib.hid (fun g hg => Wn.cuts_all ht g hg)
  obtain ⟨vo, vc, rfl, _, _⟩ := hv.form
  clear hv hB0
  go_enter Try.func26, Try.ntmps26
  generalize hRes : Wn.selsF f = RES at *
  clear hRes
  go_wp2_with fail
  generalize hW0 : w.alloc (.cells #[] 31) = W0 at *
  refine QA.out.mono ?_
  rintro e w1 ⟨r1, rfl, hl1, b1⟩
  have hA0 : w1.ownsRow w.heap.size cxK.e cxK.sz (.slice (some ⟨w.heap.size, 0, none⟩) 0 0) ([] : List (List Value)).length ([] : List (List Value)).flatten := ownsRow_later (by rw [← hW0]; exact World.ownsRow_made w #[] 0 (Nat.le_refl _) (by unfold maxLen; omega) rfl) b1
  have hbe : w1.heap[w.heap.size]? = some (.cells #[] 31) := block_lat b1 (by rw [← hW0]; exact heap_alloc_new w _)
  have HAL := Lib.hid (ListP.avoid hbe hl1.old)
  obtain ⟨po, pc, rfl, hp1, hp2⟩ := hl1.form
  unfold maxLen at hp2
  have HB1 := Lib.hid (HB0.out.trans (b1.mono HB0.out.size))
  have hs1 : w.heap.size < w1.heap.size := lt_of_block hbe
  have HO0 : Hid (cxK.Own w.heap.size (fun b => w1.heap.size ≤ b) w1 (.slice (some ⟨w.heap.size, 0, none⟩) 0 0) [] []) := Lib.hid ⟨hA0, trivial⟩
  have HR0 : Hid (Wn.allF Wn.cplxF (Wn.cuts (Wn.signV [44]) f) = (Wn.allF Wn.cplxF ((Wn.cuts (Wn.signV [44]) f).drop 0)).map fun y => [] ++ y) := Lib.hid (by rw [List.drop_zero]; cases Wn.allF Wn.cplxF (Wn.cuts (Wn.signV [44]) f) <;> rfl)
  clear QA hl1 b1 hA0 hbe HB0 hW0
  generalize Wn.cuts (Wn.signV [44]) f = gs at *
  generalize hR : Wn.allF Wn.cplxF gs = R at *
  clear hR
  go_wp2_with fail
  go_loopw [4, 6] (fun v4 v6 wr => ∃ (i : Nat) (es : List (List Value)) (done : List Wn.Cx), i ≤ gs.length ∧ i ≤ 32 ∧ v6 = .int .i64 (i : Int) ∧ Hid (done.length = i) ∧ Hid (∀ b, v4.ownBlock = some b → b = w.heap.size ∨ w1.heap.size ≤ b) ∧ Hid (cxK.Own w.heap.size (fun b => w1.heap.size ≤ b) wr v4 es done) ∧ Hid (Kp (fun b => b = w.heap.size) w1 wr) ∧ Hid (R = (Wn.allF Wn.cplxF (gs.drop i)).map fun y => done ++ y)) (fun _ v6 _ => gs.length - (intOf v6).toNat)
  case atStart => exact ⟨0, [], [], Nat.zero_le _, Nat.zero_le _, rfl, Lib.hid rfl, Lib.hid (fun b hb => .inl (by simpa [Value.ownBlock] using hb.symm)), HO0, Lib.hid (Kp.refl _ _), HR0⟩
  case round =>
    clear HO0 HR0
    obtain ⟨i, es, done, hi, hi32, rfl, HDI, HOB, HO, HK, HR⟩ := hrel
    obtain ⟨vo', vc', rfl, hc1, hc2⟩ := own_shape HO.out.own
    have hel := HO.out.length
    rw [HDI.out] at hel
    have HEL := Lib.hid hel
    unfold maxLen at hc2
    have hrs := HK.out.size
    clear hel
    by_cases hil : i < gs.length
    · obtain ⟨gi, hgi⟩ : ∃ g, gs[i]? = some g := ⟨gs[i], List.getElem?_eq_getElem hil⟩
      have hgm : gi ∈ gs := List.mem_of_getElem? hgi
      have hl := HAL.out.same (w' := wr) (fun b hb hl => HK.out.block b hl hb.2) (fun _ h _ => h)
      obtain ⟨pb, poff, u, rfl, j0, hu⟩ := hl.at hgi
      obtain ⟨uo, uc, rfl, _, _⟩ := hu.form
      have HRS := Lib.hid (Wn.sels_step HR.out hgi)
      have QT := Lib.hid (fun (V : World) (hV : Vals V (.slice uo gi.len uc) gi) => rTrim_any (.slice uo gi.len uc) gi V hV (HSZ.out gi hgm))
      have htg := Wn.trim_all (HTL.out gi hgm)
      have hsg := Nat.le_trans (Wn.trim_size gi) (HSZ.out gi hgm)
      have HCX := Lib.hid (fun (r : Value) (V : World) (hV : Vals V r (Wn.trimF gi)) => r4complex r (Wn.trimF gi) V hV hsg htg (Wn.trim_rtrim gi))
      have HU := Lib.hid hu.any
      have hi1 : (i : Int) < (gs.length : Int) := by omega
      generalize Wn.trimF gi = G at *
      clear hl hu hgi hgm htg hsg HR
      go_wp2_with fail
      refine (QT.out wr HU.out).mono ?_
      rintro e w2 ⟨r, rfl, hr, b2⟩
      obtain ⟨ro, rc, rfl, _, _⟩ := hr.form
      have HV2 := Lib.hid hr
      have hs2 := b2.size
      have HB2 := Lib.hid b2
      clear hr b2 QT HU j0
      go_wp2_with fail
      refine (HCX.out _ w2 HV2.out).mono ?_
      rintro e w3 ⟨cv, s, ok, rfl, b3, ⟨co, ck, cc, rfl⟩, hok⟩
      have hs3 := b3.size
      have HB3 := Lib.hid (HB2.out.trans (b3.mono HB2.out.size))
      have HK3 := Lib.hid (HK.out.trans (Below.kp HB3.out (S := fun b => b = w.heap.size)))
      have HAll := Lib.hid (HB1.out.trans (HK3.out.below (by omega) (fun b (e : b = w.heap.size) => by omega)))
      clear b3 HCX HV2
      cases ok
      · rw [if_neg (by decide)] at hok
        have HE : Hid (RES = none) := Lib.hid (by rw [HSF.out]; split; · rw [HRS.out, hok]
                                                  · rfl)
        clear hok HRS
        go_wp2_with fail
        go_ret2
        exact ⟨_, 40, rfl, HAll.out.alloc (by omega) _, .inr ⟨rfl, rfl, HE.out⟩⟩
      · rw [if_pos rfl] at hok
        obtain ⟨c, hc, rfl, hp⟩ := hok
        by_cases h32 : i = 32
        · have HE : Hid (RES = none) := Lib.hid (by rw [HSF.out, if_neg (by omega)])
          have hi32' : (32 : Int) ≤ (i : Int) := by omega
          have HI := Lib.hid h32
          clear hc hp HRS h32
          go_wp2_with fail
          go_ret2
          exact ⟨_, 40, rfl, HAll.out.alloc (by omega) _, .inr ⟨rfl, rfl, HE.out⟩⟩
        · have hi32' : ¬ (32 : Int) ≤ (i : Int) := by omega
          have HRN : Hid (R = (Wn.allF Wn.cplxF (gs.drop (i + 1))).map fun y => (done ++ [c]) ++ y) := Lib.hid (by rw [HRS.out, hc])
          generalize hsx : Wn.str c.2 = sx at *
          have hob : ∀ b, (Value.slice vo' es.length vc').ownBlock = some b → b < wr.heap.size := fun b e => (HO.out.own.lt b e).2
          have hcR : cxK.R w3 (fun b => w1.heap.size ≤ b ∧ (Value.slice vo' es.length vc').ownBlock ≠ some b) [.slice co ck cc, .string sx] c := ⟨.slice co ck cc, by rw [hsx], hp.mono (fun b (hb : w2.heap.size ≤ b) _ => ⟨by omega, fun e => by have := hob b e; omega⟩)⟩
          have hZ : Below w3.heap.size w3 ((w3.alloc (.cells #[.slice co ck cc, .string sx] 31)).alloc (.cells #[.slice co ck cc, .string sx] 31)) := ((Below.refl _ _).alloc (Nat.le_refl _) _).alloc (by simp) _
          have HOW3 := Lib.hid (HO.out.below HB3.out)
          have HSrc : Hid (cxK.Src ((w3.alloc (.cells #[.slice co ck cc, .string sx] 31)).alloc (.cells #[.slice co ck cc, .string sx] 31)) (.slice (some ⟨w3.heap.size + 1, 0, none⟩) 1 1) [([.slice co ck cc, .string sx] : List Value)]) := Lib.hid (RK.Src.one (K := cxK) (W := w3.alloc (.cells #[.slice co ck cc, .string sx] 31)) (c := [.slice co ck cc, .string sx]) (x := c) (ok := fun _ => True) (by simp) ⟨.slice co ck cc, by rw [hsx], (hp.any).below ((Below.refl _ _).alloc (Nat.le_refl _) _)⟩)
          have HOWZ := Lib.hid (HOW3.out.below hZ)
          have HFin : Hid (∀ v8 w8, w8.ownsRow w.heap.size cxK.e cxK.sz v8 (es ++ [([.slice co ck cc, .string sx] : List Value)]).length (es ++ [([.slice co ck cc, .string sx] : List Value)]).flatten → ((w3.alloc (.cells #[.slice co ck cc, .string sx] 31)).alloc (.cells #[.slice co ck cc, .string sx] 31)).grownBy w8 (Value.slice vo' es.length vc').ownBlock → (v8.ownBlock = (Value.slice vo' es.length vc').ownBlock ∨ v8.ownBlock = some ((w3.alloc (.cells #[.slice co ck cc, .string sx] 31)).alloc (.cells #[.slice co ck cc, .string sx] 31)).heap.size) → cxK.Own w.heap.size (fun b => w1.heap.size ≤ b) w8 v8 (es ++ [([.slice co ck cc, .string sx] : List Value)]) (done ++ [c]) ∧ Kp (fun b => b = w.heap.size) w1 w8 ∧ (∀ b, v8.ownBlock = some b → b = w.heap.size ∨ w1.heap.size ≤ b)) := Lib.hid (fun v8 w8 h1 h2 h3 => ⟨HOW3.out.next hZ hcR h1 h2 h3, (HK3.out.trans (Below.kp hZ)).grown h2 (fun r e hr => by rcases HOB.out r e with h | h; exact h; omega), fun b hb => by
            rcases h3 with h3 | h3
            · exact HOB.out b (by rw [← h3]; exact hb)
            · rw [h3] at hb; simp at hb; omega⟩)
          have HBase : Hid (w.heap.size ≤ ((w3.alloc (.cells #[.slice co ck cc, .string sx] 31)).alloc (.cells #[.slice co ck cc, .string sx] 31)).heap.size) := Lib.hid (by simp; omega)
          have hel33 : es.length ≤ 32 := by rw [HEL.out]; omega
          clear hc hp hcR hZ HRS hob
          go_wp2_with (at_builtin; refine RK.append (K := cxK) rfl _ _ rfl rfl rfl HOWZ.out.own HSrc.out (by simp; omega) HBase.out ?_; intro v8 w8 hown8 hgr8 hat8; obtain ⟨a8, c8, rfl, h81, h82⟩ := own_shape hown8; (have HZ8 := Lib.hid (HFin.out _ _ hown8 hgr8 hat8)); clear hown8 hgr8 hat8; unfold maxLen at h82)
          have hz := HZ8.out
          have e1 : (es ++ [([.slice co ck cc, .string sx] : List Value)]).length = es.length + 1 := by simp
          rw [e1] at hz
          have HOn := Lib.hid hz.1
          have HKn := Lib.hid hz.2.1
          have HBn := Lib.hid hz.2.2
          have HDn : Hid ((done ++ [c]).length = i + 1) := Lib.hid (by rw [List.length_append, HDI.out]; rfl)
          clear hz HZ8 e1 HFin HOWZ HSrc HBase HOW3
          go_wp2_with fail
          exact ⟨⟨i + 1, _, done ++ [c], by omega, by omega, by go_num, HDn, HBn, HOn, HKn, HRN⟩, by simp [intOf]; omega⟩
    · have hin : i = gs.length := by omega
      have hni : ¬ (i : Int) < (gs.length : Int) := by omega
      have HE : Hid (RES = some done) := Lib.hid (by rw [HSF.out, if_pos (by omega), HR.out, List.drop_of_length_le (by omega)]; simp [Wn.allF])
      have HP := Lib.hid ((HO.out.mono (ok' := fun b => w.heap.size ≤ b) (fun b (hb : w1.heap.size ≤ b) _ _ => by omega)).p (fun b hb => hb))
      have HAll := Lib.hid (HB1.out.trans (HK.out.below (by omega) (fun b (e : b = w.heap.size) => by omega)))
      go_wp2_with fail
      go_ret2
      exact ⟨_, 0, rfl, HAll.out, .inl ⟨rfl, done, HE.out, HP.out⟩⟩
set_option maxRecDepth 100000 in
set_option maxHeartbeats 1000000 in
theorem r4Read (s : ByteArray) (w : World) (hs : s.size ≤ 100000) :
    Calls Try.prog 20 #[.string s] w (P4 (Wn.selsRead s.data.toList) w) := by
  have QR := Lib.hid (rRead_any s w hs)
  have hsz : ∀ f, Wn.readF s.data.toList = some f → (Wn.trimF f).size ≤ 100000 ∧ Tl (Wn.trimF f) := fun f hf => by
    have h1 := Wn.parse_size hf
    have h2 := Wn.lex_length s.data.toList
    have h3 := Wn.trim_size f
    have hl : s.data.toList.length ≤ 100000 := by simpa using hs
    exact ⟨by omega, read_tl hf (by omega)⟩
  have HSZ := Lib.hid hsz
  clear hsz
  go_enter Try.func20, Try.ntmps20
  go_wp2_with fail
  refine QR.out.mono ?_
  rintro e w1 ⟨r, c, rfl, b1, ⟨rfl, rfl, hn⟩ | ⟨rfl, f, hf, hv⟩⟩
  · have HE : Hid (Wn.selsRead s.data.toList = none) := Lib.hid (by unfold Wn.selsRead; rw [hn])
    clear hn
    go_wp2_with fail
    go_ret2
    exact ⟨_, 40, rfl, b1, .inr ⟨rfl, rfl, HE.out⟩⟩
  · have HE : Hid (Wn.selsRead s.data.toList = Wn.selsF (Wn.trimF f)) := Lib.hid (by unfold Wn.selsRead; rw [hf])
    obtain ⟨h1, h2⟩ := HSZ.out f hf
    have QP := Lib.hid (r4Parse r (Wn.trimF f) w1 hv h1 h2)
    have HB1 := Lib.hid b1
    clear hf hv b1 QR HSZ
    go_wp2_with fail
    refine QP.out.mono ?_
    rintro e w2 ⟨v, c, rfl, b2, hc⟩
    have HB2 := Lib.hid (HB1.out.trans (b2.mono HB1.out.size))
    have hs1 := HB1.out.size
    have HC := Lib.hid hc
    clear hc b2
    go_wp2_with fail
    go_ret2
    refine ⟨v, c, rfl, HB2.out, ?_⟩
    rcases HC.out with ⟨h0, l, hl, hp⟩ | ⟨h0, hv, hn⟩
    · exact .inl ⟨h0, l, by rw [HE.out, hl], hp.mono (fun b (hb : w1.heap.size ≤ b) _ => by omega)⟩
    · exact .inr ⟨h0, hv, by rw [HE.out, hn]⟩
end Go.Proofs.Ytbjhiimjillleaa
