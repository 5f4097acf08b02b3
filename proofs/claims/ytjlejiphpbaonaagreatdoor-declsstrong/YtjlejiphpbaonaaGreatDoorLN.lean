/- P7.4, the second half: what was parsed of values that may be may be. Plain mathematics. Arguments of a row that are declarations. What the laws on declarations that are told share. -/
import Derived.Test.YtjlejiphpbaonaaGreatDoorLH
import Derived.Test.YtjlejiphpbaonaaGreatDoorLB
import Derived.Test.YtjlejiphpbaonaaGreatDoorGR
import Derived.OpenShut
import Derived.Test.YtjlejiphpbaonaaGreatDoorGU
import Derived.Test.YtjlejiphpbaonaaGreatDoorLD
set_option linter.unusedVariables false
set_option linter.unusedSimpArgs false
set_option maxRecDepth 20000
namespace Wn
theorem may_nameD {t : Tok} (h : may t = true) (h1 : t.1 = 1) : may (1, t.2.1, 0) = true ∧ IsName t.2.1 := by
  rcases may_valid h with ⟨x, hx, rfl⟩ | ⟨x, hx, rfl⟩ | ⟨x, hx, rfl⟩ | ⟨x, hx, _, rfl⟩ | ⟨x, n, _, _, hx, rfl⟩ | ⟨x, q, _, hx, rfl⟩ | ⟨c, hc, rfl⟩ | rfl
  · exact ⟨h, hx⟩
  all_goals simp at h1
theorem names_nthD {x : List UInt8} (h : Names x) : ∀ c ∈ x, nameByte [c] = true := by
  induction x with
  | nil => intro c hc; simp at hc
  | cons b l ih =>
    unfold Names at h
    rw [runLen_cons] at h
    split at h
    · rename_i hb
      have hl : Names l := by unfold Names; simpa using h
      intro c hc
      rcases List.mem_cons.1 hc with rfl | hc
      · rw [show nameByte [c] = nameByte (c :: l) from rfl]; exact hb
      · exact ih hl c hc
    · simp at h
theorem names_ofD : ∀ {x : List UInt8}, (∀ c ∈ x, nameByte [c] = true) → Names x
  | [], _ => rfl
  | b :: l, h => by
    have ih := names_ofD (x := l) (fun c hc => h c (by simp [hc]))
    unfold Names at ih ⊢
    rw [runLen_cons, if_pos (show nameByte (b :: l) = true from h b (by simp)), ih]; rfl
theorem lowB_toNatD (c : UInt8) : ((lowB c).toNat : Int) = if 65 ≤ c.toNat ∧ c.toNat ≤ 90 then (c.toNat : Int) + 32 else c.toNat := by
  unfold lowB
  split
  · rw [UInt8.toNat_add]; simp; omega
  · rfl
theorem nameStart_lowD (c : UInt8) (l m : List UInt8) : nameStart (lowB c :: l) = true ↔ nameStart (c :: m) = true := by
  rw [nameStart_iff, nameStart_iff]
  simp only [hd]
  have := lowB_toNatD c
  split at this <;> omega
theorem digit_lowD (c : UInt8) (l m : List UInt8) : digit (lowB c :: l) = true ↔ digit (c :: m) = true := by
  rw [digit_iff, digit_iff]
  simp only [hd]
  have := lowB_toNatD c
  split at this <;> omega
theorem hd45_lowD (c : UInt8) (l m : List UInt8) : hd (lowB c :: l) = 45 ↔ hd (c :: m) = 45 := by
  simp only [hd]
  have := lowB_toNatD c
  split at this <;> omega
theorem name_lowD {x : List UInt8} (h : IsName x) : IsName (low x) := by
  refine ⟨?_, names_ofD fun c hc => ?_⟩
  · have h1 := h.1
    match x, h1 with
    | [], h1 => exact absurd h1 (by decide)
    | [b], h1 =>
      have e := hd45_lowD b [] []
      have s := nameStart_lowD b [] []
      simp only [low, List.map_cons, List.map_nil]
      unfold nameBegins at h1 ⊢
      by_cases h45 : hd [b] = 45
      · rw [if_pos (by simp [h45])] at h1; simp [nameStart, hd] at h1
      · rw [if_neg (by simp [h45])] at h1
        rw [if_neg (by simp [e, h45])]
        exact s.2 h1
    | b :: c :: l, h1 =>
      have e := hd45_lowD b (lowB c :: low l) (c :: l)
      have s := nameStart_lowD b (lowB c :: low l) (c :: l)
      have e2 := hd45_lowD c (low l) l
      have s2 := nameStart_lowD c (low l) l
      have hl : low (b :: c :: l) = lowB b :: lowB c :: low l := rfl
      rw [hl]
      unfold nameBegins at h1 ⊢
      by_cases h45 : hd (b :: c :: l) = 45
      · rw [if_pos (by simp [h45])] at h1
        rw [if_pos (by simp [e, h45])]
        simp only [List.drop_succ_cons, List.drop_zero, Bool.or_eq_true, beq_iff_eq] at h1 ⊢
        exact h1.imp s2.2 e2.2
      · rw [if_neg (by simp [h45])] at h1
        rw [if_neg (by simp [e, h45])]
        exact s.2 h1
  · obtain ⟨d, hd', rfl⟩ := List.mem_map.1 hc
    have hn := names_nthD h.2 d hd'
    rw [nameByte_iff] at hn ⊢
    exact hn.imp (nameStart_lowD d [] []).2 (Or.imp (digit_lowD d [] []).2 (hd45_lowD d [] []).2)
theorem Fit.parts {k : Int} {t : Tok} {x r : Fs} (h : Fit (.cons k t x r)) : Fit (.cons k t x .nil) ∧ Fit r := by
  obtain ⟨h1, h2, h3⟩ := h
  rw [Wn.depth] at h2
  rw [flat, List.all_append, Bool.and_eq_true] at h3
  exact ⟨⟨⟨h1.1, trivial⟩, by rw [Wn.depth]; simp only [Wn.depth]; omega, by rw [flat, List.all_append, h3.1]; rfl⟩, h1.2, by omega, h3.2⟩
theorem Fit.take : ∀ {f : Fs} (n : Nat), Fit f → Fit (f.take n)
  | .nil, n, h => by cases n <;> exact Fit.nil
  | .cons k t x r, 0, h => Fit.nil
  | .cons k t x r, n + 1, h => h.parts.1.app (Fit.take n h.parts.2)
theorem fit_dropB : ∀ {f : Fs}, Fit f → Fit (dropB f)
  | .nil, h => h
  | .cons k t x r, h => by
    rw [dropB]
    split
    · exact fit_dropB h.parts.2
    · exact h
theorem fit_trim {f : Fs} (h : Fit f) : Fit (trimF f) := by
  unfold trimF; rw [rtrim_take]; exact Fit.take _ (fit_dropB h)
theorem fit_cuts {p : Int → Tok → Bool} : ∀ {f : Fs}, Fit f → ∀ g ∈ cuts p f, Fit g
  | .nil, _, g, hg => by simp [cuts] at hg; subst hg; exact Fit.nil
  | .cons k t x r, h, g, hg => by
    rw [cuts] at hg
    split at hg
    · rcases List.mem_cons.1 hg with rfl | hg
      · exact Fit.nil
      · exact fit_cuts h.parts.2 g hg
    · cases hc : cuts p r with
      | nil => exact absurd hc (cuts_ne p r)
      | cons a l =>
        rw [hc] at hg
        have ih := fit_cuts (p := p) h.parts.2
        rw [hc] at ih
        rcases List.mem_cons.1 hg with rfl | hg
        · exact h.parts.1.app (ih a (by simp))
        · exact ih g (by simp [hg])
theorem fit_cut {g : Fs} (h : Fit g) : Fit (cutF g).1 := by
  unfold cutF
  split
  · unfold initF; exact fit_trim (Fit.take _ (fit_trim (Fit.take _ h)))
  · exact h
theorem decl_may {f : Fs} {d : Dl} (h : declF (trimF f) = some d) (hf : Fit f) : mayOne d = true := by
  obtain ⟨p1, p2⟩ := decl_parts h
  have ha := fit_trim hf
  have key : may (1, d.1, 0) = true ∧ Fit d.2.1 := by
    cases hc : trimF f with
    | nil => rw [hc] at h; cases h
    | cons k t x r =>
      rw [hc] at h ha
      have hr := fit_trim ha.parts.2
      rw [declF] at h
      split at h
      · rename_i hi
        cases hr0 : trimF r with
        | nil => rw [hr0] at h; cases h
        | cons k2 t2 x2 r2 =>
          rw [hr0] at h hr
          dsimp only at h
          split at h
          · unfold valueF at h
            split at h
            · cases h
              refine ⟨?_, fit_cut (fit_trim hr.parts.2)⟩
              simp only [idv, Bool.and_eq_true, decide_eq_true_eq] at hi
              have hm := ha.parts.1.may
              rw [flat, if_pos hi.1] at hm
              simp only [List.singleton_append, List.all_cons, Bool.and_eq_true] at hm
              obtain ⟨m1, m2⟩ := may_nameD hm.1 hi.2
              dsimp only
              unfold proper
              split
              · exact m1
              · exact valid_may (Valid.ident _ (name_lowD m2))
            · cases h
          · cases h
      · cases h
  unfold mayOne
  rw [key.1, key.2.mayF, p1, ← p2]
  simp
theorem parsed_may {f : Fs} (h : mayF f = true) : mayD (parseD f) = true := by
  refine List.all_eq_true.2 fun d hd => ?_
  unfold parseD at hd
  obtain ⟨g, hg, he⟩ := List.mem_filterMap.1 hd
  exact decl_may he (fit_cuts (Fit.of h) g hg)
theorem read_may7 {s : List UInt8} {f : Fs} (h : readF s = some f) : mayF (trimF f) = true := may_trim (may_parsed h (lex_all_may s))
end Wn
set_option linter.unusedVariables false
set_option linter.unusedSimpArgs false
set_option maxRecDepth 20000
namespace Go.Proofs.YtjlejiphpbaonaaGreatDoor
open Go.ChangeShapes Go.WideShapes Go.RowKit Go.Deep
section
variable {H : Type} {enc : TypeId × Value → H} {w : World} {base : Nat} {spare : Nat → Bool} {held : Bool}
/-- a slice of records, where each element's cells read as one that a predicate holds of -/
theorem open_rkp {α : Type} (K : RK α) (φ : α → Prop) (hc : Tryz.prog.cellsOf K.e = K.sz) {fuel : Nat} {cs : List Value} {x : DataW H × List MemPlace} (h : DataW.trod enc Tryz.prog w base spare held fuel K.t cs = some x)
    (el : ∀ m, m < fuel → ∀ (cs : List Value) (x : DataW H × List MemPlace), DataW.trod enc Tryz.prog w base spare held m K.e cs = some x → ∃ y, K.R w (fun _ => True) cs y ∧ φ y) : ∃ v l, cs = [v] ∧ K.P w (fun _ => True) v l ∧ ∀ y ∈ l, φ y := by
  rcases DataW.trod_slice K.under h with ⟨rfl, _⟩ | ⟨a, len, cap, elems, rest, n, hfu, rfl, _, hb, hl, hm, hlen, hel, _⟩
  · exact ⟨_, [], rfl, RK.P.nil w _, fun y hy => by cases hy⟩
  · have elem : ∀ i, i < len → ∃ cs y, w.cells? base (a.add (i * K.sz)) K.sz = some cs ∧ K.R w (fun _ => True) cs y ∧ φ y := by
      intro i hi
      have he := hel i hi
      rw [hc, List.getElem?_eq_getElem (by omega), Option.bind_eq_some_iff] at he
      obtain ⟨cs', hcs, ht⟩ := he
      obtain ⟨y, hy⟩ := el n (by omega) _ _ ht
      exact ⟨cs', y, hcs, hy⟩
    by_cases h0 : len = 0
    · subst h0
      exact ⟨_, [], rfl, ⟨some a, cap, rfl, by simp, hm, fun h => (by cases h), fun h => absurd rfl h⟩, fun y hy => by cases hy⟩
    · obtain ⟨c0, y0, hc0, hy0, hφ0⟩ := elem 0 (by omega)
      have hT : ∀ i, ∃ y : α, φ y ∧ (i < len → ∃ cs, w.cells? base (a.add (i * K.sz)) K.sz = some cs ∧ K.R w (fun _ => True) cs y) := by
        intro i
        by_cases hi : i < len
        · obtain ⟨cs, y, h1, h2, h3⟩ := elem i hi
          exact ⟨y, h3, fun _ => ⟨cs, h1, h2⟩⟩
        · exact ⟨y0, hφ0, fun h => absurd h hi⟩
      obtain ⟨T, hT⟩ := Classical.axiomOfChoice hT
      have hlen : ((List.range len).map T).length = len := by simp
      have hpos := K.pos
      have hcl := K.len hy0
      obtain ⟨_, _, hat0⟩ := World.cells?_some hc0
      have hf0 := hat0 0 (by omega)
      rw [List.getElem?_eq_getElem (by omega)] at hf0
      have hsp : a = ⟨a.block, a.off, none⟩ := spot_none (v := c0[0]) (by simpa [Addr.add] using hf0)
      have hbl : a.block < w.heap.size := by
        have := World.block_lt_of_cell? w _ hf0
        rw [hsp, add_plain] at this
        exact this
      refine ⟨_, (List.range len).map T, rfl, ⟨some a, cap, by rw [hlen], by rw [hlen]; omega, hm, fun h => (by cases h), fun _ => ⟨a.block, a.off, by rw [← hsp], trivial, hbl, fun i x hx => ?_⟩⟩, fun y hy => ?_⟩
      · have hi : i < len := by have := (List.getElem?_eq_some_iff.1 hx).1; simpa using this
        have hx' : T i = x := by simpa [List.getElem?_eq_getElem, hi] using hx
        subst hx'
        obtain ⟨cs, h1, h2⟩ := (hT i).2 hi
        refine ⟨cs, h2, fun j u hj => ?_⟩
        obtain ⟨_, _, hat⟩ := World.cells?_some h1
        have hj3 : j < K.sz := by have := (List.getElem?_eq_some_iff.1 hj).1; have := K.len h2; omega
        have q := hat j hj3
        rw [hsp, add_plain, add_plain] at q
        rw [← hj]
        exact q
      · obtain ⟨i, _, rfl⟩ := List.mem_map.1 hy
        exact (hT i).1
theorem cells_dl : Tryz.prog.cellsOf 44 = 3 := by kernel_rfl
theorem cells_st : Tryz.prog.cellsOf 9 = 1 := by kernel_rfl
theorem cells_bo : Tryz.prog.cellsOf 4 = 1 := by kernel_rfl
theorem str_ofD (s : ByteArray) : s = Wn.str s.data.toList := by cases s; simp [Wn.str]
/-- what a row's reading says of a declaration -/
def DNums (d : Wn.Dl) : Prop := d.1.length ≤ maxLen ∧ FNums d.2.1
/-- three cells that read as a declaration -/
theorem open_dlC {m : Nat} {cs : List Value} {x : DataW H × List MemPlace} (h : DataW.trod enc Tryz.prog w base spare held m 44 cs = some x) : ∃ y, dlK.R w (fun _ => True) cs y ∧ DNums y := by
  obtain ⟨ys, n', hn', _, hlen, hyl, hf⟩ := DataW.trod_struct Tryz.underlying44 h
  have h0 : DataW.trod enc Tryz.prog w base spare held n' 9 ((cs.drop 0).take (Tryz.prog.cellsOf 9)) = ys[0]? := hf 0 _ rfl
  have h1 : DataW.trod enc Tryz.prog w base spare held n' 22 ((cs.drop 1).take (Tryz.prog.cellsOf 22)) = ys[1]? := hf 1 _ rfl
  have h2 : DataW.trod enc Tryz.prog w base spare held n' 4 ((cs.drop 2).take (Tryz.prog.cellsOf 4)) = ys[2]? := hf 2 _ rfl
  rw [cells_st] at h0
  rw [cells_slv] at h1
  rw [cells_bo] at h2
  match cs, hlen.trans cells_dl with
  | [c0, c1, c2], _ =>
    match ys, hyl with
    | [y0, y1, y2], _ =>
      simp only [List.drop_zero, List.drop_succ_cons, List.take_succ_cons, List.take_zero, List.getElem?_cons_zero, List.getElem?_cons_succ] at h0 h1 h2
      obtain ⟨s, e0, _, hs⟩ := DataW.trod_string Tryz.underlying9 h0
      obtain ⟨v, f, e1, hv, hn⟩ := open_valsF _ _ _ h1
      obtain ⟨b, e2, _, _⟩ := DataW.trod_bool Tryz.underlying4 h2
      simp only [List.cons.injEq, and_true] at e0 e1 e2
      exact ⟨(s.data.toList, f, b), ⟨v, by rw [e0, e1, e2, dlCells, ← str_ofD], hv⟩, by have := hs; simpa using this, hn⟩
theorem open_dlsF (fuel : Nat) (cs : List Value) (x : DataW H × List MemPlace) (h : DataW.trod enc Tryz.prog w base spare held fuel 23 cs = some x) : ∃ v l, cs = [v] ∧ dlK.P w (fun _ => True) v l ∧ ∀ y ∈ l, DNums y :=
  open_rkp dlK DNums cells_dl h fun _ _ _ _ h => open_dlC h
/-- a slice of declarations -/
theorem open_dls {r : Reach} {b0 : Nat} {v : Value} {d : DataW H} {p : List MemPlace} (hv : Value.okWide Tryz.prog w r b0 23 v) (h : DataW.Trod enc Tryz.prog w base spare held 23 v d p) :
    ∃ l : List Wn.Dl, dlK.P w (fun _ => True) v l ∧ ∀ y ∈ l, DNums y := by
  obtain ⟨a0, len0, cap0, rfl⟩ := okWide_slice Tryz.underlying23 hv
  obtain ⟨fuel, h⟩ := h
  obtain ⟨v', l, hcs, hl⟩ := open_dlsF fuel _ _ h
  simp [Value.cells] at hcs
  subst hcs
  exact ⟨l, hl⟩
/-- a declaration by value -/
theorem open_dl {r : Reach} {b0 : Nat} {v : Value} {d : DataW H} {p : List MemPlace} (hv : Value.okWide Tryz.prog w r b0 44 v) (h : DataW.Trod enc Tryz.prog w base spare held 44 v d p) :
    ∃ (x : Wn.Dl) (u : Value), v = dlV x u ∧ Vals w u x.2.1 ∧ DNums x := by
  obtain ⟨cs, rfl, _⟩ := okWide_struct Tryz.underlying44 hv
  obtain ⟨fuel, h⟩ := h
  have hcl : (Value.agg cs).cells.toList = cs.toList := by simp [Value.cells]
  rw [hcl] at h
  obtain ⟨x, ⟨u, hc, hu⟩, hn⟩ := open_dlC h
  refine ⟨x, u, ?_, hu, hn⟩
  congr 1
  cases cs; simpa [dlCells] using hc
end
end Go.Proofs.YtjlejiphpbaonaaGreatDoor
set_option linter.unusedVariables false
set_option linter.unusedSimpArgs false
set_option maxRecDepth 20000
namespace Wn
theorem parsed_allD {p : Tok → Prop} (h0 : p (0, [], 0)) {l : List Tok} {f : Fs} {n : Nat} (h : parse l n = some f) (hl : ∀ t ∈ l, p t) : f.all p := by
  obtain ⟨l', hv⟩ := parse_some h
  refine (valsL_ind (M := fun _ _ l f l' => (∀ t ∈ l, p t) → f.all p ∧ ∀ t ∈ l', p t) (fun _ _ _ => ⟨trivial, fun t ht => by cases ht⟩) (fun _ _ l _ h => ⟨trivial, fun t ht => h t (by simp [ht])⟩)
    (fun k left t l f l' _ _ _ ih h => ⟨⟨h t (by simp), trivial, (ih fun u hu => h u (by simp [hu])).1⟩, (ih fun u hu => h u (by simp [hu])).2⟩)
    (fun k left t l x l1 f l' _ _ _ _ ih1 _ ih2 h => ?_) _ _ _ _ _ _ (Nat.le_refl _) hv hl).1
  have a := ih1 fun u hu => h u (by simp [hu])
  have b := ih2 a.2
  refine ⟨⟨?_, a.1, b.1⟩, b.2⟩
  unfold blockTok
  split
  · exact h t (by simp)
  · exact h0
theorem decl_fitP {p : Tok → Prop} {f : Fs} {d : Dl} (h : declF (trimF f) = some d) (hs : f.all p) : d.2.1.size ≤ f.size ∧ d.2.1.all p ∧ ∃ u : Tok, p u ∧ d.1.length = u.2.1.length := by
  have hz := trim_size f
  have ha := trim_all hs
  cases hf : trimF f with
  | nil => rw [hf] at h; cases h
  | cons k t x r =>
    rw [hf] at h hz ha
    have hr1 := trim_size r
    have hr2 := trim_all ha.2.2
    simp only [Fs.size] at hz
    rw [declF] at h
    split at h
    · cases hr : trimF r with
      | nil => rw [hr] at h; cases h
      | cons k2 t2 x2 r2 =>
        rw [hr] at h hr1 hr2
        dsimp only at h
        split at h
        · unfold valueF at h
          split at h
          · cases h
            obtain ⟨c1, c2⟩ := cutF_fit (trimF r2) (trim_all hr2.2.2)
            have := trim_size r2
            simp only [Fs.size] at hr1
            exact ⟨by dsimp only; omega, c2, t, ha.1, proper_len _⟩
          · cases h
        · cases h
    · cases h

theorem parse_memP {p : Tok → Prop} {f : Fs} {d : Dl} (hd : d ∈ parseD f) (hs : f.all p) : d.2.1.size ≤ f.size ∧ d.2.1.all p ∧ ∃ u : Tok, p u ∧ d.1.length = u.2.1.length := by
  unfold parseD at hd
  obtain ⟨g, hg, h⟩ := List.mem_filterMap.1 hd
  obtain ⟨b1, b2, b3⟩ := decl_fitP h (cuts_allF hs g hg)
  exact ⟨Nat.le_trans b1 (cuts_size hg), b2, b3⟩
theorem strong_size (b : Bool) : (strongF b).size ≤ 2 := by cases b <;> decide
theorem size_app7 : ∀ f g : Fs, (f.app g).size = f.size + g.size
  | .nil, g => by simp [Fs.app, Fs.size]
  | .cons k t x r, g => by rw [Fs.app, Fs.size, Fs.size, size_app7 r g]; omega
theorem valsOne_size7 (d : Dl) : (valsOne d).size ≤ d.2.1.size + 4 := by
  have := strong_size d.2.2
  unfold valsOne nameV dlmV
  simp only [Fs.size, size_app7]
  omega
theorem sizes_le {n : Nat} : ∀ {l : List Fs}, (∀ g ∈ l, g.size ≤ n) → sizes l ≤ l.length * (n + 1)
  | [], _ => by simp [sizes]
  | a :: l, h => by
    have h1 := h a (by simp)
    have h2 := sizes_le (l := l) (fun g hg => h g (by simp [hg]))
    rw [sizes, List.length_cons, Nat.succ_mul]; omega
theorem joinF_all {p : Tok → Prop} (hp : p (dlm [59])) : ∀ {l : List Fs}, (∀ g ∈ l, g.all p) → (joinF [59] l).all p
  | [], _ => trivial
  | [a], h => h a (by simp)
  | a :: b :: l, h => all_app7 (h a (by simp)) ⟨hp, trivial, joinF_all hp (l := b :: l) (fun g hg => h g (by simp [hg]))⟩
where
  all_app7 : ∀ {f g : Fs}, f.all p → g.all p → (f.app g).all p
    | .nil, _, _, h => h
    | .cons _ _ _ _, _, ⟨h1, h2, h3⟩, h => ⟨h1, h2, all_app7 h3 h⟩
theorem valsOne_all {p : Tok → Prop} (hp : ∀ s, s.length ≤ 1 → p (dlm s)) (hi : p (1, importantB, 0)) {d : Dl} (hn : p (1, d.1, 0)) (hd : d.2.1.all p) : (valsOne d).all p := by
  refine ⟨hn, trivial, hp [58] (by simp), trivial, joinF_all.all_app7 hd ?_⟩
  unfold strongF
  split
  · exact ⟨hp [33] (by simp), trivial, hi, trivial, trivial⟩
  · trivial
end Wn
namespace Go.Proofs.YtjlejiphpbaonaaGreatDoor
open Go.RowKit Go.Sort
/-- a token of a short text, its number one of Go's -/
def QD (n : Nat) (t : Wn.Tok) : Prop := t.2.1.length ≤ n ∧ Nums t
theorem QD.dlm {n : Nat} {s : List UInt8} (h : s.length ≤ n) : QD n (Wn.dlm s) := ⟨h, by unfold Nums Wn.dlm; simp⟩
theorem flat_QD {n : Nat} (hn : 1 ≤ n) {f : Wn.Fs} (h : f.all (QD n)) : ∀ t ∈ Wn.flat f, QD n t :=
  Wn.flat_all (fun k => QD.dlm (Nat.le_trans (Wn.openB_len k) hn)) (fun k => QD.dlm (Nat.le_trans (Wn.closeB_len k) hn)) f h
theorem fits_of {n : Nat} (hn : 1 ≤ n) (hn2 : n ≤ 1000) {d : Wn.Dl} (h0 : d.1.length ≤ n) (h1 : d.2.1.size ≤ 1000) (h2 : d.2.1.all (QD n)) : RFit d ∧ DFit d := by
  have h3 := flat_QD hn h2
  have h4 := Wn.flat_len d.2.1
  exact ⟨⟨by omega, by omega, by omega, fun t ht => ⟨by have := (h3 t ht).1; omega, (h3 t ht).2⟩⟩, ⟨by omega, by omega, by omega, fun t ht => ⟨by have := (h3 t ht).1; omega, (h3 t ht).2⟩⟩⟩
/-- what is read of a text that is not too long -/
theorem read_QD {n : Nat} (hn : n ≤ 1000) {s : List UInt8} {f : Wn.Fs} (h : Wn.readF s = some f) (hs : s.length ≤ n) : (Wn.trimF f).all (QD n) :=
  Wn.trim_all (Wn.parsed_allD (p := QD n) ⟨by simp, by unfold Nums; simp⟩ h (fun t ht => ⟨Wn.lex_len n s hs t ht, Wn.valid_n (Wn.lex_valid _ s (Nat.le_refl _) t ht)⟩))
/-- small declarations whose numbers are Go's -/
theorem small_QD {d : Wn.Dl} (h : SmallD 60 d) (hn : DNums d) : d.1.length ≤ 100 ∧ d.2.1.size ≤ 60 ∧ d.2.1.all (QD 100) := by
  obtain ⟨h1, h2, h3⟩ := h
  exact ⟨h3, by omega, Wn.all_imp (fun t ht => ⟨ht.1, ht.2.1⟩) (Wn.all_and h2 hn.2)⟩
/-- what small declarations are told as -/
theorem vals_QD {l : List Wn.Dl} (hl : l.length ≤ 20) (h : ∀ d ∈ l, d.1.length ≤ 100 ∧ d.2.1.size ≤ 60 ∧ d.2.1.all (QD 100)) : Wn.sizes (l.map Wn.valsOne) ≤ 1300 ∧ (Wn.valsD l).all (QD 100) := by
  have h1 := Wn.sizes_le (n := 64) (l := l.map Wn.valsOne) (fun g hg => by
    obtain ⟨d, hd, rfl⟩ := List.mem_map.1 hg
    have := Wn.valsOne_size7 d
    have := (h d hd).2.1
    omega)
  rw [List.length_map] at h1
  refine ⟨by omega, Wn.joinF_all (QD.dlm (by simp)) fun g hg => ?_⟩
  obtain ⟨d, hd, rfl⟩ := List.mem_map.1 hg
  exact Wn.valsOne_all (fun s hs => QD.dlm (by omega)) ⟨by decide, by unfold Nums; simp⟩ ⟨(h d hd).1, by unfold Nums; simp⟩ (h d hd).2.2
set_option maxHeartbeats 400000 in
theorem rRead_g7 (s : ByteArray) (w : World) (hs : s.size ≤ 1000000) (hll : (Wn.lex s.data.toList).length ≤ 100000) :
    Calls Tryz.prog 22 #[.string s] w fun e w' => ∃ r c, e = .returned (.tuple #[r, .int .i64 c]) ∧ Below w.heap.size w w' ∧ ((c = 20 ∧ r = .slice Option.none 0 0 ∧ Wn.readF s.data.toList = none) ∨ (c = 0 ∧ ∃ f, Wn.readF s.data.toList = some f ∧ Vals w' r (Wn.trimF f))) := by
  have QA := Lib.hid (rAll s _ w (by omega) rfl)
  have QP := Lib.hid (fun v w hv => rParse_any v (Wn.lex s.data.toList) 60 w hv (by omega))
  have HLL := Lib.hid hll
  clear hll hs
  have hrd : Wn.parse (Wn.lex s.data.toList) (60 : Int).toNat = Wn.readF s.data.toList := rfl
  have HRD := Lib.hid hrd; clear hrd
  go_enter Tryz.func22, Tryz.ntmps22
  go_wp2_with fail
  refine QA.out.mono ?_
  rintro e w1 ⟨r1, rfl, ho, b1⟩
  have HO := Lib.hid ho.toks
  have HB1 := Lib.hid b1
  clear b1 ho QA
  go_wp2_with fail
  refine (QP.out _ _ HO.out).mono ?_
  rintro e w2 ⟨b2, hpost⟩
  rw [if_neg (by omega), HRD.out] at hpost
  have HB2 := Lib.hid (HB1.out.trans (b2.mono HB1.out.size))
  clear b2 HB1 HO QP
  cases hp : Wn.readF s.data.toList with
  | none =>
    rw [hp] at hpost
    dsimp only at hpost
    subst hpost
    have HPN := Lib.hid hp
    clear hp
    go_wp2_with fail
    exact bodyPost_ret (v := .tuple #[.slice none 0 0, .int .i64 20]) (by simp [results, Tryz.results22, go_sem]) rfl ⟨_, _, rfl, HB2.out, .inl ⟨rfl, rfl, HPN.out⟩⟩
  | some f =>
    rw [hp] at hpost
    dsimp only at hpost
    obtain ⟨r2, rfl, hv2⟩ := hpost
    have hsz := Wn.parse_size hp
    have hll := HLL.out
    have QT := Lib.hid (fun v w hv => rTrim_any v f w hv (by omega))
    have HV2 := Lib.hid hv2.any
    have HPN := Lib.hid hp
    clear hsz hll hv2 hp
    go_wp2_with fail
    refine (QT.out _ _ HV2.out).mono ?_
    rintro e w3 ⟨r3, rfl, hv3, b3⟩
    have HB3 := Lib.hid (HB2.out.trans (b3.mono HB2.out.size))
    have HV3 := Lib.hid hv3
    clear b3 hv3 HB2 HV2 QT
    go_wp2_with fail
    exact bodyPost_ret (v := .tuple #[r3, .int .i64 0]) (by simp [results, Tryz.results22, go_sem]) rfl ⟨_, _, rfl, HB3.out, .inr ⟨rfl, f, HPN.out, HV3.out⟩⟩
end Go.Proofs.YtjlejiphpbaonaaGreatDoor
