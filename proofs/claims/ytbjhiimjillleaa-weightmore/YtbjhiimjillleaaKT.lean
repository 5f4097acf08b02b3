/- What ref04's count and Small answer: a number, a truth value; nothing turns. Arguments of a row that are lists of selectors: what the reading of a row's argument says of the memory. -/
import Derived.Test.YtbjhiimjillleaaHL
import Derived.Test.YtbjhiimjillleaaGR
import Derived.OpenShut
set_option maxRecDepth 20000
namespace Go.Proofs.Ytbjhiimjillleaa
open Go.RowKit Go.Sort
def C4Said (f : Wn.Ss) : Prop := ∀ (v : Value) (n most : Int) (w : World), SsP w (fun _ => True) v f → Calls Try.prog 19 #[v, .int .i64 n, .int .i64 most] w fun e w' => ∃ m : Int, e = .returned (.int .i64 m) ∧ w' = w
set_option maxRecDepth 100000 in
set_option maxHeartbeats 2000000 in
theorem count4_step (f : Wn.Ss) (IH : ∀ x : Wn.Ss, x.size < f.size → C4Said x) : C4Said f := by
  intro v n0 most w hv
  have HIH := Lib.hid IH; clear IH
  have HV := Lib.hid hv
  obtain ⟨ao, cap, rfl, c1, c2⟩ := hv.form
  unfold maxLen at c2
  clear hv
  go_enter Try.func19, Try.ntmps19
  go_wp2_with fail
  go_loopw [1, 7] (fun v1 v7 wr => ∃ (i : Nat) (n : Int), i ≤ f.len ∧ v1 = .int .i64 n ∧ v7 = .int .i64 (i : Int) ∧ Hid (wr = w)) (fun _ v7 _ => f.len - (intOf v7).toNat)
  case atStart => exact ⟨0, n0, by omega, rfl, rfl, Lib.hid rfl⟩
  case round =>
    obtain ⟨i, n, hil, rfl, rfl, HW⟩ := hrel
    obtain rfl := HW.out
    clear HW
    by_cases hlt : i < f.len
    · obtain ⟨k, nm, t, a, b, x, hd⟩ := Wn.Ss.drop_cons hlt
      obtain ⟨p, o, u, rfl, j0, j1, j2, j3, j4, j5, hu⟩ := HV.out.at hd
      have hsz := Wn.Ss.drop_lt hd
      obtain ⟨uo, uc, rfl, _, _⟩ := hu.form
      have CS := Lib.hid (fun a b => HIH.out x hsz _ a b wr hu)
      generalize x.len = xl at *
      generalize Wn.str nm = ny at *
      generalize Wn.str t = ty at *
      clear hu hd j0 j3 j4 hsz
      have hi1 : (i : Int) < (f.len : Int) := by omega
      by_cases hn : n ≤ most
      · by_cases h1 : 100 < ny.size
        · go_wp2_with fail
          go_ret
          first | exact ⟨_, rfl, rfl⟩ | exact ⟨⟨_, rfl⟩, rfl⟩ | exact ⟨rfl, rfl⟩ | exact .inl rfl | exact ⟨.inl rfl, rfl⟩ | exact .inr rfl | exact ⟨.inr rfl, rfl⟩ | exact ⟨_, rfl⟩
        · by_cases h2 : 100 < ty.size
          · go_wp2_with fail
            go_ret
            first | exact ⟨_, rfl, rfl⟩ | exact ⟨⟨_, rfl⟩, rfl⟩ | exact ⟨rfl, rfl⟩ | exact .inl rfl | exact ⟨.inl rfl, rfl⟩ | exact .inr rfl | exact ⟨.inr rfl, rfl⟩ | exact ⟨_, rfl⟩
          · go_wp2_with fail
            refine (CS.out _ _).mono ?_
            rintro e w1 ⟨m, rfl, rfl⟩
            go_wp2_with fail
            exact ⟨⟨i + 1, m, by omega, rfl, by go_num, Lib.hid (by simp)⟩, by simp [intOf]; try omega⟩
      · go_wp2_with fail
        go_ret
        first | exact ⟨_, rfl, rfl⟩ | exact ⟨⟨_, rfl⟩, rfl⟩ | exact ⟨rfl, rfl⟩ | exact .inl rfl | exact ⟨.inl rfl, rfl⟩ | exact .inr rfl | exact ⟨.inr rfl, rfl⟩ | exact ⟨_, rfl⟩
    · have hni : ¬ (i : Int) < (f.len : Int) := by omega
      go_wp2_with fail
      go_ret
      first | exact ⟨_, rfl, rfl⟩ | exact ⟨⟨_, rfl⟩, rfl⟩ | exact ⟨rfl, rfl⟩ | exact .inl rfl | exact ⟨.inl rfl, rfl⟩ | exact .inr rfl | exact ⟨.inr rfl, rfl⟩ | exact ⟨_, rfl⟩
theorem count4_all : ∀ (n : Nat) (f : Wn.Ss), f.size < n → C4Said f
  | 0, f, h => by omega
  | n + 1, f, h => count4_step f fun g hg => count4_all n g (by omega)
set_option maxRecDepth 100000 in
set_option maxHeartbeats 2000000 in
theorem small4_any (v : Value) (l : List Wn.Cx) (most : Int) (w : World) (hv : cxK.P w (fun _ => True) v l) :
    Calls Try.prog 9 #[v, .int .i64 most] w fun e w' => ∃ r : Bool, e = .returned (.bool r) ∧ w' = w := by
  have HV := Lib.hid hv
  obtain ⟨ao, cap, rfl, c1, c2⟩ := hv.form
  unfold maxLen at c2
  clear hv
  go_enter Try.func9, Try.ntmps9
  go_wp2_with fail
  go_loopw [5, 6, 7] (fun v5 v6 v7 wr => ∃ (i : Nat) (n : Int), i ≤ l.length ∧ v5 = .int .i64 n ∧ v6 = .int .i64 (i : Int) ∧ Hid (wr = w)) (fun _ v6 _ _ => l.length - (intOf v6).toNat)
  case atStart => exact ⟨0, _, by omega, rfl, rfl, Lib.hid rfl⟩
  case round =>
    obtain ⟨i, n, hil, rfl, rfl, HW⟩ := hrel
    obtain rfl := HW.out
    clear HW
    by_cases hlt : i < l.length
    · obtain ⟨x, hx⟩ : ∃ x, l[i]? = some x := ⟨l[i], List.getElem?_eq_getElem hlt⟩
      obtain ⟨b, o, po, pc, rfl, hpt, k0, k1⟩ := cx_at HV.out hx
      have HP := Lib.hid hpt
      obtain ⟨po', pc', he, d1, d2⟩ := hpt.form
      simp only [Value.slice.injEq, true_and] at he
      obtain ⟨rfl, rfl⟩ := he
      unfold maxLen at d2
      have hi1 : (i : Int) < (l.length : Int) := by omega
      generalize Wn.str x.2 = y at *
      clear hpt hx
      by_cases hn : n ≤ most
      · go_wp2_with fail
        go_loopw [5, 7] (fun v5 v7 ws => ∃ (j : Nat) (m : Int), j ≤ x.1.length ∧ v5 = .int .i64 m ∧ v7 = .int .i64 (j : Int) ∧ Hid (ws = wr)) (fun _ v7 _ => x.1.length - (intOf v7).toNat)
        case atStart => exact ⟨0, _, by omega, rfl, rfl, Lib.hid rfl⟩
        case round =>
          obtain ⟨j, m, hjl, rfl, rfl, HW⟩ := hrel
          obtain rfl := HW.out
          clear HW
          by_cases hjt : j < x.1.length
          · obtain ⟨s, hs⟩ : ∃ s, x.1[j]? = some s := ⟨x.1[j], List.getElem?_eq_getElem hjt⟩
            obtain ⟨g, q, so, sc, rfl, hsm, _, t1⟩ := pt_at HP.out hs
            have CS : Hid (∀ a b, Calls Try.prog 19 #[.slice so s.2.length sc, .int .i64 a, .int .i64 b] wr fun e w' => ∃ m : Int, e = .returned (.int .i64 m) ∧ w' = wr) := Lib.hid (fun a b => count4_all _ (Wn.Ss.ofL s.2) (Nat.lt_succ_self _) _ a b wr (SsP.k.2 (by rw [Wn.Ss.toL_ofL]; exact hsm)))
            have hj1 : (j : Int) < (x.1.length : Int) := by omega
            clear hs hsm
            generalize s.2.length = sl at *
            by_cases hm : m ≤ most
            · go_wp2_with fail
              refine (CS.out _ _).mono ?_
              rintro e w1 ⟨m', rfl, rfl⟩
              go_wp2_with fail
              exact ⟨⟨j + 1, m', by omega, rfl, by go_num, Lib.hid (by simp)⟩, by simp [intOf]; try omega⟩
            · by_cases hy : 100 < y.size
              · go_wp2_with fail
                go_ret
                first | exact ⟨_, rfl, rfl⟩ | exact ⟨⟨_, rfl⟩, rfl⟩ | exact ⟨rfl, rfl⟩ | exact .inl rfl | exact ⟨.inl rfl, rfl⟩ | exact .inr rfl | exact ⟨.inr rfl, rfl⟩ | exact ⟨_, rfl⟩
              · go_wp2_with fail
                exact ⟨⟨i + 1, _, by omega, rfl, by go_num, Lib.hid (by simp)⟩, by simp [intOf]; try omega⟩
          · have hnj : ¬ (j : Int) < (x.1.length : Int) := by omega
            by_cases hy : 100 < y.size
            · go_wp2_with fail
              go_ret
              first | exact ⟨_, rfl, rfl⟩ | exact ⟨⟨_, rfl⟩, rfl⟩ | exact ⟨rfl, rfl⟩ | exact .inl rfl | exact ⟨.inl rfl, rfl⟩ | exact .inr rfl | exact ⟨.inr rfl, rfl⟩ | exact ⟨_, rfl⟩
            · go_wp2_with fail
              exact ⟨⟨i + 1, _, by omega, rfl, by go_num, Lib.hid (by simp)⟩, by simp [intOf]; try omega⟩
      · go_wp2_with fail
        go_ret
        first | exact ⟨_, rfl, rfl⟩ | exact ⟨⟨_, rfl⟩, rfl⟩ | exact ⟨rfl, rfl⟩ | exact .inl rfl | exact ⟨.inl rfl, rfl⟩ | exact .inr rfl | exact ⟨.inr rfl, rfl⟩ | exact ⟨_, rfl⟩
    · have hni : ¬ (i : Int) < (l.length : Int) := by omega
      by_cases hn : n ≤ most
      · go_wp2_with fail
        go_ret
        first | exact ⟨_, rfl, rfl⟩ | exact ⟨⟨_, rfl⟩, rfl⟩ | exact ⟨rfl, rfl⟩ | exact .inl rfl | exact ⟨.inl rfl, rfl⟩ | exact .inr rfl | exact ⟨.inr rfl, rfl⟩ | exact ⟨_, rfl⟩
      · go_wp2_with fail
        go_ret
        first | exact ⟨_, rfl, rfl⟩ | exact ⟨⟨_, rfl⟩, rfl⟩ | exact ⟨rfl, rfl⟩ | exact .inl rfl | exact ⟨.inl rfl, rfl⟩ | exact .inr rfl | exact ⟨.inr rfl, rfl⟩ | exact ⟨_, rfl⟩
end Go.Proofs.Ytbjhiimjillleaa
set_option maxRecDepth 20000
namespace Go.Proofs.Ytbjhiimjillleaa
open Go.ChangeShapes Go.WideShapes Go.RowKit Go.Deep
section
variable {H : Type} {enc : TypeId × Value → H} {w : World} {base : Nat} {spare : Nat → Bool} {held : Bool}
/-- a slice of records, where each element's cells read as one -/
theorem open_rk {α : Type} (K : RK α) (hc : Try.prog.cellsOf K.e = K.sz) {fuel : Nat} {cs : List Value} {x : DataW H × List MemPlace} (h : DataW.trod enc Try.prog w base spare held fuel K.t cs = some x)
    (el : ∀ m, m < fuel → ∀ (cs : List Value) (x : DataW H × List MemPlace), DataW.trod enc Try.prog w base spare held m K.e cs = some x → ∃ y, K.R w (fun _ => True) cs y) : ∃ v l, cs = [v] ∧ K.P w (fun _ => True) v l := by
  rcases DataW.trod_slice K.under h with ⟨rfl, _⟩ | ⟨a, len, cap, elems, rest, n, hfu, rfl, _, hb, hl, hm, hlen, hel, _⟩
  · exact ⟨_, [], rfl, RK.P.nil w _⟩
  · have elem : ∀ i, i < len → ∃ cs y, w.cells? base (a.add (i * K.sz)) K.sz = some cs ∧ K.R w (fun _ => True) cs y := by
      intro i hi
      have he := hel i hi
      rw [hc, List.getElem?_eq_getElem (by omega), Option.bind_eq_some_iff] at he
      obtain ⟨cs', hcs, ht⟩ := he
      obtain ⟨y, hy⟩ := el n (by omega) _ _ ht
      exact ⟨cs', y, hcs, hy⟩
    by_cases h0 : len = 0
    · subst h0
      exact ⟨_, [], rfl, some a, cap, rfl, by simp, hm, fun h => (by cases h), fun h => absurd rfl h⟩
    · obtain ⟨c0, y0, hc0, hy0⟩ := elem 0 (by omega)
      have hT : ∀ i, ∃ y : α, i < len → ∃ cs, w.cells? base (a.add (i * K.sz)) K.sz = some cs ∧ K.R w (fun _ => True) cs y := by
        intro i
        by_cases hi : i < len
        · obtain ⟨cs, y, h1, h2⟩ := elem i hi
          exact ⟨y, fun _ => ⟨cs, h1, h2⟩⟩
        · exact ⟨y0, fun h => absurd h hi⟩
      obtain ⟨T, hT⟩ := Classical.axiomOfChoice hT
      have hlen : ((List.range len).map T).length = len := by simp
      have hpos := K.pos
      have hcl := K.len hy0
      obtain ⟨_, _, hat0⟩ := World.cells?_some hc0
      have hf0 := hat0 0 (by omega)
      rw [List.getElem?_eq_getElem (by omega)] at hf0
      have hsp : a = ⟨a.block, a.off, none⟩ := spot_none (v := c0[0]) (by simpa [Addr.add] using hf0)
      have hbl : a.block < w.heap.size := by
        have := World.block_lt_of_cell? w _ hf0
        rw [hsp, add_plain] at this
        exact this
      refine ⟨_, (List.range len).map T, rfl, some a, cap, by rw [hlen], by rw [hlen]; omega, hm, fun h => (by cases h), fun _ => ⟨a.block, a.off, by rw [← hsp], trivial, hbl, fun i x hx => ?_⟩⟩
      have hi : i < len := by have := (List.getElem?_eq_some_iff.1 hx).1; simpa using this
      have hx' : T i = x := by simpa [List.getElem?_eq_getElem, hi] using hx
      subst hx'
      obtain ⟨cs, h1, h2⟩ := hT i hi
      refine ⟨cs, h2, fun j u hj => ?_⟩
      obtain ⟨_, _, hat⟩ := World.cells?_some h1
      have hj3 : j < K.sz := by have := (List.getElem?_eq_some_iff.1 hj).1; have := K.len h2; omega
      have q := hat j hj3
      rw [hsp, add_plain, add_plain] at q
      rw [← hj]
      exact q
theorem cells_sm : Try.prog.cellsOf 45 = 6 := by kernel_rfl
theorem cells_pt : Try.prog.cellsOf 43 = 2 := by kernel_rfl
theorem cells_cx : Try.prog.cellsOf 31 = 2 := by kernel_rfl
theorem cells_str : Try.prog.cellsOf 9 = 1 := by kernel_rfl
theorem cells_sls : Try.prog.cellsOf 41 = 1 := by kernel_rfl
theorem cells_slp : Try.prog.cellsOf 29 = 1 := by kernel_rfl
theorem str_of (s : ByteArray) : s = Wn.str s.data.toList := by cases s; simp [Wn.str]
theorem open_sm1 {fuel : Nat} (ih : ∀ m, m < fuel → ∀ (cs : List Value) (x : DataW H × List MemPlace), DataW.trod enc Try.prog w base spare held m 41 cs = some x → ∃ v l, cs = [v] ∧ smK.P w (fun _ => True) v l) {cs : List Value} {x : DataW H × List MemPlace} (h : DataW.trod enc Try.prog w base spare held fuel 45 cs = some x) :
    ∃ y, smK.R w (fun _ => True) cs y := by
  obtain ⟨ys, n', hn', _, hlen, hyl, hf⟩ := DataW.trod_struct Try.underlying45 h
  have h0 : DataW.trod enc Try.prog w base spare held n' 3 ((cs.drop 0).take (Try.prog.cellsOf 3)) = ys[0]? := hf 0 _ rfl
  have h1 : DataW.trod enc Try.prog w base spare held n' 9 ((cs.drop 1).take (Try.prog.cellsOf 9)) = ys[1]? := hf 1 _ rfl
  have h2 : DataW.trod enc Try.prog w base spare held n' 9 ((cs.drop 2).take (Try.prog.cellsOf 9)) = ys[2]? := hf 2 _ rfl
  have h3 : DataW.trod enc Try.prog w base spare held n' 3 ((cs.drop 3).take (Try.prog.cellsOf 3)) = ys[3]? := hf 3 _ rfl
  have h4 : DataW.trod enc Try.prog w base spare held n' 3 ((cs.drop 4).take (Try.prog.cellsOf 3)) = ys[4]? := hf 4 _ rfl
  have h5 : DataW.trod enc Try.prog w base spare held n' 41 ((cs.drop 5).take (Try.prog.cellsOf 41)) = ys[5]? := hf 5 _ rfl
  rw [cells_int] at h0 h3 h4
  rw [cells_str] at h1 h2
  rw [cells_sls] at h5
  match cs, hlen.trans cells_sm with
  | [c0, c1, c2, c3, c4, c5], _ =>
    match ys, hyl with
    | [y0, y1, y2, y3, y4, y5], _ =>
      simp only [List.drop_zero, List.drop_succ_cons, List.take_succ_cons, List.take_zero, List.getElem?_cons_zero, List.getElem?_cons_succ] at h0 h1 h2 h3 h4 h5
      obtain ⟨k, e0, _, _⟩ := DataW.trod_int (k := .i64) Try.underlying3 h0
      obtain ⟨s, e1, _, _⟩ := DataW.trod_string Try.underlying9 h1
      obtain ⟨t, e2, _, _⟩ := DataW.trod_string Try.underlying9 h2
      obtain ⟨p, e3, _, _⟩ := DataW.trod_int (k := .i64) Try.underlying3 h3
      obtain ⟨q, e4, _, _⟩ := DataW.trod_int (k := .i64) Try.underlying3 h4
      obtain ⟨v, l, e5, hp⟩ := ih n' (by omega) _ _ h5
      simp only [List.cons.injEq, and_true] at e0 e1 e2 e3 e4 e5
      refine ⟨⟨k, s.data.toList, t.data.toList, p, q, Wn.Ss.ofL l⟩, v, ?_, SsP.k.2 (by rw [Wn.Ss.toL_ofL]; exact hp)⟩
      show _ = [Value.int .i64 k, .string (Wn.str s.data.toList), .string (Wn.str t.data.toList), .int .i64 p, .int .i64 q, v]
      rw [e0, e1, e2, e3, e4, e5, ← str_of, ← str_of]
theorem open_smsF : ∀ (fuel : Nat) (cs : List Value) (x : DataW H × List MemPlace), DataW.trod enc Try.prog w base spare held fuel 41 cs = some x → ∃ v l, cs = [v] ∧ smK.P w (fun _ => True) v l := by
  intro fuel
  induction fuel using Nat.strongRecOn with
  | ind fuel ih =>
    intro cs x h
    exact open_rk smK cells_sm h fun m hm cs x h => open_sm1 (fun k hk cs x h => ih k (by omega) cs x h) h
/-- six cells that read as a simple selector -/
theorem open_smC {m : Nat} {cs : List Value} {x : DataW H × List MemPlace} (h : DataW.trod enc Try.prog w base spare held m 45 cs = some x) : ∃ y, smK.R w (fun _ => True) cs y := open_sm1 (fun m _ cs x h => open_smsF m cs x h) h
theorem open_ptsF (fuel : Nat) (cs : List Value) (x : DataW H × List MemPlace) (h : DataW.trod enc Try.prog w base spare held fuel 29 cs = some x) : ∃ v l, cs = [v] ∧ ptK.P w (fun _ => True) v l := by
  refine open_rk ptK cells_pt h fun m hm cs x h => ?_
  obtain ⟨ys, n', hn', _, hlen, hyl, hf⟩ := DataW.trod_struct Try.underlying43 h
  have h0 : DataW.trod enc Try.prog w base spare held n' 3 ((cs.drop 0).take (Try.prog.cellsOf 3)) = ys[0]? := hf 0 _ rfl
  have h1 : DataW.trod enc Try.prog w base spare held n' 41 ((cs.drop 1).take (Try.prog.cellsOf 41)) = ys[1]? := hf 1 _ rfl
  rw [cells_int] at h0
  rw [cells_sls] at h1
  match cs, hlen.trans cells_pt with
  | [c0, c1], _ =>
    match ys, hyl with
    | [y0, y1], _ =>
      simp only [List.drop_zero, List.drop_succ_cons, List.take_succ_cons, List.take_zero, List.getElem?_cons_zero, List.getElem?_cons_succ] at h0 h1
      obtain ⟨k, e0, _, _⟩ := DataW.trod_int (k := .i64) Try.underlying3 h0
      obtain ⟨v, l, e1, hp⟩ := open_smsF _ _ _ h1
      simp only [List.cons.injEq, and_true] at e0 e1
      exact ⟨(k, l), v, by rw [e0, e1], hp⟩
theorem open_cxsF (fuel : Nat) (cs : List Value) (x : DataW H × List MemPlace) (h : DataW.trod enc Try.prog w base spare held fuel 22 cs = some x) : ∃ v l, cs = [v] ∧ cxK.P w (fun _ => True) v l := by
  refine open_rk cxK cells_cx h fun m hm cs x h => ?_
  obtain ⟨ys, n', hn', _, hlen, hyl, hf⟩ := DataW.trod_struct Try.underlying31 h
  have h0 : DataW.trod enc Try.prog w base spare held n' 29 ((cs.drop 0).take (Try.prog.cellsOf 29)) = ys[0]? := hf 0 _ rfl
  have h1 : DataW.trod enc Try.prog w base spare held n' 9 ((cs.drop 1).take (Try.prog.cellsOf 9)) = ys[1]? := hf 1 _ rfl
  rw [cells_slp] at h0
  rw [cells_str] at h1
  match cs, hlen.trans cells_cx with
  | [c0, c1], _ =>
    match ys, hyl with
    | [y0, y1], _ =>
      simp only [List.drop_zero, List.drop_succ_cons, List.take_succ_cons, List.take_zero, List.getElem?_cons_zero, List.getElem?_cons_succ] at h0 h1
      obtain ⟨v, l, e0, hp⟩ := open_ptsF _ _ _ h0
      obtain ⟨s, e1, _, _⟩ := DataW.trod_string Try.underlying9 h1
      simp only [List.cons.injEq, and_true] at e0 e1
      exact ⟨(l, s.data.toList), v, by rw [e0, e1, ← str_of], hp⟩
/-- a slice of selectors -/
theorem open_cxs {r : Reach} {b0 : Nat} {v : Value} {d : DataW H} {p : List MemPlace} (hv : Value.okWide Try.prog w r b0 22 v) (h : DataW.Trod enc Try.prog w base spare held 22 v d p) :
    ∃ l : List Wn.Cx, cxK.P w (fun _ => True) v l := by
  obtain ⟨a0, len0, cap0, rfl⟩ := okWide_slice Try.underlying22 hv
  obtain ⟨fuel, h⟩ := h
  obtain ⟨v', l, hcs, hl⟩ := open_cxsF fuel _ _ h
  simp [Value.cells] at hcs
  subst hcs
  exact ⟨l, hl⟩
end
end Go.Proofs.Ytbjhiimjillleaa
