/- Declarations in memory; what the least functions of both writings answer. The predicate of being one of some delimiters: what it answers, and its use on values. Regions that draw their order: one operation carried out; two independent chains of operations, in whatever order they come up. Does one of some values fit a predicate; is a value a delimiter; may a declaration have a value. -/
import Derived.Test.YtjlejiphpbaonaaGreatDoorLA
import Derived.Test.YtjlejiphpbaonaaGreatDoorHA
import Derived.Test.YtjlejiphpbaonaaGreatDoorGR
import Derived.Test.YtjlejiphpbaonaaGreatDoorHD
import Derived.Test.YtjlejiphpbaonaaGreatDoorGW
import Derived.Deep.RegionHeld3
import Derived.Test.YtjlejiphpbaonaaGreatDoorGQ
set_option linter.unusedVariables false
set_option linter.unusedSimpArgs false
set_option maxRecDepth 20000
namespace Go.Proofs.YtjlejiphpbaonaaGreatDoor
open Go.RowKit Go.Sort
/-- the three cells of a declaration whose slice is u -/
def dlCells (d : Wn.Dl) (u : Value) : List Value := [.string (Wn.str d.1), u, .bool d.2.2]
abbrev dlV (d : Wn.Dl) (u : Value) : Value := .agg #[.string (Wn.str d.1), u, .bool d.2.2]
/-- declarations -/
def dlK : RK Wn.Dl where
  e := 44
  t := 23
  sz := 3
  z := .agg #[.string ⟨#[]⟩, .slice none 0 0, .bool false]
  bytes := 48
  under := Tryz.underlying23
  info := by kernel_rfl
  zsz := rfl
  pos := by decide
  few := by decide
  R w ok cs d := ∃ u, cs = dlCells d u ∧ ValsP w ok u d.2.1
  len := by rintro w ok cs x ⟨u, rfl, _⟩; rfl
  one := by
    rintro w ok cs x ⟨u, rfl, h⟩ c hc
    obtain ⟨ao, cap, rfl, _⟩ := h.form
    simp [dlCells] at hc
    rcases hc with rfl | rfl | rfl <;> rfl
  same := by
    rintro w w' ok ok' cs x hs hok ⟨u, rfl, h⟩
    exact ⟨u, rfl, h.same hs hok⟩
theorem str_extD (s : List UInt8) (p q : Nat) : (Wn.str s).extract p q = Wn.str ((s.drop p).take (q - p)) := by
  rw [Wn.extract_sfx]; unfold Wn.sfx Wn.str; simp
theorem custom_beq (s : List UInt8) : (s.take 2 == [45, 45]) = Wn.custom s := by
  unfold Wn.custom; rw [Bool.eq_iff_iff]; simp
theorem custom_short {s : List UInt8} (h : s.length < 2) : Wn.custom s = false := by
  match s, h with
  | [], _ => rfl
  | [a], _ => simp [Wn.custom]
  | a :: b :: l, h => simp at h; omega
set_option maxHeartbeats 400000 in
theorem HasPrefix_d (s : List UInt8) (w : World) (hx : s.length ≤ maxLen) : Calls Tryz.prog 72 #[.string (Wn.str s), .string ⟨#[45, 45]⟩] w fun e w' => e = .returned (.bool (Wn.custom s)) ∧ w = w' := by
  unfold maxLen at hx
  have hsz := Wn.str_size s
  have HX := Lib.hid (str_extD s 0 2)
  have HC := Lib.hid (custom_beq s)
  have HL := Lib.hid (fun h : s.length < 2 => custom_short h)
  generalize hxs : Wn.str s = x at *
  have hx' : x.size ≤ 2 ^ 63 - 1 := by omega
  by_cases h : 2 ≤ x.size
  · clear hsz
    go_enter Tryz.func72, Tryz.ntmps72
    go_wp2
    go_ret
    exact ⟨ret_bool (by rw [HX.out, str_list, ← HC.out]; rfl), rfl⟩
  · have HL2 := Lib.hid (HL.out (by omega))
    clear hsz HL
    go_enter Tryz.func72, Tryz.ntmps72
    go_wp2
    go_ret
    exact ⟨ret_bool HL2.out.symm, rfl⟩
set_option maxHeartbeats 400000 in
theorem HasPrefix_s (s : List UInt8) (w : World) (hx : s.length ≤ maxLen) : Calls Tryz.prog 44 #[.string (Wn.str s), .string ⟨#[45, 45]⟩] w fun e w' => e = .returned (.bool (Wn.custom s)) ∧ w = w' := by
  have Q := Lib.hid (HasPrefix_d s w hx)
  generalize Wn.str s = x at *
  go_enter Tryz.func44, Tryz.ntmps44
  go_wp2_with fail
  refine Q.out.mono ?_
  rintro e w1 ⟨rfl, rfl⟩
  go_wp2_with fail
  go_ret
  exact ⟨rfl, rfl⟩
set_option maxHeartbeats 400000 in
theorem custom_v (s : List UInt8) (w : World) (hx : s.length ≤ maxLen) : Calls Tryz.prog 19 #[.string (Wn.str s)] w fun e w' => e = .returned (.bool (Wn.custom s)) ∧ Below w.heap.size w w' := by
  have Q := Lib.hid (HasPrefix_s s w hx)
  generalize Wn.str s = x at *
  go_enter Tryz.func19, Tryz.ntmps19
  go_wp2_with fail
  refine Q.out.mono ?_
  rintro e w1 ⟨rfl, rfl⟩
  go_wp2_with fail
  go_ret
  exact ⟨rfl, Below.refl _ _⟩
set_option maxHeartbeats 400000 in
theorem proper_v (s : List UInt8) (w : World) (hx : s.length ≤ 1048576) : Calls Tryz.prog 61 #[.string (Wn.str s)] w fun e w' => e = .returned (.string (Wn.str (Wn.proper s))) ∧ Below w.heap.size w w' := by
  have Q := Lib.hid (custom_v s w (by unfold maxLen; omega))
  have QL := Lib.hid (fun w => lower_v s w hx)
  have HP : Hid (Wn.proper s = if Wn.custom s then s else Wn.low s) := Lib.hid rfl
  generalize Wn.proper s = p at *
  cases hc : Wn.custom s
  · have e : p = Wn.low s := by rw [HP.out, hc, if_neg (by decide)]
    subst e
    rw [hc] at Q
    clear HP hc
    generalize Wn.str (Wn.low s) = y at *
    generalize Wn.str s = x at *
    go_enter Tryz.func61, Tryz.ntmps61
    go_wp2_with fail
    refine Q.out.mono ?_
    rintro e w1 ⟨rfl, b1⟩
    have HB := Lib.hid b1; clear b1
    go_wp2_with fail
    refine (QL.out _).mono ?_
    rintro e w2 ⟨rfl, b2⟩
    have HB2 := Lib.hid (HB.out.trans (b2.mono HB.out.size)); clear b2
    go_wp2_with fail
    go_ret
    exact ⟨rfl, HB2.out⟩
  · have e : p = s := by rw [HP.out, hc, if_pos rfl]
    subst e
    rw [hc] at Q
    clear HP hc QL
    generalize Wn.str p = x at *
    go_enter Tryz.func61, Tryz.ntmps61
    go_wp2_with fail
    refine Q.out.mono ?_
    rintro e w1 ⟨rfl, b1⟩
    have HB := Lib.hid b1; clear b1
    go_wp2_with fail
    go_ret
    exact ⟨rfl, HB.out⟩
set_option maxHeartbeats 400000 in
theorem isNameD_v (k : Int) (t : Wn.Tok) (u : Value) (w : World) (hu : ∃ ao n c, u = .slice ao n c) :
    Calls Tryz.prog 57 #[.agg #[.int .i64 k, .int .i64 t.1, .string (Wn.str t.2.1), .int .i64 t.2.2, u]] w fun e w' => e = .returned (.bool (Wn.idv k t)) ∧ Below w.heap.size w w' := by
  obtain ⟨uo, un, uc, rfl⟩ := hu
  have hc : Wn.idv k t = ((k == 1) && (t.1 == 1)) := by unfold Wn.idv; rw [Bool.eq_iff_iff]; simp
  generalize Wn.idv k t = c at *
  generalize Wn.str t.2.1 = x at *
  generalize t.1 = tk at *
  generalize t.2.2 = tn at *
  have HC := Lib.hid hc; clear hc
  go_enter Tryz.func57, Tryz.ntmps57
  go_wp2
  all_goals
    go_ret
    refine ⟨ret_bool ?_, (Below.refl _ _).alloc (Nat.le_refl _) _⟩
    rw [HC.out]
    simp_all
set_option maxHeartbeats 400000 in
theorem rNamed_v (k : Int) (t : Wn.Tok) (u : Value) (w : World) (hu : ∃ ao n c, u = .slice ao n c) :
    Calls Tryz.prog 63 #[.agg #[.int .i64 k, .int .i64 t.1, .string (Wn.str t.2.1), .int .i64 t.2.2, u]] w fun e w' => e = .returned (.bool (Wn.idv k t)) ∧ Below w.heap.size w w' := by
  obtain ⟨uo, un, uc, rfl⟩ := hu
  have hc : Wn.idv k t = ((k == 1) && (t.1 == 1)) := by unfold Wn.idv; rw [Bool.eq_iff_iff]; simp
  generalize Wn.idv k t = c at *
  generalize Wn.str t.2.1 = x at *
  generalize t.1 = tk at *
  generalize t.2.2 = tn at *
  have HC := Lib.hid hc; clear hc
  go_enter Tryz.func63, Tryz.ntmps63
  go_wp2
  all_goals
    go_ret
    refine ⟨ret_bool ?_, (Below.refl _ _).alloc (Nat.le_refl _) _⟩
    rw [HC.out]
    simp_all
set_option maxHeartbeats 400000 in
theorem nameD_v (s : ByteArray) (w : World) :
    Calls Tryz.prog 65 #[.string s] w fun e w' => e = .returned (.agg #[.int .i64 1, .int .i64 1, .string s, .int .i64 0, .slice none 0 0]) ∧ Below w.heap.size w w' := by
  have HB : Hid (Below w.heap.size w (w.alloc (.cells #[.int .i64 1, .int .i64 1, .string s, .int .i64 0, .slice none 0 0] 49))) := Lib.hid ((Below.refl _ _).alloc (Nat.le_refl _) _)
  go_enter Tryz.func65, Tryz.ntmps65
  go_wp2_with fail
  refine bodyPost_ret (v := .agg #[.int .i64 1, .int .i64 1, .string s, .int .i64 0, .slice none 0 0]) (by simp [results, Tryz.results65, go_sem]) rfl ⟨rfl, HB.out⟩
set_option maxHeartbeats 400000 in
theorem delim_v (s : ByteArray) (w : World) :
    Calls Tryz.prog 66 #[.string s] w fun e w' => e = .returned (.agg #[.int .i64 1, .int .i64 7, .string s, .int .i64 0, .slice none 0 0]) ∧ Below w.heap.size w w' := by
  have HB : Hid (Below w.heap.size w (w.alloc (.cells #[.int .i64 1, .int .i64 7, .string s, .int .i64 0, .slice none 0 0] 49))) := Lib.hid ((Below.refl _ _).alloc (Nat.le_refl _) _)
  go_enter Tryz.func66, Tryz.ntmps66
  go_wp2_with fail
  refine bodyPost_ret (v := .agg #[.int .i64 1, .int .i64 7, .string s, .int .i64 0, .slice none 0 0]) (by simp [results, Tryz.results66, go_sem]) rfl ⟨rfl, HB.out⟩
set_option maxHeartbeats 400000 in
theorem rTok_v (k : Int) (s : ByteArray) (w : World) :
    Calls Tryz.prog 36 #[.int .i64 k, .string s] w fun e w' => e = .returned (.agg #[.int .i64 1, .int .i64 k, .string s, .int .i64 0, .slice none 0 0]) ∧ Below w.heap.size w w' := by
  have HB : Hid (Below w.heap.size w (w.alloc (.cells #[.int .i64 1, .int .i64 k, .string s, .int .i64 0, .slice none 0 0] 49))) := Lib.hid ((Below.refl _ _).alloc (Nat.le_refl _) _)
  go_enter Tryz.func36, Tryz.ntmps36
  go_wp2_with fail
  refine bodyPost_ret (v := .agg #[.int .i64 1, .int .i64 k, .string s, .int .i64 0, .slice none 0 0]) (by simp [results, Tryz.results36, go_sem]) rfl ⟨rfl, HB.out⟩
end Go.Proofs.YtjlejiphpbaonaaGreatDoor
set_option linter.unusedVariables false
set_option linter.unusedSimpArgs false
set_option maxRecDepth 20000
namespace Wn
def oneV (ss : List (List UInt8)) (k : Int) (t : Tok) : Bool := decide (k = 1) && (decide (t.1 = 7) && (decide (t.2.2 = 0) && decide (t.2.1 ∈ ss)))
theorem oneV_one (s : List UInt8) (k : Int) (t : Tok) : oneV [s] k t = signV s k t := by
  obtain ⟨a, b, c⟩ := t
  unfold oneV signV dlm
  rw [Bool.eq_iff_iff]
  simp
  intro _ _
  exact and_comm
theorem oneV_end (k : Int) (t : Tok) : oneV [[33], [59]] k t = endV k t := by
  obtain ⟨a, b, c⟩ := t
  unfold endV oneV signV dlm
  rw [Bool.eq_iff_iff]
  simp
  constructor
  · rintro ⟨h0, h1, h2, h3 | h3⟩
    · exact .inl ⟨h0, h1, h3, h2⟩
    · exact .inr ⟨h0, h1, h3, h2⟩
  · rintro (⟨h0, h1, h3, h2⟩ | ⟨h0, h1, h3, h2⟩)
    · exact ⟨h0, h1, h2, .inl h3⟩
    · exact ⟨h0, h1, h2, .inr h3⟩
end Wn
namespace Go.Proofs.YtjlejiphpbaonaaGreatDoor
open Go.RowKit Go.Sort
/-- a function of a closure is entered -/
def EntersD (K : Nat) : Prop := ∀ (args : Array Value) (w : World), (callFunc K args).run Tryz.prog w = .ok (.enter K args) w
theorem enters_ofD {K : Nat} {fn : Func} {c : Code} (hf : Tryz.prog.funcs[K]? = some fn) (hname : (fn.name == "runtime.NumGoroutine") = false) (hb : fn.body = some c) : EntersD K := by
  intro args w
  have h1 : ¬ fn.name = "runtime.NumGoroutine" := by simpa using hname
  simp [callFunc, hf, h1, hb]
/-- strings that lie in cells, one behind the other -/
def Sl (w : World) (b o : Nat) (ss : List (List UInt8)) : Prop := ∀ i s, ss[i]? = some s → w.cell? ⟨b, o + i, none⟩ = some (.string (Wn.str s))
theorem Sl.below {w w' : World} {b o : Nat} {ss : List (List UInt8)} (h : Sl w b o ss) (hb : Below w.heap.size w w') : Sl w' b o ss := fun i s hi => by
  have := h i s hi
  exact (hb.cell (p := ⟨b, o + i, none⟩) (World.block_lt_of_cell? _ _ this)).trans this
set_option maxRecDepth 100000 in
set_option maxHeartbeats 1000000 in
theorem IndexStr (ss : List (List UInt8)) (s : List UInt8) (b o cap : Nat) (w : World) (hb : Sl w b o ss) (hn : ss.length ≤ 1000) :
    Calls Tryz.prog 117 #[.slice (some ⟨b, o, none⟩) ss.length cap, .string (Wn.str s)] w fun e w' => ∃ n : Int, e = .returned (.int .i64 n) ∧ decide (0 ≤ n) = decide (s ∈ ss) ∧ Below w.heap.size w w' := by
  have HB := Lib.hid hb; clear hb
  have HR0 : Hid (decide (s ∈ ss) = decide (s ∈ ss.drop 0)) := Lib.hid rfl
  have HS := Lib.hid (str_list s)
  generalize decide (s ∈ ss) = R at *
  generalize hp : Wn.str s = p at *
  clear hp
  go_enter Tryz.func117, Tryz.ntmps117
  go_wp2_with fail
  go_loopw [8] (fun v8 wr => ∃ i : Nat, i ≤ ss.length ∧ v8 = .int .i64 (i : Int) ∧ Hid (R = decide (s ∈ ss.drop i)) ∧ wr = w) (fun v8 _ => ss.length - (intOf v8).toNat)
  case atStart => exact ⟨0, Nat.zero_le _, rfl, HR0, rfl⟩
  case round =>
    clear HR0
    obtain ⟨i, hi, rfl, HR, rfl⟩ := hrel
    by_cases hil : i < ss.length
    · have hiv : (i : Int) < (ss.length : Int) := by omega
      have hx : ss[i]? = some ss[i] := List.getElem?_eq_getElem hil
      have hdx : ss.drop i = ss[i] :: ss.drop (i + 1) := List.drop_eq_getElem_cons hil
      generalize ss[i] = x at *
      have k0 := HB.out i x hx
      have HX := Lib.hid (str_list x)
      have HR2 : Hid (R = (decide (s = x) || decide (s ∈ ss.drop (i + 1)))) := Lib.hid (by rw [HR.out, hdx, Bool.eq_iff_iff]; simp)
      clear hx hdx HR
      generalize Wn.str x = y at *
      cases hd : (p.toList == y.toList)
      · have HE : Hid (R = decide (s ∈ ss.drop (i + 1))) := Lib.hid (by
          rw [HS.out, HX.out] at hd
          rw [HR2.out, decide_eq_false (by simpa using hd)]; rfl)
        go_wp2_with fail
        exact ⟨⟨i + 1, by omega, by go_num, HE, by first | rfl | trivial⟩, by simp [intOf]; omega⟩
      · have HE : Hid (R = true) := Lib.hid (by
          rw [HS.out, HX.out] at hd
          rw [HR2.out, decide_eq_true (by simpa using hd)]; rfl)
        go_wp2_with fail
        go_ret
        exact ⟨_, rfl, by rw [HE.out]; simp, Below.refl _ _⟩
    · have HE : Hid (R = false) := Lib.hid (by rw [HR.out, List.drop_of_length_le (by omega)]; simp)
      have hiv : ¬ (i : Int) < (ss.length : Int) := by omega
      go_wp2_with fail
      go_ret
      exact ⟨_, rfl, by rw [HE.out]; simp, Below.refl _ _⟩
set_option maxHeartbeats 400000 in
theorem ContainsStr (ss : List (List UInt8)) (s : List UInt8) (b o cap : Nat) (w : World) (hb : Sl w b o ss) (hn : ss.length ≤ 1000) :
    Calls Tryz.prog 104 #[.slice (some ⟨b, o, none⟩) ss.length cap, .string (Wn.str s)] w fun e w' => e = .returned (.bool (decide (s ∈ ss))) ∧ Below w.heap.size w w' := by
  have Q := Lib.hid (IndexStr ss s b o cap w hb hn)
  clear hb
  generalize decide (s ∈ ss) = R at *
  generalize Wn.str s = p at *
  go_enter Tryz.func104, Tryz.ntmps104
  go_wp2_with fail
  refine Q.out.mono ?_
  rintro e w1 ⟨n, rfl, hn, b1⟩
  have HN := Lib.hid hn
  have HB := Lib.hid b1
  clear hn b1 Q
  go_wp2_with fail
  go_ret
  exact ⟨ret_bool (by rw [← HN.out]; try rfl), HB.out⟩
set_option maxRecDepth 100000 in
set_option maxHeartbeats 1000000 in
theorem oneOf1_v (ss : List (List UInt8)) (k : Int) (t : Wn.Tok) (u : Value) (g b o cap : Nat) (w : World) (hu : ∃ ao n c, u = .slice ao n c) (hg : w.heap[g]? = some (.cells #[.slice (some ⟨b, o, none⟩) ss.length cap] 103)) (hb : Sl w b o ss) (hn : ss.length ≤ 1000) :
    Calls Tryz.prog 103 #[.agg #[.int .i64 k, .int .i64 t.1, .string (Wn.str t.2.1), .int .i64 t.2.2, u], .pointer (some ⟨g, 0, none⟩)] w fun e w' => e = .returned (.bool (Wn.oneV ss k t)) ∧ Below w.heap.size w w' := by
  obtain ⟨uo, un, uc, rfl⟩ := hu
  obtain ⟨a, s, c⟩ := t
  dsimp only
  have hB0 : Below w.heap.size w (w.alloc (.cells #[.int .i64 k, .int .i64 a, .string (Wn.str s), .int .i64 c, .slice uo un uc] 49)) := (Below.refl _ _).alloc (Nat.le_refl _) _
  have QC := Lib.hid (ContainsStr ss s b o cap _ (hb.below hB0) hn)
  have HB := Lib.hid hB0
  have k0 := cell_of_block (o := 0) hg
  have hlt := lt_of_block hg
  have hne : ¬ g = w.heap.size := by omega
  simp only [List.getElem?_toArray, List.getElem?_cons_zero] at k0
  have hR : Wn.oneV ss k (a, s, c) = ((k == 1) && ((a == 7) && ((c == 0) && decide (s ∈ ss)))) := by
    unfold Wn.oneV; rw [Bool.eq_iff_iff]; simp
  rw [hR]
  clear hg hb hB0 hR
  generalize decide (s ∈ ss) = R at *
  generalize Wn.str s = p at *
  cases h0 : (k == 1)
  · go_enter Tryz.func103, Tryz.ntmps103
    go_wp2_with fail
    go_ret
    exact ⟨ret_bool (by simp), HB.out⟩
  · cases h1 : (a == 7)
    · go_enter Tryz.func103, Tryz.ntmps103
      go_wp2_with fail
      go_ret
      exact ⟨ret_bool (by simp), HB.out⟩
    · cases h2 : (c == 0)
      · go_enter Tryz.func103, Tryz.ntmps103
        go_wp2_with fail
        go_ret
        exact ⟨ret_bool (by simp), HB.out⟩
      · go_enter Tryz.func103, Tryz.ntmps103
        go_wp2_with fail
        refine QC.out.mono ?_
        rintro e w1 ⟨rfl, b1⟩
        have HB1 := Lib.hid (HB.out.trans (b1.mono HB.out.size)); clear b1
        go_wp2_with fail
        go_ret
        exact ⟨ret_bool (by simp), HB1.out⟩
set_option maxHeartbeats 400000 in
theorem oneOf_v (ao : Option Addr) (n cap : Nat) (w : World) :
    Calls Tryz.prog 82 #[.slice ao n cap] w fun e w' => e = .returned (.func (.func 103) #[] #[.pointer (some ⟨w.heap.size, 0, none⟩)]) ∧ w' = w.alloc (.cells #[.slice ao n cap] 103) := by
  go_enter Tryz.func82, Tryz.ntmps82
  go_wp2_with fail
  go_ret
  exact ⟨rfl, rfl⟩
end Go.Proofs.YtjlejiphpbaonaaGreatDoor
set_option linter.unusedVariables false
set_option linter.unusedSimpArgs false
set_option maxRecDepth 20000
namespace Go.Proofs.YtjlejiphpbaonaaGreatDoor
open Go.RowKit Go.Sort
theorem own_shapeD {w : World} {base : Nat} {e : TypeId} {size : Nat} {v : Value} {n : Nat} {xs : List Value} (h : w.ownsRow base e size v n xs) : ∃ ao cap, v = .slice ao n cap ∧ n ≤ cap ∧ cap ≤ maxLen := by
  rcases h.2 with ⟨hv, hn⟩ | ⟨g, cap, cur, hv, _, _, h1, h2, _⟩
  · exact ⟨none, 0, by rw [hv, hn], by omega, by unfold maxLen; omega⟩
  · exact ⟨_, cap, hv, h1, h2⟩
/-- a slot that is set or not yet -/
def pIf (b : Bool) (d : Nat) (v : Value) (a : Act) : Act := if b then a.put (some d) v else a
theorem pIf_put {b : Bool} {d d' : Nat} {v v' : Value} {a : Act} (h : d ≠ d') : (pIf b d v a).put (some d') v' = pIf b d v (a.put (some d') v') := by
  cases b
  · rfl
  · exact Act.put_comm (x := some d) (y := some d') a v v' (fun e he => by simp only [Option.some.injEq] at he; subst he; simpa using (Ne.symm h))
theorem pIf_eval {b : Bool} {d t : Nat} {v : Value} {a : Act} (h : t ≠ d) : (pIf b d v a).eval (.tmp t) = a.eval (.tmp t) := by
  cases b
  · rfl
  · exact Act.eval_put (dst := some d) (fun e he => by simp only [Option.some.injEq] at he; subst he; simpa using h)
/-- one operation of a region is carried out -/
def StepW (P : Program) (ops : Array Oper) (Q : Exit → Act → World → Prop) (i : Nat) (a : Act) (w : World) (K : Act → World → Prop) : Prop :=
  ∃ o, ops[i]? = some o ∧ if Region.wanted o (yielded ops a.tmps) = true then Oper.wp P o a w K Q else K (a.put o.dst undef) w
theorem StepW.op {P : Program} {ops : Array Oper} {Q : Exit → Act → World → Prop} {i : Nat} {a : Act} {w : World} {K : Act → World → Prop} (h : ∀ K', (∀ a w, K a w → K' a w) → StepW P ops Q i a w K') : wpOp P ops Q i K a w := by
  obtain ⟨o, ho, _⟩ := h K (fun _ _ h => h)
  refine wpOp_step ho fun K' hK => ?_
  obtain ⟨o', ho', h'⟩ := h K' hK
  rw [ho] at ho'
  cases ho'
  exact h'
section
variable {P : Program} {ops : Array Oper} {Q : Exit → Act → World → Prop} {S : World → Prop} {n0 : Nat}
/-- R p q: so many of the first chain have come up, so many of the second -/
theorem chains (R : Nat → Nat → Act → World → Prop) (li : Nat → Nat → Array Bool) (M N : Nat) (f g : Nat → Nat)
    (hf : ∀ p q, p < M → q ≤ N → (li p q).setIfInBounds (f p) true = li (p + 1) q) (hg : ∀ p q, p ≤ M → q < N → (li p q).setIfInBounds (g q) true = li p (q + 1))
    (hR : ∀ p q, p ≤ M → q ≤ N → p < M ∨ q < N → Region.ready .any ops (li p q) ≠ [] ∧ ∀ i ∈ Region.ready .any ops (li p q), (p < M ∧ i = f p) ∨ (q < N ∧ i = g q))
    (hF : ∀ p q a w, p < M → q ≤ N → R p q a w → ∀ K, (∀ a' w', R (p + 1) q a' w' → K a' w') → StepW P ops Q (f p) a w K)
    (hG : ∀ p q a w, p ≤ M → q < N → R p q a w → ∀ K, (∀ a' w', R p (q + 1) a' w' → K a' w') → StepW P ops Q (g q) a w K)
    (hS : ∀ p q a w, R p q a w → S w)
    (hE : ∀ a w, R M N a w → wpAnyH P .any ops Q S n0 (li M N) a w) :
    ∀ (m p q : Nat) (a : Act) (w : World), p ≤ M → q ≤ N → m = (M - p) + (N - q) → R p q a w → wpAnyH P .any ops Q S (n0 + m) (li p q) a w := by
  intro m
  induction m with
  | zero =>
    intro p q a w hp hq hm hr
    obtain rfl : p = M := by omega
    obtain rfl : q = N := by omega
    exact hE a w hr
  | succ m ih =>
    intro p q a w hp hq hm hr
    obtain ⟨h1, h2⟩ := hR p q hp hq (by omega)
    refine wpAnyH_all rfl h1 fun i hi => ?_
    rcases h2 i hi with ⟨hlt, rfl⟩ | ⟨hlt, rfl⟩
    · refine StepW.op fun K' hK => hF p q a w hlt hq hr K' fun a' w' hr' => hK _ _ ⟨hS _ _ _ _ hr', ?_⟩
      rw [hf p q hlt hq]
      exact ih (p + 1) q a' w' (by omega) hq (by omega) hr'
    · refine StepW.op fun K' hK => hG p q a w hp hlt hr K' fun a' w' hr' => hK _ _ ⟨hS _ _ _ _ hr', ?_⟩
      rw [hg p q hp hlt]
      exact ih p (q + 1) a' w' hp (by omega) (by omega) hr'
end
end Go.Proofs.YtjlejiphpbaonaaGreatDoor
set_option linter.unusedVariables false
set_option linter.unusedSimpArgs false
set_option maxRecDepth 20000
namespace Go.Proofs.YtjlejiphpbaonaaGreatDoor
open Go.RowKit Go.Sort
set_option maxRecDepth 100000 in
set_option maxHeartbeats 1000000 in
theorem IndexVal (F : Nat) (hE : EntersD F) (p : Int → Wn.Tok → Bool) (c : Value) (f : Wn.Fs) (v : Value) (w : World) (hv : Vals w v f)
    (hc : ∀ (k : Int) (t : Wn.Tok) (u : Value) W, Below w.heap.size w W → (∃ ao n c, u = Value.slice ao n c) → Calls Tryz.prog F #[.agg #[.int .i64 k, .int .i64 t.1, .string (Wn.str t.2.1), .int .i64 t.2.2, u], c] W fun e w' => e = .returned (.bool (p k t)) ∧ Below W.heap.size W w') :
    Calls Tryz.prog 105 #[v, .func (.func F) #[] #[c]] w fun e w' => ∃ n : Int, e = .returned (.int .i64 n) ∧ decide (0 ≤ n) = Wn.anyF p f ∧ Below w.heap.size w w' := by
  have HV := Lib.hid hv
  obtain ⟨ao, cap, rfl, c1, c2⟩ := hv.form
  unfold maxLen at c2
  have HC := Lib.hid hc
  clear hv hc
  have HR0 : Hid (Wn.anyF p f = Wn.anyF p (f.drop 0)) := Lib.hid (by rw [Wn.Fs.drop_zero])
  generalize Wn.anyF p f = R at *
  go_enter Tryz.func105, Tryz.ntmps105
  go_wp2_with fail
  go_loopw [8] (fun v8 wr => ∃ i : Nat, i ≤ f.len ∧ v8 = .int .i64 (i : Int) ∧ Hid (R = Wn.anyF p (f.drop i)) ∧ Hid (Below w.heap.size w wr)) (fun v8 _ => f.len - (intOf v8).toNat)
  case atStart => exact ⟨0, Nat.zero_le _, rfl, HR0, Lib.hid (Below.refl _ _)⟩
  case round =>
    clear HR0
    obtain ⟨i, hi, rfl, HR, HB⟩ := hrel
    by_cases hil : i < f.len
    · have hiv : (i : Int) < (f.len : Int) := by omega
      obtain ⟨k, t, x, hd⟩ := Wn.Fs.drop_cons hil
      obtain ⟨b, o, rfl, j0, ⟨j1, j2, j3⟩, u, j4, hu⟩ := (HV.out.below HB.out).at hd
      rw [show o + i * 5 + 1 + 1 = o + i * 5 + 2 by omega] at j2
      rw [show o + i * 5 + 1 + 2 = o + i * 5 + 3 by omega] at j3
      obtain ⟨uo, uc, rfl, _, _⟩ := hu.form
      have HR2 : Hid (R = (p k t || Wn.anyF p (f.drop (i + 1)))) := Lib.hid (by rw [HR.out, hd]; rfl)
      have QC := Lib.hid (HC.out k t (.slice uo x.len uc) wr HB.out ⟨_, _, _, rfl⟩)
      clear hd hu HR
      generalize Wn.str t.2.1 = y at *
      generalize hpk : p k t = q at *
      clear hpk
      go_wp2_with fail
      rw [hE, Oper.upon_enter]
      refine QC.out.mono ?_
      rintro e w5 ⟨rfl, b5⟩
      have HB5 : Hid (Below w.heap.size w w5) := Lib.hid (HB.out.trans (b5.mono HB.out.size))
      clear b5 QC HB
      cases q
      · have HE : Hid (R = Wn.anyF p (f.drop (i + 1))) := Lib.hid (by rw [HR2.out]; rfl)
        go_wp2_with fail
        exact ⟨⟨i + 1, by omega, by go_num, HE, HB5⟩, by simp [intOf]; omega⟩
      · have HE : Hid (R = true) := Lib.hid (by rw [HR2.out]; rfl)
        go_wp2_with fail
        go_ret
        exact ⟨_, rfl, by rw [HE.out]; simp, HB5.out⟩
    · have HE : Hid (R = false) := Lib.hid (by rw [HR.out, Wn.Fs.drop_len (by omega)]; rfl)
      have hiv : ¬ (i : Int) < (f.len : Int) := by omega
      go_wp2_with fail
      go_ret
      exact ⟨_, rfl, by rw [HE.out]; simp, HB.out⟩
set_option maxHeartbeats 400000 in
theorem ContainsVal (F : Nat) (hE : EntersD F) (p : Int → Wn.Tok → Bool) (c : Value) (f : Wn.Fs) (v : Value) (w : World) (hv : Vals w v f)
    (hc : ∀ (k : Int) (t : Wn.Tok) (u : Value) W, Below w.heap.size w W → (∃ ao n c, u = Value.slice ao n c) → Calls Tryz.prog F #[.agg #[.int .i64 k, .int .i64 t.1, .string (Wn.str t.2.1), .int .i64 t.2.2, u], c] W fun e w' => e = .returned (.bool (p k t)) ∧ Below W.heap.size W w') :
    Calls Tryz.prog 84 #[v, .func (.func F) #[] #[c]] w fun e w' => e = .returned (.bool (Wn.anyF p f)) ∧ Below w.heap.size w w' := by
  have Q := Lib.hid (IndexVal F hE p c f v w hv hc)
  obtain ⟨ao, cap, rfl, _, _⟩ := hv.form
  clear hv hc
  generalize Wn.anyF p f = R at *
  go_enter Tryz.func84, Tryz.ntmps84
  go_wp2_with fail
  refine Q.out.mono ?_
  rintro e w1 ⟨n, rfl, hn, b1⟩
  have HN := Lib.hid hn
  have HB := Lib.hid b1
  clear hn b1 Q
  go_wp2_with fail
  go_ret
  exact ⟨ret_bool (by rw [← HN.out]; try rfl), HB.out⟩
theorem enters_oneOf : EntersD 103 := enters_ofD Tryz.func103 (by kernel_rfl) rfl
set_option maxRecDepth 100000 in
set_option maxHeartbeats 1000000 in
theorem isDelimD_v (k : Int) (t : Wn.Tok) (u : Value) (s : List UInt8) (w : World) (hu : ∃ ao n c, u = .slice ao n c) :
    Calls Tryz.prog 58 #[.agg #[.int .i64 k, .int .i64 t.1, .string (Wn.str t.2.1), .int .i64 t.2.2, u], .string (Wn.str s)] w fun e w' => e = .returned (.bool (Wn.signV s k t)) ∧ Below w.heap.size w w' := by
  obtain ⟨uo, un, uc, rfl⟩ := hu
  rw [← Wn.oneV_one]
  have hB0 : Below w.heap.size w (w.alloc (.cells #[.int .i64 k, .int .i64 t.1, .string (Wn.str t.2.1), .int .i64 t.2.2, .slice uo un uc] 49)) := (Below.refl _ _).alloc (Nat.le_refl _) _
  have hN0 := heap_alloc_new w (.cells #[.int .i64 k, .int .i64 t.1, .string (Wn.str t.2.1), .int .i64 t.2.2, .slice uo un uc] 49)
  have Q1 : Hid (∀ (g b : Nat) (W : World), W.heap[g]? = some (.cells #[.slice (some ⟨b, 0, none⟩) 1 1] 103) → W.heap[b]? = some (.cells #[.string (Wn.str s)] 9) → Calls Tryz.prog 103 #[.agg #[.int .i64 k, .int .i64 t.1, .string (Wn.str t.2.1), .int .i64 t.2.2, .slice uo un uc], .pointer (some ⟨g, 0, none⟩)] W fun e w' => e = .returned (.bool (Wn.oneV [s] k t)) ∧ Below W.heap.size W w') := Lib.hid (fun g b W hg hb => oneOf1_v [s] k t (.slice uo un uc) g b 0 1 W ⟨_, _, _, rfl⟩ hg (fun i x hi => by
    match i, hi with
    | 0, hi => cases hi; exact cell_of_block (o := 0) hb) (by simp))
  generalize Wn.oneV [s] k t = R at *
  generalize Wn.str t.2.1 = y at *
  generalize Wn.str s = z at *
  go_enter Tryz.func58, Tryz.ntmps58
  go_wp2_with fail
  generalize w.alloc (.cells #[.int .i64 k, .int .i64 t.1, .string y, .int .i64 t.2.2, .slice uo un uc] 49) = W0 at *
  have HB0 := Lib.hid hB0
  have HJ : Hid (∀ W, Below W0.heap.size W0 W → W.cell? ⟨w.heap.size, 0, none⟩ = some (.int .i64 k) ∧ W.cell? ⟨w.heap.size, 1, none⟩ = some (.int .i64 t.1) ∧ W.cell? ⟨w.heap.size, 2, none⟩ = some (.string y) ∧ W.cell? ⟨w.heap.size, 3, none⟩ = some (.int .i64 t.2.2) ∧ W.cell? ⟨w.heap.size, 4, none⟩ = some (.slice uo un uc) ∧ True ∧ True ∧ True) := Lib.hid (fun W h => by
    have h1 := block_lat h hN0
    exact ⟨cell_of_block (o := 0) h1, cell_of_block (o := 1) h1, cell_of_block (o := 2) h1, cell_of_block (o := 3) h1, cell_of_block (o := 4) h1, trivial, trivial, trivial⟩)
  clear hB0 hN0
  refine wp_region_held_drew (S := fun W => Below W0.heap.size W0 W) (by kernel_rfl) (Below.refl _ _).drew ?_
  intro hS
  (refine wpAnyH_take (i := 0) (v := ?_) rfl (by kernel_rfl) (by kernel_rfl) (by kernel_rfl) (fun _ _ _ h => h) (Or.inl ⟨by kernel_rfl, ?hy⟩) (by assumption) ?_; (case hy => (intro W hSw; obtain ⟨x0, x1, x2, x3, x4, x5, x6, x7⟩ := HJ.out W hSw; go_simp; (try with_reducible rfl))); simp only [Act.put])
  (refine wpAnyH_take (i := 3) (v := ?_) rfl (by kernel_rfl) (by kernel_rfl) (by kernel_rfl) (fun _ _ _ h => h) (Or.inl ⟨by kernel_rfl, ?hy⟩) (by assumption) ?_; (case hy => (intro W hSw; obtain ⟨x0, x1, x2, x3, x4, x5, x6, x7⟩ := HJ.out W hSw; go_simp; (try with_reducible rfl))); simp only [Act.put])
  try simp only [Act.put]
  generalize W0.drew = Wd at *
  have x1 := heap_alloc_new Wd (.cells #[.string z] 9)
  have b1 : Below Wd.heap.size Wd (Wd.alloc (.cells #[.string z] 9)) := (Below.refl _ _).alloc (Nat.le_refl _) _
  have hS1 := hS.trans (b1.mono hS.size)
  refine wpAnyH_all (rs := [1]) (by kernel_rfl) (by simp) (fun i hi => ?_)
  obtain rfl : i = 1 := by simpa using hi
  refine StepW.op fun K hK => ⟨_, rfl, ?_⟩
  go_simp
  refine hK _ _ ⟨hS1, ?_⟩
  clear hK hi K
  generalize Wd.alloc (.cells #[.string z] 9) = W1 at *
  refine wpAnyH_all (rs := [2]) (by kernel_rfl) (by simp) (fun i hi => ?_)
  obtain rfl : i = 2 := by simpa using hi
  refine StepW.op fun K hK => ⟨_, rfl, ?_⟩
  go_simp
  refine (oneOf_v _ _ _ _).mono ?_
  rintro e w2 ⟨rfl, rfl⟩
  have x2 := heap_alloc_new W1 (.cells #[.slice (some ⟨Wd.heap.size, 0, none⟩) 1 1] 103)
  have b2 : Below W1.heap.size W1 (W1.alloc (.cells #[.slice (some ⟨Wd.heap.size, 0, none⟩) 1 1] 103)) := (Below.refl _ _).alloc (Nat.le_refl _) _
  have hS2 := hS1.trans (b2.mono hS1.size)
  refine hK _ _ ⟨hS2, ?_⟩
  clear hK hi K
  have x3 := block_lat b2 x1
  generalize W1.alloc (.cells #[.slice (some ⟨Wd.heap.size, 0, none⟩) 1 1] 103) = W2 at *
  generalize W1.heap.size = g2 at *
  have QC := Lib.hid (Q1.out _ _ _ x2 x3)
  have HS2 := Lib.hid hS2
  clear x1 x2 x3 b1 b2 hS hS1 hS2 Q1 HJ
  refine wpAnyH_all (rs := [4]) (by kernel_rfl) (by simp) (fun i hi => ?_)
  obtain rfl : i = 4 := by simpa using hi
  refine StepW.op fun K hK => ⟨_, rfl, ?_⟩
  go_simp
  refine QC.out.mono ?_
  rintro e w3 ⟨rfl, b3⟩
  have hS3 := HS2.out.trans (b3.mono HS2.out.size)
  refine hK _ _ ⟨hS3, ?_⟩
  have HS3 := Lib.hid hS3
  clear hK hi K QC HS2 b3 hS3
  refine wpAnyH_all (rs := [5]) (by kernel_rfl) (by simp) (fun i hi => ?_)
  obtain rfl : i = 5 := by simpa using hi
  refine StepW.op fun K hK => ⟨_, rfl, ?_⟩
  go_simp
  refine hK _ _ ⟨HS3.out, ?_⟩
  clear hK hi K
  refine wpAnyH_done (by kernel_rfl) ?_ _
  go_wp2_with fail
  go_ret
  exact ⟨rfl, HB0.out.trans (HS3.out.mono HB0.out.size)⟩
theorem sl_two {w : World} {b : Nat} (h : w.heap[b]? = some (.cells #[.string ⟨#[33]⟩, .string ⟨#[59]⟩] 9)) : Sl w b 0 [[33], [59]] := fun i x hi => by
  match i, hi with
  | 0, hi => cases hi; exact cell_of_block (o := 0) h
  | 1, hi => cases hi; exact cell_of_block (o := 1) h
set_option maxRecDepth 100000 in
set_option maxHeartbeats 1000000 in
theorem isValue_v (v : Value) (f : Wn.Fs) (w : World) (hv : Vals w v f) (hf : f.size ≤ 1000000) :
    Calls Tryz.prog 60 #[v] w fun e w' => e = .returned (.bool (Wn.isValF f)) ∧ Below w.heap.size w w' := by
  have HV := Lib.hid hv
  have QT := Lib.hid (Trim_any v f w hv hf)
  obtain ⟨ao, cap, rfl, c1, c2⟩ := hv.form
  unfold maxLen at c2
  clear hv
  have hR : Wn.isValF f = (decide (0 < f.len) && (decide ((Wn.trimF f).len = f.len) && (!Wn.anyF Wn.endV f && decide (Wn.depth f ≤ 56)))) := by unfold Wn.isValF; simp [Bool.and_assoc]
  rw [hR]; clear hR
  have QA : Hid (∀ (g b : Nat) (W : World), Below w.heap.size w W → W.heap[g]? = some (.cells #[.slice (some ⟨b, 0, none⟩) 2 2] 103) → W.heap[b]? = some (.cells #[.string ⟨#[33]⟩, .string ⟨#[59]⟩] 9) → Calls Tryz.prog 84 #[.slice ao f.len cap, .func (.func 103) #[] #[.pointer (some ⟨g, 0, none⟩)]] W fun e w' => e = .returned (.bool (Wn.anyF Wn.endV f)) ∧ Below W.heap.size W w') := Lib.hid (fun g b W hW hg hb => by
    have := ContainsVal 103 enters_oneOf (Wn.oneV [[33], [59]]) (.pointer (some ⟨g, 0, none⟩)) f _ W (HV.out.below hW) (fun k t u W' hW' hu => oneOf1_v [[33], [59]] k t u g b 0 2 W' hu ((hW'.block g (lt_of_block hg)).trans hg) ((sl_two hb).below hW') (by simp))
    rw [show Wn.oneV [[33], [59]] = Wn.endV from funext fun k => funext fun t => Wn.oneV_end k t] at this
    exact this)
  have QD : Hid (∀ W, Below w.heap.size w W → Calls Tryz.prog 85 #[.slice ao f.len cap] W fun e w' => e = .returned (.int .i64 (Wn.depth f)) ∧ Below W.heap.size W w') := Lib.hid (fun W hW => Depth_any _ f W (HV.out.below hW) hf)
  generalize Wn.anyF Wn.endV f = R at *
  generalize Wn.depth f = D at *
  go_enter Tryz.func60, Tryz.ntmps60
  go_wp2_with fail
  refine QT.out.mono ?_
  rintro e w1 ⟨r, rfl, hr, b1⟩
  obtain ⟨ro, rc, rfl, d1, d2⟩ := hr.form
  have HB1 := Lib.hid b1
  clear b1 hr QT
  generalize htl : (Wn.trimF f).len = tl at *
  by_cases h0 : 0 < f.len
  case neg =>
    have h0' : ¬ (0 : Int) < (f.len : Int) := by omega
    go_wp2_with fail
    go_ret
    exact ⟨ret_bool (by simp [h0]), HB1.out⟩
  have h0' : (0 : Int) < (f.len : Int) := by omega
  by_cases h1 : tl = f.len
  case neg =>
    have h1' : ((tl : Int) == (f.len : Int)) = false := by rw [beq_eq_false_iff_ne]; omega
    go_wp2_with fail
    go_ret
    exact ⟨ret_bool (by simp [htl, h1]), HB1.out⟩
  have h1' : ((tl : Int) == (f.len : Int)) = true := by rw [beq_iff_eq]; omega
  have hS := heap_alloc_new w1 (.cells #[.string ⟨#[33]⟩, .string ⟨#[59]⟩] 9)
  have hSz : (w1.alloc (.cells #[.string ⟨#[33]⟩, .string ⟨#[59]⟩] 9)).heap.size = w1.heap.size + 1 := by simp
  have hSB : Below w1.heap.size w1 (w1.alloc (.cells #[.string ⟨#[33]⟩, .string ⟨#[59]⟩] 9)) := (Below.refl _ _).alloc (Nat.le_refl _) _
  go_wp2_with fail
  generalize w1.alloc (.cells #[.string ⟨#[33]⟩, .string ⟨#[59]⟩] 9) = W1 at *
  refine (oneOf_v _ _ _ _).mono ?_
  rintro e w2 ⟨rfl, rfl⟩
  have hG := heap_alloc_new W1 (.cells #[.slice (some ⟨w1.heap.size, 0, none⟩) 2 2] 103)
  have hGB : Below W1.heap.size W1 (W1.alloc (.cells #[.slice (some ⟨w1.heap.size, 0, none⟩) 2 2] 103)) := (Below.refl _ _).alloc (Nat.le_refl _) _
  have hS2 := block_lat hGB hS
  have hB2 : Below w.heap.size w (W1.alloc (.cells #[.slice (some ⟨w1.heap.size, 0, none⟩) 2 2] 103)) := HB1.out.trans ((hSB.trans (hGB.mono hSB.size)).mono HB1.out.size)
  generalize W1.alloc (.cells #[.slice (some ⟨w1.heap.size, 0, none⟩) 2 2] 103) = W2 at *
  have QA2 := Lib.hid (QA.out _ _ _ hB2 hG hS2)
  have HB2 := Lib.hid hB2
  clear hS hSz hSB hG hGB hS2 hB2 QA
  generalize W1.heap.size = gg at *
  go_wp2_with fail
  refine QA2.out.mono ?_
  rintro e w3 ⟨rfl, b3⟩
  have HB3 := Lib.hid (HB2.out.trans (b3.mono HB2.out.size))
  clear b3
  cases R
  · go_wp2_with fail
    refine (QD.out _ HB3.out).mono ?_
    rintro e w4 ⟨rfl, b4⟩
    have HB4 := Lib.hid (HB3.out.trans (b4.mono HB3.out.size))
    clear b4
    go_wp2_with fail
    go_ret
    exact ⟨ret_bool (by simp [htl, h0, h1] <;> omega), HB4.out⟩
  · go_wp2_with fail
    go_ret
    exact ⟨ret_bool (by simp [htl, h0, h1]), HB3.out⟩
end Go.Proofs.YtjlejiphpbaonaaGreatDoor
