/- The fixed calls at the head of the statements of layer 1: they answer true. -/
import Derived.Test.YtnkdppbpcinjhaaDoorTokV
set_option maxRecDepth 20000
namespace Wn
def fixWant : List Tok := [(1, [97], 0), (7, [58], 0), (5, [112, 120], 1)]
def fixK : List Tok := [(3, [98], 0), (4, [49], 0), (8, [10], 0), (2, [45, 45, 99], 0), (5, [37], -2), (6, [100, 39], 34), (8, [10], 0), (7, [39], 0), (1, [101], 0), (8, [10], 0)]
def fixTwo : List Tok := [(1, [97], 0), (1, [98], 0)]
theorem lex_want : lex [97, 58, 49, 112, 120] = fixWant := by decide +kernel
theorem lex_k : lex [64, 98, 47, 42, 120, 42, 47, 35, 49, 32, 45, 45, 99, 40, 45, 50, 37, 34, 100, 39, 34, 32, 39, 101, 10] = fixK := by decide +kernel
theorem itoa_one : Go.Lib.itoa 1 = [49] := by
  unfold Go.Lib.itoa; rw [if_neg (by decide), show (1 : Int).toNat = 1 from rfl, Go.Lib.decDigits_one (by decide)]; rfl
theorem text_want : text fixWant = [97, 58, 49, 112, 120] := by
  have e : oneText (5, [112, 120], 1) = [49, 112, 120] := by
    have : oneText (5, [112, 120], 1) = Go.Lib.itoa 1 ++ [112, 120] := rfl
    rw [this, itoa_one]; rfl
  have e1 : oneText (1, [97], 0) = [97] := rfl
  have e2 : oneText (7, [58], 0) = [58] := rfl
  have a1 : apart ([97] ++ [58]) (1, [97], 0) (7, [58], 0) = false := by decide +kernel
  have a2 : apart ([58] ++ [49, 112, 120]) (7, [58], 0) (5, [112, 120], 1) = false := by decide +kernel
  simp [text, fixWant, texts, e, e1, e2, a1, a2] at *
theorem text_two : text fixTwo = [97, 47, 42, 42, 47, 98] := by decide +kernel
theorem one_str : oneText (6, [100, 39], 34) = [34, 100, 39, 34] := by decide +kernel
theorem one_quote : oneText (7, [39], 0) = [39, 47, 42, 10, 42, 47] := by decide +kernel
theorem may_func : may (2, [45, 45, 99], 0) = true := by decide +kernel
theorem may_one : may (1, [49], 0) = false := by decide +kernel
theorem may_none : may (0, [], 0) = false := by decide +kernel
end Wn
namespace Go.Proofs.YtnkdppbpcinjhaaDoor
open Go.RowKit
/-- tokens in a new block -/
theorem Toks.mk (w : World) (l : List Wn.Tok) (hl : l.length ≤ maxLen) : Toks (w.alloc (.cells (toksCells l).toArray 24)) (.slice (some ⟨w.heap.size, 0, none⟩) l.length l.length) l := by
  have hb := heap_alloc_new w (.cells (toksCells l).toArray 24)
  refine ⟨_, _, rfl, Nat.le_refl _, hl, fun i t hi => ⟨_, _, rfl, ?_⟩⟩
  obtain ⟨k0, k1, k2⟩ := toksCells_get l i t hi
  rw [Nat.zero_add]
  exact ⟨by rw [cell_of_block hb, List.getElem?_toArray]; exact k0, by rw [cell_of_block hb, List.getElem?_toArray]; exact k1, by rw [cell_of_block hb, List.getElem?_toArray]; exact k2⟩
theorem Same_b (v u : Value) (l m : List Wn.Tok) (c : Bool) (w : World) (hc : decide (l = m) = c) (hW : Toks w v l) (hU : Toks w u m) :
    Calls Tryd.prog 16 #[v, u] w fun e w' => e = .returned (.bool c) ∧ Below w.heap.size w w' := by
  subst hc; exact
  (Same_any v u l m w hW hU).mono fun _ _ ⟨he, n, hw⟩ => ⟨he, by subst hw; exact below_drewN' (Below.refl _ _) n⟩
theorem All_toks (s : ByteArray) (L : List Wn.Tok) (w : World) (hs : s.size ≤ 1099511627776) (hL : Wn.lex s.data.toList = L) :
    Calls Tryd.prog 17 #[.string s] w fun e w' => ∃ v, e = .returned v ∧ Toks w' v L ∧ Below w.heap.size w w' := by
  subst hL
  exact (All_any s w hs).mono fun _ _ ⟨v, he, ho, hb⟩ => ⟨v, he, Toks.ofRow ho, hb⟩
theorem Text_r (v : Value) (l : List Wn.Tok) (r : List UInt8) (z : ByteArray) (w : World) (hr : Wn.text l = r) (hz : Wn.str r = z) (ht : Tab w) (hW : Toks w v l) (hf : ∀ t ∈ l, Fine t) (hlen : l.length ≤ 1048576) :
    Calls Tryd.prog 19 #[v] w fun e w' => e = .returned (.string z) ∧ Below w.heap.size w w' := by
  subst hr hz; exact Text_any v l w ht hW hf hlen
theorem One_r (t : Wn.Tok) (r : List UInt8) (x : Value) (z : ByteArray) (w : World) (hx : tokV t = x) (hr : Wn.oneText t = r) (hz : Wn.str r = z) (ht : Tab w) (hf : Fine t) :
    Calls Tryd.prog 21 #[x] w fun e w' => e = .returned (.string z) ∧ Below w.heap.size w w' := by
  subst hx hr hz; exact One_any t w ht (by have := hf.1; omega) hf.2.1 hf.2.2
theorem May_r (t : Wn.Tok) (c : Bool) (x : Value) (w : World) (hx : tokV t = x) (hc : Wn.may t = c) (ht : Tab w) (hf : Fine t) :
    Calls Tryd.prog 23 #[x] w fun e w' => e = .returned (.bool c) ∧ Below w.heap.size w w' := by
  subst hx hc; exact May_any t w ht (by have := hf.1; omega) hf.2.1 hf.2.2
/-- what the fixed calls know of the world -/
structure Fix (w0 : World) (v1 v2 v3 v4 v5 : Value) (w : World) : Prop where
  below : Below w0.heap.size w0 w
  tab : Tab w
  t1 : Toks w v1 Wn.fixWant
  t2 : Toks w v2 Wn.fixWant
  t3 : Toks w v3 Wn.fixK
  t4 : Toks w v4 Wn.fixK
  t5 : Toks w v5 Wn.fixTwo
theorem Fix.later {w0 : World} {v1 v2 v3 v4 v5 : Value} {w w' : World} (h : Fix w0 v1 v2 v3 v4 v5 w) (hb : Below w.heap.size w w') : Fix w0 v1 v2 v3 v4 v5 w' :=
  ⟨h.below.trans (hb.mono h.below.size), h.tab.below hb, h.t1.below hb, h.t2.below hb, h.t3.below hb, h.t4.below hb, h.t5.below hb⟩
theorem Fix.cell {w0 : World} {v1 v2 v3 v5 : Value} {b : Nat} {w : World} (h : Fix w0 v1 v2 v3 (.slice (some ⟨b, 0, none⟩) 10 10) v5 w) (i : Nat) (t : Wn.Tok) (hi : Wn.fixK[i]? = some t) : TokIn w b (i * 3) t := by
  obtain ⟨ao, cap, hv, _, _, hc⟩ := h.t4
  obtain ⟨b', off, ha, hin⟩ := hc i t hi
  subst ha
  simp only [Value.slice.injEq, Option.some.injEq, Addr.mk.injEq] at hv
  obtain ⟨⟨rfl, rfl, _⟩, _, _⟩ := hv
  rw [Nat.zero_add] at hin
  exact hin
set_option maxRecDepth 100000 in
set_option maxHeartbeats 4000000 in
theorem fixed_any (w : World) (ht : Tab w) :
    Calls Tryd.prog 15 #[] w fun e w' => e = .returned (.bool true) ∧ Below w.heap.size w w' := by
  have HT := Lib.hid ht; clear ht
  go_enter Tryd.func15, Tryd.ntmps15
  go_wp2_with fail
  refine (All_toks _ Wn.fixWant _ (by decide) Wn.lex_want).mono ?_
  rintro e w1 ⟨v1, rfl, h1, b1⟩
  have T1 := Lib.hid h1
  have B1 := Lib.hid b1
  have s1 := b1.size
  clear h1 b1
  go_wp2_with fail
  refine (All_toks _ Wn.fixK _ (by decide) Wn.lex_k).mono ?_
  rintro e w3 ⟨v3, rfl, h3, b3⟩
  have T2 := Lib.hid ((Toks.mk w1 Wn.fixWant (by decide)).below b3)
  have T3 := Lib.hid h3
  have s3 : w1.heap.size + 1 ≤ w3.heap.size := by have := b3.size; simpa using this
  have T1' := Lib.hid ((T1.out.below ((Below.refl _ _).alloc (Nat.le_refl _) _)).below b3)
  have B3 : Hid (Below w.heap.size w w3) := Lib.hid ((B1.out.alloc s1 _).trans (b3.mono (by simp; omega)))
  clear h3 b3 T1
  go_wp2_with fail
  have F : Hid (Fix w v1 (.slice (some ⟨w1.heap.size, 0, none⟩) 3 3) v3 (.slice (some ⟨w3.heap.size, 0, none⟩) 10 10) (.slice (some ⟨w3.heap.size + 1, 0, none⟩) 2 2)
      ((w3.alloc (.cells (toksCells Wn.fixK).toArray 24)).alloc (.cells (toksCells Wn.fixTwo).toArray 24))) := by
    have ba := (Below.refl w3.heap.size w3).alloc (Nat.le_refl _) (.cells (toksCells Wn.fixK).toArray 24)
    have bb := (Below.refl (w3.alloc (.cells (toksCells Wn.fixK).toArray 24)).heap.size (w3.alloc (.cells (toksCells Wn.fixK).toArray 24))).alloc (Nat.le_refl _) (.cells (toksCells Wn.fixTwo).toArray 24)
    have hz : (w3.alloc (.cells (toksCells Wn.fixK).toArray 24)).heap.size = w3.heap.size + 1 := by simp
    have t5 := Toks.mk (w3.alloc (.cells (toksCells Wn.fixK).toArray 24)) Wn.fixTwo (by decide)
    rw [hz] at t5
    have hb : Below w.heap.size w ((w3.alloc (.cells (toksCells Wn.fixK).toArray 24)).alloc (.cells (toksCells Wn.fixTwo).toArray 24)) := (B3.out.alloc (by omega) _).alloc (by rw [hz]; omega) _
    exact Lib.hid ⟨hb, HT.out.below hb, (T1'.out.below ba).below bb, (T2.out.below ba).below bb, (T3.out.below ba).below bb, (Toks.mk w3 Wn.fixK (by decide)).below bb, t5⟩
  clear T1' T2 T3 B3 B1 HT
  refine (Same_b _ _ Wn.fixWant Wn.fixWant true _ (by simp) (by exact F.out.t1) (by exact F.out.t2)).mono ?_
  rintro e w6 ⟨rfl, b6⟩
  have F6 := Lib.hid (F.out.later b6)
  clear b6 F
  generalize w3.heap.size = h4 at *
  go_wp2_with fail
  refine (Same_b _ _ Wn.fixK Wn.fixK true _ (by simp) F6.out.t3 F6.out.t4).mono ?_
  rintro e w7 ⟨rfl, b7⟩
  have F7 := Lib.hid (F6.out.later b7)
  clear b7 F6
  go_wp2_with fail
  refine (Text_r _ Wn.fixWant _ ⟨#[97, 58, 49, 112, 120]⟩ _ Wn.text_want rfl F7.out.tab F7.out.t2 (by unfold Fine Wn.fixWant; simp) (by decide)).mono ?_
  rintro e w8 ⟨rfl, b8⟩
  have F8 := Lib.hid (F7.out.later b8)
  clear b8 F7
  go_wp2_with fail
  refine (Text_r _ Wn.fixTwo _ ⟨#[97, 47, 42, 42, 47, 98]⟩ _ Wn.text_two rfl F8.out.tab F8.out.t5 (by unfold Fine Wn.fixTwo; simp) (by decide)).mono ?_
  rintro e w9 ⟨rfl, b9⟩
  have F9 := Lib.hid (F8.out.later b9)
  clear b9 F8
  have k0 : w9.cell? ⟨h4, 15, none⟩ = some (.int .i64 6) := (F9.out.cell 5 _ rfl).c0
  have k1 : w9.cell? ⟨h4, 16, none⟩ = some (.string ⟨#[100, 39]⟩) := (F9.out.cell 5 _ rfl).c1
  have k2 : w9.cell? ⟨h4, 17, none⟩ = some (.int .i64 34) := (F9.out.cell 5 _ rfl).c2
  go_wp2_with fail
  refine (One_r (6, [100, 39], 34) _ _ ⟨#[34, 100, 39, 34]⟩ _ rfl Wn.one_str rfl F9.out.tab (by unfold Fine; simp)).mono ?_
  rintro e wa ⟨rfl, ba⟩
  have FA := Lib.hid (F9.out.later ba)
  clear ba F9 k0 k1 k2
  have k0 : wa.cell? ⟨h4, 21, none⟩ = some (.int .i64 7) := (FA.out.cell 7 _ rfl).c0
  have k1 : wa.cell? ⟨h4, 22, none⟩ = some (.string ⟨#[39]⟩) := (FA.out.cell 7 _ rfl).c1
  have k2 : wa.cell? ⟨h4, 23, none⟩ = some (.int .i64 0) := (FA.out.cell 7 _ rfl).c2
  go_wp2_with fail
  refine (One_r (7, [39], 0) _ _ ⟨#[39, 47, 42, 10, 42, 47]⟩ _ rfl Wn.one_quote rfl FA.out.tab (by unfold Fine; simp)).mono ?_
  rintro e wb ⟨rfl, bb⟩
  have FB := Lib.hid (FA.out.later bb)
  clear bb FA k0 k1 k2
  have k0 : wb.cell? ⟨h4, 9, none⟩ = some (.int .i64 2) := (FB.out.cell 3 _ rfl).c0
  have k1 : wb.cell? ⟨h4, 10, none⟩ = some (.string ⟨#[45, 45, 99]⟩) := (FB.out.cell 3 _ rfl).c1
  have k2 : wb.cell? ⟨h4, 11, none⟩ = some (.int .i64 0) := (FB.out.cell 3 _ rfl).c2
  go_wp2_with fail
  refine (May_r (2, [45, 45, 99], 0) true _ _ rfl Wn.may_func FB.out.tab (by unfold Fine; simp)).mono ?_
  rintro e wc ⟨rfl, bc⟩
  have FC := Lib.hid (FB.out.later bc)
  clear bc FB k0 k1 k2
  go_wp2_with fail
  refine (May_r (1, [49], 0) false _ _ rfl Wn.may_one FC.out.tab (by unfold Fine; simp)).mono ?_
  rintro e wd ⟨rfl, bd⟩
  have FD := Lib.hid (FC.out.later bd)
  clear bd FC
  go_wp2_with fail
  refine (May_r (0, [], 0) false _ _ rfl Wn.may_none FD.out.tab (by unfold Fine; simp)).mono ?_
  rintro e we ⟨rfl, be⟩
  have FE := Lib.hid (FD.out.later be)
  clear be FD
  go_wp2_with fail
  go_ret
  exact ⟨rfl, FE.out.below⟩
end Go.Proofs.YtnkdppbpcinjhaaDoor
