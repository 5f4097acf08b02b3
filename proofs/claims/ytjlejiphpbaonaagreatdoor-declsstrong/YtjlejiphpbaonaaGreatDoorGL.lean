/- The verifier's second writing: all tokens of a text. The verifier's second writing: the digits of a number. The verifier's second writing: the text of a token. The verifier's second writing: may a token be? The verifier's second writing: may all of some tokens be? -/
import Derived.Test.YtjlejiphpbaonaaGreatDoorGK
import Derived.Test.YtjlejiphpbaonaaGreatDoorGH
import Derived.Laws.IdiomStrings
set_option maxRecDepth 20000
namespace Go.Proofs.YtjlejiphpbaonaaGreatDoor
open Go.RowKit
theorem Src.mk1 (w : World) (g : Nat) (hg : g = w.heap.size) (t : Wn.Tok) : Src (w.alloc (.cells #[.int .i64 t.1, .string (Wn.str t.2.1), .int .i64 t.2.2] 47)) (.slice (some ⟨g, 0, none⟩) 1 1) [t] := by
  subst hg
  refine .inr ⟨w.heap.size, 0, 1, rfl, Nat.le_refl _, by unfold maxLen; omega, fun i u hu => ?_⟩
  have hi : i = 0 := by have := (List.getElem?_eq_some_iff.1 hu).1; simpa using this
  subst hi
  obtain rfl : t = u := by simpa using hu
  exact box1 w t
theorem valid_pos {t : Wn.Tok} (h : Wn.Valid t) : ¬ t.1 = 0 := by
  rcases h with ⟨x, _, rfl⟩ | ⟨x, _, rfl⟩ | ⟨x, _, rfl⟩ | ⟨x, _, _, rfl⟩ | ⟨x, n, _, _, _, rfl⟩ | ⟨x, q, hq, _, rfl⟩ | ⟨c, _, rfl⟩ | rfl <;> simp
set_option maxRecDepth 100000 in
set_option maxHeartbeats 2000000 in
theorem rAll (s : ByteArray) (L : List Wn.Tok) (w : World) (hs : s.size ≤ 1000000) (hL : Wn.lex s.data.toList = L) :
    Calls Tryz.prog 48 #[.string s] w fun e w' => ∃ v, e = .returned v ∧ Src w' v L ∧ Below w.heap.size w w' := by
  have hs' : s.size ≤ 4611686018427387000 := by omega
  have HL : Hid (Wn.lex (Wn.sfx s 0) = L) := Lib.hid (by rw [← hL]; rfl)
  clear hL
  have HO0 : Hid ((w.alloc (Obj.cells #[] 47)).ownsRow w.heap.size 47 3 (.slice (some ⟨w.heap.size, 0, none⟩) 0 0) ([] : List Wn.Tok).length (toksCells [])) := Lib.hid (World.ownsRow_made w #[] 0 (Nat.le_refl _) (by unfold maxLen; omega) rfl)
  have HB0 : Hid (Below w.heap.size w (w.alloc (Obj.cells #[] 47))) := Lib.hid ((Below.refl _ _).alloc (Nat.le_refl _) _)
  go_enter Tryz.func48, Tryz.ntmps48
  go_wp2_with fail
  go_loopw [3, 4] (fun v3 v4 wr => ∃ (k : Nat) (acc : List Wn.Tok), k ≤ s.size ∧ acc.length ≤ k ∧ v4 = .int .i64 (k : Int) ∧ Hid (wr.ownsRow w.heap.size 47 3 v3 acc.length (toksCells acc)) ∧ Hid (Below w.heap.size w wr) ∧ Hid (acc ++ Wn.lex (Wn.sfx s k) = L)) (fun _ v4 _ => s.size - (intOf v4).toNat)
  case atStart => exact ⟨0, [], by omega, by simp, rfl, HO0, HB0, Lib.hid (by simpa using HL.out)⟩
  case round =>
    obtain ⟨k, acc, hk, hacc, rfl, HO, HB, HA⟩ := hrel
    have hzr : w.heap.size ≤ wr.heap.size := HB.out.size
    by_cases hlt : k < s.size
    · cases hcm : Wn.commentBegins (Wn.sfx s k)
      · have hne : Wn.sfx s k ≠ [] := by rw [Wn.sfx_in s k hlt]; simp
        have hpos := Wn.one_pos hne
        have hval := Wn.one_valid hne
        obtain ⟨t, n, ho⟩ : ∃ t n, Wn.one (Wn.sfx s k) = (t, n) := ⟨_, _, rfl⟩
        rw [ho] at hpos hval
        rw [Wn.sfx_length] at hpos
        dsimp only at hpos hval
        have hstep := Wn.lex_step hne hcm ho
        rw [Wn.sfx_drop] at hstep
        have HA2 : Hid (acc ++ [t] ++ Wn.lex (Wn.sfx s (k + n)) = L) := Lib.hid (by rw [← HA.out, hstep]; simp)
        have ht0 := valid_pos hval
        have ht0' : (t.1 == 0) = false := by simpa using ht0
        have qn := fun w => rnext_one s k (k : Int) w hs' hlt rfl hcm t n ho
        rw [tokV_str] at qn
        have QN := Lib.hid qn
        have MK := Lib.hid (fun (w : World) g hg => Src.mk1 w g hg t)
        obtain ⟨hp1, hp2⟩ := hpos
        clear qn hstep ho hval hne hcm
        generalize hx : Wn.str t.2.1 = x at *
        clear hx
        go_wp2_with fail
        refine (QN.out _).mono ?_
        rintro e w1 ⟨rfl, b1⟩
        have HO1 := Lib.hid (ownsRow_later HO.out b1)
        have HB1 := Lib.hid (HB.out.trans (b1.mono hzr))
        have hz1 : w.heap.size ≤ w1.heap.size := HB1.out.size
        clear b1 HO HB
        go_wp2_with (at_builtin; refine append_toks rfl _ _ rfl w.heap.size u3 _ acc [t] rfl rfl (ownsRow_later HO1.out (by (repeat (first | with_reducible exact Below.refl _ _ | (with_reducible refine Below.drew ?_) | ((with_reducible refine Below.alloc ?_ ?_ _); rotate_left; (focus (first | omega | (simp <;> omega)))))))) (MK.out _ _ (by simp)) (by simp; omega) (by simp; omega) ?_; intro v5 w5 hown5 hgrow5; (have HO5 := Lib.hid hown5); (have HB5 : Hid (Below w.heap.size w w5) := Lib.hid (Below.grown (HB1.out.trans (Below.mono (B := w1.heap.size) (by (repeat (first | with_reducible exact Below.refl _ _ | (with_reducible refine Below.drew ?_) | ((with_reducible refine Below.alloc ?_ ?_ _); rotate_left; (focus (first | omega | (simp <;> omega))))))) hz1)) hgrow5 (by simp; omega) (fun k hk => (HO1.out.lt k hk).1))); clear hown5 hgrow5)
        go_round
        case rel => exact ⟨k + n, acc ++ [t], by omega, by simp; omega, by go_num, HO5, HB5, HA2⟩
        case measure => simp [intOf]; omega
      · have hcb := hcm
        unfold Wn.commentBegins at hcb
        rw [Wn.sfx_drop, Bool.and_eq_true, Wn.hd_in s k hlt] at hcb
        have hlt1 : k + 1 < s.size := by
          apply Classical.byContradiction; intro h
          have := hcb.2
          rw [Wn.hd_out s (k + 1) (by omega)] at this; exact absurd this (by decide)
        rw [Wn.hd_in s (k + 1) hlt1] at hcb
        have hle := Wn.closeLen_le (Wn.sfx s (k + 2))
        rw [Wn.sfx_length] at hle
        have hlc := Wn.lex_comment hcm
        rw [Wn.sfx_drop, Wn.sfx_drop] at hlc
        obtain ⟨E, hE⟩ : ∃ E, k + 2 + Wn.closeLen (Wn.sfx s (k + 2)) = E := ⟨_, rfl⟩
        have hE2 : E ≤ s.size := by omega
        have hE1 : k < E := by omega
        have HA2 : Hid (acc ++ Wn.lex (Wn.sfx s E) = L) := Lib.hid (by rw [← HA.out, hlc, ← hE, Nat.add_assoc])
        have QN := Lib.hid (fun w => rnext_comment s k (k : Int) w hs' hlt1 rfl E hcb.1 hcb.2 hE)
        clear hcb hle hlc hE hcm
        go_wp2_with fail
        refine (QN.out _).mono ?_
        rintro e w1 ⟨rfl, b1⟩
        have HO1 := Lib.hid (ownsRow_later HO.out b1)
        have HB1 := Lib.hid (HB.out.trans (b1.mono hzr))
        have hz1 : w.heap.size ≤ w1.heap.size := HB1.out.size
        clear b1 HO HB
        go_wp2_with fail
        go_round
        case rel => exact ⟨E, acc, by omega, by omega, by go_num, Lib.hid (ownsRow_later HO1.out (by (repeat (first | with_reducible exact Below.refl _ _ | (with_reducible refine Below.drew ?_) | ((with_reducible refine Below.alloc ?_ ?_ _); rotate_left; (focus (first | omega | (simp <;> omega)))))))), Lib.hid (HB1.out.alloc hz1 _), HA2⟩
        case measure => simp [intOf]; omega
    · have hk' : k = s.size := by omega
      have HA2 : Hid (acc = L) := Lib.hid (by rw [← HA.out, Wn.sfx_out s k (by omega)]; simp [Wn.lex, Wn.lexF])
      go_wp2_with fail
      go_ret
      refine ⟨_, rfl, ?_, HB.out⟩
      rw [← HA2.out]
      exact Src.ofRow HO.out
end Go.Proofs.YtjlejiphpbaonaaGreatDoor
set_option maxRecDepth 20000
namespace Go.Proofs.YtjlejiphpbaonaaGreatDoor
open Go.RowKit
theorem conv1 (w : World) (d : UInt8) (n : Int) (hn : n = (d.toNat : Int)) : (convert 90 9 (.slice (some ⟨w.heap.size, 0, none⟩) 1 1)).run Tryz.prog (w.alloc (.cells #[.int .u8 n] 5)) = .ok (.string ⟨#[d]⟩) (w.alloc (.cells #[.int .u8 n] 5)) := by
  refine run_convert_bytes_back (P := Tryz.prog) _ 90 9 5 ⟨w.heap.size, 0, none⟩ 1 [d] Tryz.underlying90 Tryz.underlying5 Tryz.underlying9 (fun j hj => ?_)
  have hj0 : j = 0 := by simpa using hj
  subst hj0
  rw [addr_add, cell_of_block (heap_alloc_new w _), hn]
  rfl
theorem digit_nat (u : Nat) : (48 + (u : Int) % 10) = ((UInt8.ofNat (48 + u % 10)).toNat : Int) := by
  rw [UInt8.toNat_ofNat']
  omega
set_option maxRecDepth 100000 in
set_option maxHeartbeats 2000000 in
theorem rDigits_pos : ∀ (m u : Nat) (x : Int) (w : World), u ≤ m → u ≤ 9223372036854775807 → x = (u : Int) →
    Calls Tryz.prog 102 #[.int .i64 x] w fun e w' => e = .returned (.string ⟨(Go.Lib.decDigits u).toArray⟩) ∧ Below w.heap.size w w' := by
  intro m
  induction m with
  | zero =>
    intro u x w hu hm hx
    subst hx
    obtain rfl : u = 0 := by omega
    have hc := conv1 w (UInt8.ofNat 48) 48 rfl
    have HR : Hid ((⟨#[UInt8.ofNat 48]⟩ : ByteArray) = ⟨(Go.Lib.decDigits 0).toArray⟩) := Lib.hid (by rw [Go.Lib.decDigits, dif_pos (by omega)])
    go_enter Tryz.func102, Tryz.ntmps102
    go_wp2_with fail
    go_ret
    exact ⟨ret_str HR.out, (Below.refl _ _).alloc (Nat.le_refl _) _⟩
  | succ m ih =>
    intro u x w hu hm hx
    subst hx
    have hc := conv1 w (UInt8.ofNat (48 + u % 10)) (48 + (u : Int) % 10) (digit_nat u)
    by_cases h10 : u < 10
    · have HR : Hid ((⟨#[UInt8.ofNat (48 + u % 10)]⟩ : ByteArray) = ⟨(Go.Lib.decDigits u).toArray⟩) := Lib.hid (by rw [Go.Lib.decDigits, dif_pos h10, Nat.mod_eq_of_lt h10])
      generalize UInt8.ofNat (48 + u % 10) = d at *
      go_enter Tryz.func102, Tryz.ntmps102
      go_wp2_with fail
      go_ret
      exact ⟨ret_str HR.out, (Below.refl _ _).alloc (Nat.le_refl _) _⟩
    · have HR : Hid ((⟨(Go.Lib.decDigits (u / 10)).toArray⟩ : ByteArray) ++ ⟨#[UInt8.ofNat (48 + u % 10)]⟩ = ⟨(Go.Lib.decDigits u).toArray⟩) := Lib.hid (by
        conv => rhs; rw [Go.Lib.decDigits, dif_neg h10]
        simp [ByteArray.ext_iff, ByteArray.data_append])
      have hlen : (Go.Lib.decDigits (u / 10)).length ≤ 20 := by have := Wn.decDigits_len 19 (u / 10) (by omega); omega
      have IH := Lib.hid (fun x w hx => ih (u / 10) x w (by omega) (by omega) hx)
      have hsz : (⟨(Go.Lib.decDigits (u / 10)).toArray⟩ : ByteArray).size ≤ 20 := hlen
      generalize (⟨(Go.Lib.decDigits (u / 10)).toArray⟩ : ByteArray) = y at *
      generalize UInt8.ofNat (48 + u % 10) = d at *
      have hz : ¬ 9223372036854775807 < y.size + (⟨#[d]⟩ : ByteArray).size := by show ¬ 9223372036854775807 < y.size + 1; omega
      clear ih
      go_enter Tryz.func102, Tryz.ntmps102
      go_wp2_with fail
      refine (IH.out _ _ (by omega)).mono ?_
      rintro e w1 ⟨rfl, b1⟩
      have HB1 : Hid (Below w.heap.size w w1) := Lib.hid (((Below.refl _ _).alloc (Nat.le_refl _) _).trans (b1.mono (by simp)))
      clear b1
      go_wp2_with fail
      go_ret
      exact ⟨ret_str HR.out, HB1.out⟩
set_option maxRecDepth 100000 in
set_option maxHeartbeats 2000000 in
theorem rDigits (n x : Int) (w : World) (h0 : -9223372036854775808 ≤ n) (h1 : n ≤ 9223372036854775807) (hx : x = n) :
    Calls Tryz.prog 102 #[.int .i64 x] w fun e w' => e = .returned (.string ⟨(Go.Lib.itoa n).toArray⟩) ∧ Below w.heap.size w w' := by
  subst hx
  by_cases hn : x < 0
  · obtain ⟨u, rfl⟩ : ∃ u : Nat, x = -(u : Int) := ⟨x.natAbs, by omega⟩
    have hu1 : 1 ≤ u := by omega
    have hu2 : u ≤ 9223372036854775808 := by omega
    have hit : Go.Lib.itoa (-(u : Int)) = 45 :: Go.Lib.decDigits u := by unfold Go.Lib.itoa; rw [if_pos hn]; congr 2; omega
    have hq : Int.tdiv (-(u : Int)) 10 = -((u / 10 : Nat) : Int) := by rw [Int.neg_tdiv, Int.tdiv_eq_ediv_of_nonneg (by omega)]; rfl
    have hr : Int.tmod (-(u : Int)) 10 = -((u % 10 : Nat) : Int) := by rw [Int.neg_tmod, Int.tmod_eq_emod_of_nonneg (by omega)]; rfl
    have hm10 : u % 10 < 10 := Nat.mod_lt _ (by omega)
    have HC := Lib.hid (fun (w : World) => conv1 w (UInt8.ofNat (48 + u % 10)) (48 + (u : Int) % 10) (digit_nat u))
    by_cases h10 : u < 10
    · have hq0 : u / 10 = 0 := by omega
      have HR : Hid ((⟨#[45]⟩ : ByteArray) ++ ⟨#[]⟩ ++ ⟨#[UInt8.ofNat (48 + u % 10)]⟩ = ⟨(Go.Lib.itoa (-(u : Int))).toArray⟩) := Lib.hid (by rw [hit, Go.Lib.decDigits, dif_pos h10, Nat.mod_eq_of_lt h10]; rfl)
      rw [hq0] at hq
      generalize UInt8.ofNat (48 + u % 10) = d at *
      have hc := HC.out w
      clear hit
      have hz : ¬ 9223372036854775807 < ((⟨#[45]⟩ : ByteArray) ++ ⟨#[]⟩).size + (⟨#[d]⟩ : ByteArray).size := by show ¬ 9223372036854775807 < 1 + 1; omega
      go_enter Tryz.func102, Tryz.ntmps102
      go_wp2_with fail
      go_ret
      exact ⟨ret_str HR.out, (Below.refl _ _).alloc (Nat.le_refl _) _⟩
    · have HR : Hid ((⟨#[45]⟩ : ByteArray) ++ ⟨(Go.Lib.decDigits (u / 10)).toArray⟩ ++ ⟨#[UInt8.ofNat (48 + u % 10)]⟩ = ⟨(Go.Lib.itoa (-(u : Int))).toArray⟩) := Lib.hid (by
        rw [hit]
        conv => rhs; rw [Go.Lib.decDigits, dif_neg h10]
        simp [ByteArray.ext_iff, ByteArray.data_append])
      have hlen : (Go.Lib.decDigits (u / 10)).length ≤ 20 := by have := Wn.decDigits_len 19 (u / 10) (by omega); omega
      have IH := Lib.hid (fun x w hx => rDigits_pos (u / 10) (u / 10) x w (Nat.le_refl _) (by omega) hx)
      have hsz : (⟨(Go.Lib.decDigits (u / 10)).toArray⟩ : ByteArray).size ≤ 20 := hlen
      have hq1 : 1 ≤ u / 10 := by omega
      have hq2 : u / 10 ≤ 922337203685477580 := by omega
      generalize (⟨(Go.Lib.decDigits (u / 10)).toArray⟩ : ByteArray) = y at *
      generalize UInt8.ofNat (48 + u % 10) = d at *
      have hz1 : ¬ 9223372036854775807 < (⟨#[45]⟩ : ByteArray).size + y.size := by show ¬ 9223372036854775807 < 1 + y.size; omega
      have hz : ¬ 9223372036854775807 < ((⟨#[45]⟩ : ByteArray) ++ y).size + (⟨#[d]⟩ : ByteArray).size := by rw [ByteArray.size_append]; show ¬ 9223372036854775807 < 1 + y.size + 1; omega
      clear hit hlen
      go_enter Tryz.func102, Tryz.ntmps102
      go_wp2_with fail
      refine (IH.out _ _ (by first | rfl | omega | simp)).mono ?_
      rintro e w1 ⟨rfl, b1⟩
      have HB1 := Lib.hid b1
      have hz3 : w.heap.size ≤ w1.heap.size := HB1.out.size
      have hc := HC.out w1
      clear b1
      go_wp2_with fail
      go_ret
      exact ⟨ret_str HR.out, HB1.out.alloc hz3 _⟩
  · obtain ⟨u, rfl⟩ : ∃ u : Nat, x = (u : Int) := ⟨x.toNat, by omega⟩
    have hit : Go.Lib.itoa (u : Int) = Go.Lib.decDigits u := by unfold Go.Lib.itoa; rw [if_neg hn]; rfl
    rw [hit]
    exact rDigits_pos u u _ w (Nat.le_refl _) (by omega) rfl
end Go.Proofs.YtjlejiphpbaonaaGreatDoor
set_option maxRecDepth 20000
namespace Go.Proofs.YtjlejiphpbaonaaGreatDoor
open Go.RowKit
set_option maxHeartbeats 1000000 in
theorem rOne_num (l : List UInt8) (n : Int) (w : World) (hl : l.length ≤ 1099511627776) (hn0 : -9223372036854775808 ≤ n) (hn1 : n ≤ 9223372036854775807) :
    Calls Tryz.prog 77 #[.agg #[.int .i64 5, .string (Wn.str l), .int .i64 n]] w fun e w' => e = .returned (.string (Wn.str (Lib.itoa n ++ l))) ∧ Below w.heap.size w w' := by
  have hx : (Wn.str l).size ≤ 1099511627776 := by rw [Wn.str_size]; exact hl
  have hy : (Wn.str (Lib.itoa n)).size ≤ 1099511627776 := by rw [Wn.str_size]; have := Wn.itoa_len hn0 hn1; omega
  have QD := Lib.hid (fun w => rDigits n n w hn0 hn1 rfl)
  rw [← Wn.str_append]
  have hI : (⟨(Lib.itoa n).toArray⟩ : ByteArray) = Wn.str (Lib.itoa n) := rfl
  rw [hI] at QD
  clear hI
  generalize Wn.str (Lib.itoa n) = I at *
  generalize Wn.str l = x at *
  clear hn0 hn1
  go_enter Tryz.func77, Tryz.ntmps77
  go_wp2_with fail
  go_region_with (first | (go_at_call 102; (refine (QD.out _).mono ?_); rintro e w1 ⟨rfl, hb⟩; (have k1 : w1.cell? ⟨w.heap.size, 1, none⟩ = some (.string x) := by rw [hb.cell (by simp)]; simp)))
  all_goals
    go_wp2_with fail
    go_ret
    exact ⟨rfl, ((Below.refl _ _).alloc (Nat.le_refl _) _).trans ((Below.refl _ _).drew.trans (hb.mono (by simp)))⟩
set_option maxHeartbeats 1000000 in
theorem rOne_str (l : List UInt8) (n : Int) (w : World) (hl : l.length ≤ 1099511627776) :
    Calls Tryz.prog 77 #[.agg #[.int .i64 6, .string (Wn.str l), .int .i64 n]] w fun e w' => e = .returned (.string (Wn.str (Wn.strText (6, l, n)))) ∧ Below w.heap.size w w' := by
  have hx : (Wn.str l).size ≤ 1099511627776 := by rw [Wn.str_size]; exact hl
  have e9 : n = 39 → (⟨#[39]⟩ : ByteArray) ++ Wn.str l ++ ⟨#[39]⟩ = Wn.str (Wn.strText (6, l, n)) := by
    intro h; unfold Wn.strText; rw [if_pos h, ← one_pre, ← one_suf]
  have e4 : ¬ n = 39 → (⟨#[34]⟩ : ByteArray) ++ Wn.str l ++ ⟨#[34]⟩ = Wn.str (Wn.strText (6, l, n)) := by
    intro h; unfold Wn.strText; rw [if_neg h, ← one_pre, ← one_suf]
  generalize Wn.str (Wn.strText (6, l, n)) = R at *
  generalize Wn.str l = x at *
  have E9 := Lib.hid e9; have E4 := Lib.hid e4
  clear e9 e4
  have hz9 : ¬ 9223372036854775807 < (⟨#[39]⟩ : ByteArray).size + x.size := by show ¬ 9223372036854775807 < 1 + x.size; omega
  have hz4 : ¬ 9223372036854775807 < (⟨#[34]⟩ : ByteArray).size + x.size := by show ¬ 9223372036854775807 < 1 + x.size; omega
  have hy9 : ¬ 9223372036854775807 < ((⟨#[39]⟩ : ByteArray) ++ x).size + (⟨#[39]⟩ : ByteArray).size := by rw [ByteArray.size_append]; show ¬ 9223372036854775807 < 1 + x.size + 1; omega
  have hy4 : ¬ 9223372036854775807 < ((⟨#[34]⟩ : ByteArray) ++ x).size + (⟨#[34]⟩ : ByteArray).size := by rw [ByteArray.size_append]; show ¬ 9223372036854775807 < 1 + x.size + 1; omega
  by_cases h : n = 39
  · have h' : (n == 39) = true := by simpa using h
    go_enter Tryz.func77, Tryz.ntmps77
    go_wp2_with fail
    go_ret
    exact ⟨ret_str (E9.out h), (Below.refl _ _).alloc (Nat.le_refl _) _⟩
  · have h' : (n == 39) = false := by simpa using h
    go_enter Tryz.func77, Tryz.ntmps77
    go_wp2_with fail
    go_ret
    exact ⟨ret_str (E4.out h), (Below.refl _ _).alloc (Nat.le_refl _) _⟩
set_option maxHeartbeats 1000000 in
theorem rOne_delim (l : List UInt8) (n : Int) (w : World) (hl : l.length ≤ 1099511627776) :
    Calls Tryz.prog 77 #[.agg #[.int .i64 7, .string (Wn.str l), .int .i64 n]] w fun e w' => e = .returned (.string (Wn.str (Wn.delimText (7, l, n)))) ∧ Below w.heap.size w w' := by
  have hx : (Wn.str l).size ≤ 1099511627776 := by rw [Wn.str_size]; exact hl
  clear hl
  have e1 : (l = [34] ∨ l = [39]) → Wn.str (Wn.delimText (7, l, n)) = Wn.str l ++ ⟨#[47, 42, 10, 42, 47]⟩ := fun h => by
    unfold Wn.delimText; rw [if_pos h]; exact (Wn.str_append l _).symm
  have e2 : ¬ (l = [34] ∨ l = [39]) → Wn.str (Wn.delimText (7, l, n)) = Wn.str l := fun h => by
    unfold Wn.delimText; rw [if_neg h]
  have hl := str_list l
  generalize Wn.str (Wn.delimText (7, l, n)) = R at *
  generalize Wn.str l = x at *
  subst hl
  have E1 := Lib.hid e1; clear e1
  have E2 := Lib.hid e2; clear e2
  cases h1 : (x.toList == [34])
  · cases h2 : (x.toList == [39])
    · have F : ¬ (x.toList = [34] ∨ x.toList = [39]) := by rintro (h | h) <;> simp [h] at h1 h2
      have F' := Lib.hid F; clear F
      go_enter Tryz.func77, Tryz.ntmps77
      go_wp2
      go_ret
      exact ⟨ret_str (E2.out F'.out).symm, (Below.refl _ _).alloc (Nat.le_refl _) _⟩
    · have F' := Lib.hid (show x.toList = [39] by simpa using h2)
      go_enter Tryz.func77, Tryz.ntmps77
      go_wp2
      go_ret
      exact ⟨ret_str (E1.out (.inr F'.out)).symm, (Below.refl _ _).alloc (Nat.le_refl _) _⟩
  · have F' := Lib.hid (show x.toList = [34] by simpa using h1)
    go_enter Tryz.func77, Tryz.ntmps77
    go_wp2
    go_ret
    exact ⟨ret_str (E1.out (.inl F'.out)).symm, (Below.refl _ _).alloc (Nat.le_refl _) _⟩
set_option maxHeartbeats 1000000 in
theorem rOne (t : Wn.Tok) (w : World) (hl : t.2.1.length ≤ 1099511627776) (hn0 : -9223372036854775808 ≤ t.2.2) (hn1 : t.2.2 ≤ 9223372036854775807) :
    Calls Tryz.prog 77 #[.agg #[.int .i64 t.1, .string (Wn.str t.2.1), .int .i64 t.2.2]] w fun e w' => e = .returned (.string (Wn.str (Wn.oneText t))) ∧ Below w.heap.size w w' := by
  obtain ⟨k, l, n⟩ := t
  dsimp only at *
  by_cases h5 : k = 5
  · subst h5; exact rOne_num l n w hl hn0 hn1
  by_cases h6 : k = 6
  · subst h6; exact rOne_str l n w hl
  by_cases h7 : k = 7
  · subst h7; exact rOne_delim l n w hl
  have hx : (Wn.str l).size ≤ 1099511627776 := by rw [Wn.str_size]; exact hl
  have b5 : (k == 5) = false := by simpa using h5
  have b6 : (k == 6) = false := by simpa using h6
  have b7 : (k == 7) = false := by simpa using h7
  have e : Wn.oneText (k, l, n) = if (k == 1) = true then l else if (k == 2) = true then l ++ [40] else if (k == 3) = true then 64 :: l else if (k == 4) = true then 35 :: l
    else if (k == 8) = true then [10] else [] := by
    simp only [Wn.oneText, if_neg h5, if_neg h6, if_neg h7, beq_iff_eq]
  generalize Wn.oneText (k, l, n) = R at *
  have EE := Lib.hid e; clear e
  clear hn0 hn1 hl h5 h6 h7
  go_enter Tryz.func77, Tryz.ntmps77
  go_wp2_with fail
  all_goals
    go_ret
    have e := EE.out
    repeat (first | rw [if_pos (by assumption)] at e | rw [if_neg (by simp only [*]; decide)] at e)
    subst e
    refine ⟨ret_str ?_, ?_⟩
    · first | rfl | exact (one_suf _ _).symm | exact (one_pre _ _).symm
    · exact (Below.refl _ _).alloc (Nat.le_refl _) _
end Go.Proofs.YtjlejiphpbaonaaGreatDoor
set_option maxRecDepth 20000
namespace Go.Proofs.YtjlejiphpbaonaaGreatDoor
open Go.RowKit
set_option maxRecDepth 100000 in
set_option maxHeartbeats 2000000 in
theorem rMay (t : Wn.Tok) (w : World) (hl : t.2.1.length ≤ 100000) (hn0 : -9223372036854775808 ≤ t.2.2) (hn1 : t.2.2 ≤ 9223372036854775807) :
    Calls Tryz.prog 70 #[.agg #[.int .i64 t.1, .string (Wn.str t.2.1), .int .i64 t.2.2]] w fun e w' => e = .returned (.bool (Wn.may t)) ∧ Below w.heap.size w w' := by
  have hlen := Wn.oneText_len t hn0 hn1
  have hm : Wn.may t = decide (Wn.lex (Wn.oneText t) = [t]) := rfl
  rw [hm]
  obtain ⟨L, hL⟩ : ∃ L, Wn.lex (Wn.oneText t) = L := ⟨_, rfl⟩
  rw [hL]
  generalize hR : decide (L = [t]) = R
  have HR := Lib.hid hR; clear hR
  have QO := Lib.hid (fun w => rOne t w (by omega) hn0 hn1)
  have BX := Lib.hid (box1 w t)
  have QA := Lib.hid (fun w => rAll (Wn.str (Wn.oneText t)) L w (by rw [Wn.str_size]; omega) (by rw [← hL]; rfl))
  clear hm hL hlen hl hn0 hn1
  generalize Wn.str (Wn.oneText t) = z at *
  obtain ⟨tk, tt, tn⟩ := t
  dsimp only at *
  have hx := str_list tt
  generalize hxx : Wn.str tt = x at *
  have HXX := Lib.hid hxx; clear hxx
  have HZ : Hid ((w.alloc (Obj.cells #[Value.int IntKind.i64 tk, Value.string x, Value.int IntKind.i64 tn] 47)).heap.size = w.heap.size + 1) := Lib.hid (by simp)
  go_enter Tryz.func70, Tryz.ntmps70
  go_wp2_with fail
  refine (QO.out _).mono ?_
  rintro e w1 ⟨rfl, b1⟩
  have HB1 : Hid (Below w.heap.size w w1) := Lib.hid (((Below.refl _ _).alloc (Nat.le_refl _) _).trans (b1.mono (by simp)))
  have HT1 := Lib.hid (BX.out.later b1)
  clear b1
  go_wp2_with fail
  refine (QA.out _).mono ?_
  rintro e w2 ⟨v2, rfl, h2, b2⟩
  have HB2 : Hid (Below w.heap.size w w2) := Lib.hid (HB1.out.trans (b2.mono HB1.out.size))
  have T2 := HT1.out.later b2
  (have k0a2 : w2.cell? ⟨w.heap.size, 0, none⟩ = some _ := (T2).c0); (have k1a2 : w2.cell? ⟨w.heap.size, 1, none⟩ = some _ := (T2).c1); (have k2a2 : w2.cell? ⟨w.heap.size, 2, none⟩ = some _ := (T2).c2); (try dsimp only at k0a2 k1a2 k2a2)
  rw [HXX.out] at k1a2
  clear T2 b2 HT1 HB1
  obtain ⟨ao, cap, rfl, c1, c2, hcell⟩ := h2.toks
  unfold maxLen at c2
  have HC := Lib.hid hcell
  clear hcell h2
  clear QA QO BX
  cases L with
  | nil =>
    go_wp2_with fail
    go_quiet (fail)
    go_wp2_with fail
    go_ret
    exact ⟨ret_bool (by rw [← HR.out]; simp), below_drewN' HB2.out _⟩
  | cons u L' =>
    cases L' with
    | cons b L' =>
      have hne : ((((u :: b :: L').length : Nat) : Int) == 1) = false := by simp; omega
      have hR : R = false := by rw [← HR.out]; simp
      have HR2 := Lib.hid hR; clear hR HR
      generalize hn : (u :: b :: L').length = n at *
      have HN := Lib.hid hn; clear hn
      go_wp2_with fail
      go_quiet (fail)
      go_wp2_with fail
      go_ret
      exact ⟨ret_bool HR2.out.symm, below_drewN' HB2.out _⟩
    | nil =>
      obtain ⟨b, off, rfl, hin⟩ := HC.out 0 u rfl
      obtain ⟨uk, ut, un⟩ := u
      obtain ⟨j0, j1, j2⟩ := hin
      dsimp only at *
      simp only [Nat.zero_mul, Nat.add_zero] at j0 j1 j2
      have hy := str_list ut
      generalize Wn.str ut = y at *
      clear HXX HC
      by_cases hne : (uk, ut, un) = (tk, tt, tn)
      · have hR : R = true := by rw [← HR.out, hne]; simp
        have HR2 := Lib.hid hR; clear hR HR
        simp only [Prod.mk.injEq] at hne
        obtain ⟨rfl, rfl, rfl⟩ := hne
        have hxy : y = x := by
          apply ByteArray.ext
          apply Array.toList_inj.1
          rw [← ByteArray.toList_eq, ← ByteArray.toList_eq, hx, hy]
        subst hxy
        clear hx hy
        go_wp2_with fail
        go_quiet (fail)
        go_wp2_with fail
        go_ret
        exact ⟨ret_bool (by rw [HR2.out]), below_drewN' HB2.out _⟩
      · have hR : R = false := by rw [← HR.out]; simpa using hne
        have HR2 := Lib.hid hR; clear hR HR
        subst hx hy
        cases h0 : (uk == tk)
        · go_wp2_with fail
          go_quiet (fail)
          go_wp2_with fail
          go_ret
          exact ⟨ret_bool (by rw [HR2.out]), below_drewN' HB2.out _⟩
        · cases h1 : (y.toList == x.toList)
          · go_wp2_with fail
            go_quiet (fail)
            go_wp2_with fail
            go_ret
            exact ⟨ret_bool (by rw [HR2.out]), below_drewN' HB2.out _⟩
          · have h2 : (un == tn) = false := by
              rw [beq_eq_false_iff_ne]; intro h
              exact hne (by rw [beq_iff_eq] at h0 h1; rw [h0, h1, h])
            go_wp2_with fail
            go_quiet (fail)
            go_wp2_with fail
            go_ret
            exact ⟨ret_bool (by rw [HR2.out]), below_drewN' HB2.out _⟩
end Go.Proofs.YtjlejiphpbaonaaGreatDoor
set_option maxRecDepth 20000
namespace Go.Proofs.YtjlejiphpbaonaaGreatDoor
open Go.RowKit
theorem all_step {l : List Wn.Tok} {j : Nat} {t : Wn.Tok} (h : l[j]? = some t) : (l.drop j).all Wn.may = (Wn.may t && (l.drop (j + 1)).all Wn.may) := by
  have hj : j < l.length := (List.getElem?_eq_some_iff.1 h).1
  rw [List.drop_eq_getElem_cons hj, List.all_cons]
  rw [List.getElem?_eq_getElem hj, Option.some.injEq] at h
  rw [h]
set_option maxRecDepth 100000 in
set_option maxHeartbeats 2000000 in
theorem rMays (v : Value) (l : List Wn.Tok) (R : Bool) (w : World) (hR : l.all Wn.may = R) (hl : Toks w v l) (hf : ∀ t ∈ l, t.2.1.length ≤ 100000 ∧ -9223372036854775808 ≤ t.2.2 ∧ t.2.2 ≤ 9223372036854775807) :
    Calls Tryz.prog 71 #[v] w fun e w' => e = .returned (.bool R) ∧ Below w.heap.size w w' := by
  have HR : Hid ((l.drop 0).all Wn.may = R) := Lib.hid hR
  clear hR
  have HF := Lib.hid hf; clear hf
  obtain ⟨lo, lcap, rfl, hc1, hc2, hcell⟩ := hl
  have HLC := Lib.hid hcell
  clear hcell
  unfold maxLen at hc2
  go_enter Tryz.func71, Tryz.ntmps71
  go_wp2_with fail
  go_loopw [3] (fun v3 ws => ∃ j : Nat, j ≤ l.length ∧ v3 = .int .i64 (j : Int) ∧ Hid (Below w.heap.size w ws) ∧ Hid ((l.drop j).all Wn.may = R)) (fun v3 _ => l.length - (intOf v3).toNat)
  case atStart => exact ⟨0, by omega, rfl, Lib.hid (Below.refl _ _), HR⟩
  case round =>
    obtain ⟨j, hj, rfl, HB, HV⟩ := hrel
    by_cases hlt : j < l.length
    · obtain ⟨t, hTk⟩ : ∃ t, l[j]? = some t := ⟨l[j], List.getElem?_eq_getElem hlt⟩
      obtain ⟨b, off, rfl, hin⟩ := HLC.out j _ hTk
      obtain ⟨i0, i1, i2⟩ := hin.below HB.out hin.lt
      generalize hm : Wn.may t = m
      have hft := HF.out t (List.mem_of_getElem? hTk)
      have qm := fun w => rMay t w hft.1 hft.2.1 hft.2.2
      rw [hm] at qm
      have HTK := Lib.hid (all_step hTk)
      have HM := Lib.hid hm
      clear hm hTk hin hft
      generalize hx : Wn.str t.2.1 = x at *
      have QM := Lib.hid qm
      clear qm hx
      cases m
      · go_wp2_with fail
        refine (QM.out _).mono ?_
        rintro e w10 ⟨rfl, b10⟩
        have HB10 := Lib.hid (HB.out.trans (b10.mono HB.out.size)); clear b10
        go_wp2_with fail
        go_ret
        exact ⟨ret_bool (by rw [← HV.out, HTK.out, HM.out]; rfl), HB10.out⟩
      · go_wp2_with fail
        refine (QM.out _).mono ?_
        rintro e w10 ⟨rfl, b10⟩
        have HB10 := Lib.hid (HB.out.trans (b10.mono HB.out.size)); clear b10
        have HV' : Hid ((l.drop (j + 1)).all Wn.may = R) := Lib.hid (by rw [← HV.out, HTK.out, HM.out]; rfl)
        go_wp2_with fail
        go_round
        case rel => exact ⟨j + 1, by omega, by go_num, HB10, HV'⟩
        case measure => simp [intOf]; omega
    · have HR2 : Hid (R = true) := Lib.hid (by rw [← HV.out, List.drop_of_length_le (by omega)]; rfl)
      go_wp2_with fail
      go_ret
      exact ⟨ret_bool HR2.out.symm, HB.out⟩
end Go.Proofs.YtjlejiphpbaonaaGreatDoor
