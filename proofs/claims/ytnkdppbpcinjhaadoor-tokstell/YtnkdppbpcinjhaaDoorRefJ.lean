/- The verifier's second writing: the digits of a number. -/
import Derived.Test.YtnkdppbpcinjhaaDoorRefI
import Derived.Laws.IdiomStrings
set_option maxRecDepth 20000
namespace Go.Proofs.YtnkdppbpcinjhaaDoor
open Go.RowKit
theorem conv1 (w : World) (d : UInt8) (n : Int) (hn : n = (d.toNat : Int)) : (convert 58 9 (.slice (some ⟨w.heap.size, 0, none⟩) 1 1)).run Tryd.prog (w.alloc (.cells #[.int .u8 n] 5)) = .ok (.string ⟨#[d]⟩) (w.alloc (.cells #[.int .u8 n] 5)) := by
  refine run_convert_bytes_back (P := Tryd.prog) _ 58 9 5 ⟨w.heap.size, 0, none⟩ 1 [d] Tryd.underlying58 Tryd.underlying5 Tryd.underlying9 (fun j hj => ?_)
  have hj0 : j = 0 := by simpa using hj
  subst hj0
  rw [addr_add, cell_of_block (heap_alloc_new w _), hn]
  rfl
theorem digit_nat (u : Nat) : (48 + (u : Int) % 10) = ((UInt8.ofNat (48 + u % 10)).toNat : Int) := by
  rw [UInt8.toNat_ofNat']
  omega
set_option maxRecDepth 100000 in
set_option maxHeartbeats 2000000 in
theorem rDigits_pos : ∀ (m u : Nat) (x : Int) (w : World), u ≤ m → u ≤ 9223372036854775807 → x = (u : Int) →
    Calls Tryd.prog 49 #[.int .i64 x] w fun e w' => e = .returned (.string ⟨(Go.Lib.decDigits u).toArray⟩) ∧ Below w.heap.size w w' := by
  intro m
  induction m with
  | zero =>
    intro u x w hu hm hx
    subst hx
    obtain rfl : u = 0 := by omega
    have hc := conv1 w (UInt8.ofNat 48) 48 rfl
    have HR : Hid ((⟨#[UInt8.ofNat 48]⟩ : ByteArray) = ⟨(Go.Lib.decDigits 0).toArray⟩) := Lib.hid (by rw [Go.Lib.decDigits, dif_pos (by omega)])
    go_enter Tryd.func49, Tryd.ntmps49
    go_wp2_with fail
    go_ret
    exact ⟨ret_str HR.out, (Below.refl _ _).alloc (Nat.le_refl _) _⟩
  | succ m ih =>
    intro u x w hu hm hx
    subst hx
    have hc := conv1 w (UInt8.ofNat (48 + u % 10)) (48 + (u : Int) % 10) (digit_nat u)
    by_cases h10 : u < 10
    · have HR : Hid ((⟨#[UInt8.ofNat (48 + u % 10)]⟩ : ByteArray) = ⟨(Go.Lib.decDigits u).toArray⟩) := Lib.hid (by rw [Go.Lib.decDigits, dif_pos h10, Nat.mod_eq_of_lt h10])
      generalize UInt8.ofNat (48 + u % 10) = d at *
      go_enter Tryd.func49, Tryd.ntmps49
      go_wp2_with fail
      go_ret
      exact ⟨ret_str HR.out, (Below.refl _ _).alloc (Nat.le_refl _) _⟩
    · have HR : Hid ((⟨(Go.Lib.decDigits (u / 10)).toArray⟩ : ByteArray) ++ ⟨#[UInt8.ofNat (48 + u % 10)]⟩ = ⟨(Go.Lib.decDigits u).toArray⟩) := Lib.hid (by
        conv => rhs; rw [Go.Lib.decDigits, dif_neg h10]
        simp [ByteArray.ext_iff, ByteArray.data_append])
      have hlen : (Go.Lib.decDigits (u / 10)).length ≤ 20 := by have := Wn.decDigits_len 19 (u / 10) (by omega); omega
      have IH := Lib.hid (fun x w hx => ih (u / 10) x w (by omega) (by omega) hx)
      have hsz : (⟨(Go.Lib.decDigits (u / 10)).toArray⟩ : ByteArray).size ≤ 20 := hlen
      generalize (⟨(Go.Lib.decDigits (u / 10)).toArray⟩ : ByteArray) = y at *
      generalize UInt8.ofNat (48 + u % 10) = d at *
      have hz : ¬ 9223372036854775807 < y.size + (⟨#[d]⟩ : ByteArray).size := by show ¬ 9223372036854775807 < y.size + 1; omega
      clear ih
      go_enter Tryd.func49, Tryd.ntmps49
      go_wp2_with fail
      refine (IH.out _ _ (by omega)).mono ?_
      rintro e w1 ⟨rfl, b1⟩
      have HB1 : Hid (Below w.heap.size w w1) := Lib.hid (((Below.refl _ _).alloc (Nat.le_refl _) _).trans (b1.mono (by simp)))
      clear b1
      go_wp2_with fail
      go_ret
      exact ⟨ret_str HR.out, HB1.out⟩
set_option maxRecDepth 100000 in
set_option maxHeartbeats 2000000 in
theorem rDigits (n x : Int) (w : World) (h0 : -9223372036854775808 ≤ n) (h1 : n ≤ 9223372036854775807) (hx : x = n) :
    Calls Tryd.prog 49 #[.int .i64 x] w fun e w' => e = .returned (.string ⟨(Go.Lib.itoa n).toArray⟩) ∧ Below w.heap.size w w' := by
  subst hx
  by_cases hn : x < 0
  · obtain ⟨u, rfl⟩ : ∃ u : Nat, x = -(u : Int) := ⟨x.natAbs, by omega⟩
    have hu1 : 1 ≤ u := by omega
    have hu2 : u ≤ 9223372036854775808 := by omega
    have hit : Go.Lib.itoa (-(u : Int)) = 45 :: Go.Lib.decDigits u := by unfold Go.Lib.itoa; rw [if_pos hn]; congr 2; omega
    have hq : Int.tdiv (-(u : Int)) 10 = -((u / 10 : Nat) : Int) := by rw [Int.neg_tdiv, Int.tdiv_eq_ediv_of_nonneg (by omega)]; rfl
    have hr : Int.tmod (-(u : Int)) 10 = -((u % 10 : Nat) : Int) := by rw [Int.neg_tmod, Int.tmod_eq_emod_of_nonneg (by omega)]; rfl
    have hm10 : u % 10 < 10 := Nat.mod_lt _ (by omega)
    have HC := Lib.hid (fun (w : World) => conv1 w (UInt8.ofNat (48 + u % 10)) (48 + (u : Int) % 10) (digit_nat u))
    by_cases h10 : u < 10
    · have hq0 : u / 10 = 0 := by omega
      have HR : Hid ((⟨#[45]⟩ : ByteArray) ++ ⟨#[]⟩ ++ ⟨#[UInt8.ofNat (48 + u % 10)]⟩ = ⟨(Go.Lib.itoa (-(u : Int))).toArray⟩) := Lib.hid (by rw [hit, Go.Lib.decDigits, dif_pos h10, Nat.mod_eq_of_lt h10]; rfl)
      rw [hq0] at hq
      generalize UInt8.ofNat (48 + u % 10) = d at *
      have hc := HC.out w
      clear hit
      have hz : ¬ 9223372036854775807 < ((⟨#[45]⟩ : ByteArray) ++ ⟨#[]⟩).size + (⟨#[d]⟩ : ByteArray).size := by show ¬ 9223372036854775807 < 1 + 1; omega
      go_enter Tryd.func49, Tryd.ntmps49
      go_wp2_with fail
      go_ret
      exact ⟨ret_str HR.out, (Below.refl _ _).alloc (Nat.le_refl _) _⟩
    · have HR : Hid ((⟨#[45]⟩ : ByteArray) ++ ⟨(Go.Lib.decDigits (u / 10)).toArray⟩ ++ ⟨#[UInt8.ofNat (48 + u % 10)]⟩ = ⟨(Go.Lib.itoa (-(u : Int))).toArray⟩) := Lib.hid (by
        rw [hit]
        conv => rhs; rw [Go.Lib.decDigits, dif_neg h10]
        simp [ByteArray.ext_iff, ByteArray.data_append])
      have hlen : (Go.Lib.decDigits (u / 10)).length ≤ 20 := by have := Wn.decDigits_len 19 (u / 10) (by omega); omega
      have IH := Lib.hid (fun x w hx => rDigits_pos (u / 10) (u / 10) x w (Nat.le_refl _) (by omega) hx)
      have hsz : (⟨(Go.Lib.decDigits (u / 10)).toArray⟩ : ByteArray).size ≤ 20 := hlen
      have hq1 : 1 ≤ u / 10 := by omega
      have hq2 : u / 10 ≤ 922337203685477580 := by omega
      generalize (⟨(Go.Lib.decDigits (u / 10)).toArray⟩ : ByteArray) = y at *
      generalize UInt8.ofNat (48 + u % 10) = d at *
      have hz1 : ¬ 9223372036854775807 < (⟨#[45]⟩ : ByteArray).size + y.size := by show ¬ 9223372036854775807 < 1 + y.size; omega
      have hz : ¬ 9223372036854775807 < ((⟨#[45]⟩ : ByteArray) ++ y).size + (⟨#[d]⟩ : ByteArray).size := by rw [ByteArray.size_append]; show ¬ 9223372036854775807 < 1 + y.size + 1; omega
      clear hit hlen
      go_enter Tryd.func49, Tryd.ntmps49
      go_wp2_with fail
      refine (IH.out _ _ (by first | rfl | omega | simp)).mono ?_
      rintro e w1 ⟨rfl, b1⟩
      have HB1 := Lib.hid b1
      have hz3 : w.heap.size ≤ w1.heap.size := HB1.out.size
      have hc := HC.out w1
      clear b1
      go_wp2_with fail
      go_ret
      exact ⟨ret_str HR.out, HB1.out.alloc hz3 _⟩
  · obtain ⟨u, rfl⟩ : ∃ u : Nat, x = (u : Int) := ⟨x.toNat, by omega⟩
    have hit : Go.Lib.itoa (u : Int) = Go.Lib.decDigits u := by unfold Go.Lib.itoa; rw [if_neg hn]; rfl
    rw [hit]
    exact rDigits_pos u u _ w (Nat.le_refl _) (by omega) rfl
end Go.Proofs.YtnkdppbpcinjhaaDoor
