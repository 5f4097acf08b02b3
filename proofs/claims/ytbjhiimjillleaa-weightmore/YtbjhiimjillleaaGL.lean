/- The verifier's second writing: all tokens of a text. The verifier's second writing: the digits of a number. The verifier's second writing: the text of a token. The verifier's second writing: may a token be? The verifier's second writing: may all of some tokens be? -/
import Derived.Test.YtbjhiimjillleaaGK
import Derived.Test.YtbjhiimjillleaaGH
import Derived.Laws.IdiomStrings
set_option maxRecDepth 20000
namespace Go.Proofs.Ytbjhiimjillleaa
open Go.RowKit
theorem Src.mk1 (w : World) (g : Nat) (hg : g = w.heap.size) (t : Wn.Tok) : Src (w.alloc (.cells #[.int .i64 t.1, .string (Wn.str t.2.1), .int .i64 t.2.2] 75)) (.slice (some ⟨g, 0, none⟩) 1 1) [t] := by
  subst hg
  refine .inr ⟨w.heap.size, 0, 1, rfl, Nat.le_refl _, by unfold maxLen; omega, fun i u hu => ?_⟩
  have hi : i = 0 := by have := (List.getElem?_eq_some_iff.1 hu).1; simpa using this
  subst hi
  obtain rfl : t = u := by simpa using hu
  exact box1 w t
theorem valid_pos {t : Wn.Tok} (h : Wn.Valid t) : ¬ t.1 = 0 := by
  rcases h with ⟨x, _, rfl⟩ | ⟨x, _, rfl⟩ | ⟨x, _, rfl⟩ | ⟨x, _, _, rfl⟩ | ⟨x, n, _, _, _, rfl⟩ | ⟨x, q, hq, _, rfl⟩ | ⟨c, _, rfl⟩ | rfl <;> simp
set_option maxRecDepth 100000 in
set_option maxHeartbeats 2000000 in
theorem rAll (s : ByteArray) (L : List Wn.Tok) (w : World) (hs : s.size ≤ 1000000) (hL : Wn.lex s.data.toList = L) :
    Calls Try.prog 29 #[.string s] w fun e w' => ∃ v, e = .returned v ∧ Src w' v L ∧ Below w.heap.size w w' := by
  have hs' : s.size ≤ 4611686018427387000 := by omega
  have HL : Hid (Wn.lex (Wn.sfx s 0) = L) := Lib.hid (by rw [← hL]; rfl)
  clear hL
  have HO0 : Hid ((w.alloc (Obj.cells #[] 75)).ownsRow w.heap.size 75 3 (.slice (some ⟨w.heap.size, 0, none⟩) 0 0) ([] : List Wn.Tok).length (toksCells [])) := Lib.hid (World.ownsRow_made w #[] 0 (Nat.le_refl _) (by unfold maxLen; omega) rfl)
  have HB0 : Hid (Below w.heap.size w (w.alloc (Obj.cells #[] 75))) := Lib.hid ((Below.refl _ _).alloc (Nat.le_refl _) _)
  go_enter Try.func29, Try.ntmps29
  go_wp2_with fail
  go_loopw [3, 4] (fun v3 v4 wr => ∃ (k : Nat) (acc : List Wn.Tok), k ≤ s.size ∧ acc.length ≤ k ∧ v4 = .int .i64 (k : Int) ∧ Hid (wr.ownsRow w.heap.size 75 3 v3 acc.length (toksCells acc)) ∧ Hid (Below w.heap.size w wr) ∧ Hid (acc ++ Wn.lex (Wn.sfx s k) = L)) (fun _ v4 _ => s.size - (intOf v4).toNat)
  case atStart => exact ⟨0, [], by omega, by simp, rfl, HO0, HB0, Lib.hid (by simpa using HL.out)⟩
  case round =>
    obtain ⟨k, acc, hk, hacc, rfl, HO, HB, HA⟩ := hrel
    have hzr : w.heap.size ≤ wr.heap.size := HB.out.size
    by_cases hlt : k < s.size
    · cases hcm : Wn.commentBegins (Wn.sfx s k)
      · have hne : Wn.sfx s k ≠ [] := by rw [Wn.sfx_in s k hlt]; simp
        have hpos := Wn.one_pos hne
        have hval := Wn.one_valid hne
        obtain ⟨t, n, ho⟩ : ∃ t n, Wn.one (Wn.sfx s k) = (t, n) := ⟨_, _, rfl⟩
        rw [ho] at hpos hval
        rw [Wn.sfx_length] at hpos
        dsimp only at hpos hval
        have hstep := Wn.lex_step hne hcm ho
        rw [Wn.sfx_drop] at hstep
        have HA2 : Hid (acc ++ [t] ++ Wn.lex (Wn.sfx s (k + n)) = L) := Lib.hid (by rw [← HA.out, hstep]; simp)
        have ht0 := valid_pos hval
        have ht0' : (t.1 == 0) = false := by simpa using ht0
        have qn := fun w => rnext_one s k (k : Int) w hs' hlt rfl hcm t n ho
        rw [tokV_str] at qn
        have QN := Lib.hid qn
        have MK := Lib.hid (fun (w : World) g hg => Src.mk1 w g hg t)
        obtain ⟨hp1, hp2⟩ := hpos
        clear qn hstep ho hval hne hcm
        generalize hx : Wn.str t.2.1 = x at *
        clear hx
        go_wp2_with fail
        refine (QN.out _).mono ?_
        rintro e w1 ⟨rfl, b1⟩
        have HO1 := Lib.hid (ownsRow_later HO.out b1)
        have HB1 := Lib.hid (HB.out.trans (b1.mono hzr))
        have hz1 : w.heap.size ≤ w1.heap.size := HB1.out.size
        clear b1 HO HB
        go_wp2_with (at_builtin; refine append_toks rfl _ _ rfl w.heap.size u3 _ acc [t] rfl rfl (ownsRow_later HO1.out (by (repeat (first | with_reducible exact Below.refl _ _ | (with_reducible refine Below.drew ?_) | ((with_reducible refine Below.alloc ?_ ?_ _); rotate_left; (focus (first | omega | (simp <;> omega)))))))) (MK.out _ _ (by simp)) (by simp; omega) (by simp; omega) ?_; intro v5 w5 hown5 hgrow5; (have HO5 := Lib.hid hown5); (have HB5 : Hid (Below w.heap.size w w5) := Lib.hid (Below.grown (HB1.out.trans (Below.mono (B := w1.heap.size) (by (repeat (first | with_reducible exact Below.refl _ _ | (with_reducible refine Below.drew ?_) | ((with_reducible refine Below.alloc ?_ ?_ _); rotate_left; (focus (first | omega | (simp <;> omega))))))) hz1)) hgrow5 (by simp; omega) (fun k hk => (HO1.out.lt k hk).1))); clear hown5 hgrow5)
        go_round
        case rel => exact ⟨k + n, acc ++ [t], by omega, by simp; omega, by go_num, HO5, HB5, HA2⟩
        case measure => simp [intOf]; omega
      · have hcb := hcm
        unfold Wn.commentBegins at hcb
        rw [Wn.sfx_drop, Bool.and_eq_true, Wn.hd_in s k hlt] at hcb
        have hlt1 : k + 1 < s.size := by
          apply Classical.byContradiction; intro h
          have := hcb.2
          rw [Wn.hd_out s (k + 1) (by omega)] at this; exact absurd this (by decide)
        rw [Wn.hd_in s (k + 1) hlt1] at hcb
        have hle := Wn.closeLen_le (Wn.sfx s (k + 2))
        rw [Wn.sfx_length] at hle
        have hlc := Wn.lex_comment hcm
        rw [Wn.sfx_drop, Wn.sfx_drop] at hlc
        obtain ⟨E, hE⟩ : ∃ E, k + 2 + Wn.closeLen (Wn.sfx s (k + 2)) = E := ⟨_, rfl⟩
        have hE2 : E ≤ s.size := by omega
        have hE1 : k < E := by omega
        have HA2 : Hid (acc ++ Wn.lex (Wn.sfx s E) = L) := Lib.hid (by rw [← HA.out, hlc, ← hE, Nat.add_assoc])
        have QN := Lib.hid (fun w => rnext_comment s k (k : Int) w hs' hlt1 rfl E hcb.1 hcb.2 hE)
        clear hcb hle hlc hE hcm
        go_wp2_with fail
        refine (QN.out _).mono ?_
        rintro e w1 ⟨rfl, b1⟩
        have HO1 := Lib.hid (ownsRow_later HO.out b1)
        have HB1 := Lib.hid (HB.out.trans (b1.mono hzr))
        have hz1 : w.heap.size ≤ w1.heap.size := HB1.out.size
        clear b1 HO HB
        go_wp2_with fail
        go_round
        case rel => exact ⟨E, acc, by omega, by omega, by go_num, Lib.hid (ownsRow_later HO1.out (by (repeat (first | with_reducible exact Below.refl _ _ | (with_reducible refine Below.drew ?_) | ((with_reducible refine Below.alloc ?_ ?_ _); rotate_left; (focus (first | omega | (simp <;> omega)))))))), Lib.hid (HB1.out.alloc hz1 _), HA2⟩
        case measure => simp [intOf]; omega
    · have hk' : k = s.size := by omega
      have HA2 : Hid (acc = L) := Lib.hid (by rw [← HA.out, Wn.sfx_out s k (by omega)]; simp [Wn.lex, Wn.lexF])
      go_wp2_with fail
      go_ret
      refine ⟨_, rfl, ?_, HB.out⟩
      rw [← HA2.out]
      exact Src.ofRow HO.out
end Go.Proofs.Ytbjhiimjillleaa
set_option maxRecDepth 20000
namespace Go.Proofs.Ytbjhiimjillleaa
open Go.RowKit
theorem conv1 (w : World) (d : UInt8) (n : Int) (hn : n = (d.toNat : Int)) : (convert 100 9 (.slice (some ⟨w.heap.size, 0, none⟩) 1 1)).run Try.prog (w.alloc (.cells #[.int .u8 n] 5)) = .ok (.string ⟨#[d]⟩) (w.alloc (.cells #[.int .u8 n] 5)) := by
  refine run_convert_bytes_back (P := Try.prog) _ 100 9 5 ⟨w.heap.size, 0, none⟩ 1 [d] Try.underlying100 Try.underlying5 Try.underlying9 (fun j hj => ?_)
  have hj0 : j = 0 := by simpa using hj
  subst hj0
  rw [addr_add, cell_of_block (heap_alloc_new w _), hn]
  rfl
theorem digit_nat (u : Nat) : (48 + (u : Int) % 10) = ((UInt8.ofNat (48 + u % 10)).toNat : Int) := by
  rw [UInt8.toNat_ofNat']
  omega
end Go.Proofs.Ytbjhiimjillleaa
set_option maxRecDepth 20000
namespace Go.Proofs.Ytbjhiimjillleaa
open Go.RowKit
end Go.Proofs.Ytbjhiimjillleaa
set_option maxRecDepth 20000
namespace Go.Proofs.Ytbjhiimjillleaa
open Go.RowKit
end Go.Proofs.Ytbjhiimjillleaa
set_option maxRecDepth 20000
namespace Go.Proofs.Ytbjhiimjillleaa
open Go.RowKit
theorem all_step {l : List Wn.Tok} {j : Nat} {t : Wn.Tok} (h : l[j]? = some t) : (l.drop j).all Wn.may = (Wn.may t && (l.drop (j + 1)).all Wn.may) := by
  have hj : j < l.length := (List.getElem?_eq_some_iff.1 h).1
  rw [List.drop_eq_getElem_cons hj, List.all_cons]
  rw [List.getElem?_eq_getElem hj, Option.some.injEq] at h
  rw [h]
end Go.Proofs.Ytbjhiimjillleaa
