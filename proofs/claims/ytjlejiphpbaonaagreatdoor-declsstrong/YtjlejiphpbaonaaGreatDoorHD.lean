/- Rows of bytes; what lower answers, and the verifier's Low. -/
import Derived.Test.YtjlejiphpbaonaaGreatDoorHA
import Derived.Test.YtjlejiphpbaonaaGreatDoorGP
import Derived.Test.YtjlejiphpbaonaaGreatDoorGL
import Derived.Lib.ConvBytes
set_option linter.unusedVariables false
set_option linter.unusedSimpArgs false
set_option maxRecDepth 20000
namespace Wn
theorem lowB_yes {c : UInt8} (h1 : 65 ≤ c.toNat) (h2 : c.toNat ≤ 90) : (lowB c).toNat = c.toNat + 32 := by
  unfold lowB; rw [if_pos ⟨h1, h2⟩, UInt8.toNat_add]; simp; omega
theorem lowB_no {c : UInt8} (h : ¬ (65 ≤ c.toNat ∧ c.toNat ≤ 90)) : lowB c = c := by unfold lowB; rw [if_neg h]
/-- the first i in small letters -/
def lowTo (i : Nat) (l : List UInt8) : List UInt8 := low (l.take i) ++ l.drop i
theorem lowTo_zero (l : List UInt8) : lowTo 0 l = l := by simp [lowTo, low]
theorem lowTo_all {i : Nat} {l : List UInt8} (h : l.length ≤ i) : lowTo i l = low l := by unfold lowTo; rw [List.take_of_length_le h, List.drop_of_length_le h, List.append_nil]
theorem lowTo_length (i : Nat) (l : List UInt8) : (lowTo i l).length = l.length := by simp [lowTo, low]; omega
theorem lowTo_at {i : Nat} {l : List UInt8} (h : i < l.length) : (lowTo i l)[i]'(by rw [lowTo_length]; exact h) = l[i] := by
  unfold lowTo; rw [List.getElem_append_right (by simp [low]; omega)]; simp [low]; congr 1; omega
theorem lowTo_succ {i : Nat} {l : List UInt8} (h : i < l.length) : lowTo (i + 1) l = (lowTo i l).set i (lowB l[i]) := by
  unfold lowTo low
  rw [List.take_succ_eq_append_getElem h, List.map_append, List.drop_eq_getElem_cons h, List.set_append_right _ _ (by simp; omega)]
  simp
  rw [show i - min i l.length = 0 by omega, List.drop_eq_getElem_cons h]; rfl
theorem lowTo_same {i : Nat} {l : List UInt8} (h : i < l.length) (hc : lowB l[i] = l[i]) : lowTo (i + 1) l = lowTo i l := by
  rw [lowTo_succ h, hc]
  apply List.ext_getElem (by simp)
  intro j h1 h2
  rw [List.getElem_set]
  split
  · rename_i e; subst e; exact (lowTo_at h).symm
  · rfl
end Wn
namespace Go.Proofs.YtjlejiphpbaonaaGreatDoor
open Go.RowKit Go.Sort
/-- block n is a row of bytes, of which the first are l -/
def BAt (w : World) (n : Nat) (l : List UInt8) : Prop := ∃ cs : Array Value, w.heap[n]? = some (.cells cs 5 (cs.size, cs.size + 1)) ∧ l.length ≤ cs.size ∧ ∀ j (h : j < l.length), cs[j]? = some (.int .u8 (l[j].toNat : Int))
section
variable {w w' : World} {n : Nat} {l : List UInt8}
theorem BAt.lt (h : BAt w n l) : n < w.heap.size := by obtain ⟨cs, hb, _⟩ := h; exact lt_of_block hb
theorem BAt.cell (h : BAt w n l) {j : Nat} (hj : j < l.length) : w.cell? ⟨n, j, none⟩ = some (.int .u8 (l[j].toNat : Int)) := by
  obtain ⟨cs, hb, _, hc⟩ := h; rw [cell_of_block hb]; exact hc j hj
theorem BAt.frozen (h : BAt w n l) {j : Nat} (hj : j < l.length) : w.frozen? ⟨n, j, none⟩ = false := by
  obtain ⟨cs, hb, hl, _⟩ := h
  simp [World.frozen?, hb]; omega
theorem BAt.set (h : BAt w n l) {j : Nat} (c : UInt8) {x : Int} (hx : x = (c.toNat : Int)) : BAt (w.setCell ⟨n, j, none⟩ (.int .u8 x)) n (l.set j c) := by
  obtain ⟨cs, hb, hl, hc⟩ := h
  refine ⟨cs.setIfInBounds j (.int .u8 x), by simp [World.setCell, Array.getElem?_modify, hb], by simpa using hl, fun i hi => ?_⟩
  rw [List.length_set] at hi
  rw [Array.getElem?_setIfInBounds, List.getElem_set]
  by_cases e : j = i
  · subst e; simp [hx]; omega
  · rw [if_neg e, if_neg e]; exact hc i hi
theorem BAt.below (h : BAt w n l) (hb : Below w.heap.size w w') : BAt w' n l := by obtain ⟨cs, h1, h2⟩ := h; exact ⟨cs, block_lat hb h1, h2⟩
theorem BAt.back (h : BAt w n l) (cap N : Nat) (hN : N = l.length) : (convert 90 9 (.slice (some ⟨n, 0, none⟩) N cap)).run Tryz.prog w = .ok (.string (Wn.str l)) w := by
  subst hN
  exact run_convert_bytes_back (P := Tryz.prog) _ 90 9 5 ⟨n, 0, none⟩ cap l Tryz.underlying90 Tryz.underlying5 Tryz.underlying9 (fun j hj => by rw [addr_add, Nat.zero_add]; exact h.cell hj)
end
/-- a string's bytes in a row of their own -/
theorem bytes_of (s : List UInt8) (w : World) : ∃ C W, (convert 9 90 (.string (Wn.str s))).run Tryz.prog w = .ok (.slice (some ⟨w.heap.size, 0, none⟩) s.length C) W ∧ BAt W w.heap.size s ∧ Below w.heap.size w W ∧ s.length ≤ C := by
  refine ⟨_, _, (by rw [Lib.run_convert_string_bytes (P := Tryz.prog) w 9 90 5 (Wn.str s) Tryz.underlying9 Tryz.underlying90 Tryz.underlying5, Wn.str_size]), ?_, ?_, ?_⟩
  · refine ⟨_, Lib.bytesWorld_at_new w _ _, ?_, fun j hj => ?_⟩
    · unfold Lib.bytesCells; simp [Wn.str]
    · unfold Lib.bytesCells
      rw [Array.getElem?_append_left (by simpa [Wn.str] using hj)]
      simp [Wn.str, hj]
  · refine ⟨?_, ?_, ?_, ?_, fun k hk => Lib.bytesWorld_at_old w _ _ k hk⟩
    · simp [Lib.bytesWorld, World.freeze]; rfl
    · simp [Lib.bytesWorld, World.freeze]
    · simp [Lib.bytesWorld, World.freeze]; rfl
    · rw [Lib.bytesWorld_size]; omega
  · have := grownCap_ge w (Wn.str s).size 0 5; rw [Wn.str_size] at this; simpa [Wn.str_size] using this
set_option maxRecDepth 100000 in
set_option maxHeartbeats 1000000 in
theorem lower_v (s : List UInt8) (w : World) (hs : s.length ≤ 1048576) :
    Calls Tryz.prog 83 #[.string (Wn.str s)] w fun e w' => e = .returned (.string (Wn.str (Wn.low s))) ∧ Below w.heap.size w w' := by
  obtain ⟨C, W, hrun, hB, hW, hC⟩ := bytes_of s w
  have HB := Lib.hid hB
  have HW := Lib.hid hW
  have HLN := Lib.hid (Wn.lowTo_length (l := s))
  clear hB hW
  generalize hn : w.heap.size = n at *
  clear hn
  generalize Wn.str s = x at *
  go_enter Tryz.func83, Tryz.ntmps83
  go_wp2_with fail
  go_loopw [10] (fun v10 wr => ∃ i : Nat, i ≤ s.length ∧ v10 = .int .i64 (i : Int) ∧ Hid (BAt wr n (Wn.lowTo i s)) ∧ Hid (Below n w wr)) (fun v10 _ => s.length - (intOf v10).toNat)
  case atStart => exact ⟨0, Nat.zero_le _, rfl, Lib.hid (by rw [Wn.lowTo_zero]; exact HB.out), HW⟩
  case round =>
    clear hrun
    obtain ⟨i, hi, rfl, HBi, HWi⟩ := hrel
    by_cases hil : i < s.length
    · have hl' : i < (Wn.lowTo i s).length := by rw [HLN.out]; exact hil
      have k0 := HBi.out.cell hl'
      have f0 := HBi.out.frozen hl'
      rw [Wn.lowTo_at hil] at k0
      have hu8 := (s[i]).toNat_lt
      have hi1 : (i : Int) < (s.length : Int) := by omega
      have HSame : Hid (¬ (65 ≤ s[i].toNat ∧ s[i].toNat ≤ 90) → BAt wr n (Wn.lowTo (i + 1) s)) := Lib.hid (fun h => by rw [Wn.lowTo_same hil (Wn.lowB_no h)]; exact HBi.out)
      have HSet : Hid (65 ≤ s[i].toNat → s[i].toNat ≤ 90 → ∀ x : Int, x = (s[i].toNat : Int) + 32 → BAt (wr.setCell ⟨n, i, none⟩ (.int .u8 x)) n (Wn.lowTo (i + 1) s)) := Lib.hid (fun h1 h2 x hx => by rw [Wn.lowTo_succ hil]; exact HBi.out.set _ (by rw [Wn.lowB_yes h1 h2, hx]; rfl))
      clear hl' HBi HB
      generalize s[i].toNat = c at *
      by_cases h65 : 65 ≤ c
      · by_cases h90 : c ≤ 90
        · have h65' : (65 : Int) ≤ (c : Int) := by omega
          have h90' : (c : Int) ≤ 90 := by omega
          go_wp2_with fail
          exact ⟨⟨i + 1, by omega, by go_num, Lib.hid (HSet.out h65 h90 _ (by omega)), Lib.hid (HWi.out.setCell (p := ⟨n, i, none⟩) (Nat.le_refl _) _)⟩, by simp [intOf]; omega⟩
        · have h90' : ¬ (c : Int) ≤ 90 := by omega
          go_wp2_with fail
          exact ⟨⟨i + 1, by omega, by go_num, Lib.hid (HSame.out (fun h => h90 h.2)), HWi⟩, by simp [intOf]; omega⟩
      · have h65' : ¬ (65 : Int) ≤ (c : Int) := by omega
        go_wp2_with fail
        exact ⟨⟨i + 1, by omega, by go_num, Lib.hid (HSame.out (fun h => h65 h.1)), HWi⟩, by simp [intOf]; omega⟩
    · have hback := HBi.out.back C s.length (HLN.out i).symm
      have HE : Hid (Wn.lowTo i s = Wn.low s) := Lib.hid (Wn.lowTo_all (by omega))
      have hi1 : ¬ (i : Int) < (s.length : Int) := by omega
      go_wp2_with fail
      go_ret
      rw [← HE.out]
      exact ⟨rfl, HWi.out⟩
end Go.Proofs.YtjlejiphpbaonaaGreatDoor
