/- ToksBoth: for every two texts the law answers true, and nothing that was there has turned. -/
import Derived.Test.YtjhmljgmckadnaaDoorTokY
import Derived.Test.YtjhmljgmckadnaaDoorTokMa
namespace Go.Proofs.YtjhmljgmckadnaaDoor
open Go.RowKit
theorem both_big (s t : ByteArray) (w : World) (ht : Tab w) (hs : s.size ≤ maxLen) (hT : t.size ≤ maxLen) (hbig : ¬ (s.size ≤ 1000 ∧ t.size ≤ 1000)) :
    Calls Tryd.prog 6 #[.string s, .string t] w fun e w' => e = .returned (.bool true) ∧ Below w.heap.size w w' := by
  unfold maxLen at hs hT
  have HT := Lib.hid ht; clear ht
  by_cases h1 : 1000 < s.size
  · clear hbig
    go_enter Tryd.func6, Tryd.ntmps6
    go_wp2_with fail
    refine (fixed_any _ HT.out).mono ?_
    rintro e w1 ⟨rfl, b1⟩
    have HB := Lib.hid b1; clear b1
    go_wp2_with fail
    refine (fixed_any _ (HT.out.below HB.out)).mono ?_
    rintro e w2 ⟨rfl, b2⟩
    have HB2 := Lib.hid (HB.out.trans (b2.mono HB.out.size)); clear b2
    go_wp2_with fail
    go_ret
    exact ⟨rfl, HB2.out⟩
  · have h2 : 1000 < t.size := by omega
    clear hbig
    go_enter Tryd.func6, Tryd.ntmps6
    go_wp2_with fail
    refine (fixed_any _ HT.out).mono ?_
    rintro e w1 ⟨rfl, b1⟩
    have HB := Lib.hid b1; clear b1
    go_wp2_with fail
    refine (fixed_any _ (HT.out.below HB.out)).mono ?_
    rintro e w2 ⟨rfl, b2⟩
    have HB2 := Lib.hid (HB.out.trans (b2.mono HB.out.size)); clear b2
    go_wp2_with fail
    go_ret
    exact ⟨rfl, HB2.out⟩
theorem Src.form {w : World} {u : Value} {m : List Wn.Tok} (h : Src w u m) : ∃ ao n cap, u = .slice ao n cap ∧ n = m.length := by
  rcases h with ⟨rfl, rfl⟩ | ⟨b, off, cap, rfl, _⟩
  · exact ⟨_, _, _, rfl, rfl⟩
  · exact ⟨_, _, _, rfl, rfl⟩
set_option maxRecDepth 100000 in
set_option maxHeartbeats 2000000 in
theorem both_small (s t : ByteArray) (w : World) (ht : Tab w) (hs : s.size ≤ 1000) (hT : t.size ≤ 1000) :
    Calls Tryd.prog 6 #[.string s, .string t] w fun e w' => e = .returned (.bool true) ∧ Below w.heap.size w w' := by
  have HT := Lib.hid ht; clear ht
  generalize hA : Wn.lex (s.data.toList ++ [10, 42, 47, 10]) = A
  generalize hB : Wn.lex t.data.toList = B
  have hC : Wn.lex (s.data.toList ++ [10, 42, 47, 10, 47, 42, 120, 42, 47] ++ t.data.toList) = A ++ B := by rw [Wn.lex_both, hA, hB]
  have lA : A.length ≤ 1004 := by rw [← hA]; have := Wn.lex_length (s.data.toList ++ [10, 42, 47, 10]); simp at this; omega
  have lB : B.length ≤ 1000 := by rw [← hB]; have := Wn.lex_length t.data.toList; simp at this; omega
  have qa := fun w => All_src (s ++ ⟨#[10, 42, 47, 10]⟩) A w (by rw [ByteArray.size_append]; show s.size + 4 ≤ _; omega) (by rw [← hA]; simp [ByteArray.data_append])
  have qb := fun w => All_src t B w (by omega) hB
  have qc := fun w => All_src (s ++ ⟨#[10, 42, 47, 10, 47, 42, 120, 42, 47]⟩ ++ t) (A ++ B) w (by rw [ByteArray.size_append, ByteArray.size_append]; show s.size + 9 + t.size ≤ _; omega) (by rw [← hC]; simp [ByteArray.data_append])
  clear hA hB hC
  have QA := Lib.hid qa
  have QB := Lib.hid qb
  have QC := Lib.hid qc
  clear qa qb qc
  go_enter Tryd.func6, Tryd.ntmps6
  go_wp2_with fail
  refine (fixed_any _ HT.out).mono ?_
  rintro e w1 ⟨rfl, b1⟩
  have HB1 := Lib.hid b1; clear b1
  go_wp2_with fail
  refine (QA.out _).mono ?_
  rintro e w2 ⟨va, rfl, ha, b2⟩
  have SA2 := Lib.hid ha
  have HB2 := Lib.hid (HB1.out.trans (b2.mono HB1.out.size)); clear b2 ha
  go_wp2_with fail
  refine (QB.out _).mono ?_
  rintro e w3 ⟨vb, rfl, hb, b3⟩
  have SA3 := Lib.hid (SA2.out.below b3)
  have SB3 := Lib.hid hb
  have HB3 := Lib.hid (HB2.out.trans (b3.mono HB2.out.size)); clear b3 hb SA2
  go_wp2_with fail
  refine (QC.out _).mono ?_
  rintro e w4 ⟨vc, rfl, hc, b4⟩
  have SA4 := Lib.hid (SA3.out.below b4)
  have SB4 := Lib.hid (SB3.out.below b4)
  have SC4 := Lib.hid hc
  have HB4 := Lib.hid (HB3.out.trans (b4.mono HB3.out.size))
  have hz4 : w.heap.size ≤ w4.heap.size := HB4.out.size
  clear b4 hc SA3 SB3 HB3 HB2 HB1 QA QB QC
  obtain ⟨ao, nA, acap, rfl, hnA⟩ := SA4.out.form
  obtain ⟨bo, nB, bcap, rfl, hnB⟩ := SB4.out.form
  obtain ⟨co, nC, ccap, rfl, hnC⟩ := SC4.out.form
  have hnCA : nC = nA + nB := by rw [hnA, hnB, hnC, List.length_append]
  have hA1 : nA ≤ 1004 := by omega
  have hB1 : nB ≤ 1000 := by omega
  have hAC : nA ≤ nC := by omega
  have hC1 : nC ≤ 2004 := by omega
  have HLA := Lib.hid lA
  have HLB := Lib.hid lB
  clear hnCA hnA hnC lA lB
  have hns : ¬ 1000 < (s.size : Int) := by omega
  cases B with
  | nil =>
    obtain rfl : nB = 0 := hnB
    go_wp2_with (first
      | (at_builtin; refine append_toks rfl _ _ rfl w4.heap.size v5 _ A [] rfl rfl HO5.out SB5.out (by have := HLA.out; have := HLB.out; omega) hz5 ?_; intro v6 w6 hown6 hgrow6; (have HO6 := Lib.hid hown6); (have HB6 : Hid (Below w4.heap.size w4 w6) := Lib.hid (Below.grown HB5.out hgrow6 hz5 (fun k hk => (HO5.out.lt k hk).1))); clear hown6 hgrow6)
      | (at_builtin; refine append_toks rfl _ _ rfl w4.heap.size (.slice (some ⟨w4.heap.size, 0, none⟩) 0 0) _ [] A rfl rfl (World.ownsRow_made w4 #[] 0 (Nat.le_refl _) (by unfold maxLen; omega) rfl) (SA4.out.below ((Below.refl _ _).alloc (Nat.le_refl _) _)) (by have := HLA.out; simp; omega) (by simp) ?_; intro v5 w5 hown5 hgrow5; (have HO5 : Hid (w5.ownsRow w4.heap.size 24 3 v5 A.length (toksCells A)) := Lib.hid hown5); (have HB5 : Hid (Below w4.heap.size w4 w5) := Lib.hid (Below.grown ((Below.refl _ _).alloc (Nat.le_refl _) _) hgrow5 (by simp) (fun k hk => by simp [Value.ownBlock] at hk; omega))); (have hz5 : w4.heap.size ≤ w5.heap.size := HB5.out.size); (have SB5 := Lib.hid (SB4.out.below HB5.out)); clear hown5 hgrow5)
      | (go_at_call 11; (refine (Same_b _ _ (A ++ []) (A ++ []) true _ (by simp) (SC4.out.below HB6.out).toks (Toks.ofRow HO6.out)).mono ?_); rintro e w7 ⟨rfl, b7⟩; (have HB7 : Hid (Below w.heap.size w w7) := Lib.hid (HB4.out.trans ((HB6.out.trans (b7.mono HB6.out.size)).mono hz4))); clear b7))
    go_ret
    exact ⟨rfl, HB7.out⟩
  | cons t0 B' =>
    have hB0 : 0 < nB := by rw [hnB]; simp
    clear hnB
    have hbo : ∃ b off, bo = some ⟨b, off, none⟩ ∧ w4.cell? ⟨b, off, none⟩ = some (.int .i64 t0.1) := by
      rcases SB4.out with ⟨_, h⟩ | ⟨b, off, cap, h, _, _, h3⟩
      · cases h
      · simp only [Value.slice.injEq] at h
        exact ⟨b, off, h.1, by have := (h3 0 t0 rfl).c0; simpa using this⟩
    obtain ⟨bb, boff, rfl, hk⟩ := hbo
    have HK := Lib.hid hk
    have hkl : bb < w4.heap.size := World.block_lt_of_cell? w4 ⟨bb, boff, none⟩ hk
    clear hk
    by_cases h8 : (t0.1 == 8) = true
    · go_wp2_with (first
        | (at_builtin; refine append_toks rfl _ _ rfl w4.heap.size (.slice (some ⟨w4.heap.size, 0, none⟩) 0 0) _ [] A rfl rfl (World.ownsRow_made w4 #[] 0 (Nat.le_refl _) (by unfold maxLen; omega) rfl) (SA4.out.below ((Below.refl _ _).alloc (Nat.le_refl _) _)) (by have := HLA.out; simp; omega) (by simp) ?_; intro v5 w5 hown5 hgrow5; (have HO5 : Hid (w5.ownsRow w4.heap.size 24 3 v5 A.length (toksCells A)) := Lib.hid hown5); (have HB5 : Hid (Below w4.heap.size w4 w5) := Lib.hid (Below.grown ((Below.refl _ _).alloc (Nat.le_refl _) _) hgrow5 (by simp) (fun k hk => by simp [Value.ownBlock] at hk; omega))); (have hz5 : w4.heap.size ≤ w5.heap.size := HB5.out.size); (have SB5 := Lib.hid (SB4.out.below HB5.out)); (have k5 : w5.cell? ⟨bb, boff, none⟩ = some (.int .i64 t0.1) := by rw [HB5.out.cell hkl]; exact HK.out); clear hown5 hgrow5))
      go_ret
      exact ⟨ret_bool (by simp), HB4.out.trans (HB5.out.mono hz4)⟩
    · have h8' : (t0.1 == 8) = false := by simpa using h8
      clear h8
      go_wp2_with (first
        | (at_builtin; refine append_toks rfl _ _ rfl w4.heap.size v5 _ A (t0 :: B') rfl rfl HO5.out SB5.out (by have := HLA.out; have := HLB.out; omega) hz5 ?_; intro v6 w6 hown6 hgrow6; (have HO6 := Lib.hid hown6); (have HB6 : Hid (Below w4.heap.size w4 w6) := Lib.hid (Below.grown HB5.out hgrow6 hz5 (fun k hk => (HO5.out.lt k hk).1))); clear hown6 hgrow6)
        | (at_builtin; refine append_toks rfl _ _ rfl w4.heap.size (.slice (some ⟨w4.heap.size, 0, none⟩) 0 0) _ [] A rfl rfl (World.ownsRow_made w4 #[] 0 (Nat.le_refl _) (by unfold maxLen; omega) rfl) (SA4.out.below ((Below.refl _ _).alloc (Nat.le_refl _) _)) (by have := HLA.out; simp; omega) (by simp) ?_; intro v5 w5 hown5 hgrow5; (have HO5 : Hid (w5.ownsRow w4.heap.size 24 3 v5 A.length (toksCells A)) := Lib.hid hown5); (have HB5 : Hid (Below w4.heap.size w4 w5) := Lib.hid (Below.grown ((Below.refl _ _).alloc (Nat.le_refl _) _) hgrow5 (by simp) (fun k hk => by simp [Value.ownBlock] at hk; omega))); (have hz5 : w4.heap.size ≤ w5.heap.size := HB5.out.size); (have SB5 := Lib.hid (SB4.out.below HB5.out)); (have k5 : w5.cell? ⟨bb, boff, none⟩ = some (.int .i64 t0.1) := by rw [HB5.out.cell hkl]; exact HK.out); clear hown5 hgrow5)
        | (go_at_call 11; (refine (Same_b _ _ (A ++ (t0 :: B')) (A ++ (t0 :: B')) true _ (by simp) (SC4.out.below HB6.out).toks (Toks.ofRow HO6.out)).mono ?_); rintro e w7 ⟨rfl, b7⟩; (have HB7 : Hid (Below w.heap.size w w7) := Lib.hid (HB4.out.trans ((HB6.out.trans (b7.mono HB6.out.size)).mono hz4))); clear b7))
      go_ret
      exact ⟨rfl, HB7.out⟩
end Go.Proofs.YtjhmljgmckadnaaDoor
