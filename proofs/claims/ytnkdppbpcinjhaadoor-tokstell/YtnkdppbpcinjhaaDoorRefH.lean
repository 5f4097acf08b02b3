/- The verifier's second writing: the token at a place is the one that the mathematics names. -/
import Derived.Test.YtnkdppbpcinjhaaDoorRefG
set_option maxRecDepth 20000
namespace Go.Proofs.YtnkdppbpcinjhaaDoor
open Go.RowKit
theorem ext_take (s : ByteArray) (p k : Nat) : s.extract p (p + k) = ⟨((Wn.sfx s p).take k).toArray⟩ := by
  rw [Wn.extract_sfx]; congr 3; omega
theorem rnext_one (s : ByteArray) (i : Nat) (x : Int) (w : World) (hs : s.size ≤ 4611686018427387000) (hi : i < s.size) (hx : x = (i : Int)) (hcm : Wn.commentBegins (Wn.sfx s i) = false) (t : Wn.Tok) (n : Nat) (h : Wn.one (Wn.sfx s i) = (t, n)) :
    Calls Tryd.prog 41 #[.string s, .int .i64 x] w fun e w' => e = .returned (.tuple #[tokV t, .int .i64 ((i + n : Nat) : Int)]) ∧ Below w.heap.size w w' := by
  have ehd := Wn.hd_in s i hi
  unfold Wn.one at h
  cases hb : Wn.blank (Wn.sfx s i)
  · rw [if_neg (by rw [hb]; decide)] at h
    cases hst : Wn.strLen (Wn.sfx s i) with
    | some k =>
      rw [hst] at h
      dsimp only at h
      simp only [Prod.mk.injEq] at h
      obtain ⟨rfl, rfl⟩ := h
      have hq : Wn.quote (Wn.sfx s i) = true := by
        cases hq : Wn.quote (Wn.sfx s i)
        · unfold Wn.strLen at hst; rw [hq] at hst; cases hst
        · rfl
      have hk : Wn.quoteLen (Wn.hd (Wn.sfx s i)) (Wn.sfx s (i + 1)) = some k := by unfold Wn.strLen at hst; rw [hq, if_pos rfl, Wn.sfx_drop] at hst; exact hst
      refine (rnext_str s i x w hs hi hx (i + 1 + k) hq k hk rfl).mono fun e w' ⟨he, hB⟩ => ⟨?_, hB⟩
      rw [he, ext_take, Wn.sfx_drop, ehd]
      unfold tokV
      simp; omega
    | none =>
      rw [hst] at h
      dsimp only at h
      cases h35 : (Wn.hd (Wn.sfx s i) == 35 && Wn.nameByte ((Wn.sfx s i).drop 1))
      · rw [if_neg (by rw [h35]; decide)] at h
        cases h64 : (Wn.hd (Wn.sfx s i) == 64 && Wn.nameBegins ((Wn.sfx s i).drop 1))
        · rw [if_neg (by rw [h64]; decide)] at h
          cases hnum : Wn.numberBegins (Wn.sfx s i)
          · rw [if_neg (by rw [hnum]; decide)] at h
            cases hnb : Wn.nameBegins (Wn.sfx s i)
            · rw [if_neg (by rw [hnb]; decide)] at h
              simp only [Prod.mk.injEq] at h
              obtain ⟨rfl, rfl⟩ := h
              rw [Wn.sfx_drop] at h35 h64
              refine (rnext_delim s i x w hs hi hx hcm hb hst (fun e => by rw [e] at h35; simpa using h35) (fun e => by rw [e] at h64; simpa using h64) hnum hnb).mono fun e w' ⟨he, hB⟩ => ⟨?_, hB⟩
              rw [he, ext_take]
              unfold tokV
              simp
            · rw [if_pos hnb] at h
              unfold Wn.word at h
              rw [Wn.sfx_drop] at h
              refine (rnext_word s i x w hs hi hx _ _ hnb hnum rfl rfl).mono fun e w' ⟨he, hB⟩ => ⟨?_, hB⟩
              rw [he, ext_take]
              cases hp : (Wn.hd (Wn.sfx s (i + Wn.runLen Wn.nameByte (Wn.sfx s i))) == 40)
              · rw [hp, if_neg (by decide)] at h
                simp only [Prod.mk.injEq] at h
                obtain ⟨rfl, rfl⟩ := h
                unfold tokV; simp
              · rw [hp, if_pos rfl] at h
                simp only [Prod.mk.injEq] at h
                obtain ⟨rfl, rfl⟩ := h
                unfold tokV; simp; omega
          · rw [if_pos hnum] at h
            unfold Wn.number at h
            unfold Wn.numberBegins at hnum
            rw [Wn.sfx_drop] at hnum
            rw [ehd] at h hnum
            cases hneg : ((s[i].toNat : Int) == 45)
            · rw [hneg, if_neg (by decide)] at h
              rw [hneg] at hnum
              have hd : Wn.digit (Wn.sfx s i) = true := by simpa using hnum
              unfold Wn.numTok at h
              simp only [Prod.mk.injEq] at h
              obtain ⟨rfl, rfl⟩ := h
              refine (rnext_num s i x w hs hi hx false hneg i _ _ _ rfl rfl rfl rfl hd).mono fun e w' ⟨he, hB⟩ => ⟨?_, hB⟩
              rw [he, ext_take, Wn.sfx_drop]
              unfold tokV; simp; omega
            · rw [hneg, if_pos rfl] at h
              have hd : Wn.digit (Wn.sfx s (i + 1)) = true := by
                rw [hneg] at hnum
                have : Wn.digit (Wn.sfx s i) = false := by unfold Wn.digit; rw [ehd]; have e : (s[i].toNat : Int) = 45 := by simpa using hneg
                                                           rw [e]; rfl
                rw [this] at hnum; simpa using hnum
              unfold Wn.numTok at h
              simp only [Prod.mk.injEq] at h
              obtain ⟨rfl, rfl⟩ := h
              refine (rnext_num s i x w hs hi hx true hneg (i + 1) _ _ _ rfl rfl rfl rfl hd).mono fun e w' ⟨he, hB⟩ => ⟨?_, hB⟩
              rw [he, ext_take, Wn.sfx_drop, Wn.sfx_drop]
              unfold tokV; simp [Nat.add_assoc]
        · rw [if_pos h64] at h
          unfold Wn.named at h
          simp only [Prod.mk.injEq] at h
          obtain ⟨rfl, rfl⟩ := h
          rw [Wn.sfx_drop, Bool.and_eq_true, ehd] at h64
          refine (rnext_at s i x w hs hi hx _ (by simpa using h64.1) h64.2 rfl).mono fun e w' ⟨he, hB⟩ => ⟨?_, hB⟩
          rw [he, ext_take, Wn.sfx_drop]
          unfold tokV; simp; omega
      · rw [if_pos h35] at h
        unfold Wn.named at h
        simp only [Prod.mk.injEq] at h
        obtain ⟨rfl, rfl⟩ := h
        rw [Wn.sfx_drop, Bool.and_eq_true, ehd] at h35
        refine (rnext_hash s i x w hs hi hx _ (by simpa using h35.1) h35.2 rfl).mono fun e w' ⟨he, hB⟩ => ⟨?_, hB⟩
        rw [he, ext_take, Wn.sfx_drop]
        unfold tokV; simp; omega
  · rw [if_pos hb] at h
    simp only [Prod.mk.injEq] at h
    obtain ⟨rfl, rfl⟩ := h
    exact (rnext_white s i x w hs hi hx _ hb rfl).mono fun e w' ⟨he, hB⟩ => ⟨he, hB⟩
end Go.Proofs.YtnkdppbpcinjhaaDoor
