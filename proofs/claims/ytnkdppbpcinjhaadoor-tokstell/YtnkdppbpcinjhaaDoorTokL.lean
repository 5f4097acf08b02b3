/- What the scanner's next token is, whatever it is. -/
import Derived.Test.YtnkdppbpcinjhaaDoorTokK
set_option maxRecDepth 20000
namespace Go.Proofs.YtnkdppbpcinjhaaDoor
open Go.RowKit
theorem take_sub (s : ByteArray) (q n : Nat) : s.extract q (q + n) = ⟨((Wn.sfx s q).take n).toArray⟩ := by
  rw [Wn.extract_sfx, Nat.add_sub_cancel_left]
theorem Left.to {b : Nat} {s : ByteArray} {q q' : Nat} {v v' : Value} {w : World} (hq : q = q') (hv : v = v') (e : Ending) (w' : World) (h : Left b s q v w e w') : Left b s q' v' w e w' := by
  subst hq hv; exact h
theorem tok_eq (k : Int) (x : ByteArray) (l : List UInt8) (n : Int) (h : x = ⟨l.toArray⟩) : Value.tuple #[.agg #[.int .i64 k, .string x, .int .i64 n], .bool true] = .tuple #[tokV (k, l, n), .bool true] := by
  subst h; rfl
theorem next_any (b : Nat) (s : ByteArray) (p q : Nat) (w : World) (hs : s.size ≤ 4611686018427387000) (h : ScanAt w b s p) (hp : p ≤ s.size) (hq : p + Wn.skip (Wn.sfx s p) = q) (hq1 : q < s.size) :
    Calls Tryd.prog 40 #[.pointer (some ⟨b, 0, none⟩)] w (Left b s (q + (Wn.one (Wn.sfx s q)).2) (.tuple #[tokV (Wn.one (Wn.sfx s q)).1, .bool true]) w) := by
  unfold Wn.one
  cases hb : Wn.blank (Wn.sfx s q)
  · rw [if_neg (by decide)]
    cases hk : Wn.strLen (Wn.sfx s q) with
    | some k =>
      dsimp only
      have hk2 : q + 1 + k < s.size := by
        unfold Wn.strLen at hk
        split at hk
        · have := Wn.quoteLen_lt _ _ _ hk
          rw [Wn.sfx_drop, Wn.sfx_length] at this
          omega
        · cases hk
      refine (next_str b s p q w hs h hp hq hq1 k hb hk hk2).mono (Left.to (by omega) (tok_eq _ _ _ _ ?_))
      rw [take_sub, Wn.sfx_drop]
    | none =>
      dsimp only
      cases h35 : (Wn.hd (Wn.sfx s q) == 35)
      · rw [if_neg (by simp)]
        cases h64 : (Wn.hd (Wn.sfx s q) == 64)
        · rw [if_neg (by simp)]
          cases hnu : Wn.numberBegins (Wn.sfx s q)
          · rw [if_neg (by decide)]
            cases hn0 : Wn.nameBegins (Wn.sfx s q)
            · rw [if_neg (by decide)]
              refine (next_delim b s p q w hs h hp hq hq1 hb hk h35 h64 hnu hn0).mono (Left.to rfl (tok_eq _ _ _ _ ?_))
              rw [take_sub]
            · rw [if_pos rfl]
              unfold Wn.word
              rw [Wn.sfx_drop]
              by_cases h40 : (Wn.hd (Wn.sfx s (q + Wn.runLen Wn.nameByte (Wn.sfx s q))) == 40) = true
              · rw [if_pos h40]
                refine (next_word b s p q w hs h hp hq hq1 hb hk h35 h64 hnu hn0 _ rfl).mono ?_
                rw [if_pos h40, if_pos h40]
                exact Left.to (by omega) (tok_eq _ _ _ _ (take_sub ..))
              · rw [if_neg h40]
                refine (next_word b s p q w hs h hp hq hq1 hb hk h35 h64 hnu hn0 _ rfl).mono ?_
                rw [if_neg h40, if_neg h40]
                exact Left.to rfl (tok_eq _ _ _ _ (take_sub ..))
          · rw [if_pos rfl]
            unfold Wn.number Wn.numTok
            by_cases h45 : (Wn.hd (Wn.sfx s q) == 45) = true
            · rw [if_pos h45, if_pos rfl, Wn.sfx_drop, Wn.sfx_drop]
              refine (next_minus b s p q w hs h hp hq hq1 hb hk hnu _ _ (by simpa using h45) rfl rfl).mono ?_
              refine Left.to ?_ (tok_eq _ _ _ _ ?_)
              · rw [Nat.add_assoc q 1]; omega
              · rw [take_sub, Nat.add_assoc q 1]
            · rw [if_neg h45, if_neg (by decide), Wn.sfx_drop]
              refine (next_plus b s p q w hs h hp hq hq1 hb hk h35 h64 hnu _ _ (by simpa using h45) rfl rfl).mono ?_
              refine Left.to (by omega) (tok_eq _ _ _ _ (take_sub ..))
        · have h64' : Wn.hd (Wn.sfx s q) = 64 := by simpa using h64
          cases hn1 : Wn.nameBegins ((Wn.sfx s q).drop 1)
          · rw [if_neg (by simp)]
            rw [Wn.sfx_drop] at hn1
            have hnu : Wn.numberBegins (Wn.sfx s q) = false := by unfold Wn.numberBegins Wn.digit; rw [h64']; simp
            have hn0 : Wn.nameBegins (Wn.sfx s q) = false := by unfold Wn.nameBegins Wn.nameStart; rw [h64']; simp
            rw [hnu, hn0, if_neg (by decide), if_neg (by decide)]
            refine (next_delim64 b s p q w hs h hp hq hq1 hb hk h64' hn1 hnu hn0).mono (Left.to rfl (tok_eq _ _ _ _ ?_))
            rw [take_sub]
          · rw [if_pos (by simp)]
            unfold Wn.named
            rw [Wn.sfx_drop] at hn1 ⊢
            refine (next_at b s p q w hs h hp hq hq1 hb hk _ h64' hn1 rfl).mono (Left.to (by omega) (tok_eq _ _ _ _ (take_sub ..)))
      · have h35' : Wn.hd (Wn.sfx s q) = 35 := by simpa using h35
        cases hnb : Wn.nameByte ((Wn.sfx s q).drop 1)
        · rw [if_neg (by simp)]
          rw [Wn.sfx_drop] at hnb
          have hnu : Wn.numberBegins (Wn.sfx s q) = false := by unfold Wn.numberBegins Wn.digit; rw [h35']; simp
          have hn0 : Wn.nameBegins (Wn.sfx s q) = false := by unfold Wn.nameBegins Wn.nameStart; rw [h35']; simp
          rw [hnu, hn0, if_neg (by simp [h35']), if_neg (by decide), if_neg (by decide)]
          refine (next_delim35 b s p q w hs h hp hq hq1 hb hk h35' hnb hnu hn0).mono (Left.to rfl (tok_eq _ _ _ _ ?_))
          rw [take_sub]
        · rw [if_pos (by simp)]
          unfold Wn.named
          rw [Wn.sfx_drop] at hnb ⊢
          refine (next_hash b s p q w hs h hp hq hq1 hb hk _ h35' hnb rfl).mono (Left.to (by omega) (tok_eq _ _ _ _ (take_sub ..)))
  · rw [if_pos rfl]
    exact (next_white b s p q w hs h hp hq hq1 hb).mono (Left.to rfl rfl)
end Go.Proofs.YtnkdppbpcinjhaaDoor
