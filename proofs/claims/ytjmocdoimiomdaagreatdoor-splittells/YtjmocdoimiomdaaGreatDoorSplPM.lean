/- Mathematics: the tokens of what was read. -/
import Derived.Test.YtjmocdoimiomdaaGreatDoorGY
import Derived.Test.YtjmocdoimiomdaaGreatDoorGH
import Derived.Test.YtjmocdoimiomdaaGreatDoorGT
set_option linter.unusedVariables false
set_option linter.unusedSimpArgs false
set_option maxRecDepth 20000
namespace Go.Proofs.YtjmocdoimiomdaaGreatDoor
open Go.RowKit Go.Sort
theorem fine_of_read {s : List UInt8} {f : Wn.Fs} (h : Wn.readF s = some f) (hs : s.length ≤ 1048576) : ∀ t ∈ Wn.flat f, Fine t := by
  obtain ⟨l', hv⟩ := Wn.parse_some h
  intro t ht
  rcases (Wn.valsL_mem hv).1 t ht with h | ⟨k, rfl⟩
  · exact lex_fine hs t h
  · unfold Wn.closeB Wn.dlm Fine
    split
    · simp
    · split <;> simp
theorem fine_trim {f : Wn.Fs} (h : ∀ t ∈ Wn.flat f, Fine t) : ∀ t ∈ Wn.flat (Wn.trimF f), Fine t := fun t ht => h t (Wn.dropB_flat f t (Wn.rtrim_flat _ t ht))
/-- what Read answers of the text of values that may be: the values, trimmed -/
theorem text_short {f : Wn.Fs} {n : Nat} (hf : ∀ t ∈ Wn.flat f, Fine t) (hl : (Wn.flat f).length ≤ n) (hn : n ≤ 100000) : (Wn.str (Wn.textF f)).size ≤ 1099511627776 := by
  have := fine_text hf
  have e : (Wn.str (Wn.textF f)).size = (Wn.textF f).length := by unfold Wn.str; simp [ByteArray.size]
  rw [e]
  unfold Wn.textF
  have : (Wn.flat f).length * 1048600 ≤ 100000 * 1048600 := Nat.mul_le_mul_right _ (by omega)
  omega
theorem str_data (l : List UInt8) : (Wn.str l).data.toList = l := by simp [Wn.str]
theorem lex_textF {f : Wn.Fs} (h : Wn.mayF f = true) : Wn.lex (Wn.textF f) = Wn.flat f := by unfold Wn.textF; rw [Wn.lex_text _ (Wn.all_valid (Wn.mayF_all h))]
theorem lex_both {f g : Wn.Fs} (hf : Wn.mayF f = true) (hg : Wn.mayF g = true) : Wn.lex (Wn.textF f ++ (Wn.cmtB ++ Wn.textF g)) = Wn.flat f ++ Wn.flat g := by
  unfold Wn.textF; rw [Wn.lex_text2 _ _ (Wn.all_valid (Wn.mayF_all hf)), Wn.lex_text _ (Wn.all_valid (Wn.mayF_all hg))]
/-- what Read answers of the text of values that may be: the values, trimmed -/
theorem Read_text {f : Wn.Fs} (w : World) (hm : Wn.mayF f = true) (hf : ∀ t ∈ Wn.flat f, Fine t) (hl : (Wn.flat f).length ≤ 100000) :
    Calls Tryz.prog 8 #[.string (Wn.str (Wn.textF f))] w fun e w' => ∃ r, e = .returned (.tuple #[r, .int .i64 0]) ∧ ValsP w' (fun b => w.heap.size ≤ b) r (Wn.trimF f) ∧ Below w.heap.size w w' :=
  Read_some _ f w (text_short hf hl (Nat.le_refl _)) (by rw [str_data, lex_textF hm]; exact hl) (by rw [str_data]; exact Wn.read_text hm)
/-- Read in one word -/
theorem Read_any (s : ByteArray) (w : World) (hs : s.size ≤ 100000) :
    Calls Tryz.prog 8 #[.string s] w fun e w' => ∃ r c, e = .returned (.tuple #[r, .int .i64 c]) ∧ Below w.heap.size w w' ∧ ((c = 20 ∧ r = .slice Option.none 0 0 ∧ Wn.readF s.data.toList = none) ∨ (c = 0 ∧ ∃ f, Wn.readF s.data.toList = some f ∧ ValsP w' (fun b => w.heap.size ≤ b) r (Wn.trimF f))) := by
  cases hp : Wn.readF s.data.toList with
  | none => exact (Read_none s w (by omega) (lex_short hs) hp).mono fun e w' ⟨he, hb⟩ => ⟨_, _, he, hb, .inl ⟨rfl, rfl, rfl⟩⟩
  | some f => exact (Read_some s f w (by omega) (lex_short hs) hp).mono fun e w' ⟨r, he, hv, hb⟩ => ⟨_, _, he, hb, .inr ⟨rfl, f, rfl, hv⟩⟩
end Go.Proofs.YtjmocdoimiomdaaGreatDoor
