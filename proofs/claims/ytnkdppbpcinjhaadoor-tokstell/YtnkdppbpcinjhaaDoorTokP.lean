/- The text of a token: plain mathematics (with the library's numeral of an int). -/
import Derived.Test.YtnkdppbpcinjhaaDoorTokM
import Derived.Lib.ItoaNum
set_option maxRecDepth 20000
namespace Wn
def strText (t : Tok) : List UInt8 := if t.2.2 = 39 then 39 :: t.2.1 ++ [39] else 34 :: t.2.1 ++ [34]
def delimText (t : Tok) : List UInt8 := if t.2.1 = [34] ∨ t.2.1 = [39] then t.2.1 ++ [47, 42, 10, 42, 47] else t.2.1
/-- the text of a token -/
def oneText (t : Tok) : List UInt8 :=
  if t.1 = 1 then t.2.1 else if t.1 = 2 then t.2.1 ++ [40] else if t.1 = 3 then 64 :: t.2.1 else if t.1 = 4 then 35 :: t.2.1
  else if t.1 = 5 then Go.Lib.itoa t.2.2 ++ t.2.1 else if t.1 = 6 then strText t else if t.1 = 7 then delimText t else if t.1 = 8 then [10] else []
theorem decDigits_len : ∀ (k u : Nat), u < 10 ^ (k + 1) → (Go.Lib.decDigits u).length ≤ k + 1
  | 0, u, h => by
    rw [Go.Lib.decDigits, dif_pos (by simpa using h)]; simp
  | k + 1, u, h => by
    rw [Go.Lib.decDigits]
    split
    · simp
    · have := decDigits_len k (u / 10) (by rw [Nat.pow_succ] at h; omega)
      simp; omega
theorem itoa_len {n : Int} (h0 : -9223372036854775808 ≤ n) (h1 : n ≤ 9223372036854775807) : (Go.Lib.itoa n).length ≤ 20 := by
  unfold Go.Lib.itoa
  split
  · have := decDigits_len 18 n.natAbs (by omega); simp; omega
  · have := decDigits_len 18 n.toNat (by omega); omega
theorem oneText_len (t : Tok) (h0 : -9223372036854775808 ≤ t.2.2) (h1 : t.2.2 ≤ 9223372036854775807) : (oneText t).length ≤ t.2.1.length + 20 := by
  have := itoa_len h0 h1
  unfold oneText strText delimText
  repeat' split
  all_goals simp
  all_goals omega
/-- a list of bytes as a Go string -/
def str (l : List UInt8) : ByteArray := ⟨l.toArray⟩
theorem str_append (a b : List UInt8) : str a ++ str b = str (a ++ b) := by
  apply ByteArray.ext; simp [str, ByteArray.data_append]
theorem str_toList (s : ByteArray) : str s.data.toList = s := rfl
theorem toList_str (l : List UInt8) : (str l).data.toList = l := rfl
theorem str_size (l : List UInt8) : (str l).size = l.length := by simp [str, ByteArray.size]
theorem str_inj {a b : List UInt8} (h : str a = str b) : a = b := by
  have := congrArg (fun s : ByteArray => s.data.toList) h
  simpa [toList_str] using this
end Wn
