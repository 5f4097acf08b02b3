/- What the scanner's next token is: numbers, words, delimiters. What the scanner's next token is, whatever it is. What toks.All answers: the tokens of its text, in a row of its own. What toks.One answers: a token's text. Condition: the table of powers of ten is the library's own; the token's number is an int. What toks.One answers, whatever the token. What a strings.Builder of a call's own does: WriteString behind the bytes that it has. -/
import Derived.Test.YtbjhiimjillleaaGC
import Derived.Test.YtbjhiimjillleaaGA
import Derived.Deep.RegionHeld3
import Derived.Lib.AppendIntMem
import Derived.Lib.SmallJoins
import Derived.Laws.Externs
import Derived.Lib.Builder
import Derived.Lib.AppendStr
import Derived.Lib.UnsafeStr
set_option maxRecDepth 20000
namespace Go.Proofs.Ytbjhiimjillleaa
open Go.RowKit
end Go.Proofs.Ytbjhiimjillleaa
set_option maxRecDepth 20000
namespace Go.Proofs.Ytbjhiimjillleaa
open Go.RowKit
theorem take_sub (s : ByteArray) (q n : Nat) : s.extract q (q + n) = ⟨((Wn.sfx s q).take n).toArray⟩ := by
  rw [Wn.extract_sfx, Nat.add_sub_cancel_left]
theorem tok_eq (k : Int) (x : ByteArray) (l : List UInt8) (n : Int) (h : x = ⟨l.toArray⟩) : Value.tuple #[.agg #[.int .i64 k, .string x, .int .i64 n], .bool true] = .tuple #[tokV (k, l, n), .bool true] := by
  subst h; rfl
end Go.Proofs.Ytbjhiimjillleaa
set_option maxRecDepth 20000
namespace Go.Proofs.Ytbjhiimjillleaa
open Go.RowKit
/-- the cells of a token, and of tokens one behind the other -/
def tokCells (t : Wn.Tok) : List Value := [.int .i64 t.1, .string ⟨t.2.1.toArray⟩, .int .i64 t.2.2]
def toksCells (l : List Wn.Tok) : List Value := l.flatMap tokCells
theorem toksCells_snoc (l : List Wn.Tok) (t : Wn.Tok) : toksCells (l ++ [t]) = toksCells l ++ tokCells t := by simp [toksCells]
/-- w' is w, but for block b, and what is new; w' has the row v of the tokens l, which is none of w's blocks -/
theorem Only.grown {b : Nat} {w w' : World} (h : Only b w w') : w.grownBy w' (some b) := ⟨h.os, h.tape, h.output, h.size, fun k hk hn => h.block k hk (fun e => hn (by rw [e]))⟩
theorem lt_of_block {w : World} {b : Nat} {o : Obj} (h : w.heap[b]? = some o) : b < w.heap.size := (Array.getElem?_eq_some_iff.1 h).1
theorem Only.below {b : Nat} {w0 w w' : World} (hb : Below b w0 w) (h : Only b w w') (hs : b ≤ w.heap.size) : Below b w0 w' :=
  hb.trans ⟨h.os, h.tape, h.output, h.size, fun k hk => h.block k (by omega) (by omega)⟩
/-- the place of the scanner in block b -/
def posOf (b : Nat) (w : World) : Nat := (intOf ((w.cell? ⟨b, 1, none⟩).getD (.int .i64 0))).toNat
theorem cell_of_block {W : World} {k o : Nat} {c : Array Value} {e : TypeId} {fz : Nat × Nat} (h : W.heap[k]? = some (.cells c e fz)) : W.cell? ⟨k, o, none⟩ = c[o]? := by
  simp [World.cell?, h]
theorem addr_add (k o j : Nat) : (⟨k, o, none⟩ : Addr).add j = ⟨k, o + j, none⟩ := by
  unfold Addr.add; split <;> simp_all
theorem cell_three_new (w : World) (x y z : Value) (e : TypeId) (k : Nat) (hk : k = w.heap.size) (j : Nat) (u : Value) (h : [x, y, z][j]? = some u) : (w.alloc (.cells #[x, y, z] e)).cell? ((⟨k, 0, none⟩ : Addr).add j) = some u := by
  subst hk
  rw [addr_add, cell_of_block (heap_alloc_new w _), ← h]
  simp
theorem ownsRow_base {w : World} {base base' : Nat} {e : TypeId} {size : Nat} {v : Value} {n : Nat} {xs : List Value} (h : w.ownsRow base e size v n xs) (hb : base' ≤ base) : w.ownsRow base' e size v n xs := by
  obtain ⟨h1, h2⟩ := h
  refine ⟨h1, ?_⟩
  rcases h2 with h2 | ⟨g, cap, cur, hv, hg, r⟩
  · exact .inl h2
  · exact .inr ⟨g, cap, cur, hv, by omega, r⟩
theorem info_tok : (Try.prog.info? 75).map (fun i => (i.zero, i.size, i.bytes)) = some (some (.agg #[.int .i64 0, .string ⟨#[]⟩, .int .i64 0]), 3, 32) := by kernel_rfl
end Go.Proofs.Ytbjhiimjillleaa
set_option maxRecDepth 20000
namespace Go.Proofs.Ytbjhiimjillleaa
open Go.RowKit
/-- the world's table of powers of ten is the library's -/
def Tab (w : World) : Prop := Lib.TabIs Try.prog w "internal/strconv.uint64pow10" .u64 Lib.pow10Tab
theorem Tab.below {w w' : World} (h : Tab w) (hb : Below w.heap.size w w') : Tab w' := Lib.tabBelow_of_tabIs h w' hb
theorem ret_str {a b : ByteArray} (h : a = b) : Ending.returned (.string a) = .returned (.string b) := by rw [h]
/-- a token's value, its text as a Go string -/
theorem tokV_str (t : Wn.Tok) : tokV t = .agg #[.int .i64 t.1, .string (Wn.str t.2.1), .int .i64 t.2.2] := rfl
theorem str_list (l : List UInt8) : (Wn.str l).toList = l := by
  rw [Lib.toList_data]; rfl
end Go.Proofs.Ytbjhiimjillleaa
set_option maxRecDepth 20000
namespace Go.Proofs.Ytbjhiimjillleaa
open Go.RowKit
theorem one_pre (l : List UInt8) (c : UInt8) : Wn.str (c :: l) = ⟨#[c]⟩ ++ Wn.str l := (Wn.str_append [c] l).symm
theorem one_suf (l : List UInt8) (c : UInt8) : Wn.str (l ++ [c]) = Wn.str l ++ ⟨#[c]⟩ := (Wn.str_append l [c]).symm
end Go.Proofs.Ytbjhiimjillleaa
set_option maxRecDepth 20000
namespace Go.Proofs.Ytbjhiimjillleaa
open Go.RowKit
theorem info_byte : (Try.prog.info? 5).map (fun i => (i.zero, i.size, i.bytes)) = some (some (.int .u8 0), 1, 1) := by kernel_rfl
end Go.Proofs.Ytbjhiimjillleaa
