/- What the laws of the fourth layer read of texts: facts that they share. -/
import Derived.Test.YtncknaagbafhhaaGreatDoorHK
import Derived.Test.YtncknaagbafhhaaGreatDoorHM
import Derived.Test.YtncknaagbafhhaaGreatDoorHL
import Derived.Test.YtncknaagbafhhaaGreatDoorKitCM
set_option linter.unusedVariables false
set_option linter.unusedSimpArgs false
set_option maxRecDepth 20000
namespace Wn
theorem lex_notT {f : Fs} (hm : mayF f = true) : lex ([58, 110, 111, 116, 40] ++ (textF f ++ [41])) = dlm [58] :: (2, [110, 111, 116], 0) :: (flat f ++ [dlm [41]]) := by
  have e1 := read_delim (c := 58) (R := [110, 111, 116, 40] ++ (textF f ++ [41])) (by unfold DelimB; decide) (by decide) (fun h => by simp at h) (fun h => by simp at h) (fun h => by simp at h) (fun h => by simp at h)
  have e2 := read_func (x := [110, 111, 116]) (isName_of (by decide) (by decide)) (textF f ++ [41])
  have e3 : lex (textF f ++ [41]) = flat f ++ lex [41] := lex_text_end [41] (fun t => follows_close t rfl) _ (all_valid (mayF_all hm))
  have e4 : lex [41] = [dlm [41]] := by decide
  have e1' : lex ([58, 110, 111, 116, 40] ++ (textF f ++ [41])) = _ := e1
  have e2' : lex ([110, 111, 116, 40] ++ (textF f ++ [41])) = _ := e2
  rw [e1', e2', e3, e4]
  rfl
theorem sels_nil : selsF .nil = none := by decide
end Wn
namespace Go.Proofs.YtncknaagbafhhaaGreatDoor
open Go.RowKit Go.Sort
theorem short_of_read {s : List UInt8} {f : Wn.Fs} (h : Wn.readF s = some f) (hs : s.length ≤ 100000) : ∀ t ∈ Wn.flat f, ShortTok t := by
  obtain ⟨l', hv⟩ := Wn.parse_some h
  intro t ht
  rcases (Wn.valsL_mem hv).1 t ht with h | ⟨k, rfl⟩
  · exact ⟨Wn.lex_len 100000 s hs t h, Wn.valid_n (Wn.lex_valid _ s (Nat.le_refl _) t h)⟩
  · exact ⟨by have := Wn.closeB_len k; simp only [Wn.dlm]; omega, by simp [Wn.dlm], by simp [Wn.dlm]⟩
theorem short_trim {f : Wn.Fs} (h : ∀ t ∈ Wn.flat f, ShortTok t) : ∀ t ∈ Wn.flat (Wn.trimF f), ShortTok t := fun t ht => h t (Wn.dropB_flat f t (Wn.rtrim_flat _ t ht))
/-- sels.Read of a not around the text of values -/
theorem not_read {f : Wn.Fs} (w : World) (hm : Wn.mayF f = true) (hs : ∀ t ∈ Wn.flat f, ShortTok t) (hl : (Wn.flat f).length ≤ 90000) :
    Calls Tryz.prog 15 #[.string (⟨#[58, 110, 111, 116, 40]⟩ ++ Wn.str (Wn.textF f) ++ ⟨#[41]⟩)] w (PPost (Wn.selsRead ([58, 110, 111, 116, 40] ++ (Wn.textF f ++ [41]))) w) := by
  have e : (⟨#[58, 110, 111, 116, 40]⟩ ++ Wn.str (Wn.textF f) ++ ⟨#[41]⟩ : ByteArray) = Wn.str ([58, 110, 111, 116, 40] ++ (Wn.textF f ++ [41])) := by
    rw [show (⟨#[58, 110, 111, 116, 40]⟩ : ByteArray) = Wn.str [58, 110, 111, 116, 40] from rfl, show (⟨#[41]⟩ : ByteArray) = Wn.str [41] from rfl, Wn.str_append, Wn.str_append, List.append_assoc]
  have hx := Wn.texts_len 100100 (Wn.flat f) none (fun t ht => (hs t ht).one)
  have hsz : (Wn.textF f).length ≤ (Wn.flat f).length * (100100 + 4) := hx
  have hd : (Wn.str ([58, 110, 111, 116, 40] ++ (Wn.textF f ++ [41]))).data.toList = [58, 110, 111, 116, 40] ++ (Wn.textF f ++ [41]) := str_data _
  have hlx := Wn.lex_notT hm
  rw [e]
  have := SRead_g (Wn.str ([58, 110, 111, 116, 40] ++ (Wn.textF f ++ [41]))) w (by rw [Wn.str_size]; simp; omega) (by rw [hd, hlx]; simp; omega) (by
    rw [hd, hlx]
    intro t ht
    simp only [List.mem_cons, List.mem_append, List.not_mem_nil, or_false] at ht
    rcases ht with rfl | rfl | ht | rfl
    · simp [Wn.dlm]
    · simp
    · have := (hs t ht).1; omega
    · simp [Wn.dlm])
  rw [hd] at this
  exact this
theorem four_boxes (w : World) (A B C D : Obj) : ((((w.alloc A).alloc B).alloc C).alloc D).heap[w.heap.size]? = some A ∧ ((((w.alloc A).alloc B).alloc C).alloc D).heap[w.heap.size + 1]? = some B ∧ ((((w.alloc A).alloc B).alloc C).alloc D).heap[w.heap.size + 2]? = some C ∧ ((((w.alloc A).alloc B).alloc C).alloc D).heap[w.heap.size + 3]? = some D := by
  have a := heap_alloc_new w A
  have b := heap_alloc_new (w.alloc A) B
  have c := heap_alloc_new ((w.alloc A).alloc B) C
  have d := heap_alloc_new (((w.alloc A).alloc B).alloc C) D
  simp only [show (w.alloc A).heap.size = w.heap.size + 1 by simp] at b
  simp only [show ((w.alloc A).alloc B).heap.size = w.heap.size + 2 by simp] at c
  simp only [show (((w.alloc A).alloc B).alloc C).heap.size = w.heap.size + 3 by simp] at d
  exact ⟨block_alloc (block_alloc (block_alloc a _) _) _, block_alloc (block_alloc b _) _, block_alloc c _, d⟩
/-- a list of one not, as it is laid -/
theorem lone_at {W : World} {n0 n1 n2 n3 : Nat} {x : Wn.Sm} {u : Value} (hu : SsP W (fun _ => True) u x.l)
    (hA : W.heap[n0]? = some (.cells #[.int .i64 x.k, .string (Wn.str x.n), .string (Wn.str x.v), .int .i64 x.a, .int .i64 x.b, u] 51))
    (hB : W.heap[n1]? = some (.cells #[.int .i64 11, .string ⟨#[]⟩, .string ⟨#[]⟩, .int .i64 0, .int .i64 0, .slice (some ⟨n0, 0, none⟩) 1 1] 51))
    (hC : W.heap[n2]? = some (.cells #[.int .i64 0, .slice (some ⟨n1, 0, none⟩) 1 1] 49))
    (hD : W.heap[n3]? = some (.cells #[.slice (some ⟨n2, 0, none⟩) 1 1, .string ⟨#[]⟩] 46)) : cxK.P W (fun _ => True) (.slice (some ⟨n3, 0, none⟩) 1 1) [([(0, [⟨11, [], [], 0, 0, x.on .nil⟩])], [])] := by
  have pA : smK.P W (fun _ => True) (.slice (some ⟨n0, 0, none⟩) 1 1) [x] := RK.P.mk hA (es := [smCells x u]) ⟨⟨u, rfl, hu⟩, trivial⟩ rfl rfl (by simp) trivial
  have pB : smK.P W (fun _ => True) (.slice (some ⟨n1, 0, none⟩) 1 1) [⟨11, [], [], 0, 0, x.on .nil⟩] := RK.P.mk hB (es := [smCells ⟨11, [], [], 0, 0, x.on .nil⟩ (.slice (some ⟨n0, 0, none⟩) 1 1)]) ⟨⟨_, rfl, SsP.k.2 pA⟩, trivial⟩ rfl rfl (by simp) trivial
  have pC : ptK.P W (fun _ => True) (.slice (some ⟨n2, 0, none⟩) 1 1) [(0, [⟨11, [], [], 0, 0, x.on .nil⟩])] := RK.P.mk hC (es := [[.int .i64 0, .slice (some ⟨n1, 0, none⟩) 1 1]]) ⟨⟨_, rfl, pB⟩, trivial⟩ rfl rfl (by simp) trivial
  exact RK.P.mk hD (es := [[.slice (some ⟨n2, 0, none⟩) 1 1, .string ⟨#[]⟩]]) ⟨⟨_, rfl, pC⟩, trivial⟩ rfl rfl (by simp) trivial
end Go.Proofs.YtncknaagbafhhaaGreatDoor
