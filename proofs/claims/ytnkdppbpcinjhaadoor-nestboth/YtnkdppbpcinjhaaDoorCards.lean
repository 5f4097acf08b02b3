/-
  DERIVED. GIVEN WITH THE SEED: THE CARDS: each row of YtnkdppbpcinjhaaDoorRows.lean that lists a variable, with what it lists TIED to the program's text (the seventh form; the later family's looks); each row that meets fmt, with fmt's text TOLD by the authors' own Lean function (tested against real Go, not proved from fmt's source: count such statements apart). THE CARD IS WHAT COUNTS. Prove the row's statement (the work); the ties are given (YtnkdppbpcinjhaaDoorTie.lean); close each card by the builder's one call (the guide's Derived/Test/ToyasCard.lean, 'card_holds'). Laid BY PROGRAM, IN A SANDBOX (cutbox-door.mjs). By AI agents, Wed Nov 11 2026. No macro, syntax, notation, axiom, sorry.
-/
import Derived.Test.YtnkdppbpcinjhaaDoorRows
import GoSem.ClaimSeven
namespace Go.Proofs.YtnkdppbpcinjhaaDoor
namespace Rows

/-- THE TIED CARD OF 'winnowinglaw01.ToksTell'. -/
def toksTellCard : Claim7 := { stood := { row := toksTellRow, standIns := [], harness := (true, "cfc41d0ba8683ebb1adf4260c8d07df6457d6788547e78fadf6f766af13c2c3e"), looks := true }, kinds := [], alts := [], laidByText := true, laidKinds := [.data, .data, .data], laidTests := true, laidLooks := .later }
def ToksTellCardSaid : Prop := Claim7.holds Tryd.pinned (.plain (OpenSpec.ofChange toksTellSpec)) toksTellCard

/-- THE TIED CARD OF 'winnowinglaw01.ToksBack'. -/
def toksBackCard : Claim7 := { stood := { row := toksBackRow, standIns := [], harness := (true, "cfc41d0ba8683ebb1adf4260c8d07df6457d6788547e78fadf6f766af13c2c3e"), looks := true }, kinds := [], alts := [], laidByText := true, laidKinds := [.data, .data, .data], laidTests := true, laidLooks := .later }
def ToksBackCardSaid : Prop := Claim7.holds Tryd.pinned (.plain (OpenSpec.ofChange toksBackSpec)) toksBackCard

/-- THE TIED CARD OF 'winnowinglaw01.ToksBlanks'. -/
def toksBlanksCard : Claim7 := { stood := { row := toksBlanksRow, standIns := [], harness := (true, "cfc41d0ba8683ebb1adf4260c8d07df6457d6788547e78fadf6f766af13c2c3e"), looks := true }, kinds := [], alts := [], laidByText := true, laidKinds := [.data, .data, .data], laidTests := true, laidLooks := .later }
def ToksBlanksCardSaid : Prop := Claim7.holds Tryd.pinned (.plain (OpenSpec.ofChange toksBlanksSpec)) toksBlanksCard

/-- THE TIED CARD OF 'winnowinglaw01.ToksBoth'. -/
def toksBothCard : Claim7 := { stood := { row := toksBothRow, standIns := [], harness := (true, "cfc41d0ba8683ebb1adf4260c8d07df6457d6788547e78fadf6f766af13c2c3e"), looks := true }, kinds := [], alts := [], laidByText := true, laidKinds := [.data, .data, .data], laidTests := true, laidLooks := .later }
def ToksBothCardSaid : Prop := Claim7.holds Tryd.pinned (.plain (OpenSpec.ofChange toksBothSpec)) toksBothCard

/-- THE TIED CARD OF 'winnowinglaw01.ToksParts'. -/
def toksPartsCard : Claim7 := { stood := { row := toksPartsRow, standIns := [], harness := (true, "cfc41d0ba8683ebb1adf4260c8d07df6457d6788547e78fadf6f766af13c2c3e"), looks := true }, kinds := [], alts := [], laidByText := true, laidKinds := [.data, .data, .data], laidTests := true, laidLooks := .later }
def ToksPartsCardSaid : Prop := Claim7.holds Tryd.pinned (.plain (OpenSpec.ofChange toksPartsSpec)) toksPartsCard

/-- THE TIED CARD OF 'winnowinglaw01.ToksTwo'. -/
def toksTwoCard : Claim7 := { stood := { row := toksTwoRow, standIns := [], harness := (true, "cfc41d0ba8683ebb1adf4260c8d07df6457d6788547e78fadf6f766af13c2c3e"), looks := true }, kinds := [], alts := [], laidByText := true, laidKinds := [.data, .data, .data], laidTests := true, laidLooks := .later }
def ToksTwoCardSaid : Prop := Claim7.holds Tryd.pinned (.plain (OpenSpec.ofChange toksTwoSpec)) toksTwoCard

/-- THE TIED CARD OF 'winnowinglaw02.NestTells'. -/
def nestTellsCard : Claim7 := { stood := { row := nestTellsRow, standIns := [], harness := (true, "cfc41d0ba8683ebb1adf4260c8d07df6457d6788547e78fadf6f766af13c2c3e"), looks := true }, kinds := [], alts := [], laidByText := true, laidKinds := [.data, .data, .data], laidTests := true, laidLooks := .later }
def NestTellsCardSaid : Prop := Claim7.holds Tryd.pinned (.plain (OpenSpec.ofChange nestTellsSpec)) nestTellsCard

/-- THE TIED CARD OF 'winnowinglaw02.NestBack'. -/
def nestBackCard : Claim7 := { stood := { row := nestBackRow, standIns := [], harness := (true, "cfc41d0ba8683ebb1adf4260c8d07df6457d6788547e78fadf6f766af13c2c3e"), looks := true }, kinds := [], alts := [], laidByText := true, laidKinds := [.data, .data, .data], laidTests := true, laidLooks := .later }
def NestBackCardSaid : Prop := Claim7.holds Tryd.pinned (.plain (OpenSpec.ofChange nestBackSpec)) nestBackCard

/-- THE TIED CARD OF 'winnowinglaw02.NestBoth'. -/
def nestBothCard : Claim7 := { stood := { row := nestBothRow, standIns := [], harness := (true, "cfc41d0ba8683ebb1adf4260c8d07df6457d6788547e78fadf6f766af13c2c3e"), looks := true }, kinds := [], alts := [], laidByText := true, laidKinds := [.data, .data, .data], laidTests := true, laidLooks := .later }
def NestBothCardSaid : Prop := Claim7.holds Tryd.pinned (.plain (OpenSpec.ofChange nestBothSpec)) nestBothCard

/-- THE TIED CARD OF 'winnowinglaw02.NestWraps'. -/
def nestWrapsCard : Claim7 := { stood := { row := nestWrapsRow, standIns := [], harness := (true, "cfc41d0ba8683ebb1adf4260c8d07df6457d6788547e78fadf6f766af13c2c3e"), looks := true }, kinds := [], alts := [], laidByText := true, laidKinds := [.data, .data, .data], laidTests := true, laidLooks := .later }
def NestWrapsCardSaid : Prop := Claim7.holds Tryd.pinned (.plain (OpenSpec.ofChange nestWrapsSpec)) nestWrapsCard

/-- THE TIED CARD OF 'winnowinglaw02.NestApart'. -/
def nestApartCard : Claim7 := { stood := { row := nestApartRow, standIns := [], harness := (true, "cfc41d0ba8683ebb1adf4260c8d07df6457d6788547e78fadf6f766af13c2c3e"), looks := true }, kinds := [], alts := [], laidByText := true, laidKinds := [.data, .data, .data], laidTests := true, laidLooks := .later }
def NestApartCardSaid : Prop := Claim7.holds Tryd.pinned (.plain (OpenSpec.ofChange nestApartSpec)) nestApartCard

/-- THE SECOND FORM's CARD OF 'winnowinglaw01.ToksTell'. -/
def toksTellUptoCard : Claim7 := { stood := { row := toksTellUptoRow, standIns := [], harness := (true, "cfc41d0ba8683ebb1adf4260c8d07df6457d6788547e78fadf6f766af13c2c3e"), looks := true }, kinds := [], alts := [], laidByText := true, laidKinds := [.data, .data, .data], laidTests := true, laidLooks := .later }
def ToksTellUptoCardSaid : Prop := Claim7.holds Tryd.pinned (.plain (OpenSpec.upto toksTellSpec)) toksTellUptoCard

/-- THE SECOND FORM's CARD OF 'winnowinglaw01.ToksBack'. -/
def toksBackUptoCard : Claim7 := { stood := { row := toksBackUptoRow, standIns := [], harness := (true, "cfc41d0ba8683ebb1adf4260c8d07df6457d6788547e78fadf6f766af13c2c3e"), looks := true }, kinds := [], alts := [], laidByText := true, laidKinds := [.data, .data, .data], laidTests := true, laidLooks := .later }
def ToksBackUptoCardSaid : Prop := Claim7.holds Tryd.pinned (.plain (OpenSpec.upto toksBackSpec)) toksBackUptoCard

/-- THE SECOND FORM's CARD OF 'winnowinglaw01.ToksBlanks'. -/
def toksBlanksUptoCard : Claim7 := { stood := { row := toksBlanksUptoRow, standIns := [], harness := (true, "cfc41d0ba8683ebb1adf4260c8d07df6457d6788547e78fadf6f766af13c2c3e"), looks := true }, kinds := [], alts := [], laidByText := true, laidKinds := [.data, .data, .data], laidTests := true, laidLooks := .later }
def ToksBlanksUptoCardSaid : Prop := Claim7.holds Tryd.pinned (.plain (OpenSpec.upto toksBlanksSpec)) toksBlanksUptoCard

/-- THE SECOND FORM's CARD OF 'winnowinglaw01.ToksBoth'. -/
def toksBothUptoCard : Claim7 := { stood := { row := toksBothUptoRow, standIns := [], harness := (true, "cfc41d0ba8683ebb1adf4260c8d07df6457d6788547e78fadf6f766af13c2c3e"), looks := true }, kinds := [], alts := [], laidByText := true, laidKinds := [.data, .data, .data], laidTests := true, laidLooks := .later }
def ToksBothUptoCardSaid : Prop := Claim7.holds Tryd.pinned (.plain (OpenSpec.upto toksBothSpec)) toksBothUptoCard

/-- THE SECOND FORM's CARD OF 'winnowinglaw01.ToksParts'. -/
def toksPartsUptoCard : Claim7 := { stood := { row := toksPartsUptoRow, standIns := [], harness := (true, "cfc41d0ba8683ebb1adf4260c8d07df6457d6788547e78fadf6f766af13c2c3e"), looks := true }, kinds := [], alts := [], laidByText := true, laidKinds := [.data, .data, .data], laidTests := true, laidLooks := .later }
def ToksPartsUptoCardSaid : Prop := Claim7.holds Tryd.pinned (.plain (OpenSpec.upto toksPartsSpec)) toksPartsUptoCard

/-- THE SECOND FORM's CARD OF 'winnowinglaw01.ToksTwo'. -/
def toksTwoUptoCard : Claim7 := { stood := { row := toksTwoUptoRow, standIns := [], harness := (true, "cfc41d0ba8683ebb1adf4260c8d07df6457d6788547e78fadf6f766af13c2c3e"), looks := true }, kinds := [], alts := [], laidByText := true, laidKinds := [.data, .data, .data], laidTests := true, laidLooks := .later }
def ToksTwoUptoCardSaid : Prop := Claim7.holds Tryd.pinned (.plain (OpenSpec.upto toksTwoSpec)) toksTwoUptoCard

/-- THE SECOND FORM's CARD OF 'winnowinglaw02.NestTells'. -/
def nestTellsUptoCard : Claim7 := { stood := { row := nestTellsUptoRow, standIns := [], harness := (true, "cfc41d0ba8683ebb1adf4260c8d07df6457d6788547e78fadf6f766af13c2c3e"), looks := true }, kinds := [], alts := [], laidByText := true, laidKinds := [.data, .data, .data], laidTests := true, laidLooks := .later }
def NestTellsUptoCardSaid : Prop := Claim7.holds Tryd.pinned (.plain (OpenSpec.upto nestTellsSpec)) nestTellsUptoCard

/-- THE SECOND FORM's CARD OF 'winnowinglaw02.NestBack'. -/
def nestBackUptoCard : Claim7 := { stood := { row := nestBackUptoRow, standIns := [], harness := (true, "cfc41d0ba8683ebb1adf4260c8d07df6457d6788547e78fadf6f766af13c2c3e"), looks := true }, kinds := [], alts := [], laidByText := true, laidKinds := [.data, .data, .data], laidTests := true, laidLooks := .later }
def NestBackUptoCardSaid : Prop := Claim7.holds Tryd.pinned (.plain (OpenSpec.upto nestBackSpec)) nestBackUptoCard

/-- THE SECOND FORM's CARD OF 'winnowinglaw02.NestBoth'. -/
def nestBothUptoCard : Claim7 := { stood := { row := nestBothUptoRow, standIns := [], harness := (true, "cfc41d0ba8683ebb1adf4260c8d07df6457d6788547e78fadf6f766af13c2c3e"), looks := true }, kinds := [], alts := [], laidByText := true, laidKinds := [.data, .data, .data], laidTests := true, laidLooks := .later }
def NestBothUptoCardSaid : Prop := Claim7.holds Tryd.pinned (.plain (OpenSpec.upto nestBothSpec)) nestBothUptoCard

/-- THE SECOND FORM's CARD OF 'winnowinglaw02.NestWraps'. -/
def nestWrapsUptoCard : Claim7 := { stood := { row := nestWrapsUptoRow, standIns := [], harness := (true, "cfc41d0ba8683ebb1adf4260c8d07df6457d6788547e78fadf6f766af13c2c3e"), looks := true }, kinds := [], alts := [], laidByText := true, laidKinds := [.data, .data, .data], laidTests := true, laidLooks := .later }
def NestWrapsUptoCardSaid : Prop := Claim7.holds Tryd.pinned (.plain (OpenSpec.upto nestWrapsSpec)) nestWrapsUptoCard

/-- THE SECOND FORM's CARD OF 'winnowinglaw02.NestApart'. -/
def nestApartUptoCard : Claim7 := { stood := { row := nestApartUptoRow, standIns := [], harness := (true, "cfc41d0ba8683ebb1adf4260c8d07df6457d6788547e78fadf6f766af13c2c3e"), looks := true }, kinds := [], alts := [], laidByText := true, laidKinds := [.data, .data, .data], laidTests := true, laidLooks := .later }
def NestApartUptoCardSaid : Prop := Claim7.holds Tryd.pinned (.plain (OpenSpec.upto nestApartSpec)) nestApartUptoCard
end Rows
end Go.Proofs.YtnkdppbpcinjhaaDoor
