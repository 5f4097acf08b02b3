/-
  DERIVED. GIVEN WITH THE SEED: THE CARDS: each row of YtjlejiphpbaonaaGreatDoorRows.lean that lists a variable, with what it lists TIED to the program's text (the seventh form; the later family's looks); each row that meets fmt, with fmt's text TOLD by the authors' own Lean function (tested against real Go, not proved from fmt's source: count such statements apart). THE CARD IS WHAT COUNTS. Prove the row's statement (the work); the ties are given (YtjlejiphpbaonaaGreatDoorTie.lean); close each card by the builder's one call (the guide's Derived/Test/ToyasCard.lean, 'card_holds'). Laid BY PROGRAM, IN A SANDBOX (cutbox-door.mjs). By AI agents, Wed Nov 11 2026. No macro, syntax, notation, axiom, sorry.
-/
import Derived.Test.YtjlejiphpbaonaaGreatDoorRows
import GoSem.ClaimSeven
namespace Go.Proofs.YtjlejiphpbaonaaGreatDoor
namespace Rows

/-- THE TIED CARD OF 'winnowinglaw07.DeclsTell'. -/
def declsTellCard : Claim7 := { stood := { row := declsTellRow, standIns := [], harness := (true, "c5732be2b4ac1eb83d6427937db0ac557005edf95db219e9b50e7b647c57ea40"), looks := true }, kinds := [], alts := [], laidByText := true, laidKinds := [.data, .data, .data], laidTests := true, laidLooks := .later }
def DeclsTellCardSaid : Prop := Claim7.holds Tryz.pinned (.plain (OpenSpec.ofChange declsTellSpec)) declsTellCard

/-- THE TIED CARD OF 'winnowinglaw07.DeclsBack'. -/
def declsBackCard : Claim7 := { stood := { row := declsBackRow, standIns := [], harness := (true, "c5732be2b4ac1eb83d6427937db0ac557005edf95db219e9b50e7b647c57ea40"), looks := true }, kinds := [], alts := [], laidByText := true, laidKinds := [.data, .data, .data], laidTests := true, laidLooks := .later }
def DeclsBackCardSaid : Prop := Claim7.holds Tryz.pinned (.plain (OpenSpec.ofChange declsBackSpec)) declsBackCard

/-- THE TIED CARD OF 'winnowinglaw07.DeclsApart'. -/
def declsApartCard : Claim7 := { stood := { row := declsApartRow, standIns := [], harness := (true, "c5732be2b4ac1eb83d6427937db0ac557005edf95db219e9b50e7b647c57ea40"), looks := true }, kinds := [], alts := [], laidByText := true, laidKinds := [.data, .data, .data], laidTests := true, laidLooks := .later }
def DeclsApartCardSaid : Prop := Claim7.holds Tryz.pinned (.plain (OpenSpec.ofChange declsApartSpec)) declsApartCard

/-- THE TIED CARD OF 'winnowinglaw07.DeclsParts'. -/
def declsPartsCard : Claim7 := { stood := { row := declsPartsRow, standIns := [], harness := (true, "c5732be2b4ac1eb83d6427937db0ac557005edf95db219e9b50e7b647c57ea40"), looks := true }, kinds := [], alts := [], laidByText := true, laidKinds := [.data, .data, .data], laidTests := true, laidLooks := .later }
def DeclsPartsCardSaid : Prop := Claim7.holds Tryz.pinned (.plain (OpenSpec.ofChange declsPartsSpec)) declsPartsCard

/-- THE TIED CARD OF 'winnowinglaw07.DeclsStrong'. -/
def declsStrongCard : Claim7 := { stood := { row := declsStrongRow, standIns := [], harness := (true, "c5732be2b4ac1eb83d6427937db0ac557005edf95db219e9b50e7b647c57ea40"), looks := true }, kinds := [], alts := [], laidByText := true, laidKinds := [.data, .data, .data], laidTests := true, laidLooks := .later }
def DeclsStrongCardSaid : Prop := Claim7.holds Tryz.pinned (.plain (OpenSpec.ofChange declsStrongSpec)) declsStrongCard

/-- THE SECOND FORM's CARD OF 'winnowinglaw07.DeclsTell'. -/
def declsTellUptoCard : Claim7 := { stood := { row := declsTellUptoRow, standIns := [], harness := (true, "c5732be2b4ac1eb83d6427937db0ac557005edf95db219e9b50e7b647c57ea40"), looks := true }, kinds := [], alts := [], laidByText := true, laidKinds := [.data, .data, .data], laidTests := true, laidLooks := .later }
def DeclsTellUptoCardSaid : Prop := Claim7.holds Tryz.pinned (.plain (OpenSpec.upto declsTellSpec)) declsTellUptoCard

/-- THE SECOND FORM's CARD OF 'winnowinglaw07.DeclsBack'. -/
def declsBackUptoCard : Claim7 := { stood := { row := declsBackUptoRow, standIns := [], harness := (true, "c5732be2b4ac1eb83d6427937db0ac557005edf95db219e9b50e7b647c57ea40"), looks := true }, kinds := [], alts := [], laidByText := true, laidKinds := [.data, .data, .data], laidTests := true, laidLooks := .later }
def DeclsBackUptoCardSaid : Prop := Claim7.holds Tryz.pinned (.plain (OpenSpec.upto declsBackSpec)) declsBackUptoCard

/-- THE SECOND FORM's CARD OF 'winnowinglaw07.DeclsApart'. -/
def declsApartUptoCard : Claim7 := { stood := { row := declsApartUptoRow, standIns := [], harness := (true, "c5732be2b4ac1eb83d6427937db0ac557005edf95db219e9b50e7b647c57ea40"), looks := true }, kinds := [], alts := [], laidByText := true, laidKinds := [.data, .data, .data], laidTests := true, laidLooks := .later }
def DeclsApartUptoCardSaid : Prop := Claim7.holds Tryz.pinned (.plain (OpenSpec.upto declsApartSpec)) declsApartUptoCard

/-- THE SECOND FORM's CARD OF 'winnowinglaw07.DeclsParts'. -/
def declsPartsUptoCard : Claim7 := { stood := { row := declsPartsUptoRow, standIns := [], harness := (true, "c5732be2b4ac1eb83d6427937db0ac557005edf95db219e9b50e7b647c57ea40"), looks := true }, kinds := [], alts := [], laidByText := true, laidKinds := [.data, .data, .data], laidTests := true, laidLooks := .later }
def DeclsPartsUptoCardSaid : Prop := Claim7.holds Tryz.pinned (.plain (OpenSpec.upto declsPartsSpec)) declsPartsUptoCard

/-- THE SECOND FORM's CARD OF 'winnowinglaw07.DeclsStrong'. -/
def declsStrongUptoCard : Claim7 := { stood := { row := declsStrongUptoRow, standIns := [], harness := (true, "c5732be2b4ac1eb83d6427937db0ac557005edf95db219e9b50e7b647c57ea40"), looks := true }, kinds := [], alts := [], laidByText := true, laidKinds := [.data, .data, .data], laidTests := true, laidLooks := .later }
def DeclsStrongUptoCardSaid : Prop := Claim7.holds Tryz.pinned (.plain (OpenSpec.upto declsStrongSpec)) declsStrongUptoCard
end Rows
end Go.Proofs.YtjlejiphpbaonaaGreatDoor
