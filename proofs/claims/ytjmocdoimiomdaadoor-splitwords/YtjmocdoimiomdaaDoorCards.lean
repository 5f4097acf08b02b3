/-
  DERIVED. GIVEN WITH THE SEED: THE CARDS: each row of YtjmocdoimiomdaaDoorRows.lean that lists a variable, with what it lists TIED to the program's text (the seventh form; the later family's looks); each row that meets fmt, with fmt's text TOLD by the authors' own Lean function (tested against real Go, not proved from fmt's source: count such statements apart). THE CARD IS WHAT COUNTS. Prove the row's statement (the work); the ties are given (YtjmocdoimiomdaaDoorTie.lean); close each card by the builder's one call (the guide's Derived/Test/ToyasCard.lean, 'card_holds'). Laid BY PROGRAM, IN A SANDBOX (cutbox-door.mjs). By AI agents, Wed Nov 11 2026. No macro, syntax, notation, axiom, sorry.
-/
import Derived.Test.YtjmocdoimiomdaaDoorRows
import GoSem.ClaimSeven
namespace Go.Proofs.YtjmocdoimiomdaaDoor
namespace Rows

/-- THE TIED CARD OF 'winnowinglaw02.NestTells'. -/
def nestTellsCard : Claim7 := { stood := { row := nestTellsRow, standIns := [], harness := (true, "2024d10b8ca976f17fb0a18bf91f7bebe05236439cbfb5a905c3ed81d295c60d"), looks := true }, kinds := [], alts := [], laidByText := true, laidKinds := [.data, .data, .data], laidTests := true, laidLooks := .later }
def NestTellsCardSaid : Prop := Claim7.holds Tryd.pinned (.plain (OpenSpec.ofChange nestTellsSpec)) nestTellsCard

/-- THE TIED CARD OF 'winnowinglaw02.NestWraps'. -/
def nestWrapsCard : Claim7 := { stood := { row := nestWrapsRow, standIns := [], harness := (true, "2024d10b8ca976f17fb0a18bf91f7bebe05236439cbfb5a905c3ed81d295c60d"), looks := true }, kinds := [], alts := [], laidByText := true, laidKinds := [.data, .data, .data], laidTests := true, laidLooks := .later }
def NestWrapsCardSaid : Prop := Claim7.holds Tryd.pinned (.plain (OpenSpec.ofChange nestWrapsSpec)) nestWrapsCard

/-- THE TIED CARD OF 'winnowinglaw02.NestApart'. -/
def nestApartCard : Claim7 := { stood := { row := nestApartRow, standIns := [], harness := (true, "2024d10b8ca976f17fb0a18bf91f7bebe05236439cbfb5a905c3ed81d295c60d"), looks := true }, kinds := [], alts := [], laidByText := true, laidKinds := [.data, .data, .data], laidTests := true, laidLooks := .later }
def NestApartCardSaid : Prop := Claim7.holds Tryd.pinned (.plain (OpenSpec.ofChange nestApartSpec)) nestApartCard

/-- THE TIED CARD OF 'winnowinglaw03.SplitWords'. -/
def splitWordsCard : Claim7 := { stood := { row := splitWordsRow, standIns := [], harness := (true, "2024d10b8ca976f17fb0a18bf91f7bebe05236439cbfb5a905c3ed81d295c60d"), looks := true }, kinds := [], alts := [], laidByText := true, laidKinds := [.data, .data, .data], laidTests := true, laidLooks := .later }
def SplitWordsCardSaid : Prop := Claim7.holds Tryd.pinned (.plain (OpenSpec.ofChange splitWordsSpec)) splitWordsCard

/-- THE TIED CARD OF 'winnowinglaw03.SplitTrims'. -/
def splitTrimsCard : Claim7 := { stood := { row := splitTrimsRow, standIns := [], harness := (true, "2024d10b8ca976f17fb0a18bf91f7bebe05236439cbfb5a905c3ed81d295c60d"), looks := true }, kinds := [], alts := [], laidByText := true, laidKinds := [.data, .data, .data], laidTests := true, laidLooks := .later }
def SplitTrimsCardSaid : Prop := Claim7.holds Tryd.pinned (.plain (OpenSpec.ofChange splitTrimsSpec)) splitTrimsCard

/-- THE SECOND FORM's CARD OF 'winnowinglaw02.NestTells'. -/
def nestTellsUptoCard : Claim7 := { stood := { row := nestTellsUptoRow, standIns := [], harness := (true, "2024d10b8ca976f17fb0a18bf91f7bebe05236439cbfb5a905c3ed81d295c60d"), looks := true }, kinds := [], alts := [], laidByText := true, laidKinds := [.data, .data, .data], laidTests := true, laidLooks := .later }
def NestTellsUptoCardSaid : Prop := Claim7.holds Tryd.pinned (.plain (OpenSpec.upto nestTellsSpec)) nestTellsUptoCard

/-- THE SECOND FORM's CARD OF 'winnowinglaw02.NestWraps'. -/
def nestWrapsUptoCard : Claim7 := { stood := { row := nestWrapsUptoRow, standIns := [], harness := (true, "2024d10b8ca976f17fb0a18bf91f7bebe05236439cbfb5a905c3ed81d295c60d"), looks := true }, kinds := [], alts := [], laidByText := true, laidKinds := [.data, .data, .data], laidTests := true, laidLooks := .later }
def NestWrapsUptoCardSaid : Prop := Claim7.holds Tryd.pinned (.plain (OpenSpec.upto nestWrapsSpec)) nestWrapsUptoCard

/-- THE SECOND FORM's CARD OF 'winnowinglaw02.NestApart'. -/
def nestApartUptoCard : Claim7 := { stood := { row := nestApartUptoRow, standIns := [], harness := (true, "2024d10b8ca976f17fb0a18bf91f7bebe05236439cbfb5a905c3ed81d295c60d"), looks := true }, kinds := [], alts := [], laidByText := true, laidKinds := [.data, .data, .data], laidTests := true, laidLooks := .later }
def NestApartUptoCardSaid : Prop := Claim7.holds Tryd.pinned (.plain (OpenSpec.upto nestApartSpec)) nestApartUptoCard

/-- THE SECOND FORM's CARD OF 'winnowinglaw03.SplitWords'. -/
def splitWordsUptoCard : Claim7 := { stood := { row := splitWordsUptoRow, standIns := [], harness := (true, "2024d10b8ca976f17fb0a18bf91f7bebe05236439cbfb5a905c3ed81d295c60d"), looks := true }, kinds := [], alts := [], laidByText := true, laidKinds := [.data, .data, .data], laidTests := true, laidLooks := .later }
def SplitWordsUptoCardSaid : Prop := Claim7.holds Tryd.pinned (.plain (OpenSpec.upto splitWordsSpec)) splitWordsUptoCard

/-- THE SECOND FORM's CARD OF 'winnowinglaw03.SplitTrims'. -/
def splitTrimsUptoCard : Claim7 := { stood := { row := splitTrimsUptoRow, standIns := [], harness := (true, "2024d10b8ca976f17fb0a18bf91f7bebe05236439cbfb5a905c3ed81d295c60d"), looks := true }, kinds := [], alts := [], laidByText := true, laidKinds := [.data, .data, .data], laidTests := true, laidLooks := .later }
def SplitTrimsUptoCardSaid : Prop := Claim7.holds Tryd.pinned (.plain (OpenSpec.upto splitTrimsSpec)) splitTrimsUptoCard
end Rows
end Go.Proofs.YtjmocdoimiomdaaDoor
