/-
  DERIVED. GIVEN WITH THE SEED: THE CARDS: each row of YtmegmgcfnihhiaaDoorRows.lean that lists a variable, with what it lists TIED to the program's text (the seventh form; the later family's looks); each row that meets fmt, with fmt's text TOLD by the authors' own Lean function (tested against real Go, not proved from fmt's source: count such statements apart). THE CARD IS WHAT COUNTS. Prove the row's statement (the work); the ties are given (YtmegmgcfnihhiaaDoorTie.lean); close each card by the builder's one call (the guide's Derived/Test/ToyasCard.lean, 'card_holds'). Laid BY PROGRAM, IN A SANDBOX (cutbox-door.mjs). By AI agents, Wed Nov 11 2026. No macro, syntax, notation, axiom, sorry.
-/
import Derived.Test.YtmegmgcfnihhiaaDoorRows
import GoSem.ClaimSeven
namespace Go.Proofs.YtmegmgcfnihhiaaDoor
namespace Rows

/-- THE TIED CARD OF 'reportescrowlaw11.WordsTwice'. -/
def wordsTwiceCard : Claim7 := { stood := { row := wordsTwiceRow, standIns := [], harness := (true, "0581b4eff4a768d2d3962721275b1a9c3e52ae7e42b49429077d0159f2d19090"), looks := false }, kinds := [], alts := [], laidByText := true, laidKinds := [.data, .listed, .data, .pinned], laidTests := true, laidLooks := .later }
def WordsTwiceCardSaid : Prop := Claim7.holds Tryd.pinned (.plain (OpenSpec.ofChange wordsTwiceSpec)) wordsTwiceCard

/-- THE TIED CARD OF 'reportescrowlaw11.WordsParts'. -/
def wordsPartsCard : Claim7 := { stood := { row := wordsPartsRow, standIns := [], harness := (true, "0581b4eff4a768d2d3962721275b1a9c3e52ae7e42b49429077d0159f2d19090"), looks := false }, kinds := [], alts := [], laidByText := true, laidKinds := [.data, .listed, .data, .pinned], laidTests := true, laidLooks := .later }
def WordsPartsCardSaid : Prop := Claim7.holds Tryd.pinned (.plain (OpenSpec.ofChange wordsPartsSpec)) wordsPartsCard

/-- THE TIED CARD OF 'reportescrowlaw11.WordsSpelled'. -/
def wordsSpelledCard : Claim7 := { stood := { row := wordsSpelledRow, standIns := [], harness := (true, "0581b4eff4a768d2d3962721275b1a9c3e52ae7e42b49429077d0159f2d19090"), looks := false }, kinds := [], alts := [], laidByText := true, laidKinds := [.data, .listed, .data, .pinned], laidTests := true, laidLooks := .later }
def WordsSpelledCardSaid : Prop := Claim7.holds Tryd.pinned (.plain (OpenSpec.ofChange wordsSpelledSpec)) wordsSpelledCard

/-- THE TIED CARD OF 'reportescrowlaw11.WordsLetters'. -/
def wordsLettersCard : Claim7 := { stood := { row := wordsLettersRow, standIns := [], harness := (true, "0581b4eff4a768d2d3962721275b1a9c3e52ae7e42b49429077d0159f2d19090"), looks := false }, kinds := [], alts := [], laidByText := true, laidKinds := [.data, .listed, .data, .pinned], laidTests := true, laidLooks := .later }
def WordsLettersCardSaid : Prop := Claim7.holds Tryd.pinned (.plain (OpenSpec.ofChange wordsLettersSpec)) wordsLettersCard

/-- THE TIED CARD OF 'reportescrowlaw12.RewriteLimits'. -/
def rewriteLimitsCard : Claim7 := { stood := { row := rewriteLimitsRow, standIns := [], harness := (true, "0581b4eff4a768d2d3962721275b1a9c3e52ae7e42b49429077d0159f2d19090"), looks := false }, kinds := [], alts := [], laidByText := true, laidKinds := [.data, .listed, .data, .pinned], laidTests := true, laidLooks := .later }
def RewriteLimitsCardSaid : Prop := Claim7.holds Tryd.pinned (.plain (OpenSpec.ofChange rewriteLimitsSpec)) rewriteLimitsCard

/-- THE TIED CARD OF 'reportescrowlaw12.RewriteOrder'. -/
def rewriteOrderCard : Claim7 := { stood := { row := rewriteOrderRow, standIns := [], harness := (true, "0581b4eff4a768d2d3962721275b1a9c3e52ae7e42b49429077d0159f2d19090"), looks := false }, kinds := [], alts := [], laidByText := true, laidKinds := [.data, .listed, .data, .pinned], laidTests := true, laidLooks := .later }
def RewriteOrderCardSaid : Prop := Claim7.holds Tryd.pinned (.plain (OpenSpec.ofChange rewriteOrderSpec)) rewriteOrderCard

/-- THE SECOND FORM's CARD OF 'reportescrowlaw11.WordsTwice'. -/
def wordsTwiceUptoCard : Claim7 := { stood := { row := wordsTwiceUptoRow, standIns := [], harness := (true, "0581b4eff4a768d2d3962721275b1a9c3e52ae7e42b49429077d0159f2d19090"), looks := false }, kinds := [], alts := [], laidByText := true, laidKinds := [.data, .listed, .data, .pinned], laidTests := true, laidLooks := .later }
def WordsTwiceUptoCardSaid : Prop := Claim7.holds Tryd.pinned (.plain (OpenSpec.upto wordsTwiceSpec)) wordsTwiceUptoCard

/-- THE SECOND FORM's CARD OF 'reportescrowlaw11.WordsParts'. -/
def wordsPartsUptoCard : Claim7 := { stood := { row := wordsPartsUptoRow, standIns := [], harness := (true, "0581b4eff4a768d2d3962721275b1a9c3e52ae7e42b49429077d0159f2d19090"), looks := false }, kinds := [], alts := [], laidByText := true, laidKinds := [.data, .listed, .data, .pinned], laidTests := true, laidLooks := .later }
def WordsPartsUptoCardSaid : Prop := Claim7.holds Tryd.pinned (.plain (OpenSpec.upto wordsPartsSpec)) wordsPartsUptoCard

/-- THE SECOND FORM's CARD OF 'reportescrowlaw11.WordsSpelled'. -/
def wordsSpelledUptoCard : Claim7 := { stood := { row := wordsSpelledUptoRow, standIns := [], harness := (true, "0581b4eff4a768d2d3962721275b1a9c3e52ae7e42b49429077d0159f2d19090"), looks := false }, kinds := [], alts := [], laidByText := true, laidKinds := [.data, .listed, .data, .pinned], laidTests := true, laidLooks := .later }
def WordsSpelledUptoCardSaid : Prop := Claim7.holds Tryd.pinned (.plain (OpenSpec.upto wordsSpelledSpec)) wordsSpelledUptoCard

/-- THE SECOND FORM's CARD OF 'reportescrowlaw11.WordsLetters'. -/
def wordsLettersUptoCard : Claim7 := { stood := { row := wordsLettersUptoRow, standIns := [], harness := (true, "0581b4eff4a768d2d3962721275b1a9c3e52ae7e42b49429077d0159f2d19090"), looks := false }, kinds := [], alts := [], laidByText := true, laidKinds := [.data, .listed, .data, .pinned], laidTests := true, laidLooks := .later }
def WordsLettersUptoCardSaid : Prop := Claim7.holds Tryd.pinned (.plain (OpenSpec.upto wordsLettersSpec)) wordsLettersUptoCard

/-- THE SECOND FORM's CARD OF 'reportescrowlaw12.RewriteLimits'. -/
def rewriteLimitsUptoCard : Claim7 := { stood := { row := rewriteLimitsUptoRow, standIns := [], harness := (true, "0581b4eff4a768d2d3962721275b1a9c3e52ae7e42b49429077d0159f2d19090"), looks := false }, kinds := [], alts := [], laidByText := true, laidKinds := [.data, .listed, .data, .pinned], laidTests := true, laidLooks := .later }
def RewriteLimitsUptoCardSaid : Prop := Claim7.holds Tryd.pinned (.plain (OpenSpec.upto rewriteLimitsSpec)) rewriteLimitsUptoCard

/-- THE SECOND FORM's CARD OF 'reportescrowlaw12.RewriteOrder'. -/
def rewriteOrderUptoCard : Claim7 := { stood := { row := rewriteOrderUptoRow, standIns := [], harness := (true, "0581b4eff4a768d2d3962721275b1a9c3e52ae7e42b49429077d0159f2d19090"), looks := false }, kinds := [], alts := [], laidByText := true, laidKinds := [.data, .listed, .data, .pinned], laidTests := true, laidLooks := .later }
def RewriteOrderUptoCardSaid : Prop := Claim7.holds Tryd.pinned (.plain (OpenSpec.upto rewriteOrderSpec)) rewriteOrderUptoCard
end Rows
end Go.Proofs.YtmegmgcfnihhiaaDoor
