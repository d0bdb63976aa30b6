/-
  DERIVED. GIVEN WITH THE SEED: THE CARDS: each row of YtdidplpbkfkdeaaGreatDoorRows.lean that lists a variable, with what it lists TIED to the program's text (the seventh form; the later family's looks); each row that meets fmt, with fmt's text TOLD by the authors' own Lean function (tested against real Go, not proved from fmt's source: count such statements apart). THE CARD IS WHAT COUNTS. Prove the row's statement (the work); the ties are given (YtdidplpbkfkdeaaGreatDoorTie.lean); close each card by the builder's one call (the guide's Derived/Test/ToyasCard.lean, 'card_holds'). Laid BY PROGRAM, IN A SANDBOX (cutbox-door.mjs). By AI agents, Wed Nov 11 2026. No macro, syntax, notation, axiom, sorry.
-/
import Derived.Test.YtdidplpbkfkdeaaGreatDoorRows
import GoSem.ClaimSeven
namespace Go.Proofs.YtdidplpbkfkdeaaGreatDoor
namespace Rows

/-- THE TIED CARD OF 'reportescrowlaw07.CorrectOne'. -/
def correctOneCard : Claim7 := { stood := { row := correctOneRow, standIns := [], harness := (true, "a500099bbc6062abe5c6a011c618b7845e6a4575c9b928504a63a82d12520cf2"), looks := false }, kinds := [], alts := [], laidByText := true, laidKinds := [.data], laidTests := true, laidLooks := .later }
def CorrectOneCardSaid : Prop := Claim7.holds Tryz.pinned (.plain (OpenSpec.ofChange correctOneSpec)) correctOneCard

/-- THE TIED CARD OF 'reportescrowlaw07.CorrectRobust'. -/
def correctRobustCard : Claim7 := { stood := { row := correctRobustRow, standIns := [], harness := (true, "a500099bbc6062abe5c6a011c618b7845e6a4575c9b928504a63a82d12520cf2"), looks := false }, kinds := [], alts := [], laidByText := true, laidKinds := [.data, .data, .data], laidTests := true, laidLooks := .later }
def CorrectRobustCardSaid : Prop := Claim7.holds Tryz.pinned (.plain (OpenSpec.ofChange correctRobustSpec)) correctRobustCard

/-- THE SECOND FORM's CARD OF 'reportescrowlaw07.CorrectOne'. -/
def correctOneUptoCard : Claim7 := { stood := { row := correctOneUptoRow, standIns := [], harness := (true, "a500099bbc6062abe5c6a011c618b7845e6a4575c9b928504a63a82d12520cf2"), looks := false }, kinds := [], alts := [], laidByText := true, laidKinds := [.data], laidTests := true, laidLooks := .later }
def CorrectOneUptoCardSaid : Prop := Claim7.holds Tryz.pinned (.plain (OpenSpec.upto correctOneSpec)) correctOneUptoCard

/-- THE SECOND FORM's CARD OF 'reportescrowlaw07.CorrectRobust'. -/
def correctRobustUptoCard : Claim7 := { stood := { row := correctRobustUptoRow, standIns := [], harness := (true, "a500099bbc6062abe5c6a011c618b7845e6a4575c9b928504a63a82d12520cf2"), looks := false }, kinds := [], alts := [], laidByText := true, laidKinds := [.data, .data, .data], laidTests := true, laidLooks := .later }
def CorrectRobustUptoCardSaid : Prop := Claim7.holds Tryz.pinned (.plain (OpenSpec.upto correctRobustSpec)) correctRobustUptoCard
end Rows
end Go.Proofs.YtdidplpbkfkdeaaGreatDoor
