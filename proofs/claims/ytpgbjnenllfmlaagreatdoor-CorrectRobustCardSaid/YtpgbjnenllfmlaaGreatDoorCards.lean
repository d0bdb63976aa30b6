/-
  DERIVED. GIVEN WITH THE SEED: THE CARDS: each row of YtpgbjnenllfmlaaGreatDoorRows.lean that lists a variable, with what it lists TIED to the program's text (the seventh form; the later family's looks); each row that meets fmt, with fmt's text TOLD by the authors' own Lean function (tested against real Go, not proved from fmt's source: count such statements apart). THE CARD IS WHAT COUNTS. Prove the row's statement (the work); the ties are given (YtpgbjnenllfmlaaGreatDoorTie.lean); close each card by the builder's one call (the guide's Derived/Test/ToyasCard.lean, 'card_holds'). Laid BY PROGRAM, IN A SANDBOX (cutbox-door.mjs). By AI agents, Wed Nov 11 2026. No macro, syntax, notation, axiom, sorry.
-/
import Derived.Test.YtpgbjnenllfmlaaGreatDoorRows
import GoSem.ClaimSeven
namespace Go.Proofs.YtpgbjnenllfmlaaGreatDoor
namespace Rows

/-- THE TIED CARD OF 'reportescrowlaw07.CorrectRobust'. -/
def correctRobustCard : Claim7 := { stood := { row := correctRobustRow, standIns := [], harness := (true, "ea8c33c71a1c7abddbce8fd168c4149d0215c688dff5c30ddcf5be7ed4b7383e"), looks := false }, kinds := [], alts := [], laidByText := true, laidKinds := [.data, .data, .data], laidTests := true, laidLooks := .later }
def CorrectRobustCardSaid : Prop := Claim7.holds Tryz.pinned (.plain (OpenSpec.ofChange correctRobustSpec)) correctRobustCard

/-- THE SECOND FORM's CARD OF 'reportescrowlaw07.CorrectRobust'. -/
def correctRobustUptoCard : Claim7 := { stood := { row := correctRobustUptoRow, standIns := [], harness := (true, "ea8c33c71a1c7abddbce8fd168c4149d0215c688dff5c30ddcf5be7ed4b7383e"), looks := false }, kinds := [], alts := [], laidByText := true, laidKinds := [.data, .data, .data], laidTests := true, laidLooks := .later }
def CorrectRobustUptoCardSaid : Prop := Claim7.holds Tryz.pinned (.plain (OpenSpec.upto correctRobustSpec)) correctRobustUptoCard
end Rows
end Go.Proofs.YtpgbjnenllfmlaaGreatDoor
