/-
  DERIVED. GIVEN WITH THE SEED: THE CARDS: each row of YtcgemfiinmjllaaDoorRows.lean that lists a variable, with what it lists TIED to the program's text (the seventh form; the later family's looks); each row that meets fmt, with fmt's text TOLD by the authors' own Lean function (tested against real Go, not proved from fmt's source: count such statements apart). THE CARD IS WHAT COUNTS. Prove the row's statement (the work); the ties are given (YtcgemfiinmjllaaDoorTie.lean); close each card by the builder's one call (the guide's Derived/Test/ToyasCard.lean, 'card_holds'). Laid BY PROGRAM, IN A SANDBOX (cutbox-door.mjs). By AI agents, Wed Nov 11 2026. No macro, syntax, notation, axiom, sorry.
-/
import Derived.Test.YtcgemfiinmjllaaDoorRows
import GoSem.ClaimSeven
namespace Go.Proofs.YtcgemfiinmjllaaDoor
namespace Rows

/-- THE TIED CARD OF 'reportescrowlaw06.ShareExplains'. -/
def shareExplainsCard : Claim7 := { stood := { row := shareExplainsRow, standIns := [], harness := (true, "24ab7910a136b606e3333f21394a2bdee0b840e3cd680e130817bb65b6145c83"), looks := false }, kinds := [], alts := [], laidByText := true, laidKinds := [.data], laidTests := true, laidLooks := .later }
def ShareExplainsCardSaid : Prop := Claim7.holds Tryd.pinned (.plain (OpenSpec.ofChange shareExplainsSpec)) shareExplainsCard

/-- THE SECOND FORM's CARD OF 'reportescrowlaw06.ShareExplains'. -/
def shareExplainsUptoCard : Claim7 := { stood := { row := shareExplainsUptoRow, standIns := [], harness := (true, "24ab7910a136b606e3333f21394a2bdee0b840e3cd680e130817bb65b6145c83"), looks := false }, kinds := [], alts := [], laidByText := true, laidKinds := [.data], laidTests := true, laidLooks := .later }
def ShareExplainsUptoCardSaid : Prop := Claim7.holds Tryd.pinned (.plain (OpenSpec.upto shareExplainsSpec)) shareExplainsUptoCard
end Rows
end Go.Proofs.YtcgemfiinmjllaaDoor
