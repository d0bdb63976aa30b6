/-
  DERIVED. GIVEN WITH THE SEED: THE CARDS: each row of YtkcbbdkijlipfaaDoorRows.lean that lists a variable, with what it lists TIED to the program's text (the seventh form; the later family's looks); each row that meets fmt, with fmt's text TOLD by the authors' own Lean function (tested against real Go, not proved from fmt's source: count such statements apart). THE CARD IS WHAT COUNTS. Prove the row's statement (the work); the ties are given (YtkcbbdkijlipfaaDoorTie.lean); close each card by the builder's one call (the guide's Derived/Test/ToyasCard.lean, 'card_holds'). Laid BY PROGRAM, IN A SANDBOX (cutbox-door.mjs). By AI agents, Wed Nov 11 2026. No macro, syntax, notation, axiom, sorry.
-/
import Derived.Test.YtkcbbdkijlipfaaDoorRows
import GoSem.ClaimSeven
namespace Go.Proofs.YtkcbbdkijlipfaaDoor
namespace Rows

/-- THE TIED CARD OF 'reportescrowlaw07.CorrectBears'. -/
def correctBearsCard : Claim7 := { stood := { row := correctBearsRow, standIns := [], harness := (true, "ff080d90de5d0962245d8477472ce58b0f4f2683753c6c90f6c3158bfcc5248c"), looks := false }, kinds := [], alts := [], laidByText := true, laidKinds := [.data], laidTests := true, laidLooks := .later }
def CorrectBearsCardSaid : Prop := Claim7.holds Tryd.pinned (.plain (OpenSpec.ofChange correctBearsSpec)) correctBearsCard

/-- THE TIED CARD OF 'reportescrowlaw07.CorrectOnly'. -/
def correctOnlyCard : Claim7 := { stood := { row := correctOnlyRow, standIns := [], harness := (true, "ff080d90de5d0962245d8477472ce58b0f4f2683753c6c90f6c3158bfcc5248c"), looks := false }, kinds := [], alts := [], laidByText := true, laidKinds := [.data], laidTests := true, laidLooks := .later }
def CorrectOnlyCardSaid : Prop := Claim7.holds Tryd.pinned (.plain (OpenSpec.ofChange correctOnlySpec)) correctOnlyCard

/-- THE TIED CARD OF 'reportescrowlaw07.CorrectMarks'. -/
def correctMarksCard : Claim7 := { stood := { row := correctMarksRow, standIns := [], harness := (true, "ff080d90de5d0962245d8477472ce58b0f4f2683753c6c90f6c3158bfcc5248c"), looks := false }, kinds := [], alts := [], laidByText := true, laidKinds := [.data, .data, .data], laidTests := true, laidLooks := .later }
def CorrectMarksCardSaid : Prop := Claim7.holds Tryd.pinned (.plain (OpenSpec.ofChange correctMarksSpec)) correctMarksCard

/-- THE TIED CARD OF 'reportescrowlaw07.CorrectRoom'. -/
def correctRoomCard : Claim7 := { stood := { row := correctRoomRow, standIns := [], harness := (true, "ff080d90de5d0962245d8477472ce58b0f4f2683753c6c90f6c3158bfcc5248c"), looks := false }, kinds := [], alts := [], laidByText := true, laidKinds := [.data], laidTests := true, laidLooks := .later }
def CorrectRoomCardSaid : Prop := Claim7.holds Tryd.pinned (.plain (OpenSpec.ofChange correctRoomSpec)) correctRoomCard

/-- THE SECOND FORM's CARD OF 'reportescrowlaw07.CorrectBears'. -/
def correctBearsUptoCard : Claim7 := { stood := { row := correctBearsUptoRow, standIns := [], harness := (true, "ff080d90de5d0962245d8477472ce58b0f4f2683753c6c90f6c3158bfcc5248c"), looks := false }, kinds := [], alts := [], laidByText := true, laidKinds := [.data], laidTests := true, laidLooks := .later }
def CorrectBearsUptoCardSaid : Prop := Claim7.holds Tryd.pinned (.plain (OpenSpec.upto correctBearsSpec)) correctBearsUptoCard

/-- THE SECOND FORM's CARD OF 'reportescrowlaw07.CorrectOnly'. -/
def correctOnlyUptoCard : Claim7 := { stood := { row := correctOnlyUptoRow, standIns := [], harness := (true, "ff080d90de5d0962245d8477472ce58b0f4f2683753c6c90f6c3158bfcc5248c"), looks := false }, kinds := [], alts := [], laidByText := true, laidKinds := [.data], laidTests := true, laidLooks := .later }
def CorrectOnlyUptoCardSaid : Prop := Claim7.holds Tryd.pinned (.plain (OpenSpec.upto correctOnlySpec)) correctOnlyUptoCard

/-- THE SECOND FORM's CARD OF 'reportescrowlaw07.CorrectMarks'. -/
def correctMarksUptoCard : Claim7 := { stood := { row := correctMarksUptoRow, standIns := [], harness := (true, "ff080d90de5d0962245d8477472ce58b0f4f2683753c6c90f6c3158bfcc5248c"), looks := false }, kinds := [], alts := [], laidByText := true, laidKinds := [.data, .data, .data], laidTests := true, laidLooks := .later }
def CorrectMarksUptoCardSaid : Prop := Claim7.holds Tryd.pinned (.plain (OpenSpec.upto correctMarksSpec)) correctMarksUptoCard

/-- THE SECOND FORM's CARD OF 'reportescrowlaw07.CorrectRoom'. -/
def correctRoomUptoCard : Claim7 := { stood := { row := correctRoomUptoRow, standIns := [], harness := (true, "ff080d90de5d0962245d8477472ce58b0f4f2683753c6c90f6c3158bfcc5248c"), looks := false }, kinds := [], alts := [], laidByText := true, laidKinds := [.data], laidTests := true, laidLooks := .later }
def CorrectRoomUptoCardSaid : Prop := Claim7.holds Tryd.pinned (.plain (OpenSpec.upto correctRoomSpec)) correctRoomUptoCard
end Rows
end Go.Proofs.YtkcbbdkijlipfaaDoor
