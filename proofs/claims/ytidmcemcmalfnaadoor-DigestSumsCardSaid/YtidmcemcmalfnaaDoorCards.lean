/-
  DERIVED. GIVEN WITH THE SEED: THE CARDS: each row of YtidmcemcmalfnaaDoorRows.lean that lists a variable, with what it lists TIED to the program's text (the seventh form; the later family's looks); each row that meets fmt, with fmt's text TOLD by the authors' own Lean function (tested against real Go, not proved from fmt's source: count such statements apart). THE CARD IS WHAT COUNTS. Prove the row's statement (the work); the ties are given (YtidmcemcmalfnaaDoorTie.lean); close each card by the builder's one call (the guide's Derived/Test/ToyasCard.lean, 'card_holds'). Laid BY PROGRAM, IN A SANDBOX (cutbox-door.mjs). By AI agents, Wed Nov 11 2026. No macro, syntax, notation, axiom, sorry.
-/
import Derived.Test.YtidmcemcmalfnaaDoorRows
import GoSem.ClaimSeven
namespace Go.Proofs.YtidmcemcmalfnaaDoor
namespace Rows

/-- THE TIED CARD OF 'reportescrowlaw03.DigestSums'. -/
def digestSumsCard : Claim7 := { stood := { row := digestSumsRow, standIns := [], harness := (true, "ff1111916bced367cb3d750e3c1e7ec09e3ae6b024c7cf765d0e4995c6db69cc"), looks := false }, kinds := [], alts := [], laidByText := true, laidKinds := [.data, .data], laidTests := true, laidLooks := .later }
def DigestSumsCardSaid : Prop := Claim7.holds Tryd.pinned (.plain (OpenSpec.ofChange digestSumsSpec)) digestSumsCard

/-- THE TIED CARD OF 'reportescrowlaw03.DigestLists'. -/
def digestListsCard : Claim7 := { stood := { row := digestListsRow, standIns := [], harness := (true, "ff1111916bced367cb3d750e3c1e7ec09e3ae6b024c7cf765d0e4995c6db69cc"), looks := false }, kinds := [], alts := [], laidByText := true, laidKinds := [.data, .data], laidTests := true, laidLooks := .later }
def DigestListsCardSaid : Prop := Claim7.holds Tryd.pinned (.plain (OpenSpec.ofChange digestListsSpec)) digestListsCard

/-- THE TIED CARD OF 'reportescrowlaw03.DigestElements'. -/
def digestElementsCard : Claim7 := { stood := { row := digestElementsRow, standIns := [], harness := (true, "ff1111916bced367cb3d750e3c1e7ec09e3ae6b024c7cf765d0e4995c6db69cc"), looks := false }, kinds := [], alts := [], laidByText := true, laidKinds := [.data, .data], laidTests := true, laidLooks := .later }
def DigestElementsCardSaid : Prop := Claim7.holds Tryd.pinned (.plain (OpenSpec.ofChange digestElementsSpec)) digestElementsCard

/-- THE TIED CARD OF 'reportescrowlaw03.DigestStreams'. -/
def digestStreamsCard : Claim7 := { stood := { row := digestStreamsRow, standIns := [], harness := (true, "ff1111916bced367cb3d750e3c1e7ec09e3ae6b024c7cf765d0e4995c6db69cc"), looks := false }, kinds := [], alts := [], laidByText := true, laidKinds := [.data, .data], laidTests := true, laidLooks := .later }
def DigestStreamsCardSaid : Prop := Claim7.holds Tryd.pinned (.plain (OpenSpec.ofChange digestStreamsSpec)) digestStreamsCard

/-- THE SECOND FORM's CARD OF 'reportescrowlaw03.DigestSums'. -/
def digestSumsUptoCard : Claim7 := { stood := { row := digestSumsUptoRow, standIns := [], harness := (true, "ff1111916bced367cb3d750e3c1e7ec09e3ae6b024c7cf765d0e4995c6db69cc"), looks := false }, kinds := [], alts := [], laidByText := true, laidKinds := [.data, .data], laidTests := true, laidLooks := .later }
def DigestSumsUptoCardSaid : Prop := Claim7.holds Tryd.pinned (.plain (OpenSpec.upto digestSumsSpec)) digestSumsUptoCard

/-- THE SECOND FORM's CARD OF 'reportescrowlaw03.DigestLists'. -/
def digestListsUptoCard : Claim7 := { stood := { row := digestListsUptoRow, standIns := [], harness := (true, "ff1111916bced367cb3d750e3c1e7ec09e3ae6b024c7cf765d0e4995c6db69cc"), looks := false }, kinds := [], alts := [], laidByText := true, laidKinds := [.data, .data], laidTests := true, laidLooks := .later }
def DigestListsUptoCardSaid : Prop := Claim7.holds Tryd.pinned (.plain (OpenSpec.upto digestListsSpec)) digestListsUptoCard

/-- THE SECOND FORM's CARD OF 'reportescrowlaw03.DigestElements'. -/
def digestElementsUptoCard : Claim7 := { stood := { row := digestElementsUptoRow, standIns := [], harness := (true, "ff1111916bced367cb3d750e3c1e7ec09e3ae6b024c7cf765d0e4995c6db69cc"), looks := false }, kinds := [], alts := [], laidByText := true, laidKinds := [.data, .data], laidTests := true, laidLooks := .later }
def DigestElementsUptoCardSaid : Prop := Claim7.holds Tryd.pinned (.plain (OpenSpec.upto digestElementsSpec)) digestElementsUptoCard

/-- THE SECOND FORM's CARD OF 'reportescrowlaw03.DigestStreams'. -/
def digestStreamsUptoCard : Claim7 := { stood := { row := digestStreamsUptoRow, standIns := [], harness := (true, "ff1111916bced367cb3d750e3c1e7ec09e3ae6b024c7cf765d0e4995c6db69cc"), looks := false }, kinds := [], alts := [], laidByText := true, laidKinds := [.data, .data], laidTests := true, laidLooks := .later }
def DigestStreamsUptoCardSaid : Prop := Claim7.holds Tryd.pinned (.plain (OpenSpec.upto digestStreamsSpec)) digestStreamsUptoCard
end Rows
end Go.Proofs.YtidmcemcmalfnaaDoor
