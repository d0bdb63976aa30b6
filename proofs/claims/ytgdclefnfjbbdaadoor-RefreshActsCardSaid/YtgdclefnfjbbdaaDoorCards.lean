/-
  DERIVED. GIVEN WITH THE SEED: THE CARDS: each row of YtgdclefnfjbbdaaDoorRows.lean that lists a variable, with what it lists TIED to the program's text (the seventh form; the later family's looks); each row that meets fmt, with fmt's text TOLD by the authors' own Lean function (tested against real Go, not proved from fmt's source: count such statements apart). THE CARD IS WHAT COUNTS. Prove the row's statement (the work); the ties are given (YtgdclefnfjbbdaaDoorTie.lean); close each card by the builder's one call (the guide's Derived/Test/ToyasCard.lean, 'card_holds'). Laid BY PROGRAM, IN A SANDBOX (cutbox-door.mjs). By AI agents, Wed Nov 11 2026. No macro, syntax, notation, axiom, sorry.
-/
import Derived.Test.YtgdclefnfjbbdaaDoorRows
import GoSem.ClaimSeven
namespace Go.Proofs.YtgdclefnfjbbdaaDoor
namespace Rows

/-- THE TIED CARD OF 'reportescrowlaw08.RefreshActs'. -/
def refreshActsCard : Claim7 := { stood := { row := refreshActsRow, standIns := [], harness := (true, "bf69403b7ea607f5463e83c9230707c4107f3d829089b9b2fe509dc460cc50c0"), looks := false }, kinds := [], alts := [], laidByText := true, laidKinds := [.data], laidTests := true, laidLooks := .later }
def RefreshActsCardSaid : Prop := Claim7.holds Tryd.pinned (.plain (OpenSpec.ofChange refreshActsSpec)) refreshActsCard

/-- THE TIED CARD OF 'reportescrowlaw08.RefreshKeeps'. -/
def refreshKeepsCard : Claim7 := { stood := { row := refreshKeepsRow, standIns := [], harness := (true, "bf69403b7ea607f5463e83c9230707c4107f3d829089b9b2fe509dc460cc50c0"), looks := false }, kinds := [], alts := [], laidByText := true, laidKinds := [.data], laidTests := true, laidLooks := .later }
def RefreshKeepsCardSaid : Prop := Claim7.holds Tryd.pinned (.plain (OpenSpec.ofChange refreshKeepsSpec)) refreshKeepsCard

/-- THE TIED CARD OF 'reportescrowlaw08.RefreshOrders'. -/
def refreshOrdersCard : Claim7 := { stood := { row := refreshOrdersRow, standIns := [], harness := (true, "bf69403b7ea607f5463e83c9230707c4107f3d829089b9b2fe509dc460cc50c0"), looks := false }, kinds := [], alts := [], laidByText := true, laidKinds := [.data], laidTests := true, laidLooks := .later }
def RefreshOrdersCardSaid : Prop := Claim7.holds Tryd.pinned (.plain (OpenSpec.ofChange refreshOrdersSpec)) refreshOrdersCard

/-- THE TIED CARD OF 'reportescrowlaw08.RefreshMixes'. -/
def refreshMixesCard : Claim7 := { stood := { row := refreshMixesRow, standIns := [], harness := (true, "bf69403b7ea607f5463e83c9230707c4107f3d829089b9b2fe509dc460cc50c0"), looks := false }, kinds := [], alts := [], laidByText := true, laidKinds := [.data], laidTests := true, laidLooks := .later }
def RefreshMixesCardSaid : Prop := Claim7.holds Tryd.pinned (.plain (OpenSpec.ofChange refreshMixesSpec)) refreshMixesCard

/-- THE TIED CARD OF 'reportescrowlaw08.RefreshOld'. -/
def refreshOldCard : Claim7 := { stood := { row := refreshOldRow, standIns := [], harness := (true, "bf69403b7ea607f5463e83c9230707c4107f3d829089b9b2fe509dc460cc50c0"), looks := false }, kinds := [], alts := [], laidByText := true, laidKinds := [.data], laidTests := true, laidLooks := .later }
def RefreshOldCardSaid : Prop := Claim7.holds Tryd.pinned (.plain (OpenSpec.ofChange refreshOldSpec)) refreshOldCard

/-- THE SECOND FORM's CARD OF 'reportescrowlaw08.RefreshActs'. -/
def refreshActsUptoCard : Claim7 := { stood := { row := refreshActsUptoRow, standIns := [], harness := (true, "bf69403b7ea607f5463e83c9230707c4107f3d829089b9b2fe509dc460cc50c0"), looks := false }, kinds := [], alts := [], laidByText := true, laidKinds := [.data], laidTests := true, laidLooks := .later }
def RefreshActsUptoCardSaid : Prop := Claim7.holds Tryd.pinned (.plain (OpenSpec.upto refreshActsSpec)) refreshActsUptoCard

/-- THE SECOND FORM's CARD OF 'reportescrowlaw08.RefreshKeeps'. -/
def refreshKeepsUptoCard : Claim7 := { stood := { row := refreshKeepsUptoRow, standIns := [], harness := (true, "bf69403b7ea607f5463e83c9230707c4107f3d829089b9b2fe509dc460cc50c0"), looks := false }, kinds := [], alts := [], laidByText := true, laidKinds := [.data], laidTests := true, laidLooks := .later }
def RefreshKeepsUptoCardSaid : Prop := Claim7.holds Tryd.pinned (.plain (OpenSpec.upto refreshKeepsSpec)) refreshKeepsUptoCard

/-- THE SECOND FORM's CARD OF 'reportescrowlaw08.RefreshOrders'. -/
def refreshOrdersUptoCard : Claim7 := { stood := { row := refreshOrdersUptoRow, standIns := [], harness := (true, "bf69403b7ea607f5463e83c9230707c4107f3d829089b9b2fe509dc460cc50c0"), looks := false }, kinds := [], alts := [], laidByText := true, laidKinds := [.data], laidTests := true, laidLooks := .later }
def RefreshOrdersUptoCardSaid : Prop := Claim7.holds Tryd.pinned (.plain (OpenSpec.upto refreshOrdersSpec)) refreshOrdersUptoCard

/-- THE SECOND FORM's CARD OF 'reportescrowlaw08.RefreshMixes'. -/
def refreshMixesUptoCard : Claim7 := { stood := { row := refreshMixesUptoRow, standIns := [], harness := (true, "bf69403b7ea607f5463e83c9230707c4107f3d829089b9b2fe509dc460cc50c0"), looks := false }, kinds := [], alts := [], laidByText := true, laidKinds := [.data], laidTests := true, laidLooks := .later }
def RefreshMixesUptoCardSaid : Prop := Claim7.holds Tryd.pinned (.plain (OpenSpec.upto refreshMixesSpec)) refreshMixesUptoCard

/-- THE SECOND FORM's CARD OF 'reportescrowlaw08.RefreshOld'. -/
def refreshOldUptoCard : Claim7 := { stood := { row := refreshOldUptoRow, standIns := [], harness := (true, "bf69403b7ea607f5463e83c9230707c4107f3d829089b9b2fe509dc460cc50c0"), looks := false }, kinds := [], alts := [], laidByText := true, laidKinds := [.data], laidTests := true, laidLooks := .later }
def RefreshOldUptoCardSaid : Prop := Claim7.holds Tryd.pinned (.plain (OpenSpec.upto refreshOldSpec)) refreshOldUptoCard
end Rows
end Go.Proofs.YtgdclefnfjbbdaaDoor
