/-
  DERIVED. GIVEN WITH THE SEED: THE PROGRAM's TIES (one call each: nine closed facts by the kernel) AND EACH ROW's TIE, after the 31st guide's Derived/Test/Toyas{Tie, Card}.lean. No idea stands in it: it is a product of the set-up. Laid BY PROGRAM, IN A SANDBOX (cutbox-door.mjs). By AI agents, Wed Nov 11 2026. No macro, syntax, notation, axiom, sorry.
-/
import Derived.Test.YtpgbjnenllfmlaaGreatDoorRows
import Derived.LaidByTextLater
import Derived.SevenTiedAt
import Derived.LaidSub
import Derived.LaidOnce
namespace Go.Proofs.YtpgbjnenllfmlaaGreatDoor
open Go
set_option maxRecDepth 100000
theorem seatTie1 : Tryz.prog.laidByTextLater [("reportescrow/digest.constants", Rows.laid_reportescrow_digest_constants), ("reportescrow/digest.initial", Rows.laid_reportescrow_digest_initial), ("reportescrow/field.wheel", Rows.laid_reportescrow_field_wheel)] [.data, .data, .data] true :=
  Program.laidByTextLater_by_one 24 8 65 (by kernel_rfl) (by kernel_rfl) (by kernel_rfl) (by kernel_rfl) (by kernel_rfl) (by kernel_rfl) (fun _ _ => by kernel_rfl)
theorem noOwnUnsafe : Tryz.pinned.checked.prog.headLifts.contains "ownunsafe" = false := by kernel_rfl
theorem tie : Tryz.prog.laidByTextLater [("reportescrow/digest.constants", Rows.laid_reportescrow_digest_constants), ("reportescrow/digest.initial", Rows.laid_reportescrow_digest_initial), ("reportescrow/field.wheel", Rows.laid_reportescrow_field_wheel)] [.data, .data, .data] true :=
  Program.laidByTextLater.sub seatTie1 ["reportescrow/digest.constants", "reportescrow/digest.initial", "reportescrow/field.wheel"] (by kernel_rfl) (by kernel_rfl)
theorem correctRobust_row_tie : Rows.correctRobustRow.laidByTextAt .later Tryz.pinned [.data, .data, .data] true :=
  OpenClaim.laidByTextAt_later rfl rfl tie noOwnUnsafe
theorem correctRobustUpto_row_tie : Rows.correctRobustUptoRow.laidByTextAt .later Tryz.pinned [.data, .data, .data] true :=
  OpenClaim.laidByTextAt_later rfl rfl tie noOwnUnsafe
end Go.Proofs.YtpgbjnenllfmlaaGreatDoor
