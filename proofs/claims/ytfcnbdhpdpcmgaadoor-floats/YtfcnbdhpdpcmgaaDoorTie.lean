/-
  DERIVED. GIVEN WITH THE SEED: THE PROGRAM's TIES (one call each: nine closed facts by the kernel) AND EACH ROW's TIE, after the 31st guide's Derived/Test/Toyas{Tie, Card}.lean. No idea stands in it: it is a product of the set-up. Laid BY PROGRAM, IN A SANDBOX (cutbox-door.mjs). By AI agents, Wed Nov 11 2026. No macro, syntax, notation, axiom, sorry.
-/
import Derived.Test.YtfcnbdhpdpcmgaaDoorRows
import Derived.LaidByTextLater
import Derived.SevenTiedAt
import Derived.LaidSub
import Derived.LaidOnce
namespace Go.Proofs.YtfcnbdhpdpcmgaaDoor
open Go
set_option maxRecDepth 100000
theorem seatTie1 : Tryd.prog.laidByTextLater [("signet/values.wide", Rows.laid_signet_values_wide), ("signet/values.narrow", Rows.laid_signet_values_narrow), ("signet/values.headKinds", Rows.laid_signet_values_headKinds)] [.wider, .wider, .data] true :=
  Program.laidByTextLater_by_one 41 8 33 (by kernel_rfl) (by kernel_rfl) (by kernel_rfl) (by kernel_rfl) (by kernel_rfl) (by kernel_rfl) (fun _ _ => by kernel_rfl)
theorem noOwnUnsafe : Tryd.pinned.checked.prog.headLifts.contains "ownunsafe" = false := by kernel_rfl
theorem tie : Tryd.prog.laidByTextLater [("signet/values.wide", Rows.laid_signet_values_wide), ("signet/values.narrow", Rows.laid_signet_values_narrow), ("signet/values.headKinds", Rows.laid_signet_values_headKinds)] [.wider, .wider, .data] true :=
  Program.laidByTextLater.sub seatTie1 ["signet/values.wide", "signet/values.narrow", "signet/values.headKinds"] (by kernel_rfl) (by kernel_rfl)
theorem encoded_row_tie : Rows.encodedRow.laidByTextAt .later Tryd.pinned [.wider, .wider, .data] true :=
  OpenClaim.laidByTextAt_later rfl rfl tie noOwnUnsafe
theorem decoded_row_tie : Rows.decodedRow.laidByTextAt .later Tryd.pinned [.wider, .wider, .data] true :=
  OpenClaim.laidByTextAt_later rfl rfl tie noOwnUnsafe
theorem heads_row_tie : Rows.headsRow.laidByTextAt .later Tryd.pinned [.wider, .wider, .data] true :=
  OpenClaim.laidByTextAt_later rfl rfl tie noOwnUnsafe
theorem floats_row_tie : Rows.floatsRow.laidByTextAt .later Tryd.pinned [.wider, .wider, .data] true :=
  OpenClaim.laidByTextAt_later rfl rfl tie noOwnUnsafe
theorem encodedUpto_row_tie : Rows.encodedUptoRow.laidByTextAt .later Tryd.pinned [.wider, .wider, .data] true :=
  OpenClaim.laidByTextAt_later rfl rfl tie noOwnUnsafe
theorem decodedUpto_row_tie : Rows.decodedUptoRow.laidByTextAt .later Tryd.pinned [.wider, .wider, .data] true :=
  OpenClaim.laidByTextAt_later rfl rfl tie noOwnUnsafe
theorem headsUpto_row_tie : Rows.headsUptoRow.laidByTextAt .later Tryd.pinned [.wider, .wider, .data] true :=
  OpenClaim.laidByTextAt_later rfl rfl tie noOwnUnsafe
theorem floatsUpto_row_tie : Rows.floatsUptoRow.laidByTextAt .later Tryd.pinned [.wider, .wider, .data] true :=
  OpenClaim.laidByTextAt_later rfl rfl tie noOwnUnsafe
end Go.Proofs.YtfcnbdhpdpcmgaaDoor
