/-
  DERIVED. GIVEN WITH THE SEED: THE PROGRAM's TIES (one call each: nine closed facts by the kernel) AND EACH ROW's TIE, after the 31st guide's Derived/Test/Toyas{Tie, Card}.lean. No idea stands in it: it is a product of the set-up. Laid BY PROGRAM, IN A SANDBOX (cutbox-door.mjs). By AI agents, Wed Nov 11 2026. No macro, syntax, notation, axiom, sorry.
-/
import Derived.Test.YtaembckojgfnlaaGreatDoorRows
import Derived.LaidByTextLater
import Derived.SevenTiedAt
import Derived.LaidSub
import Derived.LaidOnce
namespace Go.Proofs.YtaembckojgfnlaaGreatDoor
open Go
set_option maxRecDepth 100000
theorem seatTie1 : Tryz.prog.laidByTextLater [("errors.errorType", Rows.laid_errors_errorType), ("derrick/lex.longestMark", Rows.laid_derrick_lex_longestMark), ("derrick/check.errFile", Rows.laid_derrick_check_errFile), ("derrick/check.errScope", Rows.laid_derrick_check_errScope), ("derrick/check.errStmt", Rows.laid_derrick_check_errStmt), ("derrick/check.errJump", Rows.laid_derrick_check_errJump), ("derrick/check.errEnd", Rows.laid_derrick_check_errEnd), ("derrick/check.errExpr", Rows.laid_derrick_check_errExpr)] [.handle, .data, .sentinel, .sentinel, .sentinel, .sentinel, .sentinel, .sentinel] true :=
  Program.laidByTextLater_by_one 135 8 129 (by kernel_rfl) (by kernel_rfl) (by kernel_rfl) (by kernel_rfl) (by kernel_rfl) (by kernel_rfl) (fun _ _ => by kernel_rfl)
theorem noOwnUnsafe : Tryz.pinned.checked.prog.headLifts.contains "ownunsafe" = false := by kernel_rfl
theorem tie : Tryz.prog.laidByTextLater [("errors.errorType", Rows.laid_errors_errorType), ("derrick/lex.longestMark", Rows.laid_derrick_lex_longestMark), ("derrick/check.errFile", Rows.laid_derrick_check_errFile), ("derrick/check.errScope", Rows.laid_derrick_check_errScope), ("derrick/check.errStmt", Rows.laid_derrick_check_errStmt), ("derrick/check.errJump", Rows.laid_derrick_check_errJump), ("derrick/check.errEnd", Rows.laid_derrick_check_errEnd), ("derrick/check.errExpr", Rows.laid_derrick_check_errExpr)] [.handle, .data, .sentinel, .sentinel, .sentinel, .sentinel, .sentinel, .sentinel] true :=
  Program.laidByTextLater.sub seatTie1 ["errors.errorType", "derrick/lex.longestMark", "derrick/check.errFile", "derrick/check.errScope", "derrick/check.errStmt", "derrick/check.errJump", "derrick/check.errEnd", "derrick/check.errExpr"] (by kernel_rfl) (by kernel_rfl)
theorem checkOperators_row_tie : Rows.checkOperatorsRow.laidByTextAt .later Tryz.pinned [.handle, .data, .sentinel, .sentinel, .sentinel, .sentinel, .sentinel, .sentinel] true :=
  OpenClaim.laidByTextAt_later rfl rfl tie noOwnUnsafe
theorem checkOperatorsUpto_row_tie : Rows.checkOperatorsUptoRow.laidByTextAt .later Tryz.pinned [.handle, .data, .sentinel, .sentinel, .sentinel, .sentinel, .sentinel, .sentinel] true :=
  OpenClaim.laidByTextAt_later rfl rfl tie noOwnUnsafe
end Go.Proofs.YtaembckojgfnlaaGreatDoor
