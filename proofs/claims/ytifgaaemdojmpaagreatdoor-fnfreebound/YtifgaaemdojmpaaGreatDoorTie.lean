/-
  DERIVED. GIVEN WITH THE SEED: THE PROGRAM's TIES (one call each: nine closed facts by the kernel) AND EACH ROW's TIE, after the 31st guide's Derived/Test/Toyas{Tie, Card}.lean. No idea stands in it: it is a product of the set-up. Laid BY PROGRAM, IN A SANDBOX (cutbox-door.mjs). By AI agents, Wed Nov 11 2026. No macro, syntax, notation, axiom, sorry.
-/
import Derived.Test.YtifgaaemdojmpaaGreatDoorRows
import Derived.LaidByTextLater
import Derived.SevenTiedAt
import Derived.LaidSub
import Derived.LaidOnce
namespace Go.Proofs.YtifgaaemdojmpaaGreatDoor
open Go
set_option maxRecDepth 100000
theorem seatTie1 : Tryz.prog.laidByTextLater [("loop.example/g00023/impl.escapes", Rows.laid_loop_example_g00023_impl_escapes), ("loop.example/g00023/impl.shapes", Rows.laid_loop_example_g00023_impl_shapes), ("loop.example/g00023/impl.signsBetween", Rows.laid_loop_example_g00023_impl_signsBetween)] [.data, .data, .data] true :=
  Program.laidByTextLater_by_one 63 8 106 (by kernel_rfl) (by kernel_rfl) (by kernel_rfl) (by kernel_rfl) (by kernel_rfl) (by kernel_rfl) (fun _ _ => by kernel_rfl)
theorem noOwnUnsafe : Tryz.pinned.checked.prog.headLifts.contains "ownunsafe" = false := by kernel_rfl
theorem tie : Tryz.prog.laidByTextLater [("loop.example/g00023/impl.escapes", Rows.laid_loop_example_g00023_impl_escapes), ("loop.example/g00023/impl.shapes", Rows.laid_loop_example_g00023_impl_shapes), ("loop.example/g00023/impl.signsBetween", Rows.laid_loop_example_g00023_impl_signsBetween)] [.data, .data, .data] true :=
  Program.laidByTextLater.sub seatTie1 ["loop.example/g00023/impl.escapes", "loop.example/g00023/impl.shapes", "loop.example/g00023/impl.signsBetween"] (by kernel_rfl) (by kernel_rfl)
theorem fnFreeBound_row_tie : Rows.fnFreeBoundRow.laidByTextAt .later Tryz.pinned [.data, .data, .data] true :=
  OpenClaim.laidByTextAt_later rfl rfl tie noOwnUnsafe
theorem fnFreeBoundUpto_row_tie : Rows.fnFreeBoundUptoRow.laidByTextAt .later Tryz.pinned [.data, .data, .data] true :=
  OpenClaim.laidByTextAt_later rfl rfl tie noOwnUnsafe
end Go.Proofs.YtifgaaemdojmpaaGreatDoor
