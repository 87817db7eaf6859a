import Derived.Test.YtpfnnjfapcnbnaaGreatDoorRows
import Derived.Test.YtpfnnjfapcnbnaaGreatDoorLa
import Derived.Deep.QuietTactic
import Derived.BigQuiet
namespace Go.Proofs.YtpfnnjfapcnbnaaGreatDoor.st
open Go.ChangeShapes Go.WideShapes Go.ChangeAt Go.RowKit Go.Deep
set_option linter.unusedVariables false
theorem info9 : (Tryz.prog.info? 9).map (fun i => (i.zero, i.size, i.bytes)) = some (some (.string ⟨#[]⟩), 1, 16) := by kernel_rfl
end Go.Proofs.YtpfnnjfapcnbnaaGreatDoor.st
