import Derived.Test.YtfkfccpjfagamaaGreatDoorRows
import Derived.Test.YtfkfccpjfagamaaGreatDoorProg
import Derived.JoinedOf
import Derived.KernelRfl
set_option linter.all false
namespace Go.Proofs.YtfkfccpjfagamaaGreatDoor
open Go
theorem walkRecovers_fact1 : (Rows.walkRecoversRow.inPlace == Tryz.prog.inPlace 3) = true := by kernel_rfl
end Go.Proofs.YtfkfccpjfagamaaGreatDoor
