import Derived.Test.YtfkfccpjfagamaaGreatDoorRows
import Derived.Test.YtfkfccpjfagamaaGreatDoorProg
import Derived.SevenTiedAt
import Derived.KernelRfl
set_option linter.all false
namespace Go.Proofs.YtfkfccpjfagamaaGreatDoor
open Go
theorem walkRecovers_looks : true = Tryz.prog.looks [] := by kernel_rfl
end Go.Proofs.YtfkfccpjfagamaaGreatDoor
