import Derived.Test.YtfkfccpjfagamaaGreatDoorRows
import Derived.Test.YtfkfccpjfagamaaGreatDoorProg
import Derived.SevenTiedAt
import Derived.KernelRfl
set_option linter.all false
namespace Go.Proofs.YtfkfccpjfagamaaGreatDoor
open Go
theorem walkRecovers_goes1 : ((Tryz.prog.closure 3).any fun g => (Tryz.prog.funcs[g]?).any Func.goes) = false := by kernel_rfl
end Go.Proofs.YtfkfccpjfagamaaGreatDoor
