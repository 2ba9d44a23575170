import Derived.Test.YtfkfccpjfagamaaGreatDoorRows
import Derived.Test.YtfkfccpjfagamaaGreatDoorProg
import Derived.JoinedOf
import Derived.KernelRfl
set_option linter.all false
namespace Go.Proofs.YtfkfccpjfagamaaGreatDoor
open Go
theorem walkRecovers_fact2 : (Rows.walkRecoversRow.unfollowed == Tryz.prog.unfollowed 3) = true := by kernel_rfl
end Go.Proofs.YtfkfccpjfagamaaGreatDoor
