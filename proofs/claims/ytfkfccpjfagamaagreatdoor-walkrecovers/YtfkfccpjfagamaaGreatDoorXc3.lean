import Derived.Test.YtfkfccpjfagamaaGreatDoorXc2
import Derived.Test.YtfkfccpjfagamaaGreatDoorRows
import Derived.Test.YtfkfccpjfagamaaGreatDoorProg
import Derived.SevenTiedAt
import Derived.KernelRfl
set_option linter.all false
namespace Go.Proofs.YtfkfccpjfagamaaGreatDoor
open Go
theorem walkRecovers_goes2 : Tryz.prog.funcs.any Func.goes = false := by kernel_rfl
theorem walkRecovers_named : Tryz.prog.funcNamed Rows.walkRecoversRow.func = some 3 := by kernel_rfl
theorem goes_of {P : Program} {c : OpenClaim} {f : FuncId} (h1 : ((P.closure f).any fun g => (P.funcs[g]?).any Func.goes) = false) (h2 : P.funcs.any Func.goes = false) (h3 : P.funcNamed c.func = some f) (h4 : c.start = .entering) : false = c.goesBy P := by
  unfold OpenClaim.goesBy Program.goesAt Program.goesFrom
  rw [h3, h4, Option.any_some]
  unfold Program.goes
  rw [h1, h2, Bool.and_false]
  rfl
theorem walkRecovers_goes : false = Rows.walkRecoversRow.goesBy Tryz.prog := goes_of walkRecovers_goes1 walkRecovers_goes2 walkRecovers_named rfl
end Go.Proofs.YtfkfccpjfagamaaGreatDoor
