import Derived.Test.YtfkfccpjfagamaaGreatDoorYw
set_option linter.all false
namespace Go.Proofs.YtfkfccpjfagamaaGreatDoor
open Go Ex
theorem r_ttf : RunT 3 (.cons (.bool true) (.cons (.bool true) (.cons (.bool false) .nil))) := by unfold RunT; kernel_rfl
theorem r_ttt : RunT 3 (.cons (.bool true) (.cons (.bool true) (.cons (.bool true) .nil))) := by unfold RunT; kernel_rfl
end Go.Proofs.YtfkfccpjfagamaaGreatDoor
