import Derived.Test.YtfkfccpjfagamaaGreatDoorYw
set_option linter.all false
namespace Go.Proofs.YtfkfccpjfagamaaGreatDoor
open Go Ex
theorem r_ftf : RunT 3 (.cons (.bool false) (.cons (.bool true) (.cons (.bool false) .nil))) := by unfold RunT; kernel_rfl
theorem r_ftt : RunT 3 (.cons (.bool false) (.cons (.bool true) (.cons (.bool true) .nil))) := by unfold RunT; kernel_rfl
end Go.Proofs.YtfkfccpjfagamaaGreatDoor
