import Derived.Test.YtfkfccpjfagamaaGreatDoorYw
set_option linter.all false
namespace Go.Proofs.YtfkfccpjfagamaaGreatDoor
open Go Ex
theorem r_fff : RunT 3 (.cons (.bool false) (.cons (.bool false) (.cons (.bool false) .nil))) := by unfold RunT; kernel_rfl
theorem r_fft : RunT 3 (.cons (.bool false) (.cons (.bool false) (.cons (.bool true) .nil))) := by unfold RunT; kernel_rfl
end Go.Proofs.YtfkfccpjfagamaaGreatDoor
