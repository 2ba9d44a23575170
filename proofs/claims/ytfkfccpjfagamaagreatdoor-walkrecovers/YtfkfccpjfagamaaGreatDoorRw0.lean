import Derived.Test.YtfkfccpjfagamaaGreatDoorYw
set_option linter.all false
namespace Go.Proofs.YtfkfccpjfagamaaGreatDoor
open Go Ex
theorem anc : AncT := by unfold AncT; kernel_rfl
end Go.Proofs.YtfkfccpjfagamaaGreatDoor
