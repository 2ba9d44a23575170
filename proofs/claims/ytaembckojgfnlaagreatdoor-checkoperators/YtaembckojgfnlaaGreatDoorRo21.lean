import Derived.Test.YtaembckojgfnlaaGreatDoorP2o
set_option linter.all false
namespace Go.Proofs.YtaembckojgfnlaaGreatDoor
open Go Ex
theorem e630 : SrcT s630 false := fun τ => by kernel_rfl
theorem e631 : SrcT s631 false := fun τ => by kernel_rfl
theorem e632 : SrcT s632 false := fun τ => by kernel_rfl
theorem e633 : SrcT s633 false := fun τ => by kernel_rfl
theorem e634 : SrcT s634 false := fun τ => by kernel_rfl
theorem e635 : SrcT s635 false := fun τ => by kernel_rfl
theorem e636 : SrcT s636 false := fun τ => by kernel_rfl
theorem e637 : SrcT s637 false := fun τ => by kernel_rfl
theorem e638 : SrcT s638 false := fun τ => by kernel_rfl
theorem e639 : SrcT s639 false := fun τ => by kernel_rfl
theorem e640 : SrcT s640 false := fun τ => by kernel_rfl
theorem e641 : SrcT s641 false := fun τ => by kernel_rfl
theorem e642 : SrcT s642 false := fun τ => by kernel_rfl
theorem e643 : SrcT s643 false := fun τ => by kernel_rfl
theorem e644 : SrcT s644 false := fun τ => by kernel_rfl
theorem e645 : SrcT s645 false := fun τ => by kernel_rfl
theorem e646 : SrcT s646 true := fun τ => by kernel_rfl
theorem e647 : SrcT s647 true := fun τ => by kernel_rfl
theorem e648 : SrcT s648 false := fun τ => by kernel_rfl
theorem e649 : SrcT s649 true := fun τ => by kernel_rfl
theorem e650 : SrcT s650 true := fun τ => by kernel_rfl
theorem e651 : SrcT s651 false := fun τ => by kernel_rfl
theorem e652 : SrcT s652 false := fun τ => by kernel_rfl
theorem e653 : SrcT s653 false := fun τ => by kernel_rfl
theorem e654 : SrcT s654 false := fun τ => by kernel_rfl
theorem e655 : SrcT s655 false := fun τ => by kernel_rfl
theorem e656 : SrcT s656 false := fun τ => by kernel_rfl
theorem e657 : SrcT s657 false := fun τ => by kernel_rfl
theorem e658 : SrcT s658 false := fun τ => by kernel_rfl
theorem e659 : SrcT s659 false := fun τ => by kernel_rfl
end Go.Proofs.YtaembckojgfnlaaGreatDoor
