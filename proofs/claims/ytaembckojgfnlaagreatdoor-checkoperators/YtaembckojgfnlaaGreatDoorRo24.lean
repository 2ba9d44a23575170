import Derived.Test.YtaembckojgfnlaaGreatDoorP2o
set_option linter.all false
namespace Go.Proofs.YtaembckojgfnlaaGreatDoor
open Go Ex
theorem e720 : SrcT s720 false := fun τ => by kernel_rfl
theorem e721 : SrcT s721 false := fun τ => by kernel_rfl
theorem e722 : SrcT s722 false := fun τ => by kernel_rfl
theorem e723 : SrcT s723 false := fun τ => by kernel_rfl
theorem e724 : SrcT s724 false := fun τ => by kernel_rfl
theorem e725 : SrcT s725 false := fun τ => by kernel_rfl
theorem e726 : SrcT s726 false := fun τ => by kernel_rfl
theorem e727 : SrcT s727 false := fun τ => by kernel_rfl
theorem e728 : SrcT s728 false := fun τ => by kernel_rfl
theorem e729 : SrcT s729 false := fun τ => by kernel_rfl
theorem e730 : SrcT s730 false := fun τ => by kernel_rfl
theorem e731 : SrcT s731 false := fun τ => by kernel_rfl
theorem e732 : SrcT s732 false := fun τ => by kernel_rfl
theorem e733 : SrcT s733 false := fun τ => by kernel_rfl
theorem e734 : SrcT s734 false := fun τ => by kernel_rfl
theorem e735 : SrcT s735 false := fun τ => by kernel_rfl
theorem e736 : SrcT s736 false := fun τ => by kernel_rfl
theorem e737 : SrcT s737 false := fun τ => by kernel_rfl
theorem e738 : SrcT s738 false := fun τ => by kernel_rfl
theorem e739 : SrcT s739 false := fun τ => by kernel_rfl
theorem e740 : SrcT s740 false := fun τ => by kernel_rfl
theorem e741 : SrcT s741 false := fun τ => by kernel_rfl
theorem e742 : SrcT s742 false := fun τ => by kernel_rfl
theorem e743 : SrcT s743 false := fun τ => by kernel_rfl
theorem e744 : SrcT s744 false := fun τ => by kernel_rfl
theorem e745 : SrcT s745 false := fun τ => by kernel_rfl
theorem e746 : SrcT s746 false := fun τ => by kernel_rfl
theorem e747 : SrcT s747 false := fun τ => by kernel_rfl
theorem e748 : SrcT s748 false := fun τ => by kernel_rfl
theorem e749 : SrcT s749 false := fun τ => by kernel_rfl
end Go.Proofs.YtaembckojgfnlaaGreatDoor
