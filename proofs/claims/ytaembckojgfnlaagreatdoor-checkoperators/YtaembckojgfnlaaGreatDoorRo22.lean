import Derived.Test.YtaembckojgfnlaaGreatDoorP2o
set_option linter.all false
namespace Go.Proofs.YtaembckojgfnlaaGreatDoor
open Go Ex
theorem e660 : SrcT s660 false := fun τ => by kernel_rfl
theorem e661 : SrcT s661 false := fun τ => by kernel_rfl
theorem e662 : SrcT s662 false := fun τ => by kernel_rfl
theorem e663 : SrcT s663 false := fun τ => by kernel_rfl
theorem e664 : SrcT s664 false := fun τ => by kernel_rfl
theorem e665 : SrcT s665 false := fun τ => by kernel_rfl
theorem e666 : SrcT s666 false := fun τ => by kernel_rfl
theorem e667 : SrcT s667 false := fun τ => by kernel_rfl
theorem e668 : SrcT s668 false := fun τ => by kernel_rfl
theorem e669 : SrcT s669 false := fun τ => by kernel_rfl
theorem e670 : SrcT s670 false := fun τ => by kernel_rfl
theorem e671 : SrcT s671 false := fun τ => by kernel_rfl
theorem e672 : SrcT s672 false := fun τ => by kernel_rfl
theorem e673 : SrcT s673 false := fun τ => by kernel_rfl
theorem e674 : SrcT s674 false := fun τ => by kernel_rfl
theorem e675 : SrcT s675 false := fun τ => by kernel_rfl
theorem e676 : SrcT s676 true := fun τ => by kernel_rfl
theorem e677 : SrcT s677 true := fun τ => by kernel_rfl
theorem e678 : SrcT s678 false := fun τ => by kernel_rfl
theorem e679 : SrcT s679 true := fun τ => by kernel_rfl
theorem e680 : SrcT s680 true := fun τ => by kernel_rfl
theorem e681 : SrcT s681 false := fun τ => by kernel_rfl
theorem e682 : SrcT s682 false := fun τ => by kernel_rfl
theorem e683 : SrcT s683 false := fun τ => by kernel_rfl
theorem e684 : SrcT s684 false := fun τ => by kernel_rfl
theorem e685 : SrcT s685 false := fun τ => by kernel_rfl
theorem e686 : SrcT s686 false := fun τ => by kernel_rfl
theorem e687 : SrcT s687 false := fun τ => by kernel_rfl
theorem e688 : SrcT s688 false := fun τ => by kernel_rfl
theorem e689 : SrcT s689 false := fun τ => by kernel_rfl
end Go.Proofs.YtaembckojgfnlaaGreatDoor
