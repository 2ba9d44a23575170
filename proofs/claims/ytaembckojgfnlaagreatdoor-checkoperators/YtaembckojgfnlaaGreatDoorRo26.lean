import Derived.Test.YtaembckojgfnlaaGreatDoorP2o
set_option linter.all false
namespace Go.Proofs.YtaembckojgfnlaaGreatDoor
open Go Ex
theorem e780 : SrcT s780 false := fun τ => by kernel_rfl
theorem e781 : SrcT s781 false := fun τ => by kernel_rfl
theorem e782 : SrcT s782 false := fun τ => by kernel_rfl
theorem e783 : SrcT s783 false := fun τ => by kernel_rfl
theorem e784 : SrcT s784 true := fun τ => by kernel_rfl
theorem e785 : SrcT s785 true := fun τ => by kernel_rfl
theorem e786 : SrcT s786 false := fun τ => by kernel_rfl
theorem e787 : SrcT s787 true := fun τ => by kernel_rfl
theorem e788 : SrcT s788 true := fun τ => by kernel_rfl
theorem e789 : SrcT s789 false := fun τ => by kernel_rfl
theorem e790 : SrcT s790 false := fun τ => by kernel_rfl
theorem e791 : SrcT s791 false := fun τ => by kernel_rfl
theorem e792 : SrcT s792 false := fun τ => by kernel_rfl
theorem e793 : SrcT s793 false := fun τ => by kernel_rfl
theorem e794 : SrcT s794 false := fun τ => by kernel_rfl
theorem e795 : SrcT s795 false := fun τ => by kernel_rfl
theorem e796 : SrcT s796 false := fun τ => by kernel_rfl
theorem e797 : SrcT s797 false := fun τ => by kernel_rfl
theorem e798 : SrcT s798 false := fun τ => by kernel_rfl
theorem e799 : SrcT s799 false := fun τ => by kernel_rfl
theorem e800 : SrcT s800 false := fun τ => by kernel_rfl
theorem e801 : SrcT s801 false := fun τ => by kernel_rfl
theorem e802 : SrcT s802 false := fun τ => by kernel_rfl
theorem e803 : SrcT s803 false := fun τ => by kernel_rfl
theorem e804 : SrcT s804 false := fun τ => by kernel_rfl
theorem e805 : SrcT s805 false := fun τ => by kernel_rfl
theorem e806 : SrcT s806 false := fun τ => by kernel_rfl
theorem e807 : SrcT s807 false := fun τ => by kernel_rfl
theorem e808 : SrcT s808 false := fun τ => by kernel_rfl
theorem e809 : SrcT s809 false := fun τ => by kernel_rfl
end Go.Proofs.YtaembckojgfnlaaGreatDoor
