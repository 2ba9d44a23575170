import Derived.Test.YtaembckojgfnlaaGreatDoorP2o
set_option linter.all false
namespace Go.Proofs.YtaembckojgfnlaaGreatDoor
open Go Ex
theorem e810 : SrcT s810 false := fun τ => by kernel_rfl
theorem e811 : SrcT s811 false := fun τ => by kernel_rfl
theorem e812 : SrcT s812 false := fun τ => by kernel_rfl
theorem e813 : SrcT s813 false := fun τ => by kernel_rfl
theorem e814 : SrcT s814 false := fun τ => by kernel_rfl
theorem e815 : SrcT s815 false := fun τ => by kernel_rfl
theorem e816 : SrcT s816 false := fun τ => by kernel_rfl
theorem e817 : SrcT s817 false := fun τ => by kernel_rfl
theorem e818 : SrcT s818 false := fun τ => by kernel_rfl
theorem e819 : SrcT s819 false := fun τ => by kernel_rfl
theorem e820 : SrcT s820 false := fun τ => by kernel_rfl
theorem e821 : SrcT s821 false := fun τ => by kernel_rfl
theorem e822 : SrcT s822 false := fun τ => by kernel_rfl
theorem e823 : SrcT s823 false := fun τ => by kernel_rfl
theorem e824 : SrcT s824 false := fun τ => by kernel_rfl
theorem e825 : SrcT s825 false := fun τ => by kernel_rfl
theorem e826 : SrcT s826 false := fun τ => by kernel_rfl
theorem e827 : SrcT s827 false := fun τ => by kernel_rfl
theorem e828 : SrcT s828 false := fun τ => by kernel_rfl
theorem e829 : SrcT s829 false := fun τ => by kernel_rfl
theorem e830 : SrcT s830 false := fun τ => by kernel_rfl
theorem e831 : SrcT s831 false := fun τ => by kernel_rfl
theorem e832 : SrcT s832 false := fun τ => by kernel_rfl
theorem e833 : SrcT s833 false := fun τ => by kernel_rfl
theorem e834 : SrcT s834 false := fun τ => by kernel_rfl
theorem e835 : SrcT s835 false := fun τ => by kernel_rfl
theorem e836 : SrcT s836 false := fun τ => by kernel_rfl
theorem e837 : SrcT s837 false := fun τ => by kernel_rfl
theorem e838 : SrcT s838 false := fun τ => by kernel_rfl
theorem e839 : SrcT s839 false := fun τ => by kernel_rfl
end Go.Proofs.YtaembckojgfnlaaGreatDoor
