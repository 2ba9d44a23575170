import Derived.Test.YtaembckojgfnlaaGreatDoorP2o
set_option linter.all false
namespace Go.Proofs.YtaembckojgfnlaaGreatDoor
open Go Ex
theorem e840 : SrcT s840 true := fun τ => by kernel_rfl
theorem e841 : SrcT s841 true := fun τ => by kernel_rfl
theorem e842 : SrcT s842 false := fun τ => by kernel_rfl
theorem e843 : SrcT s843 true := fun τ => by kernel_rfl
theorem e844 : SrcT s844 true := fun τ => by kernel_rfl
theorem e845 : SrcT s845 false := fun τ => by kernel_rfl
theorem e846 : SrcT s846 false := fun τ => by kernel_rfl
theorem e847 : SrcT s847 false := fun τ => by kernel_rfl
theorem e848 : SrcT s848 false := fun τ => by kernel_rfl
theorem e849 : SrcT s849 false := fun τ => by kernel_rfl
theorem e850 : SrcT s850 false := fun τ => by kernel_rfl
theorem e851 : SrcT s851 false := fun τ => by kernel_rfl
theorem e852 : SrcT s852 false := fun τ => by kernel_rfl
theorem e853 : SrcT s853 false := fun τ => by kernel_rfl
theorem e854 : SrcT s854 false := fun τ => by kernel_rfl
theorem e855 : SrcT s855 false := fun τ => by kernel_rfl
theorem e856 : SrcT s856 false := fun τ => by kernel_rfl
theorem e857 : SrcT s857 true := fun τ => by kernel_rfl
theorem e858 : SrcT s858 true := fun τ => by kernel_rfl
theorem e859 : SrcT s859 false := fun τ => by kernel_rfl
theorem e860 : SrcT s860 true := fun τ => by kernel_rfl
theorem e861 : SrcT s861 true := fun τ => by kernel_rfl
theorem e862 : SrcT s862 false := fun τ => by kernel_rfl
theorem e863 : SrcT s863 false := fun τ => by kernel_rfl
theorem e864 : SrcT s864 false := fun τ => by kernel_rfl
theorem e865 : SrcT s865 false := fun τ => by kernel_rfl
theorem e866 : SrcT s866 false := fun τ => by kernel_rfl
theorem e867 : SrcT s867 false := fun τ => by kernel_rfl
theorem e868 : SrcT s868 false := fun τ => by kernel_rfl
theorem e869 : SrcT s869 false := fun τ => by kernel_rfl
end Go.Proofs.YtaembckojgfnlaaGreatDoor
