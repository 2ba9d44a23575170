import Derived.Test.YtaembckojgfnlaaGreatDoorP2o
set_option linter.all false
namespace Go.Proofs.YtaembckojgfnlaaGreatDoor
open Go Ex
theorem e60 : SrcT s60 false := fun τ => by kernel_rfl
theorem e61 : SrcT s61 false := fun τ => by kernel_rfl
theorem e62 : SrcT s62 false := fun τ => by kernel_rfl
theorem e63 : SrcT s63 false := fun τ => by kernel_rfl
theorem e64 : SrcT s64 false := fun τ => by kernel_rfl
theorem e65 : SrcT s65 false := fun τ => by kernel_rfl
theorem e66 : SrcT s66 false := fun τ => by kernel_rfl
theorem e67 : SrcT s67 false := fun τ => by kernel_rfl
theorem e68 : SrcT s68 false := fun τ => by kernel_rfl
theorem e69 : SrcT s69 false := fun τ => by kernel_rfl
theorem e70 : SrcT s70 false := fun τ => by kernel_rfl
theorem e71 : SrcT s71 false := fun τ => by kernel_rfl
theorem e72 : SrcT s72 false := fun τ => by kernel_rfl
theorem e73 : SrcT s73 false := fun τ => by kernel_rfl
theorem e74 : SrcT s74 false := fun τ => by kernel_rfl
theorem e75 : SrcT s75 false := fun τ => by kernel_rfl
theorem e76 : SrcT s76 false := fun τ => by kernel_rfl
theorem e77 : SrcT s77 false := fun τ => by kernel_rfl
theorem e78 : SrcT s78 false := fun τ => by kernel_rfl
theorem e79 : SrcT s79 false := fun τ => by kernel_rfl
theorem e80 : SrcT s80 false := fun τ => by kernel_rfl
theorem e81 : SrcT s81 false := fun τ => by kernel_rfl
theorem e82 : SrcT s82 false := fun τ => by kernel_rfl
theorem e83 : SrcT s83 false := fun τ => by kernel_rfl
theorem e84 : SrcT s84 false := fun τ => by kernel_rfl
theorem e85 : SrcT s85 false := fun τ => by kernel_rfl
theorem e86 : SrcT s86 false := fun τ => by kernel_rfl
theorem e87 : SrcT s87 false := fun τ => by kernel_rfl
theorem e88 : SrcT s88 false := fun τ => by kernel_rfl
theorem e89 : SrcT s89 false := fun τ => by kernel_rfl
end Go.Proofs.YtaembckojgfnlaaGreatDoor
