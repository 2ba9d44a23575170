import Derived.Test.YtaembckojgfnlaaGreatDoorP2o
set_option linter.all false
namespace Go.Proofs.YtaembckojgfnlaaGreatDoor
open Go Ex
theorem e120 : SrcT s120 false := fun τ => by kernel_rfl
theorem e121 : SrcT s121 false := fun τ => by kernel_rfl
theorem e122 : SrcT s122 false := fun τ => by kernel_rfl
theorem e123 : SrcT s123 false := fun τ => by kernel_rfl
theorem e124 : SrcT s124 false := fun τ => by kernel_rfl
theorem e125 : SrcT s125 false := fun τ => by kernel_rfl
theorem e126 : SrcT s126 false := fun τ => by kernel_rfl
theorem e127 : SrcT s127 false := fun τ => by kernel_rfl
theorem e128 : SrcT s128 false := fun τ => by kernel_rfl
theorem e129 : SrcT s129 false := fun τ => by kernel_rfl
theorem e130 : SrcT s130 false := fun τ => by kernel_rfl
theorem e131 : SrcT s131 false := fun τ => by kernel_rfl
theorem e132 : SrcT s132 false := fun τ => by kernel_rfl
theorem e133 : SrcT s133 false := fun τ => by kernel_rfl
theorem e134 : SrcT s134 false := fun τ => by kernel_rfl
theorem e135 : SrcT s135 false := fun τ => by kernel_rfl
theorem e136 : SrcT s136 false := fun τ => by kernel_rfl
theorem e137 : SrcT s137 false := fun τ => by kernel_rfl
theorem e138 : SrcT s138 false := fun τ => by kernel_rfl
theorem e139 : SrcT s139 false := fun τ => by kernel_rfl
theorem e140 : SrcT s140 false := fun τ => by kernel_rfl
theorem e141 : SrcT s141 false := fun τ => by kernel_rfl
theorem e142 : SrcT s142 false := fun τ => by kernel_rfl
theorem e143 : SrcT s143 false := fun τ => by kernel_rfl
theorem e144 : SrcT s144 true := fun τ => by kernel_rfl
theorem e145 : SrcT s145 true := fun τ => by kernel_rfl
theorem e146 : SrcT s146 false := fun τ => by kernel_rfl
theorem e147 : SrcT s147 true := fun τ => by kernel_rfl
theorem e148 : SrcT s148 true := fun τ => by kernel_rfl
theorem e149 : SrcT s149 false := fun τ => by kernel_rfl
end Go.Proofs.YtaembckojgfnlaaGreatDoor
