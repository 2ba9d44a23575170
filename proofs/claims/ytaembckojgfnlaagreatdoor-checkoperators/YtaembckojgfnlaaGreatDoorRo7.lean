import Derived.Test.YtaembckojgfnlaaGreatDoorP2o
set_option linter.all false
namespace Go.Proofs.YtaembckojgfnlaaGreatDoor
open Go Ex
theorem e210 : SrcT s210 false := fun τ => by kernel_rfl
theorem e211 : SrcT s211 false := fun τ => by kernel_rfl
theorem e212 : SrcT s212 false := fun τ => by kernel_rfl
theorem e213 : SrcT s213 false := fun τ => by kernel_rfl
theorem e214 : SrcT s214 false := fun τ => by kernel_rfl
theorem e215 : SrcT s215 false := fun τ => by kernel_rfl
theorem e216 : SrcT s216 false := fun τ => by kernel_rfl
theorem e217 : SrcT s217 false := fun τ => by kernel_rfl
theorem e218 : SrcT s218 false := fun τ => by kernel_rfl
theorem e219 : SrcT s219 false := fun τ => by kernel_rfl
theorem e220 : SrcT s220 false := fun τ => by kernel_rfl
theorem e221 : SrcT s221 false := fun τ => by kernel_rfl
theorem e222 : SrcT s222 false := fun τ => by kernel_rfl
theorem e223 : SrcT s223 false := fun τ => by kernel_rfl
theorem e224 : SrcT s224 false := fun τ => by kernel_rfl
theorem e225 : SrcT s225 false := fun τ => by kernel_rfl
theorem e226 : SrcT s226 false := fun τ => by kernel_rfl
theorem e227 : SrcT s227 false := fun τ => by kernel_rfl
theorem e228 : SrcT s228 false := fun τ => by kernel_rfl
theorem e229 : SrcT s229 false := fun τ => by kernel_rfl
theorem e230 : SrcT s230 false := fun τ => by kernel_rfl
theorem e231 : SrcT s231 false := fun τ => by kernel_rfl
theorem e232 : SrcT s232 false := fun τ => by kernel_rfl
theorem e233 : SrcT s233 false := fun τ => by kernel_rfl
theorem e234 : SrcT s234 false := fun τ => by kernel_rfl
theorem e235 : SrcT s235 false := fun τ => by kernel_rfl
theorem e236 : SrcT s236 false := fun τ => by kernel_rfl
theorem e237 : SrcT s237 false := fun τ => by kernel_rfl
theorem e238 : SrcT s238 false := fun τ => by kernel_rfl
theorem e239 : SrcT s239 false := fun τ => by kernel_rfl
end Go.Proofs.YtaembckojgfnlaaGreatDoor
