import Derived.Test.YtaembckojgfnlaaGreatDoorP2o
set_option linter.all false
namespace Go.Proofs.YtaembckojgfnlaaGreatDoor
open Go Ex
theorem e240 : SrcT s240 false := fun τ => by kernel_rfl
theorem e241 : SrcT s241 false := fun τ => by kernel_rfl
theorem e242 : SrcT s242 false := fun τ => by kernel_rfl
theorem e243 : SrcT s243 false := fun τ => by kernel_rfl
theorem e244 : SrcT s244 false := fun τ => by kernel_rfl
theorem e245 : SrcT s245 false := fun τ => by kernel_rfl
theorem e246 : SrcT s246 false := fun τ => by kernel_rfl
theorem e247 : SrcT s247 false := fun τ => by kernel_rfl
theorem e248 : SrcT s248 false := fun τ => by kernel_rfl
theorem e249 : SrcT s249 false := fun τ => by kernel_rfl
theorem e250 : SrcT s250 false := fun τ => by kernel_rfl
theorem e251 : SrcT s251 false := fun τ => by kernel_rfl
theorem e252 : SrcT s252 false := fun τ => by kernel_rfl
theorem e253 : SrcT s253 false := fun τ => by kernel_rfl
theorem e254 : SrcT s254 false := fun τ => by kernel_rfl
theorem e255 : SrcT s255 false := fun τ => by kernel_rfl
theorem e256 : SrcT s256 false := fun τ => by kernel_rfl
theorem e257 : SrcT s257 false := fun τ => by kernel_rfl
theorem e258 : SrcT s258 false := fun τ => by kernel_rfl
theorem e259 : SrcT s259 false := fun τ => by kernel_rfl
theorem e260 : SrcT s260 false := fun τ => by kernel_rfl
theorem e261 : SrcT s261 false := fun τ => by kernel_rfl
theorem e262 : SrcT s262 false := fun τ => by kernel_rfl
theorem e263 : SrcT s263 false := fun τ => by kernel_rfl
theorem e264 : SrcT s264 true := fun τ => by kernel_rfl
theorem e265 : SrcT s265 true := fun τ => by kernel_rfl
theorem e266 : SrcT s266 false := fun τ => by kernel_rfl
theorem e267 : SrcT s267 false := fun τ => by kernel_rfl
theorem e268 : SrcT s268 false := fun τ => by kernel_rfl
theorem e269 : SrcT s269 false := fun τ => by kernel_rfl
end Go.Proofs.YtaembckojgfnlaaGreatDoor
