import Derived.Test.YtaembckojgfnlaaGreatDoorP2o
set_option linter.all false
namespace Go.Proofs.YtaembckojgfnlaaGreatDoor
open Go Ex
theorem e270 : SrcT s270 false := fun τ => by kernel_rfl
theorem e271 : SrcT s271 true := fun τ => by kernel_rfl
theorem e272 : SrcT s272 true := fun τ => by kernel_rfl
theorem e273 : SrcT s273 false := fun τ => by kernel_rfl
theorem e274 : SrcT s274 true := fun τ => by kernel_rfl
theorem e275 : SrcT s275 true := fun τ => by kernel_rfl
theorem e276 : SrcT s276 false := fun τ => by kernel_rfl
theorem e277 : SrcT s277 true := fun τ => by kernel_rfl
theorem e278 : SrcT s278 true := fun τ => by kernel_rfl
theorem e279 : SrcT s279 false := fun τ => by kernel_rfl
theorem e280 : SrcT s280 true := fun τ => by kernel_rfl
theorem e281 : SrcT s281 true := fun τ => by kernel_rfl
theorem e282 : SrcT s282 false := fun τ => by kernel_rfl
theorem e283 : SrcT s283 true := fun τ => by kernel_rfl
theorem e284 : SrcT s284 true := fun τ => by kernel_rfl
theorem e285 : SrcT s285 false := fun τ => by kernel_rfl
theorem e286 : SrcT s286 true := fun τ => by kernel_rfl
theorem e287 : SrcT s287 true := fun τ => by kernel_rfl
theorem e288 : SrcT s288 false := fun τ => by kernel_rfl
theorem e289 : SrcT s289 false := fun τ => by kernel_rfl
theorem e290 : SrcT s290 false := fun τ => by kernel_rfl
theorem e291 : SrcT s291 false := fun τ => by kernel_rfl
theorem e292 : SrcT s292 false := fun τ => by kernel_rfl
theorem e293 : SrcT s293 false := fun τ => by kernel_rfl
theorem e294 : SrcT s294 false := fun τ => by kernel_rfl
theorem e295 : SrcT s295 false := fun τ => by kernel_rfl
theorem e296 : SrcT s296 false := fun τ => by kernel_rfl
theorem e297 : SrcT s297 false := fun τ => by kernel_rfl
theorem e298 : SrcT s298 false := fun τ => by kernel_rfl
theorem e299 : SrcT s299 false := fun τ => by kernel_rfl
end Go.Proofs.YtaembckojgfnlaaGreatDoor
