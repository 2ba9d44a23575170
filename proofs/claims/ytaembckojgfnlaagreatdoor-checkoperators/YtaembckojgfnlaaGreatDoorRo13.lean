import Derived.Test.YtaembckojgfnlaaGreatDoorP2o
set_option linter.all false
namespace Go.Proofs.YtaembckojgfnlaaGreatDoor
open Go Ex
theorem e390 : SrcT s390 false := fun τ => by kernel_rfl
theorem e391 : SrcT s391 false := fun τ => by kernel_rfl
theorem e392 : SrcT s392 false := fun τ => by kernel_rfl
theorem e393 : SrcT s393 false := fun τ => by kernel_rfl
theorem e394 : SrcT s394 false := fun τ => by kernel_rfl
theorem e395 : SrcT s395 false := fun τ => by kernel_rfl
theorem e396 : SrcT s396 false := fun τ => by kernel_rfl
theorem e397 : SrcT s397 false := fun τ => by kernel_rfl
theorem e398 : SrcT s398 false := fun τ => by kernel_rfl
theorem e399 : SrcT s399 false := fun τ => by kernel_rfl
theorem e400 : SrcT s400 true := fun τ => by kernel_rfl
theorem e401 : SrcT s401 true := fun τ => by kernel_rfl
theorem e402 : SrcT s402 false := fun τ => by kernel_rfl
theorem e403 : SrcT s403 true := fun τ => by kernel_rfl
theorem e404 : SrcT s404 true := fun τ => by kernel_rfl
theorem e405 : SrcT s405 false := fun τ => by kernel_rfl
theorem e406 : SrcT s406 false := fun τ => by kernel_rfl
theorem e407 : SrcT s407 false := fun τ => by kernel_rfl
theorem e408 : SrcT s408 false := fun τ => by kernel_rfl
theorem e409 : SrcT s409 false := fun τ => by kernel_rfl
theorem e410 : SrcT s410 false := fun τ => by kernel_rfl
theorem e411 : SrcT s411 false := fun τ => by kernel_rfl
theorem e412 : SrcT s412 false := fun τ => by kernel_rfl
theorem e413 : SrcT s413 false := fun τ => by kernel_rfl
theorem e414 : SrcT s414 false := fun τ => by kernel_rfl
theorem e415 : SrcT s415 false := fun τ => by kernel_rfl
theorem e416 : SrcT s416 false := fun τ => by kernel_rfl
theorem e417 : SrcT s417 false := fun τ => by kernel_rfl
theorem e418 : SrcT s418 false := fun τ => by kernel_rfl
theorem e419 : SrcT s419 false := fun τ => by kernel_rfl
end Go.Proofs.YtaembckojgfnlaaGreatDoor
