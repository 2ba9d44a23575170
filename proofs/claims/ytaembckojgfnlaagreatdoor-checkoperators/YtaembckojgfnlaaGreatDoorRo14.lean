import Derived.Test.YtaembckojgfnlaaGreatDoorP2o
set_option linter.all false
namespace Go.Proofs.YtaembckojgfnlaaGreatDoor
open Go Ex
theorem e420 : SrcT s420 false := fun τ => by kernel_rfl
theorem e421 : SrcT s421 false := fun τ => by kernel_rfl
theorem e422 : SrcT s422 false := fun τ => by kernel_rfl
theorem e423 : SrcT s423 false := fun τ => by kernel_rfl
theorem e424 : SrcT s424 false := fun τ => by kernel_rfl
theorem e425 : SrcT s425 false := fun τ => by kernel_rfl
theorem e426 : SrcT s426 false := fun τ => by kernel_rfl
theorem e427 : SrcT s427 false := fun τ => by kernel_rfl
theorem e428 : SrcT s428 false := fun τ => by kernel_rfl
theorem e429 : SrcT s429 false := fun τ => by kernel_rfl
theorem e430 : SrcT s430 false := fun τ => by kernel_rfl
theorem e431 : SrcT s431 false := fun τ => by kernel_rfl
theorem e432 : SrcT s432 false := fun τ => by kernel_rfl
theorem e433 : SrcT s433 false := fun τ => by kernel_rfl
theorem e434 : SrcT s434 false := fun τ => by kernel_rfl
theorem e435 : SrcT s435 false := fun τ => by kernel_rfl
theorem e436 : SrcT s436 false := fun τ => by kernel_rfl
theorem e437 : SrcT s437 false := fun τ => by kernel_rfl
theorem e438 : SrcT s438 false := fun τ => by kernel_rfl
theorem e439 : SrcT s439 false := fun τ => by kernel_rfl
theorem e440 : SrcT s440 false := fun τ => by kernel_rfl
theorem e441 : SrcT s441 false := fun τ => by kernel_rfl
theorem e442 : SrcT s442 false := fun τ => by kernel_rfl
theorem e443 : SrcT s443 false := fun τ => by kernel_rfl
theorem e444 : SrcT s444 false := fun τ => by kernel_rfl
theorem e445 : SrcT s445 false := fun τ => by kernel_rfl
theorem e446 : SrcT s446 false := fun τ => by kernel_rfl
theorem e447 : SrcT s447 false := fun τ => by kernel_rfl
theorem e448 : SrcT s448 false := fun τ => by kernel_rfl
theorem e449 : SrcT s449 false := fun τ => by kernel_rfl
end Go.Proofs.YtaembckojgfnlaaGreatDoor
