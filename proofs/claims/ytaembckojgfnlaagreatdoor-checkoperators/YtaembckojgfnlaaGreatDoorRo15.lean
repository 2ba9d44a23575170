import Derived.Test.YtaembckojgfnlaaGreatDoorP2o
set_option linter.all false
namespace Go.Proofs.YtaembckojgfnlaaGreatDoor
open Go Ex
theorem e450 : SrcT s450 false := fun τ => by kernel_rfl
theorem e451 : SrcT s451 false := fun τ => by kernel_rfl
theorem e452 : SrcT s452 false := fun τ => by kernel_rfl
theorem e453 : SrcT s453 false := fun τ => by kernel_rfl
theorem e454 : SrcT s454 false := fun τ => by kernel_rfl
theorem e455 : SrcT s455 false := fun τ => by kernel_rfl
theorem e456 : SrcT s456 true := fun τ => by kernel_rfl
theorem e457 : SrcT s457 true := fun τ => by kernel_rfl
theorem e458 : SrcT s458 false := fun τ => by kernel_rfl
theorem e459 : SrcT s459 true := fun τ => by kernel_rfl
theorem e460 : SrcT s460 true := fun τ => by kernel_rfl
theorem e461 : SrcT s461 false := fun τ => by kernel_rfl
theorem e462 : SrcT s462 false := fun τ => by kernel_rfl
theorem e463 : SrcT s463 false := fun τ => by kernel_rfl
theorem e464 : SrcT s464 false := fun τ => by kernel_rfl
theorem e465 : SrcT s465 false := fun τ => by kernel_rfl
theorem e466 : SrcT s466 false := fun τ => by kernel_rfl
theorem e467 : SrcT s467 false := fun τ => by kernel_rfl
theorem e468 : SrcT s468 false := fun τ => by kernel_rfl
theorem e469 : SrcT s469 false := fun τ => by kernel_rfl
theorem e470 : SrcT s470 false := fun τ => by kernel_rfl
theorem e471 : SrcT s471 false := fun τ => by kernel_rfl
theorem e472 : SrcT s472 false := fun τ => by kernel_rfl
theorem e473 : SrcT s473 false := fun τ => by kernel_rfl
theorem e474 : SrcT s474 false := fun τ => by kernel_rfl
theorem e475 : SrcT s475 false := fun τ => by kernel_rfl
theorem e476 : SrcT s476 false := fun τ => by kernel_rfl
theorem e477 : SrcT s477 false := fun τ => by kernel_rfl
theorem e478 : SrcT s478 false := fun τ => by kernel_rfl
theorem e479 : SrcT s479 false := fun τ => by kernel_rfl
end Go.Proofs.YtaembckojgfnlaaGreatDoor
