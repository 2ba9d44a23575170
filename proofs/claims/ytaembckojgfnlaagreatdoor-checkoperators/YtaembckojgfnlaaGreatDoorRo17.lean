import Derived.Test.YtaembckojgfnlaaGreatDoorP2o
set_option linter.all false
namespace Go.Proofs.YtaembckojgfnlaaGreatDoor
open Go Ex
theorem e510 : SrcT s510 false := fun τ => by kernel_rfl
theorem e511 : SrcT s511 false := fun τ => by kernel_rfl
theorem e512 : SrcT s512 false := fun τ => by kernel_rfl
theorem e513 : SrcT s513 false := fun τ => by kernel_rfl
theorem e514 : SrcT s514 false := fun τ => by kernel_rfl
theorem e515 : SrcT s515 false := fun τ => by kernel_rfl
theorem e516 : SrcT s516 false := fun τ => by kernel_rfl
theorem e517 : SrcT s517 false := fun τ => by kernel_rfl
theorem e518 : SrcT s518 false := fun τ => by kernel_rfl
theorem e519 : SrcT s519 false := fun τ => by kernel_rfl
theorem e520 : SrcT s520 false := fun τ => by kernel_rfl
theorem e521 : SrcT s521 false := fun τ => by kernel_rfl
theorem e522 : SrcT s522 false := fun τ => by kernel_rfl
theorem e523 : SrcT s523 false := fun τ => by kernel_rfl
theorem e524 : SrcT s524 false := fun τ => by kernel_rfl
theorem e525 : SrcT s525 false := fun τ => by kernel_rfl
theorem e526 : SrcT s526 false := fun τ => by kernel_rfl
theorem e527 : SrcT s527 false := fun τ => by kernel_rfl
theorem e528 : SrcT s528 false := fun τ => by kernel_rfl
theorem e529 : SrcT s529 false := fun τ => by kernel_rfl
theorem e530 : SrcT s530 false := fun τ => by kernel_rfl
theorem e531 : SrcT s531 false := fun τ => by kernel_rfl
theorem e532 : SrcT s532 false := fun τ => by kernel_rfl
theorem e533 : SrcT s533 false := fun τ => by kernel_rfl
theorem e534 : SrcT s534 false := fun τ => by kernel_rfl
theorem e535 : SrcT s535 false := fun τ => by kernel_rfl
theorem e536 : SrcT s536 false := fun τ => by kernel_rfl
theorem e537 : SrcT s537 false := fun τ => by kernel_rfl
theorem e538 : SrcT s538 false := fun τ => by kernel_rfl
theorem e539 : SrcT s539 false := fun τ => by kernel_rfl
end Go.Proofs.YtaembckojgfnlaaGreatDoor
