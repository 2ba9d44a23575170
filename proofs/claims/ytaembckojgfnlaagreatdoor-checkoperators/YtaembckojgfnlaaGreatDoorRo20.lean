import Derived.Test.YtaembckojgfnlaaGreatDoorP2o
set_option linter.all false
namespace Go.Proofs.YtaembckojgfnlaaGreatDoor
open Go Ex
theorem e600 : SrcT s600 false := fun τ => by kernel_rfl
theorem e601 : SrcT s601 false := fun τ => by kernel_rfl
theorem e602 : SrcT s602 false := fun τ => by kernel_rfl
theorem e603 : SrcT s603 false := fun τ => by kernel_rfl
theorem e604 : SrcT s604 false := fun τ => by kernel_rfl
theorem e605 : SrcT s605 false := fun τ => by kernel_rfl
theorem e606 : SrcT s606 false := fun τ => by kernel_rfl
theorem e607 : SrcT s607 false := fun τ => by kernel_rfl
theorem e608 : SrcT s608 false := fun τ => by kernel_rfl
theorem e609 : SrcT s609 false := fun τ => by kernel_rfl
theorem e610 : SrcT s610 false := fun τ => by kernel_rfl
theorem e611 : SrcT s611 false := fun τ => by kernel_rfl
theorem e612 : SrcT s612 false := fun τ => by kernel_rfl
theorem e613 : SrcT s613 false := fun τ => by kernel_rfl
theorem e614 : SrcT s614 false := fun τ => by kernel_rfl
theorem e615 : SrcT s615 false := fun τ => by kernel_rfl
theorem e616 : SrcT s616 false := fun τ => by kernel_rfl
theorem e617 : SrcT s617 false := fun τ => by kernel_rfl
theorem e618 : SrcT s618 false := fun τ => by kernel_rfl
theorem e619 : SrcT s619 false := fun τ => by kernel_rfl
theorem e620 : SrcT s620 false := fun τ => by kernel_rfl
theorem e621 : SrcT s621 false := fun τ => by kernel_rfl
theorem e622 : SrcT s622 false := fun τ => by kernel_rfl
theorem e623 : SrcT s623 false := fun τ => by kernel_rfl
theorem e624 : SrcT s624 false := fun τ => by kernel_rfl
theorem e625 : SrcT s625 false := fun τ => by kernel_rfl
theorem e626 : SrcT s626 false := fun τ => by kernel_rfl
theorem e627 : SrcT s627 false := fun τ => by kernel_rfl
theorem e628 : SrcT s628 false := fun τ => by kernel_rfl
theorem e629 : SrcT s629 false := fun τ => by kernel_rfl
end Go.Proofs.YtaembckojgfnlaaGreatDoor
