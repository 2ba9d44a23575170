import Derived.Test.YtaembckojgfnlaaGreatDoorP2o
set_option linter.all false
namespace Go.Proofs.YtaembckojgfnlaaGreatDoor
open Go Ex
theorem e570 : SrcT s570 false := fun τ => by kernel_rfl
theorem e571 : SrcT s571 false := fun τ => by kernel_rfl
theorem e572 : SrcT s572 false := fun τ => by kernel_rfl
theorem e573 : SrcT s573 false := fun τ => by kernel_rfl
theorem e574 : SrcT s574 false := fun τ => by kernel_rfl
theorem e575 : SrcT s575 false := fun τ => by kernel_rfl
theorem e576 : SrcT s576 false := fun τ => by kernel_rfl
theorem e577 : SrcT s577 false := fun τ => by kernel_rfl
theorem e578 : SrcT s578 false := fun τ => by kernel_rfl
theorem e579 : SrcT s579 false := fun τ => by kernel_rfl
theorem e580 : SrcT s580 false := fun τ => by kernel_rfl
theorem e581 : SrcT s581 false := fun τ => by kernel_rfl
theorem e582 : SrcT s582 false := fun τ => by kernel_rfl
theorem e583 : SrcT s583 false := fun τ => by kernel_rfl
theorem e584 : SrcT s584 false := fun τ => by kernel_rfl
theorem e585 : SrcT s585 false := fun τ => by kernel_rfl
theorem e586 : SrcT s586 false := fun τ => by kernel_rfl
theorem e587 : SrcT s587 false := fun τ => by kernel_rfl
theorem e588 : SrcT s588 false := fun τ => by kernel_rfl
theorem e589 : SrcT s589 false := fun τ => by kernel_rfl
theorem e590 : SrcT s590 false := fun τ => by kernel_rfl
theorem e591 : SrcT s591 false := fun τ => by kernel_rfl
theorem e592 : SrcT s592 false := fun τ => by kernel_rfl
theorem e593 : SrcT s593 false := fun τ => by kernel_rfl
theorem e594 : SrcT s594 false := fun τ => by kernel_rfl
theorem e595 : SrcT s595 false := fun τ => by kernel_rfl
theorem e596 : SrcT s596 false := fun τ => by kernel_rfl
theorem e597 : SrcT s597 false := fun τ => by kernel_rfl
theorem e598 : SrcT s598 false := fun τ => by kernel_rfl
theorem e599 : SrcT s599 false := fun τ => by kernel_rfl
end Go.Proofs.YtaembckojgfnlaaGreatDoor
