import Derived.Test.YtaembckojgfnlaaGreatDoorP2o
set_option linter.all false
namespace Go.Proofs.YtaembckojgfnlaaGreatDoor
open Go Ex
theorem e540 : SrcT s540 false := fun τ => by kernel_rfl
theorem e541 : SrcT s541 false := fun τ => by kernel_rfl
theorem e542 : SrcT s542 false := fun τ => by kernel_rfl
theorem e543 : SrcT s543 false := fun τ => by kernel_rfl
theorem e544 : SrcT s544 false := fun τ => by kernel_rfl
theorem e545 : SrcT s545 false := fun τ => by kernel_rfl
theorem e546 : SrcT s546 false := fun τ => by kernel_rfl
theorem e547 : SrcT s547 false := fun τ => by kernel_rfl
theorem e548 : SrcT s548 false := fun τ => by kernel_rfl
theorem e549 : SrcT s549 false := fun τ => by kernel_rfl
theorem e550 : SrcT s550 false := fun τ => by kernel_rfl
theorem e551 : SrcT s551 false := fun τ => by kernel_rfl
theorem e552 : SrcT s552 false := fun τ => by kernel_rfl
theorem e553 : SrcT s553 false := fun τ => by kernel_rfl
theorem e554 : SrcT s554 false := fun τ => by kernel_rfl
theorem e555 : SrcT s555 false := fun τ => by kernel_rfl
theorem e556 : SrcT s556 false := fun τ => by kernel_rfl
theorem e557 : SrcT s557 false := fun τ => by kernel_rfl
theorem e558 : SrcT s558 false := fun τ => by kernel_rfl
theorem e559 : SrcT s559 false := fun τ => by kernel_rfl
theorem e560 : SrcT s560 false := fun τ => by kernel_rfl
theorem e561 : SrcT s561 false := fun τ => by kernel_rfl
theorem e562 : SrcT s562 false := fun τ => by kernel_rfl
theorem e563 : SrcT s563 false := fun τ => by kernel_rfl
theorem e564 : SrcT s564 true := fun τ => by kernel_rfl
theorem e565 : SrcT s565 true := fun τ => by kernel_rfl
theorem e566 : SrcT s566 false := fun τ => by kernel_rfl
theorem e567 : SrcT s567 true := fun τ => by kernel_rfl
theorem e568 : SrcT s568 true := fun τ => by kernel_rfl
theorem e569 : SrcT s569 false := fun τ => by kernel_rfl
end Go.Proofs.YtaembckojgfnlaaGreatDoor
