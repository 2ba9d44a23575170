import Derived.Test.YtaembckojgfnlaaGreatDoorP2o
set_option linter.all false
namespace Go.Proofs.YtaembckojgfnlaaGreatDoor
open Go Ex
theorem e480 : SrcT s480 false := fun τ => by kernel_rfl
theorem e481 : SrcT s481 false := fun τ => by kernel_rfl
theorem e482 : SrcT s482 false := fun τ => by kernel_rfl
theorem e483 : SrcT s483 false := fun τ => by kernel_rfl
theorem e484 : SrcT s484 false := fun τ => by kernel_rfl
theorem e485 : SrcT s485 false := fun τ => by kernel_rfl
theorem e486 : SrcT s486 false := fun τ => by kernel_rfl
theorem e487 : SrcT s487 false := fun τ => by kernel_rfl
theorem e488 : SrcT s488 false := fun τ => by kernel_rfl
theorem e489 : SrcT s489 false := fun τ => by kernel_rfl
theorem e490 : SrcT s490 false := fun τ => by kernel_rfl
theorem e491 : SrcT s491 false := fun τ => by kernel_rfl
theorem e492 : SrcT s492 false := fun τ => by kernel_rfl
theorem e493 : SrcT s493 false := fun τ => by kernel_rfl
theorem e494 : SrcT s494 false := fun τ => by kernel_rfl
theorem e495 : SrcT s495 false := fun τ => by kernel_rfl
theorem e496 : SrcT s496 false := fun τ => by kernel_rfl
theorem e497 : SrcT s497 false := fun τ => by kernel_rfl
theorem e498 : SrcT s498 false := fun τ => by kernel_rfl
theorem e499 : SrcT s499 false := fun τ => by kernel_rfl
theorem e500 : SrcT s500 false := fun τ => by kernel_rfl
theorem e501 : SrcT s501 false := fun τ => by kernel_rfl
theorem e502 : SrcT s502 false := fun τ => by kernel_rfl
theorem e503 : SrcT s503 false := fun τ => by kernel_rfl
theorem e504 : SrcT s504 false := fun τ => by kernel_rfl
theorem e505 : SrcT s505 false := fun τ => by kernel_rfl
theorem e506 : SrcT s506 false := fun τ => by kernel_rfl
theorem e507 : SrcT s507 false := fun τ => by kernel_rfl
theorem e508 : SrcT s508 false := fun τ => by kernel_rfl
theorem e509 : SrcT s509 false := fun τ => by kernel_rfl
end Go.Proofs.YtaembckojgfnlaaGreatDoor
