import Derived.Test.YtaembckojgfnlaaGreatDoorP2o
set_option linter.all false
namespace Go.Proofs.YtaembckojgfnlaaGreatDoor
open Go Ex
theorem e690 : SrcT s690 false := fun τ => by kernel_rfl
theorem e691 : SrcT s691 false := fun τ => by kernel_rfl
theorem e692 : SrcT s692 false := fun τ => by kernel_rfl
theorem e693 : SrcT s693 false := fun τ => by kernel_rfl
theorem e694 : SrcT s694 false := fun τ => by kernel_rfl
theorem e695 : SrcT s695 false := fun τ => by kernel_rfl
theorem e696 : SrcT s696 false := fun τ => by kernel_rfl
theorem e697 : SrcT s697 false := fun τ => by kernel_rfl
theorem e698 : SrcT s698 false := fun τ => by kernel_rfl
theorem e699 : SrcT s699 false := fun τ => by kernel_rfl
theorem e700 : SrcT s700 false := fun τ => by kernel_rfl
theorem e701 : SrcT s701 false := fun τ => by kernel_rfl
theorem e702 : SrcT s702 false := fun τ => by kernel_rfl
theorem e703 : SrcT s703 false := fun τ => by kernel_rfl
theorem e704 : SrcT s704 false := fun τ => by kernel_rfl
theorem e705 : SrcT s705 false := fun τ => by kernel_rfl
theorem e706 : SrcT s706 false := fun τ => by kernel_rfl
theorem e707 : SrcT s707 false := fun τ => by kernel_rfl
theorem e708 : SrcT s708 false := fun τ => by kernel_rfl
theorem e709 : SrcT s709 false := fun τ => by kernel_rfl
theorem e710 : SrcT s710 false := fun τ => by kernel_rfl
theorem e711 : SrcT s711 false := fun τ => by kernel_rfl
theorem e712 : SrcT s712 false := fun τ => by kernel_rfl
theorem e713 : SrcT s713 false := fun τ => by kernel_rfl
theorem e714 : SrcT s714 false := fun τ => by kernel_rfl
theorem e715 : SrcT s715 false := fun τ => by kernel_rfl
theorem e716 : SrcT s716 false := fun τ => by kernel_rfl
theorem e717 : SrcT s717 false := fun τ => by kernel_rfl
theorem e718 : SrcT s718 false := fun τ => by kernel_rfl
theorem e719 : SrcT s719 false := fun τ => by kernel_rfl
end Go.Proofs.YtaembckojgfnlaaGreatDoor
