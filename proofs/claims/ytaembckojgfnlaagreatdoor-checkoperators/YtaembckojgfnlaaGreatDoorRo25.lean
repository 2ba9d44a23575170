import Derived.Test.YtaembckojgfnlaaGreatDoorP2o
set_option linter.all false
namespace Go.Proofs.YtaembckojgfnlaaGreatDoor
open Go Ex
theorem e750 : SrcT s750 false := fun τ => by kernel_rfl
theorem e751 : SrcT s751 false := fun τ => by kernel_rfl
theorem e752 : SrcT s752 false := fun τ => by kernel_rfl
theorem e753 : SrcT s753 false := fun τ => by kernel_rfl
theorem e754 : SrcT s754 false := fun τ => by kernel_rfl
theorem e755 : SrcT s755 false := fun τ => by kernel_rfl
theorem e756 : SrcT s756 false := fun τ => by kernel_rfl
theorem e757 : SrcT s757 false := fun τ => by kernel_rfl
theorem e758 : SrcT s758 false := fun τ => by kernel_rfl
theorem e759 : SrcT s759 false := fun τ => by kernel_rfl
theorem e760 : SrcT s760 false := fun τ => by kernel_rfl
theorem e761 : SrcT s761 false := fun τ => by kernel_rfl
theorem e762 : SrcT s762 false := fun τ => by kernel_rfl
theorem e763 : SrcT s763 false := fun τ => by kernel_rfl
theorem e764 : SrcT s764 false := fun τ => by kernel_rfl
theorem e765 : SrcT s765 false := fun τ => by kernel_rfl
theorem e766 : SrcT s766 false := fun τ => by kernel_rfl
theorem e767 : SrcT s767 false := fun τ => by kernel_rfl
theorem e768 : SrcT s768 false := fun τ => by kernel_rfl
theorem e769 : SrcT s769 false := fun τ => by kernel_rfl
theorem e770 : SrcT s770 false := fun τ => by kernel_rfl
theorem e771 : SrcT s771 false := fun τ => by kernel_rfl
theorem e772 : SrcT s772 false := fun τ => by kernel_rfl
theorem e773 : SrcT s773 false := fun τ => by kernel_rfl
theorem e774 : SrcT s774 false := fun τ => by kernel_rfl
theorem e775 : SrcT s775 false := fun τ => by kernel_rfl
theorem e776 : SrcT s776 false := fun τ => by kernel_rfl
theorem e777 : SrcT s777 false := fun τ => by kernel_rfl
theorem e778 : SrcT s778 false := fun τ => by kernel_rfl
theorem e779 : SrcT s779 false := fun τ => by kernel_rfl
end Go.Proofs.YtaembckojgfnlaaGreatDoor
