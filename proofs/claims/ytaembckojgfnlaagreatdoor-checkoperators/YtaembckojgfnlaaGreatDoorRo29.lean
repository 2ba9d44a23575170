import Derived.Test.YtaembckojgfnlaaGreatDoorP2o
set_option linter.all false
namespace Go.Proofs.YtaembckojgfnlaaGreatDoor
open Go Ex
theorem e870 : SrcT s870 false := fun τ => by kernel_rfl
theorem e871 : SrcT s871 false := fun τ => by kernel_rfl
theorem e872 : SrcT s872 false := fun τ => by kernel_rfl
theorem e873 : SrcT s873 false := fun τ => by kernel_rfl
theorem e874 : SrcT s874 true := fun τ => by kernel_rfl
theorem e875 : SrcT s875 true := fun τ => by kernel_rfl
theorem e876 : SrcT s876 false := fun τ => by kernel_rfl
theorem e877 : SrcT s877 true := fun τ => by kernel_rfl
theorem e878 : SrcT s878 true := fun τ => by kernel_rfl
theorem e879 : SrcT s879 false := fun τ => by kernel_rfl
theorem e880 : SrcT s880 false := fun τ => by kernel_rfl
theorem e881 : SrcT s881 false := fun τ => by kernel_rfl
theorem e882 : SrcT s882 false := fun τ => by kernel_rfl
theorem e883 : SrcT s883 false := fun τ => by kernel_rfl
theorem e884 : SrcT s884 false := fun τ => by kernel_rfl
theorem e885 : SrcT s885 false := fun τ => by kernel_rfl
theorem e886 : SrcT s886 false := fun τ => by kernel_rfl
theorem e887 : SrcT s887 false := fun τ => by kernel_rfl
theorem e888 : SrcT s888 false := fun τ => by kernel_rfl
theorem e889 : SrcT s889 false := fun τ => by kernel_rfl
theorem e890 : SrcT s890 false := fun τ => by kernel_rfl
theorem e891 : SrcT s891 true := fun τ => by kernel_rfl
theorem e892 : SrcT s892 true := fun τ => by kernel_rfl
theorem e893 : SrcT s893 false := fun τ => by kernel_rfl
theorem e894 : SrcT s894 true := fun τ => by kernel_rfl
theorem e895 : SrcT s895 true := fun τ => by kernel_rfl
theorem e896 : SrcT s896 false := fun τ => by kernel_rfl
theorem e897 : SrcT s897 false := fun τ => by kernel_rfl
theorem e898 : SrcT s898 false := fun τ => by kernel_rfl
theorem e899 : SrcT s899 false := fun τ => by kernel_rfl
end Go.Proofs.YtaembckojgfnlaaGreatDoor
