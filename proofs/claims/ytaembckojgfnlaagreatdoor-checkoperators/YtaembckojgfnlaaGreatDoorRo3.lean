import Derived.Test.YtaembckojgfnlaaGreatDoorP2o
set_option linter.all false
namespace Go.Proofs.YtaembckojgfnlaaGreatDoor
open Go Ex
theorem e90 : SrcT s90 false := fun τ => by kernel_rfl
theorem e91 : SrcT s91 false := fun τ => by kernel_rfl
theorem e92 : SrcT s92 false := fun τ => by kernel_rfl
theorem e93 : SrcT s93 false := fun τ => by kernel_rfl
theorem e94 : SrcT s94 false := fun τ => by kernel_rfl
theorem e95 : SrcT s95 false := fun τ => by kernel_rfl
theorem e96 : SrcT s96 false := fun τ => by kernel_rfl
theorem e97 : SrcT s97 false := fun τ => by kernel_rfl
theorem e98 : SrcT s98 false := fun τ => by kernel_rfl
theorem e99 : SrcT s99 false := fun τ => by kernel_rfl
theorem e100 : SrcT s100 false := fun τ => by kernel_rfl
theorem e101 : SrcT s101 false := fun τ => by kernel_rfl
theorem e102 : SrcT s102 false := fun τ => by kernel_rfl
theorem e103 : SrcT s103 false := fun τ => by kernel_rfl
theorem e104 : SrcT s104 false := fun τ => by kernel_rfl
theorem e105 : SrcT s105 false := fun τ => by kernel_rfl
theorem e106 : SrcT s106 false := fun τ => by kernel_rfl
theorem e107 : SrcT s107 false := fun τ => by kernel_rfl
theorem e108 : SrcT s108 false := fun τ => by kernel_rfl
theorem e109 : SrcT s109 false := fun τ => by kernel_rfl
theorem e110 : SrcT s110 false := fun τ => by kernel_rfl
theorem e111 : SrcT s111 false := fun τ => by kernel_rfl
theorem e112 : SrcT s112 false := fun τ => by kernel_rfl
theorem e113 : SrcT s113 false := fun τ => by kernel_rfl
theorem e114 : SrcT s114 false := fun τ => by kernel_rfl
theorem e115 : SrcT s115 false := fun τ => by kernel_rfl
theorem e116 : SrcT s116 false := fun τ => by kernel_rfl
theorem e117 : SrcT s117 false := fun τ => by kernel_rfl
theorem e118 : SrcT s118 false := fun τ => by kernel_rfl
theorem e119 : SrcT s119 false := fun τ => by kernel_rfl
end Go.Proofs.YtaembckojgfnlaaGreatDoor
