import Derived.Test.YtaembckojgfnlaaGreatDoorP2o
set_option linter.all false
namespace Go.Proofs.YtaembckojgfnlaaGreatDoor
open Go Ex
theorem e300 : SrcT s300 false := fun τ => by kernel_rfl
theorem e301 : SrcT s301 false := fun τ => by kernel_rfl
theorem e302 : SrcT s302 false := fun τ => by kernel_rfl
theorem e303 : SrcT s303 false := fun τ => by kernel_rfl
theorem e304 : SrcT s304 false := fun τ => by kernel_rfl
theorem e305 : SrcT s305 false := fun τ => by kernel_rfl
theorem e306 : SrcT s306 false := fun τ => by kernel_rfl
theorem e307 : SrcT s307 false := fun τ => by kernel_rfl
theorem e308 : SrcT s308 false := fun τ => by kernel_rfl
theorem e309 : SrcT s309 false := fun τ => by kernel_rfl
theorem e310 : SrcT s310 false := fun τ => by kernel_rfl
theorem e311 : SrcT s311 false := fun τ => by kernel_rfl
theorem e312 : SrcT s312 false := fun τ => by kernel_rfl
theorem e313 : SrcT s313 false := fun τ => by kernel_rfl
theorem e314 : SrcT s314 false := fun τ => by kernel_rfl
theorem e315 : SrcT s315 false := fun τ => by kernel_rfl
theorem e316 : SrcT s316 false := fun τ => by kernel_rfl
theorem e317 : SrcT s317 false := fun τ => by kernel_rfl
theorem e318 : SrcT s318 false := fun τ => by kernel_rfl
theorem e319 : SrcT s319 false := fun τ => by kernel_rfl
theorem e320 : SrcT s320 false := fun τ => by kernel_rfl
theorem e321 : SrcT s321 false := fun τ => by kernel_rfl
theorem e322 : SrcT s322 false := fun τ => by kernel_rfl
theorem e323 : SrcT s323 false := fun τ => by kernel_rfl
theorem e324 : SrcT s324 false := fun τ => by kernel_rfl
theorem e325 : SrcT s325 false := fun τ => by kernel_rfl
theorem e326 : SrcT s326 false := fun τ => by kernel_rfl
theorem e327 : SrcT s327 false := fun τ => by kernel_rfl
theorem e328 : SrcT s328 false := fun τ => by kernel_rfl
theorem e329 : SrcT s329 false := fun τ => by kernel_rfl
end Go.Proofs.YtaembckojgfnlaaGreatDoor
