import Derived.Test.YtaembckojgfnlaaGreatDoorP2o
set_option linter.all false
namespace Go.Proofs.YtaembckojgfnlaaGreatDoor
open Go Ex
theorem e330 : SrcT s330 false := fun τ => by kernel_rfl
theorem e331 : SrcT s331 false := fun τ => by kernel_rfl
theorem e332 : SrcT s332 false := fun τ => by kernel_rfl
theorem e333 : SrcT s333 false := fun τ => by kernel_rfl
theorem e334 : SrcT s334 false := fun τ => by kernel_rfl
theorem e335 : SrcT s335 false := fun τ => by kernel_rfl
theorem e336 : SrcT s336 false := fun τ => by kernel_rfl
theorem e337 : SrcT s337 false := fun τ => by kernel_rfl
theorem e338 : SrcT s338 false := fun τ => by kernel_rfl
theorem e339 : SrcT s339 false := fun τ => by kernel_rfl
theorem e340 : SrcT s340 false := fun τ => by kernel_rfl
theorem e341 : SrcT s341 false := fun τ => by kernel_rfl
theorem e342 : SrcT s342 false := fun τ => by kernel_rfl
theorem e343 : SrcT s343 false := fun τ => by kernel_rfl
theorem e344 : SrcT s344 false := fun τ => by kernel_rfl
theorem e345 : SrcT s345 false := fun τ => by kernel_rfl
theorem e346 : SrcT s346 false := fun τ => by kernel_rfl
theorem e347 : SrcT s347 false := fun τ => by kernel_rfl
theorem e348 : SrcT s348 false := fun τ => by kernel_rfl
theorem e349 : SrcT s349 false := fun τ => by kernel_rfl
theorem e350 : SrcT s350 false := fun τ => by kernel_rfl
theorem e351 : SrcT s351 false := fun τ => by kernel_rfl
theorem e352 : SrcT s352 false := fun τ => by kernel_rfl
theorem e353 : SrcT s353 false := fun τ => by kernel_rfl
theorem e354 : SrcT s354 false := fun τ => by kernel_rfl
theorem e355 : SrcT s355 false := fun τ => by kernel_rfl
theorem e356 : SrcT s356 false := fun τ => by kernel_rfl
theorem e357 : SrcT s357 false := fun τ => by kernel_rfl
theorem e358 : SrcT s358 false := fun τ => by kernel_rfl
theorem e359 : SrcT s359 false := fun τ => by kernel_rfl
end Go.Proofs.YtaembckojgfnlaaGreatDoor
