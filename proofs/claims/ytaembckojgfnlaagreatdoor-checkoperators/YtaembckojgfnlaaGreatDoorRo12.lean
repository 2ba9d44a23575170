import Derived.Test.YtaembckojgfnlaaGreatDoorP2o
set_option linter.all false
namespace Go.Proofs.YtaembckojgfnlaaGreatDoor
open Go Ex
theorem e360 : SrcT s360 false := fun τ => by kernel_rfl
theorem e361 : SrcT s361 false := fun τ => by kernel_rfl
theorem e362 : SrcT s362 false := fun τ => by kernel_rfl
theorem e363 : SrcT s363 false := fun τ => by kernel_rfl
theorem e364 : SrcT s364 false := fun τ => by kernel_rfl
theorem e365 : SrcT s365 false := fun τ => by kernel_rfl
theorem e366 : SrcT s366 false := fun τ => by kernel_rfl
theorem e367 : SrcT s367 false := fun τ => by kernel_rfl
theorem e368 : SrcT s368 false := fun τ => by kernel_rfl
theorem e369 : SrcT s369 false := fun τ => by kernel_rfl
theorem e370 : SrcT s370 false := fun τ => by kernel_rfl
theorem e371 : SrcT s371 false := fun τ => by kernel_rfl
theorem e372 : SrcT s372 false := fun τ => by kernel_rfl
theorem e373 : SrcT s373 false := fun τ => by kernel_rfl
theorem e374 : SrcT s374 false := fun τ => by kernel_rfl
theorem e375 : SrcT s375 false := fun τ => by kernel_rfl
theorem e376 : SrcT s376 false := fun τ => by kernel_rfl
theorem e377 : SrcT s377 false := fun τ => by kernel_rfl
theorem e378 : SrcT s378 false := fun τ => by kernel_rfl
theorem e379 : SrcT s379 false := fun τ => by kernel_rfl
theorem e380 : SrcT s380 false := fun τ => by kernel_rfl
theorem e381 : SrcT s381 false := fun τ => by kernel_rfl
theorem e382 : SrcT s382 false := fun τ => by kernel_rfl
theorem e383 : SrcT s383 false := fun τ => by kernel_rfl
theorem e384 : SrcT s384 false := fun τ => by kernel_rfl
theorem e385 : SrcT s385 false := fun τ => by kernel_rfl
theorem e386 : SrcT s386 false := fun τ => by kernel_rfl
theorem e387 : SrcT s387 false := fun τ => by kernel_rfl
theorem e388 : SrcT s388 false := fun τ => by kernel_rfl
theorem e389 : SrcT s389 false := fun τ => by kernel_rfl
end Go.Proofs.YtaembckojgfnlaaGreatDoor
