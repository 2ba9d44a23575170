import Derived.Test.YtaembckojgfnlaaGreatDoorP2o
set_option linter.all false
namespace Go.Proofs.YtaembckojgfnlaaGreatDoor
open Go Ex
theorem e180 : SrcT s180 false := fun τ => by kernel_rfl
theorem e181 : SrcT s181 false := fun τ => by kernel_rfl
theorem e182 : SrcT s182 false := fun τ => by kernel_rfl
theorem e183 : SrcT s183 false := fun τ => by kernel_rfl
theorem e184 : SrcT s184 false := fun τ => by kernel_rfl
theorem e185 : SrcT s185 false := fun τ => by kernel_rfl
theorem e186 : SrcT s186 false := fun τ => by kernel_rfl
theorem e187 : SrcT s187 false := fun τ => by kernel_rfl
theorem e188 : SrcT s188 false := fun τ => by kernel_rfl
theorem e189 : SrcT s189 false := fun τ => by kernel_rfl
theorem e190 : SrcT s190 false := fun τ => by kernel_rfl
theorem e191 : SrcT s191 false := fun τ => by kernel_rfl
theorem e192 : SrcT s192 false := fun τ => by kernel_rfl
theorem e193 : SrcT s193 false := fun τ => by kernel_rfl
theorem e194 : SrcT s194 false := fun τ => by kernel_rfl
theorem e195 : SrcT s195 false := fun τ => by kernel_rfl
theorem e196 : SrcT s196 false := fun τ => by kernel_rfl
theorem e197 : SrcT s197 false := fun τ => by kernel_rfl
theorem e198 : SrcT s198 false := fun τ => by kernel_rfl
theorem e199 : SrcT s199 false := fun τ => by kernel_rfl
theorem e200 : SrcT s200 false := fun τ => by kernel_rfl
theorem e201 : SrcT s201 false := fun τ => by kernel_rfl
theorem e202 : SrcT s202 false := fun τ => by kernel_rfl
theorem e203 : SrcT s203 false := fun τ => by kernel_rfl
theorem e204 : SrcT s204 false := fun τ => by kernel_rfl
theorem e205 : SrcT s205 false := fun τ => by kernel_rfl
theorem e206 : SrcT s206 false := fun τ => by kernel_rfl
theorem e207 : SrcT s207 false := fun τ => by kernel_rfl
theorem e208 : SrcT s208 false := fun τ => by kernel_rfl
theorem e209 : SrcT s209 false := fun τ => by kernel_rfl
end Go.Proofs.YtaembckojgfnlaaGreatDoor
