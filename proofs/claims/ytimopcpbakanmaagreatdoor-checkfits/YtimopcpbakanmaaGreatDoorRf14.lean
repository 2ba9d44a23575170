import Derived.Test.YtimopcpbakanmaaGreatDoorP2f
set_option linter.all false
namespace Go.Proofs.YtimopcpbakanmaaGreatDoor
open Go Ex
theorem e168 : SrcT s168 false := fun τ => by kernel_rfl
theorem e169 : SrcT s169 false := fun τ => by kernel_rfl
theorem e170 : SrcT s170 false := fun τ => by kernel_rfl
theorem e171 : SrcT s171 false := fun τ => by kernel_rfl
theorem e172 : SrcT s172 false := fun τ => by kernel_rfl
theorem e173 : SrcT s173 true := fun τ => by kernel_rfl
theorem e174 : SrcT s174 false := fun τ => by kernel_rfl
theorem e175 : SrcT s175 false := fun τ => by kernel_rfl
theorem e176 : SrcT s176 false := fun τ => by kernel_rfl
theorem e177 : SrcT s177 false := fun τ => by kernel_rfl
theorem e178 : SrcT s178 false := fun τ => by kernel_rfl
theorem e179 : SrcT s179 false := fun τ => by kernel_rfl
end Go.Proofs.YtimopcpbakanmaaGreatDoor
