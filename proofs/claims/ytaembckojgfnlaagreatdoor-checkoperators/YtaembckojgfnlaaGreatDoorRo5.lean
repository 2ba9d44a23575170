import Derived.Test.YtaembckojgfnlaaGreatDoorP2o
set_option linter.all false
namespace Go.Proofs.YtaembckojgfnlaaGreatDoor
open Go Ex
theorem e150 : SrcT s150 false := fun τ => by kernel_rfl
theorem e151 : SrcT s151 false := fun τ => by kernel_rfl
theorem e152 : SrcT s152 false := fun τ => by kernel_rfl
theorem e153 : SrcT s153 false := fun τ => by kernel_rfl
theorem e154 : SrcT s154 true := fun τ => by kernel_rfl
theorem e155 : SrcT s155 true := fun τ => by kernel_rfl
theorem e156 : SrcT s156 false := fun τ => by kernel_rfl
theorem e157 : SrcT s157 true := fun τ => by kernel_rfl
theorem e158 : SrcT s158 true := fun τ => by kernel_rfl
theorem e159 : SrcT s159 false := fun τ => by kernel_rfl
theorem e160 : SrcT s160 false := fun τ => by kernel_rfl
theorem e161 : SrcT s161 false := fun τ => by kernel_rfl
theorem e162 : SrcT s162 false := fun τ => by kernel_rfl
theorem e163 : SrcT s163 false := fun τ => by kernel_rfl
theorem e164 : SrcT s164 false := fun τ => by kernel_rfl
theorem e165 : SrcT s165 false := fun τ => by kernel_rfl
theorem e166 : SrcT s166 false := fun τ => by kernel_rfl
theorem e167 : SrcT s167 false := fun τ => by kernel_rfl
theorem e168 : SrcT s168 false := fun τ => by kernel_rfl
theorem e169 : SrcT s169 false := fun τ => by kernel_rfl
theorem e170 : SrcT s170 false := fun τ => by kernel_rfl
theorem e171 : SrcT s171 false := fun τ => by kernel_rfl
theorem e172 : SrcT s172 false := fun τ => by kernel_rfl
theorem e173 : SrcT s173 false := fun τ => by kernel_rfl
theorem e174 : SrcT s174 false := fun τ => by kernel_rfl
theorem e175 : SrcT s175 false := fun τ => by kernel_rfl
theorem e176 : SrcT s176 false := fun τ => by kernel_rfl
theorem e177 : SrcT s177 false := fun τ => by kernel_rfl
theorem e178 : SrcT s178 false := fun τ => by kernel_rfl
theorem e179 : SrcT s179 false := fun τ => by kernel_rfl
end Go.Proofs.YtaembckojgfnlaaGreatDoor
