/- The sources of ParseNests, kind 4, by the kernel. -/
import Derived.Test.YtnlmgifjmlpgoaaGreatDoorNd
set_option linter.unusedVariables false
set_option linter.unusedSimpArgs false
set_option maxRecDepth 100000
namespace Go.Proofs.YtnlmgifjmlpgoaaGreatDoor
open Go.RowKit Go.Proofs.YtnlmgifjmlpgoaaGreatDoor.Lx Go.Proofs.YtnlmgifjmlpgoaaGreatDoor.Px

theorem nk_4_0 : nestAll 4 0 20 = true := by kernel_rfl
theorem nk_4_20 : nestAll 4 20 10 = true := by kernel_rfl
theorem nk_4_30 : nestAll 4 30 10 = true := by kernel_rfl
theorem nk_4_40 : nestAll 4 40 10 = true := by kernel_rfl
theorem nk_4_50 : nestAll 4 50 10 = true := by kernel_rfl
theorem nk_4_60 : nestAll 4 60 10 = true := by kernel_rfl
theorem nk_4_70 : nestAll 4 70 10 = true := by kernel_rfl
theorem nk_4_80 : nestAll 4 80 10 = true := by kernel_rfl
theorem nk_4_90 : nestAll 4 90 11 = true := by kernel_rfl
theorem nk_4 (d : Nat) (hd : d ≤ 100) : nestOk 4 d = true := by
  by_cases h0 : d < 20
  · exact nestAll_at nk_4_0 (by omega) (by omega)
  by_cases h20 : d < 30
  · exact nestAll_at nk_4_20 (by omega) (by omega)
  by_cases h30 : d < 40
  · exact nestAll_at nk_4_30 (by omega) (by omega)
  by_cases h40 : d < 50
  · exact nestAll_at nk_4_40 (by omega) (by omega)
  by_cases h50 : d < 60
  · exact nestAll_at nk_4_50 (by omega) (by omega)
  by_cases h60 : d < 70
  · exact nestAll_at nk_4_60 (by omega) (by omega)
  by_cases h70 : d < 80
  · exact nestAll_at nk_4_70 (by omega) (by omega)
  by_cases h80 : d < 90
  · exact nestAll_at nk_4_80 (by omega) (by omega)
  exact nestAll_at nk_4_90 (by omega) (by omega)

end Go.Proofs.YtnlmgifjmlpgoaaGreatDoor
