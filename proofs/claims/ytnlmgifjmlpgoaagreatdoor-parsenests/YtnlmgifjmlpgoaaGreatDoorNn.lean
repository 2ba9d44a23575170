/- The sources of ParseNests, the other kinds, by the kernel; ParseNests, at all arguments. -/
import Derived.Test.YtnlmgifjmlpgoaaGreatDoorNkB
set_option linter.unusedVariables false
set_option linter.unusedSimpArgs false
set_option maxRecDepth 100000
namespace Go.Proofs.YtnlmgifjmlpgoaaGreatDoor
open Go.RowKit Go.Proofs.YtnlmgifjmlpgoaaGreatDoor.Lx Go.Proofs.YtnlmgifjmlpgoaaGreatDoor.Px

theorem nk_0_0 : nestAll 0 0 20 = true := by kernel_rfl
theorem nk_0_20 : nestAll 0 20 20 = true := by kernel_rfl
theorem nk_0_40 : nestAll 0 40 20 = true := by kernel_rfl
theorem nk_0_60 : nestAll 0 60 20 = true := by kernel_rfl
theorem nk_0_80 : nestAll 0 80 21 = true := by kernel_rfl
theorem nk_0 (d : Nat) (hd : d ≤ 100) : nestOk 0 d = true := by
  by_cases h0 : d < 20
  · exact nestAll_at nk_0_0 (by omega) (by omega)
  by_cases h20 : d < 40
  · exact nestAll_at nk_0_20 (by omega) (by omega)
  by_cases h40 : d < 60
  · exact nestAll_at nk_0_40 (by omega) (by omega)
  by_cases h60 : d < 80
  · exact nestAll_at nk_0_60 (by omega) (by omega)
  exact nestAll_at nk_0_80 (by omega) (by omega)
theorem nk_1_0 : nestAll 1 0 20 = true := by kernel_rfl
theorem nk_1_20 : nestAll 1 20 20 = true := by kernel_rfl
theorem nk_1_40 : nestAll 1 40 20 = true := by kernel_rfl
theorem nk_1_60 : nestAll 1 60 20 = true := by kernel_rfl
theorem nk_1_80 : nestAll 1 80 21 = true := by kernel_rfl
theorem nk_1 (d : Nat) (hd : d ≤ 100) : nestOk 1 d = true := by
  by_cases h0 : d < 20
  · exact nestAll_at nk_1_0 (by omega) (by omega)
  by_cases h20 : d < 40
  · exact nestAll_at nk_1_20 (by omega) (by omega)
  by_cases h40 : d < 60
  · exact nestAll_at nk_1_40 (by omega) (by omega)
  by_cases h60 : d < 80
  · exact nestAll_at nk_1_60 (by omega) (by omega)
  exact nestAll_at nk_1_80 (by omega) (by omega)
theorem nk_2_0 : nestAll 2 0 20 = true := by kernel_rfl
theorem nk_2_20 : nestAll 2 20 20 = true := by kernel_rfl
theorem nk_2_40 : nestAll 2 40 20 = true := by kernel_rfl
theorem nk_2_60 : nestAll 2 60 20 = true := by kernel_rfl
theorem nk_2_80 : nestAll 2 80 21 = true := by kernel_rfl
theorem nk_2 (d : Nat) (hd : d ≤ 100) : nestOk 2 d = true := by
  by_cases h0 : d < 20
  · exact nestAll_at nk_2_0 (by omega) (by omega)
  by_cases h20 : d < 40
  · exact nestAll_at nk_2_20 (by omega) (by omega)
  by_cases h40 : d < 60
  · exact nestAll_at nk_2_40 (by omega) (by omega)
  by_cases h60 : d < 80
  · exact nestAll_at nk_2_60 (by omega) (by omega)
  exact nestAll_at nk_2_80 (by omega) (by omega)
theorem nk_3_0 : nestAll 3 0 20 = true := by kernel_rfl
theorem nk_3_20 : nestAll 3 20 20 = true := by kernel_rfl
theorem nk_3_40 : nestAll 3 40 12 = true := by kernel_rfl
theorem nk_3_52 : nestAll 3 52 12 = true := by kernel_rfl
theorem nk_3_64 : nestAll 3 64 12 = true := by kernel_rfl
theorem nk_3_76 : nestAll 3 76 12 = true := by kernel_rfl
theorem nk_3_88 : nestAll 3 88 13 = true := by kernel_rfl
theorem nk_3 (d : Nat) (hd : d ≤ 100) : nestOk 3 d = true := by
  by_cases h0 : d < 20
  · exact nestAll_at nk_3_0 (by omega) (by omega)
  by_cases h20 : d < 40
  · exact nestAll_at nk_3_20 (by omega) (by omega)
  by_cases h40 : d < 52
  · exact nestAll_at nk_3_40 (by omega) (by omega)
  by_cases h52 : d < 64
  · exact nestAll_at nk_3_52 (by omega) (by omega)
  by_cases h64 : d < 76
  · exact nestAll_at nk_3_64 (by omega) (by omega)
  by_cases h76 : d < 88
  · exact nestAll_at nk_3_76 (by omega) (by omega)
  exact nestAll_at nk_3_88 (by omega) (by omega)
theorem nests_any (a b : Int) (w : World) (hv : Vars w) : Calls Tryz.prog 5 #[.int .i64 a, .int .i64 b] w fun e w' => e = .returned (.bool true) ∧ Below w.heap.size w w' := by
  by_cases h : a < 0 ∨ 4 < a ∨ b < 0 ∨ 100 < b
  · exact nests_out a b w hv h
  obtain ⟨d, rfl⟩ : ∃ d : Nat, b = d := ⟨b.toNat, by omega⟩
  have hd : d ≤ 100 := by omega
  have ha : a = 0 ∨ a = 1 ∨ a = 2 ∨ a = 3 ∨ a = 4 := by omega
  rcases ha with rfl | rfl | rfl | rfl | rfl
  · exact nests_0 d hd (nk_0 d hd) w hv
  · exact nests_1 d hd (nk_1 d hd) w hv
  · exact nests_2 d hd (nk_2 d hd) w hv
  · exact nests_3 d hd (nk_3 d hd) w hv
  · exact nests_4 d hd (nk_4 d hd) w hv

end Go.Proofs.YtnlmgifjmlpgoaaGreatDoor
