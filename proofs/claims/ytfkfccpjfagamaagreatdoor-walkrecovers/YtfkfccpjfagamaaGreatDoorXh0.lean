import Derived.Test.YtfkfccpjfagamaaGreatDoorXh1
import Derived.Test.YtfkfccpjfagamaaGreatDoorXh2
import Derived.Test.YtfkfccpjfagamaaGreatDoorXh3
import Derived.Test.YtfkfccpjfagamaaGreatDoorXh4
import Derived.Test.YtfkfccpjfagamaaGreatDoorXl
import Derived.Test.YtfkfccpjfagamaaGreatDoorRows
import Derived.ProofKit
import Derived.LaidMore
import Derived.LaidHandle
import Derived.LaidLaws
import Derived.OpenShut
import Derived.Test.YtfkfccpjfagamaaGreatDoorTie
import Derived.Test.YtfkfccpjfagamaaGreatDoorCards
import Derived.SevenTiedAt
import Derived.ShutString
import Derived.SizedLaws
import Derived.Deep.Grids
set_option linter.all false
namespace Go.Proofs.YtfkfccpjfagamaaGreatDoor
open Go Go.ChangeShapes Go.WideShapes Go.ChangeAt Go.WideMaps Go.WideElems Go.RowKit
open Go.ChangeMaps (open_string shut_string)
theorem walkRecovers_joined : joinedFacts Tryz.prog 3 Tryz.f3 Rows.walkRecoversSpec Rows.walkRecoversRow = true := by
  unfold joinedFacts
  rw [walkRecovers_fact1, walkRecovers_fact2, walkRecovers_fact3, walkRecovers_fact4]
  kernel_rfl
theorem walkRecovers_holds : Rows.WalkRecoversSaid :=
  OpenClaim.holds_of_wide 3 Tryz.f3 rfl rfl rfl rfl rfl rfl rfl ⟨rfl, rfl, rfl, rfl, rfl⟩ rfl rfl rfl rfl rfl (by kernel_rfl) Tryz.func3 walkRecovers_joined
    (of_decide_eq_true (by kernel_rfl)) (by unfold Func.isWrapper; rw [if_neg (of_decide_eq_false (by kernel_rfl))]; exact ⟨rfl, rfl⟩)
    (fun os started H enc _ => walkRecovers_lifted os started H enc)
end Go.Proofs.YtfkfccpjfagamaaGreatDoor
