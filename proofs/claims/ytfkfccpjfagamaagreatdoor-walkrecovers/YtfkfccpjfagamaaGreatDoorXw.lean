import Derived.Test.YtfkfccpjfagamaaGreatDoorRw0
import Derived.Test.YtfkfccpjfagamaaGreatDoorRw1
import Derived.Test.YtfkfccpjfagamaaGreatDoorRw2
import Derived.Test.YtfkfccpjfagamaaGreatDoorRw3
import Derived.Test.YtfkfccpjfagamaaGreatDoorRw4
set_option linter.all false
namespace Go.Proofs.YtfkfccpjfagamaaGreatDoor
open Go Ex
theorem rec_t : ∀ a b c : Bool, RunT 3 (.cons (.bool a) (.cons (.bool b) (.cons (.bool c) .nil)))
  | false, false, false => r_fff
  | false, false, true => r_fft
  | false, true, false => r_ftf
  | false, true, true => r_ftt
  | true, false, false => r_tff
  | true, false, true => r_tft
  | true, true, false => r_ttf
  | true, true, true => r_ttt
theorem rec_any (a b c : Bool) (W : World) : Calls Tryz.prog 3 #[.bool a, .bool b, .bool c] W fun e w' => e = .returned (.bool true) ∧ RowKit.Below W.heap.size W w' :=
  run_any anc (xs := [.bool a, .bool b, .bool c]) (fun _ => .cons (.bool a) (.cons (.bool b) (.cons (.bool c) .nil))) (rec_t a b c) W
end Go.Proofs.YtfkfccpjfagamaaGreatDoor
