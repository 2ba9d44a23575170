/-
  NARROWER THAN 'FOR EVERY INPUT', by the rows' own cells (each row's printed sentence says how): CodeBack: laid · CodeCut: laid · CodeTells: laid · CodeReads: laid · CodeGrows: laid.
  DERIVED. THE GIVEN ROWS OF THIS SEAT. 5 by the template 'for every input the law returns true; each argument reads behind the call as it read before'; 0 by the template 'total and deterministic' (their statements: YtfkjjljhabjcjaaDoorTotals.lean).
  GIVEN WITH THE SEED: the statements are not yours to turn. If you find one false, say at which input.
  Laid BY PROGRAM, IN A SANDBOX (cutbox-rows.mjs): the forced cells as the released guide's own fill.sh prints them over the translation a2e0031f3da9bd13… (all of the seat's roots in one cut). By AI agents, Wed Nov 11 2026. No macro, syntax, notation, axiom, sorry.
-/
import Derived.Test.YtfkjjljhabjcjaaDoorChecked
import GoSem.Claim
import GoSem.ClaimJoined
import GoSem.ClaimMapViews
import Derived.JoinedTies
import Derived.KernelRfl
namespace Go.Proofs.YtfkjjljhabjcjaaDoor
/- THE CELL 'sum', in the pinned program and in every row, IS THE sha256 OF THE DUMP (.gsa) THAT YtfkjjljhabjcjaaDoorProg.lean LOADS. Nothing in Lean hashes anything: it is a label: what it is worth is what the hold of that sum in a sandbox is worth. -/
noncomputable def Tryd.pinned : Pinned := { name := "ytfkjjljhabjcjaadoor", sum := "a2e0031f3da9bd1345fb70d47bd2553154ccfcbdfa236d23cc0e11573c34bbfd", checked := Tryd.checked }
namespace Rows
def none {H : Type} : Left H := { results := [], args := [] }

/- WHAT THE LISTED PACKAGE-LEVEL VARIABLES READ AS WHEN THE CALL BEGINS. Each datum BY PROGRAM (the guide's laid-datum.mjs) off the statement by which the dump's own 'gosem.cut.vars' lays the variable. In a bare row this is a premise. The card (YtfkjjljhabjcjaaDoorCards.lean) ties it to the program's text. -/
def laid_derrick_code_errEnd {H : Type} : DataW H := .iface "*errors.errorString" (.ptr (.agg [.lit (.string [116, 104, 101, 32, 98, 121, 116, 101, 115, 32, 101, 110, 100])]))
def laid_derrick_code_errForm {H : Type} : DataW H := .iface "*errors.errorString" (.ptr (.agg [.lit (.string [110, 111, 32, 98, 121, 116, 101, 32, 116, 104, 97, 116, 32, 97, 32, 119, 114, 105, 116, 101, 114, 32, 119, 114, 105, 116, 101, 115, 32, 116, 104, 101, 114, 101])]))

/-- 'derricklaw08.CodeBack': WHATEVER THE INPUT: true; the input reads as it did. -/
def codeBackSpec : ChangeSpec := { name := "codeBack", fn := fun _ => fun
  | [d] => { results := [.lit (.bool true)], args := [d] }
  | _ => none }
def codeBackRow : OpenClaim := { program := "ytfkjjljhabjcjaadoor", sum := "a2e0031f3da9bd1345fb70d47bd2553154ccfcbdfa236d23cc0e11573c34bbfd", func := "derrick/derricklaw08.CodeBack", spec := "codeBack", inPlace := ["internal/reflectlite.TypeOf"], unfollowed := true, recurses := true, named := ["derrick/code.errEnd", "derrick/code.errForm"], apart := false, laid := [("derrick/code.errEnd", laid_derrick_code_errEnd), ("derrick/code.errForm", laid_derrick_code_errForm)] }
def CodeBackSaid : Prop := codeBackRow.holds Tryd.pinned (OpenSpec.ofChange codeBackSpec)

/-- ITS FALSE NEIGHBOUR: 'it returns false'. Refute it at one input. -/
def codeBackWrong : ChangeSpec := { name := "codeBack", fn := fun _ => fun
  | [d] => { results := [.lit (.bool false)], args := [d] }
  | _ => none }
def CodeBackWrongFalsely : Prop := codeBackRow.holds Tryd.pinned (OpenSpec.ofChange codeBackWrong)

/-- 'derricklaw08.CodeCut': WHATEVER THE INPUT: true; the input reads as it did. -/
def codeCutSpec : ChangeSpec := { name := "codeCut", fn := fun _ => fun
  | [d1, d2, d3] => { results := [.lit (.bool true)], args := [d1, d2, d3] }
  | _ => none }
def codeCutRow : OpenClaim := { program := "ytfkjjljhabjcjaadoor", sum := "a2e0031f3da9bd1345fb70d47bd2553154ccfcbdfa236d23cc0e11573c34bbfd", func := "derrick/derricklaw08.CodeCut", spec := "codeCut", inPlace := ["internal/reflectlite.TypeOf"], unfollowed := true, recurses := true, named := ["derrick/code.errEnd", "derrick/code.errForm"], apart := false, laid := [("derrick/code.errEnd", laid_derrick_code_errEnd), ("derrick/code.errForm", laid_derrick_code_errForm)] }
def CodeCutSaid : Prop := codeCutRow.holds Tryd.pinned (OpenSpec.ofChange codeCutSpec)

/-- ITS FALSE NEIGHBOUR: 'it returns false'. Refute it at one input. -/
def codeCutWrong : ChangeSpec := { name := "codeCut", fn := fun _ => fun
  | [d1, d2, d3] => { results := [.lit (.bool false)], args := [d1, d2, d3] }
  | _ => none }
def CodeCutWrongFalsely : Prop := codeCutRow.holds Tryd.pinned (OpenSpec.ofChange codeCutWrong)

/-- 'derricklaw08.CodeTells': WHATEVER THE INPUT: true; the input reads as it did. -/
def codeTellsSpec : ChangeSpec := { name := "codeTells", fn := fun _ => fun
  | [d1, d2] => { results := [.lit (.bool true)], args := [d1, d2] }
  | _ => none }
def codeTellsRow : OpenClaim := { program := "ytfkjjljhabjcjaadoor", sum := "a2e0031f3da9bd1345fb70d47bd2553154ccfcbdfa236d23cc0e11573c34bbfd", func := "derrick/derricklaw08.CodeTells", spec := "codeTells", inPlace := ["internal/reflectlite.TypeOf"], unfollowed := true, recurses := true, named := ["derrick/code.errEnd", "derrick/code.errForm"], apart := false, laid := [("derrick/code.errEnd", laid_derrick_code_errEnd), ("derrick/code.errForm", laid_derrick_code_errForm)] }
def CodeTellsSaid : Prop := codeTellsRow.holds Tryd.pinned (OpenSpec.ofChange codeTellsSpec)

/-- ITS FALSE NEIGHBOUR: 'it returns false'. Refute it at one input. -/
def codeTellsWrong : ChangeSpec := { name := "codeTells", fn := fun _ => fun
  | [d1, d2] => { results := [.lit (.bool false)], args := [d1, d2] }
  | _ => none }
def CodeTellsWrongFalsely : Prop := codeTellsRow.holds Tryd.pinned (OpenSpec.ofChange codeTellsWrong)

/-- 'derricklaw08.CodeReads': WHATEVER THE INPUT: true; the input reads as it did. -/
def codeReadsSpec : ChangeSpec := { name := "codeReads", fn := fun _ => fun
  | [d1, d2] => { results := [.lit (.bool true)], args := [d1, d2] }
  | _ => none }
def codeReadsRow : OpenClaim := { program := "ytfkjjljhabjcjaadoor", sum := "a2e0031f3da9bd1345fb70d47bd2553154ccfcbdfa236d23cc0e11573c34bbfd", func := "derrick/derricklaw08.CodeReads", spec := "codeReads", inPlace := ["internal/reflectlite.TypeOf"], unfollowed := true, recurses := true, named := ["derrick/code.errEnd", "derrick/code.errForm"], apart := false, laid := [("derrick/code.errEnd", laid_derrick_code_errEnd), ("derrick/code.errForm", laid_derrick_code_errForm)] }
def CodeReadsSaid : Prop := codeReadsRow.holds Tryd.pinned (OpenSpec.ofChange codeReadsSpec)

/-- ITS FALSE NEIGHBOUR: 'it returns false'. Refute it at one input. -/
def codeReadsWrong : ChangeSpec := { name := "codeReads", fn := fun _ => fun
  | [d1, d2] => { results := [.lit (.bool false)], args := [d1, d2] }
  | _ => none }
def CodeReadsWrongFalsely : Prop := codeReadsRow.holds Tryd.pinned (OpenSpec.ofChange codeReadsWrong)

/-- 'derricklaw08.CodeGrows': WHATEVER THE INPUT: true; the input reads as it did. -/
def codeGrowsSpec : ChangeSpec := { name := "codeGrows", fn := fun _ => fun
  | [d1, d2, d3, d4] => { results := [.lit (.bool true)], args := [d1, d2, d3, d4] }
  | _ => none }
def codeGrowsRow : OpenClaim := { program := "ytfkjjljhabjcjaadoor", sum := "a2e0031f3da9bd1345fb70d47bd2553154ccfcbdfa236d23cc0e11573c34bbfd", func := "derrick/derricklaw08.CodeGrows", spec := "codeGrows", inPlace := ["internal/reflectlite.TypeOf"], unfollowed := true, recurses := true, named := ["derrick/code.errEnd", "derrick/code.errForm"], apart := false, laid := [("derrick/code.errEnd", laid_derrick_code_errEnd), ("derrick/code.errForm", laid_derrick_code_errForm)] }
def CodeGrowsSaid : Prop := codeGrowsRow.holds Tryd.pinned (OpenSpec.ofChange codeGrowsSpec)

/-- ITS FALSE NEIGHBOUR: 'it returns false'. Refute it at one input. -/
def codeGrowsWrong : ChangeSpec := { name := "codeGrows", fn := fun _ => fun
  | [d1, d2, d3, d4] => { results := [.lit (.bool false)], args := [d1, d2, d3, d4] }
  | _ => none }
def CodeGrowsWrongFalsely : Prop := codeGrowsRow.holds Tryd.pinned (OpenSpec.ofChange codeGrowsWrong)

/- THE SECOND FORM. 'bulk': how many values and letters a reading holds, each counted each time it is reached (what is shared counts as often as it is met; a slice's spare places count too). A statement '..UptoSaid' is the law's where the arguments, and the package variables that the reading takes, are together of bulk at most 1048576: NARROWER than '..Said'. Prove '..Said' where nothing that the law and all that it calls make is longer than what came in: it says more and counts as full. Else prove '..UptoSaid'. A law counts once. -/
mutual
def uptoBulk {H : Type} : DataW H → Nat
  | .lit (.string bytes) => bytes.length + 1
  | .lit _ => 1
  | .nil => 1
  | .ptr d => uptoBulk d + 1
  | .slice elems spare => uptoBulkAll elems + uptoBulkAll spare + 1
  | .agg parts => uptoBulkAll parts + 1
  | .iface _ d => uptoBulk d + 1
  | .map entries => uptoBulkEntries entries + 1
  | .held _ => 1
def uptoBulkAll {H : Type} : List (DataW H) → Nat
  | [] => 0
  | d :: r => uptoBulk d + uptoBulkAll r
def uptoBulkEntries {H : Type} : List (Lit × DataW H) → Nat
  | [] => 0
  | x :: r => uptoBulkEntry x + uptoBulkEntries r
def uptoBulkEntry {H : Type} : Lit × DataW H → Nat
  | (.string bytes, d) => bytes.length + uptoBulk d + 1
  | (_, d) => uptoBulk d + 1
 end
def uptoSmall : (H : Type) → List (DataW H) → Bool := fun _ ds => decide (uptoBulkAll ds ≤ 1048576)
def OpenSpec.upto (s : _root_.Go.ChangeSpec) : _root_.Go.OpenSpec := { _root_.Go.OpenSpec.ofChange s with cond := some uptoSmall }

/-- 'derricklaw08.CodeBack', WHERE WHAT IT READS IS OF BULK AT MOST 1048576: true; the input reads as it did. -/
def codeBackUptoRow : OpenClaim := { program := "ytfkjjljhabjcjaadoor", sum := "a2e0031f3da9bd1345fb70d47bd2553154ccfcbdfa236d23cc0e11573c34bbfd", func := "derrick/derricklaw08.CodeBack", spec := "codeBack", inPlace := ["internal/reflectlite.TypeOf"], unfollowed := true, recurses := true, named := ["derrick/code.errEnd", "derrick/code.errForm"], apart := false, laid := [("derrick/code.errEnd", laid_derrick_code_errEnd), ("derrick/code.errForm", laid_derrick_code_errForm)], narrowed := true }
def CodeBackUptoSaid : Prop := codeBackUptoRow.holds Tryd.pinned (OpenSpec.upto codeBackSpec)

/-- 'derricklaw08.CodeCut', WHERE WHAT IT READS IS OF BULK AT MOST 1048576: true; the input reads as it did. -/
def codeCutUptoRow : OpenClaim := { program := "ytfkjjljhabjcjaadoor", sum := "a2e0031f3da9bd1345fb70d47bd2553154ccfcbdfa236d23cc0e11573c34bbfd", func := "derrick/derricklaw08.CodeCut", spec := "codeCut", inPlace := ["internal/reflectlite.TypeOf"], unfollowed := true, recurses := true, named := ["derrick/code.errEnd", "derrick/code.errForm"], apart := false, laid := [("derrick/code.errEnd", laid_derrick_code_errEnd), ("derrick/code.errForm", laid_derrick_code_errForm)], narrowed := true }
def CodeCutUptoSaid : Prop := codeCutUptoRow.holds Tryd.pinned (OpenSpec.upto codeCutSpec)

/-- 'derricklaw08.CodeTells', WHERE WHAT IT READS IS OF BULK AT MOST 1048576: true; the input reads as it did. -/
def codeTellsUptoRow : OpenClaim := { program := "ytfkjjljhabjcjaadoor", sum := "a2e0031f3da9bd1345fb70d47bd2553154ccfcbdfa236d23cc0e11573c34bbfd", func := "derrick/derricklaw08.CodeTells", spec := "codeTells", inPlace := ["internal/reflectlite.TypeOf"], unfollowed := true, recurses := true, named := ["derrick/code.errEnd", "derrick/code.errForm"], apart := false, laid := [("derrick/code.errEnd", laid_derrick_code_errEnd), ("derrick/code.errForm", laid_derrick_code_errForm)], narrowed := true }
def CodeTellsUptoSaid : Prop := codeTellsUptoRow.holds Tryd.pinned (OpenSpec.upto codeTellsSpec)

/-- 'derricklaw08.CodeReads', WHERE WHAT IT READS IS OF BULK AT MOST 1048576: true; the input reads as it did. -/
def codeReadsUptoRow : OpenClaim := { program := "ytfkjjljhabjcjaadoor", sum := "a2e0031f3da9bd1345fb70d47bd2553154ccfcbdfa236d23cc0e11573c34bbfd", func := "derrick/derricklaw08.CodeReads", spec := "codeReads", inPlace := ["internal/reflectlite.TypeOf"], unfollowed := true, recurses := true, named := ["derrick/code.errEnd", "derrick/code.errForm"], apart := false, laid := [("derrick/code.errEnd", laid_derrick_code_errEnd), ("derrick/code.errForm", laid_derrick_code_errForm)], narrowed := true }
def CodeReadsUptoSaid : Prop := codeReadsUptoRow.holds Tryd.pinned (OpenSpec.upto codeReadsSpec)

/-- 'derricklaw08.CodeGrows', WHERE WHAT IT READS IS OF BULK AT MOST 1048576: true; the input reads as it did. -/
def codeGrowsUptoRow : OpenClaim := { program := "ytfkjjljhabjcjaadoor", sum := "a2e0031f3da9bd1345fb70d47bd2553154ccfcbdfa236d23cc0e11573c34bbfd", func := "derrick/derricklaw08.CodeGrows", spec := "codeGrows", inPlace := ["internal/reflectlite.TypeOf"], unfollowed := true, recurses := true, named := ["derrick/code.errEnd", "derrick/code.errForm"], apart := false, laid := [("derrick/code.errEnd", laid_derrick_code_errEnd), ("derrick/code.errForm", laid_derrick_code_errForm)], narrowed := true }
def CodeGrowsUptoSaid : Prop := codeGrowsUptoRow.holds Tryd.pinned (OpenSpec.upto codeGrowsSpec)

end Rows
end Go.Proofs.YtfkjjljhabjcjaaDoor
