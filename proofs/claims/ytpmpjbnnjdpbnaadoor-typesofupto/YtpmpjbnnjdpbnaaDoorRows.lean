/-
  NARROWER THAN 'FOR EVERY INPUT', by the rows' own cells (each row's printed sentence says how): TypesReads: laid · TypesPairs: laid · TypesOf: loops, laid · TypesMakes: laid · TypesLong: laid.
  DERIVED. THE GIVEN ROWS OF THIS SEAT. 5 by the template 'for every input the law returns true; each argument reads behind the call as it read before'; 0 by the template 'total and deterministic' (their statements: YtpmpjbnnjdpbnaaDoorTotals.lean).
  GIVEN WITH THE SEED: the statements are not yours to turn. If you find one false, say at which input.
  Laid BY PROGRAM, IN A SANDBOX (cutbox-rows.mjs): the forced cells as the released guide's own fill.sh prints them over the translation 9bedd7bd2593f616… (all of the seat's roots in one cut). By AI agents, Wed Nov 11 2026. No macro, syntax, notation, axiom, sorry.
-/
import Derived.Test.YtpmpjbnnjdpbnaaDoorChecked
import GoSem.Claim
import GoSem.ClaimJoined
import GoSem.ClaimMapViews
import Derived.JoinedTies
import Derived.KernelRfl
namespace Go.Proofs.YtpmpjbnnjdpbnaaDoor
/- THE CELL 'sum', in the pinned program and in every row, IS THE sha256 OF THE DUMP (.gsa) THAT YtpmpjbnnjdpbnaaDoorProg.lean LOADS. Nothing in Lean hashes anything: it is a label: what it is worth is what the hold of that sum in a sandbox is worth. -/
noncomputable def Tryd.pinned : Pinned := { name := "ytpmpjbnnjdpbnaadoor", sum := "9bedd7bd2593f6169b37e28a40c7bed5196b81f296051c75cda887447672ef70", checked := Tryd.checked }
namespace Rows
def none {H : Type} : Left H := { results := [], args := [] }

/- WHAT THE LISTED PACKAGE-LEVEL VARIABLES READ AS WHEN THE CALL BEGINS. Each datum BY PROGRAM (the guide's laid-datum.mjs) off the statement by which the dump's own 'gosem.cut.vars' lays the variable. In a bare row this is a premise. The card (YtpmpjbnnjdpbnaaDoorCards.lean) ties it to the program's text. -/
def laid_errors_errorType {H : Type} : DataW H := .iface "internal/reflectlite.rtype" (.agg [.ptr (.lit (.string [101, 114, 114, 111, 114]))])
def laid_derrick_lex_longestMark {H : Type} : DataW H := .agg [.lit (.int .i8 0), .lit (.int .i8 0), .lit (.int .i8 0), .lit (.int .i8 0), .lit (.int .i8 0), .lit (.int .i8 0), .lit (.int .i8 0), .lit (.int .i8 0), .lit (.int .i8 0), .lit (.int .i8 0), .lit (.int .i8 0), .lit (.int .i8 0), .lit (.int .i8 0), .lit (.int .i8 0), .lit (.int .i8 0), .lit (.int .i8 0), .lit (.int .i8 0), .lit (.int .i8 0), .lit (.int .i8 0), .lit (.int .i8 0), .lit (.int .i8 0), .lit (.int .i8 0), .lit (.int .i8 0), .lit (.int .i8 0), .lit (.int .i8 0), .lit (.int .i8 0), .lit (.int .i8 0), .lit (.int .i8 0), .lit (.int .i8 0), .lit (.int .i8 0), .lit (.int .i8 0), .lit (.int .i8 0), .lit (.int .i8 0), .lit (.int .i8 2), .lit (.int .i8 0), .lit (.int .i8 0), .lit (.int .i8 0), .lit (.int .i8 1), .lit (.int .i8 2), .lit (.int .i8 0), .lit (.int .i8 1), .lit (.int .i8 1), .lit (.int .i8 2), .lit (.int .i8 2), .lit (.int .i8 1), .lit (.int .i8 2), .lit (.int .i8 1), .lit (.int .i8 1), .lit (.int .i8 0), .lit (.int .i8 0), .lit (.int .i8 0), .lit (.int .i8 0), .lit (.int .i8 0), .lit (.int .i8 0), .lit (.int .i8 0), .lit (.int .i8 0), .lit (.int .i8 0), .lit (.int .i8 0), .lit (.int .i8 2), .lit (.int .i8 1), .lit (.int .i8 2), .lit (.int .i8 2), .lit (.int .i8 2), .lit (.int .i8 0), .lit (.int .i8 0), .lit (.int .i8 0), .lit (.int .i8 0), .lit (.int .i8 0), .lit (.int .i8 0), .lit (.int .i8 0), .lit (.int .i8 0), .lit (.int .i8 0), .lit (.int .i8 0), .lit (.int .i8 0), .lit (.int .i8 0), .lit (.int .i8 0), .lit (.int .i8 0), .lit (.int .i8 0), .lit (.int .i8 0), .lit (.int .i8 0), .lit (.int .i8 0), .lit (.int .i8 0), .lit (.int .i8 0), .lit (.int .i8 0), .lit (.int .i8 0), .lit (.int .i8 0), .lit (.int .i8 0), .lit (.int .i8 0), .lit (.int .i8 0), .lit (.int .i8 0), .lit (.int .i8 0), .lit (.int .i8 1), .lit (.int .i8 0), .lit (.int .i8 1), .lit (.int .i8 0), .lit (.int .i8 0), .lit (.int .i8 0), .lit (.int .i8 0), .lit (.int .i8 0), .lit (.int .i8 0), .lit (.int .i8 0), .lit (.int .i8 0), .lit (.int .i8 0), .lit (.int .i8 0), .lit (.int .i8 0), .lit (.int .i8 0), .lit (.int .i8 0), .lit (.int .i8 0), .lit (.int .i8 0), .lit (.int .i8 0), .lit (.int .i8 0), .lit (.int .i8 0), .lit (.int .i8 0), .lit (.int .i8 0), .lit (.int .i8 0), .lit (.int .i8 0), .lit (.int .i8 0), .lit (.int .i8 0), .lit (.int .i8 0), .lit (.int .i8 0), .lit (.int .i8 0), .lit (.int .i8 0), .lit (.int .i8 0), .lit (.int .i8 1), .lit (.int .i8 2), .lit (.int .i8 1), .lit (.int .i8 0), .lit (.int .i8 0)]

/-- 'derricklaw04.TypesReads': WHATEVER THE INPUT: true; the input reads as it did. -/
def typesReadsSpec : ChangeSpec := { name := "typesReads", fn := fun _ => fun
  | [d] => { results := [.lit (.bool true)], args := [d] }
  | _ => none }
def typesReadsRow : OpenClaim := { program := "ytpmpjbnnjdpbnaadoor", sum := "9bedd7bd2593f6169b37e28a40c7bed5196b81f296051c75cda887447672ef70", func := "derrick/derricklaw04.TypesReads", spec := "typesReads", inPlace := ["internal/bytealg.IndexByteString", "internal/bytealg.IndexString", "internal/reflectlite.ValueOf", "(internal/reflectlite.Value).Type", "(internal/reflectlite.Value).IsNil", "internal/reflectlite.TypeOf", "(internal/reflectlite.Value).Elem", "(internal/reflectlite.Value).Set"], unfollowed := true, recurses := true, named := ["derrick/lex.longestMark", "errors.errorType", "internal/bytealg.MaxLen"], apart := false, laid := [("errors.errorType", laid_errors_errorType), ("derrick/lex.longestMark", laid_derrick_lex_longestMark)] }
def TypesReadsSaid : Prop := typesReadsRow.holds Tryd.pinned (OpenSpec.ofChange typesReadsSpec)

/-- ITS FALSE NEIGHBOUR: 'it returns false'. Refute it at one input. -/
def typesReadsWrong : ChangeSpec := { name := "typesReads", fn := fun _ => fun
  | [d] => { results := [.lit (.bool false)], args := [d] }
  | _ => none }
def TypesReadsWrongFalsely : Prop := typesReadsRow.holds Tryd.pinned (OpenSpec.ofChange typesReadsWrong)

/-- 'derricklaw04.TypesPairs': WHATEVER THE INPUT: true; the input reads as it did. -/
def typesPairsSpec : ChangeSpec := { name := "typesPairs", fn := fun _ => fun
  | [d1, d2] => { results := [.lit (.bool true)], args := [d1, d2] }
  | _ => none }
def typesPairsRow : OpenClaim := { program := "ytpmpjbnnjdpbnaadoor", sum := "9bedd7bd2593f6169b37e28a40c7bed5196b81f296051c75cda887447672ef70", func := "derrick/derricklaw04.TypesPairs", spec := "typesPairs", inPlace := ["internal/bytealg.IndexByteString", "internal/bytealg.IndexString", "internal/reflectlite.ValueOf", "(internal/reflectlite.Value).Type", "(internal/reflectlite.Value).IsNil", "internal/reflectlite.TypeOf", "(internal/reflectlite.Value).Elem", "(internal/reflectlite.Value).Set"], unfollowed := true, recurses := true, named := ["derrick/lex.longestMark", "errors.errorType", "internal/bytealg.MaxLen"], apart := false, laid := [("errors.errorType", laid_errors_errorType), ("derrick/lex.longestMark", laid_derrick_lex_longestMark)] }
def TypesPairsSaid : Prop := typesPairsRow.holds Tryd.pinned (OpenSpec.ofChange typesPairsSpec)

/-- ITS FALSE NEIGHBOUR: 'it returns false'. Refute it at one input. -/
def typesPairsWrong : ChangeSpec := { name := "typesPairs", fn := fun _ => fun
  | [d1, d2] => { results := [.lit (.bool false)], args := [d1, d2] }
  | _ => none }
def TypesPairsWrongFalsely : Prop := typesPairsRow.holds Tryd.pinned (OpenSpec.ofChange typesPairsWrong)

/-- 'derricklaw04.TypesOf': WHATEVER THE INPUT: true; the input reads as it did. -/
def typesOfSpec : ChangeSpec := { name := "typesOf", fn := fun _ => fun
  | [d] => { results := [.lit (.bool true)], args := [d] }
  | _ => none }
def typesOfRow : OpenClaim := { program := "ytpmpjbnnjdpbnaadoor", sum := "9bedd7bd2593f6169b37e28a40c7bed5196b81f296051c75cda887447672ef70", func := "derrick/derricklaw04.TypesOf", spec := "typesOf", inPlace := ["internal/bytealg.IndexByteString", "internal/bytealg.IndexString", "internal/reflectlite.ValueOf", "(internal/reflectlite.Value).Type", "(internal/reflectlite.Value).IsNil", "internal/reflectlite.TypeOf", "(internal/reflectlite.Value).Elem", "(internal/reflectlite.Value).Set", "internal/abi.NoEscape"], unfollowed := true, recurses := true, named := ["derrick/lex.longestMark", "errors.errorType", "internal/bytealg.MaxLen"], loops := true, apart := false, laid := [("errors.errorType", laid_errors_errorType), ("derrick/lex.longestMark", laid_derrick_lex_longestMark)] }
def TypesOfSaid : Prop := typesOfRow.holds Tryd.pinned (OpenSpec.ofChange typesOfSpec)

/-- ITS FALSE NEIGHBOUR: 'it returns false'. Refute it at one input. -/
def typesOfWrong : ChangeSpec := { name := "typesOf", fn := fun _ => fun
  | [d] => { results := [.lit (.bool false)], args := [d] }
  | _ => none }
def TypesOfWrongFalsely : Prop := typesOfRow.holds Tryd.pinned (OpenSpec.ofChange typesOfWrong)

/-- 'derricklaw04.TypesMakes': WHATEVER THE INPUT: true; the input reads as it did. -/
def typesMakesSpec : ChangeSpec := { name := "typesMakes", fn := fun _ => fun
  | [d1, d2, d3] => { results := [.lit (.bool true)], args := [d1, d2, d3] }
  | _ => none }
def typesMakesRow : OpenClaim := { program := "ytpmpjbnnjdpbnaadoor", sum := "9bedd7bd2593f6169b37e28a40c7bed5196b81f296051c75cda887447672ef70", func := "derrick/derricklaw04.TypesMakes", spec := "typesMakes", inPlace := ["internal/bytealg.IndexByteString", "internal/bytealg.IndexString", "internal/reflectlite.ValueOf", "(internal/reflectlite.Value).Type", "(internal/reflectlite.Value).IsNil", "internal/reflectlite.TypeOf", "(internal/reflectlite.Value).Elem", "(internal/reflectlite.Value).Set"], unfollowed := true, recurses := true, named := ["derrick/lex.longestMark", "errors.errorType", "internal/bytealg.MaxLen"], apart := false, laid := [("errors.errorType", laid_errors_errorType), ("derrick/lex.longestMark", laid_derrick_lex_longestMark)] }
def TypesMakesSaid : Prop := typesMakesRow.holds Tryd.pinned (OpenSpec.ofChange typesMakesSpec)

/-- ITS FALSE NEIGHBOUR: 'it returns false'. Refute it at one input. -/
def typesMakesWrong : ChangeSpec := { name := "typesMakes", fn := fun _ => fun
  | [d1, d2, d3] => { results := [.lit (.bool false)], args := [d1, d2, d3] }
  | _ => none }
def TypesMakesWrongFalsely : Prop := typesMakesRow.holds Tryd.pinned (OpenSpec.ofChange typesMakesWrong)

/-- 'derricklaw04.TypesLong': WHATEVER THE INPUT: true; the input reads as it did. -/
def typesLongSpec : ChangeSpec := { name := "typesLong", fn := fun _ => fun
  | [d1, d2] => { results := [.lit (.bool true)], args := [d1, d2] }
  | _ => none }
def typesLongRow : OpenClaim := { program := "ytpmpjbnnjdpbnaadoor", sum := "9bedd7bd2593f6169b37e28a40c7bed5196b81f296051c75cda887447672ef70", func := "derrick/derricklaw04.TypesLong", spec := "typesLong", inPlace := ["internal/bytealg.IndexByteString", "internal/bytealg.IndexString", "internal/reflectlite.ValueOf", "(internal/reflectlite.Value).Type", "(internal/reflectlite.Value).IsNil", "internal/reflectlite.TypeOf", "(internal/reflectlite.Value).Elem", "(internal/reflectlite.Value).Set"], unfollowed := true, recurses := true, named := ["derrick/lex.longestMark", "errors.errorType", "internal/bytealg.MaxLen"], apart := false, laid := [("errors.errorType", laid_errors_errorType), ("derrick/lex.longestMark", laid_derrick_lex_longestMark)] }
def TypesLongSaid : Prop := typesLongRow.holds Tryd.pinned (OpenSpec.ofChange typesLongSpec)

/-- ITS FALSE NEIGHBOUR: 'it returns false'. Refute it at one input. -/
def typesLongWrong : ChangeSpec := { name := "typesLong", fn := fun _ => fun
  | [d1, d2] => { results := [.lit (.bool false)], args := [d1, d2] }
  | _ => none }
def TypesLongWrongFalsely : Prop := typesLongRow.holds Tryd.pinned (OpenSpec.ofChange typesLongWrong)

/- THE SECOND FORM. 'bulk': how many values and letters a reading holds, each counted each time it is reached (what is shared counts as often as it is met; a slice's spare places count too). A statement '..UptoSaid' is the law's where the arguments, and the package variables that the reading takes, are together of bulk at most 1048576: NARROWER than '..Said'. Prove '..Said' where nothing that the law and all that it calls make is longer than what came in: it says more and counts as full. Else prove '..UptoSaid'. A law counts once. -/
mutual
def uptoBulk {H : Type} : DataW H → Nat
  | .lit (.string bytes) => bytes.length + 1
  | .lit _ => 1
  | .nil => 1
  | .ptr d => uptoBulk d + 1
  | .slice elems spare => uptoBulkAll elems + uptoBulkAll spare + 1
  | .agg parts => uptoBulkAll parts + 1
  | .iface _ d => uptoBulk d + 1
  | .map entries => uptoBulkEntries entries + 1
  | .held _ => 1
def uptoBulkAll {H : Type} : List (DataW H) → Nat
  | [] => 0
  | d :: r => uptoBulk d + uptoBulkAll r
def uptoBulkEntries {H : Type} : List (Lit × DataW H) → Nat
  | [] => 0
  | x :: r => uptoBulkEntry x + uptoBulkEntries r
def uptoBulkEntry {H : Type} : Lit × DataW H → Nat
  | (.string bytes, d) => bytes.length + uptoBulk d + 1
  | (_, d) => uptoBulk d + 1
 end
def uptoSmall : (H : Type) → List (DataW H) → Bool := fun _ ds => decide (uptoBulkAll ds ≤ 1048576)
def OpenSpec.upto (s : _root_.Go.ChangeSpec) : _root_.Go.OpenSpec := { _root_.Go.OpenSpec.ofChange s with cond := some uptoSmall }

/-- 'derricklaw04.TypesReads', WHERE WHAT IT READS IS OF BULK AT MOST 1048576: true; the input reads as it did. -/
def typesReadsUptoRow : OpenClaim := { program := "ytpmpjbnnjdpbnaadoor", sum := "9bedd7bd2593f6169b37e28a40c7bed5196b81f296051c75cda887447672ef70", func := "derrick/derricklaw04.TypesReads", spec := "typesReads", inPlace := ["internal/bytealg.IndexByteString", "internal/bytealg.IndexString", "internal/reflectlite.ValueOf", "(internal/reflectlite.Value).Type", "(internal/reflectlite.Value).IsNil", "internal/reflectlite.TypeOf", "(internal/reflectlite.Value).Elem", "(internal/reflectlite.Value).Set"], unfollowed := true, recurses := true, named := ["derrick/lex.longestMark", "errors.errorType", "internal/bytealg.MaxLen"], apart := false, laid := [("errors.errorType", laid_errors_errorType), ("derrick/lex.longestMark", laid_derrick_lex_longestMark)], narrowed := true }
def TypesReadsUptoSaid : Prop := typesReadsUptoRow.holds Tryd.pinned (OpenSpec.upto typesReadsSpec)

/-- 'derricklaw04.TypesPairs', WHERE WHAT IT READS IS OF BULK AT MOST 1048576: true; the input reads as it did. -/
def typesPairsUptoRow : OpenClaim := { program := "ytpmpjbnnjdpbnaadoor", sum := "9bedd7bd2593f6169b37e28a40c7bed5196b81f296051c75cda887447672ef70", func := "derrick/derricklaw04.TypesPairs", spec := "typesPairs", inPlace := ["internal/bytealg.IndexByteString", "internal/bytealg.IndexString", "internal/reflectlite.ValueOf", "(internal/reflectlite.Value).Type", "(internal/reflectlite.Value).IsNil", "internal/reflectlite.TypeOf", "(internal/reflectlite.Value).Elem", "(internal/reflectlite.Value).Set"], unfollowed := true, recurses := true, named := ["derrick/lex.longestMark", "errors.errorType", "internal/bytealg.MaxLen"], apart := false, laid := [("errors.errorType", laid_errors_errorType), ("derrick/lex.longestMark", laid_derrick_lex_longestMark)], narrowed := true }
def TypesPairsUptoSaid : Prop := typesPairsUptoRow.holds Tryd.pinned (OpenSpec.upto typesPairsSpec)

/-- 'derricklaw04.TypesOf', WHERE WHAT IT READS IS OF BULK AT MOST 1048576: true; the input reads as it did. -/
def typesOfUptoRow : OpenClaim := { program := "ytpmpjbnnjdpbnaadoor", sum := "9bedd7bd2593f6169b37e28a40c7bed5196b81f296051c75cda887447672ef70", func := "derrick/derricklaw04.TypesOf", spec := "typesOf", inPlace := ["internal/bytealg.IndexByteString", "internal/bytealg.IndexString", "internal/reflectlite.ValueOf", "(internal/reflectlite.Value).Type", "(internal/reflectlite.Value).IsNil", "internal/reflectlite.TypeOf", "(internal/reflectlite.Value).Elem", "(internal/reflectlite.Value).Set", "internal/abi.NoEscape"], unfollowed := true, recurses := true, named := ["derrick/lex.longestMark", "errors.errorType", "internal/bytealg.MaxLen"], loops := true, apart := false, laid := [("errors.errorType", laid_errors_errorType), ("derrick/lex.longestMark", laid_derrick_lex_longestMark)], narrowed := true }
def TypesOfUptoSaid : Prop := typesOfUptoRow.holds Tryd.pinned (OpenSpec.upto typesOfSpec)

/-- 'derricklaw04.TypesMakes', WHERE WHAT IT READS IS OF BULK AT MOST 1048576: true; the input reads as it did. -/
def typesMakesUptoRow : OpenClaim := { program := "ytpmpjbnnjdpbnaadoor", sum := "9bedd7bd2593f6169b37e28a40c7bed5196b81f296051c75cda887447672ef70", func := "derrick/derricklaw04.TypesMakes", spec := "typesMakes", inPlace := ["internal/bytealg.IndexByteString", "internal/bytealg.IndexString", "internal/reflectlite.ValueOf", "(internal/reflectlite.Value).Type", "(internal/reflectlite.Value).IsNil", "internal/reflectlite.TypeOf", "(internal/reflectlite.Value).Elem", "(internal/reflectlite.Value).Set"], unfollowed := true, recurses := true, named := ["derrick/lex.longestMark", "errors.errorType", "internal/bytealg.MaxLen"], apart := false, laid := [("errors.errorType", laid_errors_errorType), ("derrick/lex.longestMark", laid_derrick_lex_longestMark)], narrowed := true }
def TypesMakesUptoSaid : Prop := typesMakesUptoRow.holds Tryd.pinned (OpenSpec.upto typesMakesSpec)

/-- 'derricklaw04.TypesLong', WHERE WHAT IT READS IS OF BULK AT MOST 1048576: true; the input reads as it did. -/
def typesLongUptoRow : OpenClaim := { program := "ytpmpjbnnjdpbnaadoor", sum := "9bedd7bd2593f6169b37e28a40c7bed5196b81f296051c75cda887447672ef70", func := "derrick/derricklaw04.TypesLong", spec := "typesLong", inPlace := ["internal/bytealg.IndexByteString", "internal/bytealg.IndexString", "internal/reflectlite.ValueOf", "(internal/reflectlite.Value).Type", "(internal/reflectlite.Value).IsNil", "internal/reflectlite.TypeOf", "(internal/reflectlite.Value).Elem", "(internal/reflectlite.Value).Set"], unfollowed := true, recurses := true, named := ["derrick/lex.longestMark", "errors.errorType", "internal/bytealg.MaxLen"], apart := false, laid := [("errors.errorType", laid_errors_errorType), ("derrick/lex.longestMark", laid_derrick_lex_longestMark)], narrowed := true }
def TypesLongUptoSaid : Prop := typesLongUptoRow.holds Tryd.pinned (OpenSpec.upto typesLongSpec)

end Rows
end Go.Proofs.YtpmpjbnnjdpbnaaDoor
