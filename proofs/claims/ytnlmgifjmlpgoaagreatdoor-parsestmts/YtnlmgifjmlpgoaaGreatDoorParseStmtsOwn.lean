/- The law ParseStmts is true for every input: which expressions stand as statements, and which may be assigned to, stepped, started and deferred. Its conditions: the two package-level variables errors.errorType and derrick/lex.longestMark hold, when the call begins, what the program's own text lays in them (the card ties that); each string, slice and map that is read takes at most 2^47 - 4096 bytes. The card speaks of the packages that the law loads alone. -/
import Derived.Test.YtnlmgifjmlpgoaaGreatDoorSsA
import Derived.Test.YtnlmgifjmlpgoaaGreatDoorSsB
import Derived.Test.YtnlmgifjmlpgoaaGreatDoorLaid
import Derived.Test.YtnlmgifjmlpgoaaGreatDoorTie
import Derived.Test.YtnlmgifjmlpgoaaGreatDoorCards
import Derived.SevenTiedAt
import Derived.ShutString
import Derived.SizedLaws
set_option linter.unusedVariables false
set_option linter.unusedSimpArgs false
set_option maxRecDepth 100000
namespace Go.Proofs.YtnlmgifjmlpgoaaGreatDoor
open Go.RowKit Go.Proofs.YtnlmgifjmlpgoaaGreatDoor.Lx Go.Proofs.YtnlmgifjmlpgoaaGreatDoor.Px
set_option maxHeartbeats 4000000 in
theorem stmts_out (a b : Int) (w : World) (hv : Vars w) (h : a < 0 ∨ 10 < a ∨ b < 0 ∨ 5 < b) : Calls Tryz.prog 7 #[.int .i64 a, .int .i64 b] w fun e w' => e = .returned (.bool true) ∧ Below w.heap.size w w' := by
  have HA := hide (anchor_any w hv)
  clear hv
  by_cases h1 : a < 0
  · skip
    clear h
    go_enter Tryz.func7, Tryz.ntmps7
    go_wp2_with fail
    refine (unhide HA).mono ?_
    rintro e w1 ⟨rfl, B1⟩
    go_wp2
    exact bodyPost_ret (v := .bool true) (by simp [results, Tryz.results7, go_sem]) rfl ⟨rfl, B1⟩
  by_cases h2 : 10 < a
  · skip
    clear h
    go_enter Tryz.func7, Tryz.ntmps7
    go_wp2_with fail
    refine (unhide HA).mono ?_
    rintro e w1 ⟨rfl, B1⟩
    go_wp2
    exact bodyPost_ret (v := .bool true) (by simp [results, Tryz.results7, go_sem]) rfl ⟨rfl, B1⟩
  by_cases h3 : b < 0
  · skip
    clear h
    go_enter Tryz.func7, Tryz.ntmps7
    go_wp2_with fail
    refine (unhide HA).mono ?_
    rintro e w1 ⟨rfl, B1⟩
    go_wp2
    exact bodyPost_ret (v := .bool true) (by simp [results, Tryz.results7, go_sem]) rfl ⟨rfl, B1⟩
  · have h4 : 5 < b := by omega
    clear h
    go_enter Tryz.func7, Tryz.ntmps7
    go_wp2_with fail
    refine (unhide HA).mono ?_
    rintro e w1 ⟨rfl, B1⟩
    go_wp2
    exact bodyPost_ret (v := .bool true) (by simp [results, Tryz.results7, go_sem]) rfl ⟨rfl, B1⟩

theorem stmts_any (a b : Int) (w : World) (hv : Vars w) : Calls Tryz.prog 7 #[.int .i64 a, .int .i64 b] w fun e w' => e = .returned (.bool true) ∧ Below w.heap.size w w' := by
  by_cases h : a < 0 ∨ 10 < a ∨ b < 0 ∨ 5 < b
  · exact stmts_out a b w hv h
  have hb : b = 0 ∨ b = 1 ∨ b = 2 ∨ b = 3 ∨ b = 4 ∨ b = 5 := by omega
  rcases hb with rfl | rfl | rfl | rfl | rfl | rfl
  · by_cases h1 : a = 3 ∨ a = 7 ∨ a = 10
    · exact stmts_0y a h1 w hv
    by_cases h2 : a = 0 ∨ a = 1 ∨ a = 2 ∨ a = 4
    · exact stmts_0n a h2 w hv
    · exact stmts_0m a (by omega) w hv
  · by_cases h1 : a = 0 ∨ a = 1 ∨ a = 2
    · exact stmts_1y a h1 w hv
    by_cases h2 : a = 3 ∨ a = 4 ∨ a = 5 ∨ a = 6
    · exact stmts_1n a h2 w hv
    · exact stmts_1m a (by omega) w hv
  · by_cases h1 : a = 0 ∨ a = 1 ∨ a = 2
    · exact stmts_2y a h1 w hv
    by_cases h2 : a = 3 ∨ a = 4 ∨ a = 5 ∨ a = 6
    · exact stmts_2n a h2 w hv
    · exact stmts_2m a (by omega) w hv
  · by_cases h1 : a = 3 ∨ a = 7 ∨ a = 10
    · exact stmts_3y a h1 w hv
    by_cases h2 : a = 0 ∨ a = 1 ∨ a = 2 ∨ a = 4
    · exact stmts_3n a h2 w hv
    · exact stmts_3m a (by omega) w hv
  · by_cases h1 : a = 3 ∨ a = 7 ∨ a = 10
    · exact stmts_4y a h1 w hv
    by_cases h2 : a = 0 ∨ a = 1 ∨ a = 2 ∨ a = 4
    · exact stmts_4n a h2 w hv
    · exact stmts_4m a (by omega) w hv
  · by_cases h1 : a = 0 ∨ a = 1 ∨ a = 2
    · exact stmts_5y a h1 w hv
    by_cases h2 : a = 3 ∨ a = 4 ∨ a = 5 ∨ a = 6
    · exact stmts_5n a h2 w hv
    · exact stmts_5m a (by omega) w hv

end Go.Proofs.YtnlmgifjmlpgoaaGreatDoor
namespace Go.Proofs.YtnlmgifjmlpgoaaGreatDoor
open Go.ChangeShapes Go.WideShapes Go.ChangeAt Go.WideMaps Go.WideElems Go.RowKit Go.Proofs.YtnlmgifjmlpgoaaGreatDoor.Lx
open Go.ChangeMaps (open_string shut_string)

set_option maxRecDepth 100000 in
theorem parseStmts_lifted (os : Os) (started : os.Started) (H : Type) (enc : TypeId × Value → H) :
    ReturnsInHanded {} Tryz.checked os 7 .any (fun w args => (Rows.parseStmtsSpec.pre enc Tryz.prog Tryz.f7 [] false w args ∧ laidMetH Tryz.prog laid2 w) ∧ sizedMet enc Tryz.prog Tryz.f7 (OpenSpec.ofChange Rows.parseStmtsSpec) false w args)
      (Rows.parseStmtsSpec.post enc Tryz.prog Tryz.f7 false true false false) := by
  refine returnsInHanded_of_change_and (C := Tryz.checked) (X := fun w _ => laidMetH Tryz.prog laid2 w) (fun _ _ _ hh h => h.of_heap hh) Tryz.own started (by kernel_rfl) Tryz.func7
    (ChangeSpec.witness_shaped (enc := enc) (C := Tryz.checked) (os := os) (X := fun w _ => laidMetH Tryz.prog laid2 w) false (World.doorLaid Tryz.prog 400 os) #[.int .i64 0, .int .i64 0] 8 rfl (World.shaped_of_RefB (by kernel_rfl) (by kernel_rfl)) (by kernel_rfl) (by kernel_rfl) (by kernel_rfl) (door_met os _)) ?_
  intro W base args ds gs before hval0 hW _ _ hL _
  have hval : ∀ (j : Nat) t v, Tryz.f7.params[j]? = some t → args[j]? = some v → Value.okWide Tryz.prog W .any base t v := hval0
  have hW' := hW
  obtain ⟨p, q, hA0, hV, rfl, hfz, hnd⟩ := hW
  have hA : DataW.TrodAll enc Tryz.prog W 0 (fun _ => true) true Tryz.f7.params.toList args.toList ds p := hA0
  rw [Tryz.params7] at hA hval
  obtain ⟨v0, v1, d0, d1, p0, p1, rfl, rfl, rfl, h0, h1⟩ := trodAll_two hA
  obtain ⟨a0, rfl, rfl, rfl, w0⟩ := open_int Tryz.underlying3 (hval 0 3 v0 rfl rfl) h0
  obtain ⟨a1, rfl, rfl, rfl, w1⟩ := open_int Tryz.underlying3 (hval 1 3 v1 rfl rfl) h1
  obtain ⟨rfl, rfl⟩ := trodVars_none hV
  have hv := vars_of_laid hL
  clear hA0 hval0
  refine (stmts_any a0 a1 W hv).mono fun e W' hr => ?_
  obtain ⟨he, hb⟩ := hr
  subst he
  exact ⟨_, rfl, _, _, _, [], _, [], hW', trodAll_mk1 (shut_bool Tryz.underlying4 _), (trodAll_mk2 (shut_int Tryz.underlying3 w0) (shut_int Tryz.underlying3 w1)), rfl, hb.frame _, fun h => by cases h⟩

theorem parseStmts_holds : Rows.ParseStmtsSaid :=
  OpenClaim.holds_of_wide 7 Tryz.f7 rfl rfl rfl rfl rfl rfl rfl ⟨rfl, rfl, rfl, rfl, rfl⟩ rfl rfl rfl rfl rfl (by kernel_rfl) Tryz.func7 (by kernel_rfl)
    (of_decide_eq_true (by kernel_rfl)) (by unfold Func.isWrapper; rw [if_neg (of_decide_eq_false (by kernel_rfl))]; exact ⟨rfl, rfl⟩)
    (fun os started H enc _ => parseStmts_lifted os started H enc)

theorem parseStmts_card : Rows.ParseStmtsCardSaid :=
  Claim7.holds_tied_plain_at .later [] [.handle, .data] true (true, "a652734f9bf77b7dc9f46a9a5a01ee018ce312f97f78e3eb6c344cb976c4b4e6") true
    parseStmts_holds (fun _ h => by cases h) (by kernel_rfl) (fun _ h => by cases h) parseStmts_row_tie rfl ⟨rfl, rfl⟩ (by kernel_rfl) rfl
    (fun f fn hf hfn => by
      obtain rfl : f = 7 := Option.some.inj ((show Tryz.prog.funcNamed "derrick/derricklaw02.ParseStmts" = some 7 by kernel_rfl).symm.trans hf) |>.symm
      obtain rfl : fn = Tryz.f7 := (Option.some.inj (Tryz.func7.symm.trans hfn)).symm
      exact ⟨by kernel_rfl, fun j t ht => by
        rw [Tryz.params7] at ht
        have hm : t ∈ [3, 3] := by simpa using Array.mem_of_getElem? ht
        have hall : ([3, 3].all fun u => !Tryz.prog.wantsStandIn u) = true := by kernel_rfl
        exact (show Tryz.prog.wantsStandIn t = false by simpa using List.all_eq_true.1 hall t hm)⟩)
    (by kernel_rfl)
#print axioms parseStmts_card
end Go.Proofs.YtnlmgifjmlpgoaaGreatDoor
