/- MailNil, walked. -/
import Derived.Test.YtogjblikljggbaaDoorM6
namespace Go.Proofs.YtogjblikljggbaaDoor
open Go.RowKit Go.Proofs.YtogjblikljggbaaDoor.Hp
set_option maxRecDepth 100000 in
set_option maxHeartbeats 4000000 in
theorem mnil_w (v : Int) (w : World) (hV : Vars w) : Calls Tryd.prog 5 #[.int .i64 v] w fun e w' => e = .returned (.bool true) ∧ Fr (fun _ => False) w w' := by
  have HA := hide (anchor_any w hV)
  clear hV
  go_enter Tryd.func5, Tryd.ntmps5
  go_wp2_with fail
  refine (unhide HA).mono ?_
  rintro e w1 ⟨rfl, hF1, hV1⟩
  have HF1 := hide hF1
  have HN := hide (SNew_any 256 w1 (by omega) (by omega) hV1)
  clear hF1 hV1 HA
  go_wp2_with fail
  refine (unhide HN).mono ?_
  rintro e w2 ⟨B, p, rfl, hL⟩
  have hof : ∀ (A : Nat → Kd) (wd : Nat → Int), ChOf A wd 0 0 0 0 := fun _ _ => .inl ⟨rfl, rfl, rfl, rfl⟩
  have HOf := hide hof
  have HC := hide (Count_of hL.sp (hof _ _))
  have HL := hide hL
  clear hL HN hof
  go_wp2_with fail
  refine (unhide HC).mono ?_
  rintro e w3 ⟨rfl, hF3⟩
  have HL3 := hide ((unhide HL).quiet hF3)
  have HS := hide (Shift_no (unhide HL3).sp (unhide HOf _ _))
  clear hF3 HC HL
  go_wp2_with fail
  refine (unhide HS).mono ?_
  rintro e w4 ⟨rfl, hF4⟩
  have HL4 := hide ((unhide HL3).quiet hF4)
  have HC := hide (Closed_any (unhide HL4).sp (get_nil (unhide HL4).sp.inv 0))
  clear hF4 HS HL3
  go_wp2_with fail
  refine (unhide HC).mono ?_
  rintro e w5 ⟨rfl, hF5⟩
  have HL5 := hide ((unhide HL4).quiet hF5)
  have HC := hide (Close_nil (unhide HL5).sp)
  clear hF5 HL4
  go_wp2_with fail
  refine (unhide HC).mono ?_
  rintro e w6 ⟨rfl, ht6, hs6⟩
  have HL6 := hide ((unhide HL5).step hs6 ht6)
  have HP := hide (Push_no (unhide HL6).sp (unhide HOf _ _) v)
  clear ht6 hs6 HC HL5
  go_wp2_with fail
  refine (unhide HP).mono ?_
  rintro e w7 ⟨rfl, hF7⟩
  have HL7 := hide ((unhide HL6).quiet hF7)
  have HI := hide (Items_nil (unhide HL7).sp)
  clear hF7 HP HL6
  go_wp2_with fail
  refine (unhide HI).mono ?_
  rintro e w8 ⟨M, rfl, _, _, _, hF8⟩
  have HE := hide ((unhide HF1).trans ((unhide HL7).far.trans hF8))
  clear hF8 HI HL7
  go_wp2
  go_ret
  exact ⟨rfl, unhide HE⟩
theorem mnil_any (v : Int) (w : World) (hV : Vars w) (_hv : -9223372036854775808 ≤ v ∧ v < 9223372036854775808) : Calls Tryd.prog 5 #[.int .i64 v] w fun e w' => e = .returned (.bool true) ∧ Below w.heap.size w w' :=
  (mnil_w v w hV).mono fun _ _ h => ⟨h.1, h.2.below (Nat.le_refl _) (fun _ x => x.elim)⟩
end Go.Proofs.YtogjblikljggbaaDoor
