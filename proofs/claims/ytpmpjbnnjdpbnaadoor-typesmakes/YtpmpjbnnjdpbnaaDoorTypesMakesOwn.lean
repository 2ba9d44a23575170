/- The law TypesMakes is true for every input: from a type slices, channels and functions are made that are types, and give it back; but for names of more than twenty-four letters any name makes a pointer. Its conditions: the two package-level variables errors.errorType and derrick/lex.longestMark hold, when the call begins, what the program's own text lays in them (the card ties that); each string, slice and map that is read takes at most 2^47 - 4096 bytes. The card speaks of the packages that the law loads alone. -/
import Derived.Test.YtpmpjbnnjdpbnaaDoorTyMW
import Derived.Test.YtpmpjbnnjdpbnaaDoorLaid
import Derived.Test.YtpmpjbnnjdpbnaaDoorTie
import Derived.Test.YtpmpjbnnjdpbnaaDoorCards
import Derived.SevenTiedAt
import Derived.ShutString
import Derived.SizedLaws
namespace Go.Proofs.YtpmpjbnnjdpbnaaDoor
open Go.ChangeShapes Go.WideShapes Go.ChangeAt Go.WideMaps Go.WideElems Go.RowKit Go.Proofs.YtpmpjbnnjdpbnaaDoor.Lx
open Go.ChangeMaps (open_string shut_string)

set_option maxRecDepth 100000 in
theorem typesMakes_lifted (os : Os) (started : os.Started) (H : Type) (enc : TypeId × Value → H) :
    ReturnsInHanded {} Tryd.checked os 6 .any (fun w args => (Rows.typesMakesSpec.pre enc Tryd.prog Tryd.f6 [] false w args ∧ laidMetH Tryd.prog laid2 w) ∧ sizedMet enc Tryd.prog Tryd.f6 (OpenSpec.ofChange Rows.typesMakesSpec) false w args)
      (Rows.typesMakesSpec.post enc Tryd.prog Tryd.f6 false true false false) := by
  refine returnsInHanded_of_change_and (C := Tryd.checked) (X := fun w _ => laidMetH Tryd.prog laid2 w) (fun _ _ _ hh h => h.of_heap hh) Tryd.own started (by kernel_rfl) Tryd.func6
    (ChangeSpec.witness_shaped (enc := enc) (C := Tryd.checked) (os := os) (X := fun w _ => laidMetH Tryd.prog laid2 w) false (World.doorLaid Tryd.prog 400 os) #[.string ByteArray.empty, .string ByteArray.empty, .string ByteArray.empty] 8 rfl (World.shaped_of_RefB (by kernel_rfl) (by kernel_rfl)) (by kernel_rfl) (by kernel_rfl) (by kernel_rfl) (door_met os _)) ?_
  intro W base args ds gs before hval0 hW _ hsz hL _
  have hval : ∀ (j : Nat) t v, Tryd.f6.params[j]? = some t → args[j]? = some v → Value.okWide Tryd.prog W .any base t v := hval0
  have hW' := hW
  obtain ⟨p, q, hA0, hV, rfl, hfz, hnd⟩ := hW
  have hA : DataW.TrodAll enc Tryd.prog W 0 (fun _ => true) true Tryd.f6.params.toList args.toList ds p := hA0
  rw [Tryd.params6] at hA hval
  obtain ⟨v0, v1, v2, d0, d1, d2, p0, p1, p2, rfl, rfl, rfl, h0, h1, h2⟩ := trodAll_three hA
  obtain ⟨s, rfl, rfl, rfl, hs⟩ := open_string Tryd.underlying9 (hval 0 9 v0 rfl rfl) h0
  obtain ⟨s', rfl, rfl, rfl, hs'⟩ := open_string Tryd.underlying9 (hval 1 9 v1 rfl rfl) h1
  obtain ⟨s2, rfl, rfl, rfl, hs2⟩ := open_string Tryd.underlying9 (hval 2 9 v2 rfl rfl) h2
  have hl0 := sized_string hsz (j := 0) (t := 9) rfl rfl
  have hl1 := sized_string hsz (j := 1) (t := 9) rfl rfl
  have hl2 := sized_string hsz (j := 2) (t := 9) rfl rfl
  have hrb := reachBytes_lt
  have hq : ∀ x : ByteArray, x.data.toList.length ≤ reachBytes → x.size ≤ 140737488355328 := by
    intro x hx
    have e : x.data.toList.length = x.size := by rw [← ByteArray.toList_eq, toL_len]
    rw [e] at hx; omega
  obtain ⟨rfl, rfl⟩ := trodVars_none hV
  have hv := vars_of_laid hL
  clear hA0 hval0
  refine (makes_any s s' s2 W hv (hq _ hl0) (hq _ hl1) (hq _ hl2)).mono fun e W' hr => ?_
  obtain ⟨he, hb⟩ := hr
  subst he
  exact ⟨_, rfl, _, _, _, [], _, [], hW', trodAll_mk1 (shut_bool Tryd.underlying4 _), (trodAll_mk3 (shut_string Tryd.underlying9 hs) (shut_string Tryd.underlying9 hs') (shut_string Tryd.underlying9 hs2)), rfl, hb.frame _, fun h => by cases h⟩

theorem typesMakes_holds : Rows.TypesMakesSaid :=
  OpenClaim.holds_of_wide 6 Tryd.f6 rfl rfl rfl rfl rfl rfl rfl ⟨rfl, rfl, rfl, rfl, rfl⟩ rfl rfl rfl rfl rfl (by kernel_rfl) Tryd.func6 (by kernel_rfl)
    (of_decide_eq_true (by kernel_rfl)) (by unfold Func.isWrapper; rw [if_neg (of_decide_eq_false (by kernel_rfl))]; exact ⟨rfl, rfl⟩)
    (fun os started H enc _ => typesMakes_lifted os started H enc)

theorem typesMakes_card : Rows.TypesMakesCardSaid :=
  Claim7.holds_tied_plain_at .later [] [.handle, .data] true (true, "e9fec765ee7198c56313cd91bd8ccee86b362b0bed0fd87f59ccb5f0036f88c9") true
    typesMakes_holds (fun _ h => by cases h) (by kernel_rfl) (fun _ h => by cases h) typesMakes_row_tie rfl ⟨rfl, rfl⟩ (by kernel_rfl) rfl
    (fun f fn hf hfn => by
      obtain rfl : f = 6 := Option.some.inj ((show Tryd.prog.funcNamed "derrick/derricklaw04.TypesMakes" = some 6 by kernel_rfl).symm.trans hf) |>.symm
      obtain rfl : fn = Tryd.f6 := (Option.some.inj (Tryd.func6.symm.trans hfn)).symm
      exact ⟨by kernel_rfl, fun j t ht => by
        rw [Tryd.params6] at ht
        have hm : t ∈ [9, 9, 9] := by simpa using Array.mem_of_getElem? ht
        have hall : ([9, 9, 9].all fun u => !Tryd.prog.wantsStandIn u) = true := by kernel_rfl
        exact (show Tryd.prog.wantsStandIn t = false by simpa using List.all_eq_true.1 hall t hm)⟩)
    (by kernel_rfl)
#print axioms typesMakes_card
end Go.Proofs.YtpmpjbnnjdpbnaaDoor
