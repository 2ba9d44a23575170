/- The document's example. -/
import Derived.Test.YtkclpbbpcicpiaaDoorL7
namespace Go.Proofs.YtkclpbbpcicpiaaDoor
open Go.RowKit Go.Proofs.YtkclpbbpcicpiaaDoor.Hp
variable {w0 w w' w1 w2 : World} {B : HB} {n p m d q : Nat} {A A' A1 A2 : Nat → Kd} {wd wd' wd1 wd2 : Nat → Int} {hv hv1 hv2 : Value} {held : List Int} {cnt cnt' : Nat} {a b lo N c k : Nat} {f : Nat → Int} {z : Int}
set_option maxRecDepth 100000 in
set_option maxHeartbeats 4000000 in
theorem anchor_any (w : World) (hV : Vars w) : Calls Tryd.prog 7 #[] w fun e w' => e = .returned (.bool true) ∧ Fr (fun _ => False) w w' ∧ Vars w' := by
  have HN := hide (SNew_any 1024 w (by omega) (by omega) hV)
  clear hV
  go_enter Tryd.func7, Tryd.ntmps7
  go_wp2_with fail
  refine (unhide HN).mono ?_
  rintro e w1 ⟨B, p, rfl, hL⟩
  have HL := hide hL
  have hQ := Fr.refl (fun _ => False) w1
  have hq1 := hQ.alloc (.cells #[.int .i64 1, .int .i64 2] 3)
  have HO := hide (Of_to (hL.sp.quiet hq1) (by omega) (by simp) (some ⟨w1.heap.size, 0, none⟩) 2 2 [1, 2] rfl (it_two hL.sp 1 2 3) (by omega) false ((Suf.start 16).roomy (d := 1) (by omega) (by omega) (by omega)))
  clear hL HN hQ hq1
  go_wp2_with fail
  refine (unhide HO).mono ?_
  rintro e w2 ⟨a, b, A2, wd2, hv2, rfl, h2, hs2, ht2⟩
  have HL2 := hide (((unhide HL).quiet ((Fr.refl (fun _ => False) w1).alloc (.cells #[.int .i64 1, .int .i64 2] 3))).step hs2 ht2)
  have hsu2 := h2.suf (d := 1) (Suf.start 16) (by omega) (by omega)
  have hq2 := (Fr.refl (fun _ => False) w2).alloc (.cells #[.int .i64 3] 3)
  have HA1 := hide (Append_gro (hs2.quiet hq2) (by omega) (by simp) (.inr ⟨a, rfl, h2.sl⟩) (fun _ => ⟨h2.ar, by omega⟩) (some ⟨w2.heap.size, 0, none⟩) 1 1 [3] rfl (by omega) (it_one hs2 3 3) (by omega) (by omega) (by omega) (by omega) false (hsu2.roomy (d := 1) (by unfold capG; omega) (by omega) (by omega)))
  have HSu2 := hide hsu2
  clear h2 hs2 ht2 hsu2 hq2 HO HL
  go_wp2_with fail
  refine (unhide HA1).mono ?_
  rintro e w3 ⟨a3, b3, A3, wd3, hv3, rfl, h3, hs3, ht3⟩
  have HL3 := hide (((unhide HL2).quiet ((Fr.refl (fun _ => False) w2).alloc (.cells #[.int .i64 3] 3))).step hs3 ht3)
  have hsu3 := h3.suf (d := 1) (unhide HSu2) (by unfold capG; omega) (by omega)
  have hq3 := (Fr.refl (fun _ => False) w3).alloc (.cells #[.int .i64 4] 3)
  have HA2 := hide (Append_ext (hs3.quiet hq3) (by omega) (by simp) (.inr ⟨a3, rfl, h3.sl⟩) h3.ar (hs3.b_lt h3.ar.room) (some ⟨w3.heap.size, 0, none⟩) 1 1 [4] rfl (by omega) (it_one hs3 4 3) (by unfold capG; omega) (by unfold capG; omega) (hsu3.place (d := 1) (by omega) (by omega) (by omega)) false)
  have HSu3 := hide hsu3
  have HB3 := hide (hs3.b_lt h3.ar.room)
  clear h3 hs3 ht3 hsu3 hq3 HA1 HL2 HSu2
  go_wp2_with fail
  refine (unhide HA2).mono ?_
  rintro e w4 ⟨a4, A4, wd4, hv4, rfl, h4, hs4, ht4⟩
  have HL4 := hide (((unhide HL3).quiet ((Fr.refl (fun _ => False) w3).alloc (.cells #[.int .i64 4] 3))).step hs4 ht4)
  have hsu4 := (unhide HSu3).goes (d := 1) h4.go (by omega) (by omega)
  have HCu := hide (Cut_to hs4 (by omega) (by simp) h4.sl (unhide HB3) (by omega) (by unfold capG; omega) (l := 1) (u := 4) (by omega) (by unfold capG; omega) (hsu4.place (d := 1) (by omega) (by omega) (by omega)))
  have HAr4 := hide h4.ar
  clear h4 hs4 ht4 hsu4 HA2 HL3 HSu3 HB3
  go_wp2_with fail
  refine (unhide HCu).mono ?_
  rintro e w5 ⟨a5, A5, wd5, hv5, rfl, h5, hs5, ht5⟩
  have HL5 := hide ((unhide HL4).step hs5 ht5)
  have hsl : SlOf A5 wd5 (a5 : Int) b3 1 3 3 := .inr ⟨a5, rfl, h5.sl⟩
  have HAr5 := hide ((unhide HAr4).keep h5.olds id)
  have HSi := hide (Size_to hs5 hsl)
  have HSl := hide hsl
  clear h5 hs5 ht5 hsl HCu HL4 HAr4
  go_wp2_with fail
  refine (unhide HSi).mono ?_
  rintro e w6 ⟨rfl, hF6⟩
  have HL6 := hide ((unhide HL5).quiet hF6)
  have hAt := At_in (unhide HL6).sp (unhide HSl) (i := 2) (unhide HAr5) (by omega) (by unfold capG; omega)
  rw [show behF (groF (fun j => [1, 2].getD j 0) 0 2 [3]) (0 + (2 + 1)) [4] (1 + 2) = 4 from by decide +kernel] at hAt
  have HAt := hide hAt
  clear hF6 HSi hAt
  go_wp2_with fail
  refine (unhide HAt).mono ?_
  rintro e w7 ⟨rfl, hF7⟩
  have HL7 := hide ((unhide HL6).quiet hF7)
  clear hF7
  go_wp2
  go_ret
  exact ⟨rfl, (unhide HL7).far, (unhide HL7).sp.vars⟩
end Go.Proofs.YtkclpbbpcicpiaaDoor
