/- Blocks: which there are. -/
import Derived.Test.YtogjblikljggbaaDoorRf7
namespace Go.Proofs.YtogjblikljggbaaDoor
open Go.RowKit Go.Proofs.YtogjblikljggbaaDoor.Hp
theorem and_pred (u : Nat) (hu : u < 4294967296) (h0 : u ≠ 0) : bits .and .u32 (u : Int) ((u : Int) - 1) = ((u &&& (u - 1) : Nat) : Int) := by
  rw [show (u : Int) - 1 = ((u - 1 : Nat) : Int) by omega, u32_and_nat _ _ hu (by omega)]
def nv (x : Nat) : Value := .int .i64 (x : Int)
def BlkP (w0 : World) (ys : List Nat) (e : Ending) (w' : World) : Prop := ∃ ao cp, e = .returned (.slice ao ys.length cp) ∧ w'.ownsRow w0.heap.size 3 1 (.slice ao ys.length cp) ys.length (ys.map nv) ∧ Fr (fun _ => False) w0 w'
theorem blkL_pre (A : Nat → Kd) (s : Nat) : ∀ d, (blkL A s).length ≤ (blkL A (s + d)).length
  | 0 => Nat.le_refl _
  | d + 1 => by
    have := blkL_pre A s d
    rw [show s + (d + 1) = (s + d) + 1 by omega, blkL, List.length_append]; omega
theorem spanU_step (s r u : Nat) (h0 : u ≠ 0) (h : u < 4294967296) : spanU s r u = (s * 64 + Lib.ctz 32 u * r) :: spanU s r (u &&& (u - 1)) := by
  unfold spanU
  rw [bl_clear 32 u h0 h, List.map_cons, Lib.ctz, if_neg h0]
set_option maxRecDepth 100000 in
set_option maxHeartbeats 4000000 in
theorem Blocks_full (B : HB) (n : Nat) (A : Nat → Kd) (wd : Nat → Int) (w : World) (h : At w B n (hrOf A wd)) (hI : Inv n A) (hV : Vars w) (hc : (blkL A n).length ≤ 100000) : Calls Tryd.prog 35 #[B.ptr] w fun e w' => BlkP w (blkL A n) e w' := by
  have c1 := h.c1
  have hh := h.hi
  have hcs : Hid (∀ s, s < n → w.cell? ⟨B.bs, s * 2, none⟩ = some (.int .i64 (rmK (A s))) ∧ w.cell? ⟨B.bs, s * 2 + 1, none⟩ = some (.int .u32 (usK (A s))) ∧ usK (A s) < 4294967296 ∧ rmK (A s) ≤ 20000 ∧ blkL A (s + 1) = blkL A s ++ spanU s (rmK (A s)) (usK (A s)) ∧ (blkL A (s + 1)).length ≤ 100000) := hide fun s hs => by
    have f := fine_of wd hI s hs
    refine ⟨h.cr s hs, h.cu s hs, f.2.2, f.2.1, rfl, ?_⟩
    have := blkL_pre A (s + 1) (n - (s + 1))
    rw [show s + 1 + (n - (s + 1)) = n by omega] at this
    omega
  have HL : Hid (B.bs < w.heap.size) := hide h.lts.2.2.1
  have HV := hide hV
  obtain ⟨base, hb⟩ : ∃ base, base = w.heap.size := ⟨_, rfl⟩
  have HBs : Hid (base = w.heap.size) := hide hb
  have HP : Hid (∀ ao c cp w', c = (blkL A n).length → w'.ownsRow base 3 1 (.slice ao c cp) c ((blkL A n).map nv) → Fr (fun _ => False) w w' → BlkP w (blkL A n) (.returned (.slice ao c cp)) w') := hide fun ao c cp w' e o q => by subst e; exact ⟨ao, cp, rfl, by rw [← hb]; exact o, q⟩
  clear h hI hV hb
  obtain ⟨i0, hi, hz0, hz1, hz2⟩ := info_parts Tryd.info3
  unfold HB.ptr
  go_enter Tryd.func35, Tryd.ntmps35
  go_wp2
  go_loopw [3, 12] (fun v i wr => ∃ s : Nat, s ≤ n ∧ i = .int .i64 s ∧ ∃ c ao cp, v = .slice ao c cp ∧ c ≤ 100000 ∧ Hid (c = (blkL A s).length) ∧ Hid (wr.ownsRow base 3 1 (.slice ao c cp) c ((blkL A s).map nv)) ∧ Hid (Fr (fun _ => False) w wr)) (fun _ i _ => n - (intOf i).toNat)
  case atStart => exact ⟨0, by omega, rfl, 0, none, 0, rfl, by omega, hide rfl, hide (by have := World.ownsRow_nil w base 3 1; exact this), hide (Fr.refl _ _)⟩
  case round =>
    obtain ⟨s, hs, rfl, c0, ao, cp, rfl, hcl, hc0, hO, hF⟩ := hrel
    by_cases hlt : s < n
    · obtain ⟨k1, k2, hu, hrm, hct, hle⟩ := unhide hcs s hlt
      have cr : wr.cell? ⟨B.bs, s * 2, none⟩ = some (.int .i64 (rmK (A s))) := (World.cell?_of_block (w := w) (a := ⟨B.bs, s * 2, none⟩) ((unhide hF).block B.bs (unhide HL) id)).trans k1
      have cu : wr.cell? ⟨B.bs, s * 2 + 1, none⟩ = some (.int .u32 (usK (A s))) := (World.cell?_of_block (w := w) (a := ⟨B.bs, s * 2 + 1, none⟩) ((unhide hF).block B.bs (unhide HL) id)).trans k2
      have HCt := hide hct
      have HLe := hide hle
      have hsb : base ≤ wr.heap.size := by have := (unhide hF).size; have := unhide HBs; omega
      have HO2 : Hid ((wr.alloc (.cells #[.int .i64 (rmK (A s)), .int .u32 (usK (A s))] 80)).ownsRow base 3 1 (.slice ao c0 cp) c0 ((blkL A s).map nv)) := hide ((unhide hO).alloc _)
      have HF2 : Hid (Fr (fun _ => False) w (wr.alloc (.cells #[.int .i64 (rmK (A s)), .int .u32 (usK (A s))] 80))) := hide ((unhide hF).alloc _)
      have hb2 : wr.heap.size < (wr.alloc (.cells #[.int .i64 (rmK (A s)), .int .u32 (usK (A s))] 80)).heap.size := by simp
      have cb0 : (wr.alloc (.cells #[.int .i64 (rmK (A s)), .int .u32 (usK (A s))] 80)).cell? ⟨wr.heap.size, 0, none⟩ = some (.int .i64 (rmK (A s))) := by rw [World.cell?_alloc_at _ _ _ _ rfl]; rfl
      have HNe : Hid ((Value.slice ao c0 cp).ownBlock ≠ some wr.heap.size) := hide fun e => by have := ((unhide hO).lt _ e).2; omega
      clear k1 k2 hct hO hF hle
      generalize usK (A s) = u0 at *
      generalize rmK (A s) = rr at *
      go_wp2
      have HLT := hide hlt
      have HDC := hide (decide_eq_true (show (s : Int) < (n : Int) by omega))
      obtain ⟨pb, hpb⟩ : ∃ pb, pb = wr.heap.size := ⟨_, rfl⟩
      rw [← hpb] at HNe
      rw [← hpb] at cb0 ⊢
      have hpl : pb < (wr.alloc (.cells #[.int .i64 rr, .int .u32 u0] 80)).heap.size := by rw [hpb]; simp
      generalize wr.alloc (.cells #[.int .i64 rr, .int .u32 u0] 80) = w3 at *
      clear hpb hb2 cr cu hsb hlt
      go_loopw [3, 6] (fun v t wr => ∃ u : Nat, u < 4294967296 ∧ t = .int .u32 u ∧ ∃ c ao cp ys, v = .slice ao c cp ∧ c ≤ 100000 ∧ Hid (c = ys.length ∧ ys ++ spanU s rr u = blkL A (s + 1)) ∧ Hid (wr.ownsRow base 3 1 (.slice ao c cp) c (ys.map nv)) ∧ Hid (Fr (fun _ => False) w wr) ∧ Hid ((Value.slice ao c cp).ownBlock ≠ some pb) ∧ wr.cell? ⟨pb, 0, none⟩ = some (.int .i64 rr) ∧ pb < wr.heap.size) (fun _ t _ => (intOf t).toNat)
      case atStart => exact ⟨u0, hu, rfl, _, ao, cp, blkL A s, rfl, hcl, hide ⟨unhide hc0, (unhide HCt).symm⟩, HO2, HF2, HNe, cb0, hpl⟩
      case round =>
        obtain ⟨u, hu1, rfl, c, ao1, cp1, ys, rfl, hcc, hcp, hO, hF, hN, cpb, hpb1⟩ := hrel
        by_cases h0 : u = 0
        · subst h0
          have HE : Hid (ys = blkL A (s + 1)) := hide (by
            have := (unhide hcp).2
            unfold spanU at this
            rw [bl_zero] at this
            simpa using this)
          have HE2 := hide (unhide hcp).1
          clear hcp
          go_wp2
          go_roundw
          case rel => exact ⟨s + 1, by have := unhide HLT; omega, by go_num, c, ao1, cp1, rfl, hcc, hide (by rw [unhide HE2, unhide HE]), by rw [← unhide HE]; exact hO, hF⟩
          case measure => have := unhide HLT; simp [intOf]; omega
        · have h0b : ((u : Int) == 0) = false := by simp; omega
          have h0c : ((u : Int) != 0) = true := by simp; omega
          have hVr := (unhide HV).fr (unhide hF) id id
          have HT := hide (fun w' (q : Fr (fun _ => False) wr w') => tz32_any u hu1 h0 w' (hVr.fr q id id))
          have hk := ctz_lt (n := 32) h0 hu1
          have hst := spanU_step s rr u h0 hu1
          generalize Lib.ctz 32 u = kz at *
          have hkr : kz * rr ≤ 640000 := Nat.mul_le_mul (show kz ≤ 32 by omega) hrm
          have hle1 := Nat.and_le_right (n := u) (m := u - 1)
          obtain ⟨u', hu'⟩ : ∃ u', u' = u &&& (u - 1) := ⟨_, rfl⟩
          rw [← hu'] at hst hle1
          have ha1 : bits .and .u32 (u : Int) ((u : Int) - 1) = (u' : Int) := by rw [hu']; exact and_pred u hu1 h0
          have ha2 : bits .and .u32 (u : Int) (((u : Int) - 1) % 4294967296) = (u' : Int) := by rw [show ((u : Int) - 1) % 4294967296 = (u : Int) - 1 by omega]; exact ha1
          have hbw : base ≤ wr.heap.size := by have := (unhide hF).size; have := unhide HBs; omega
          have hle2 := unhide HLe
          rw [← (unhide hcp).2, hst, List.length_append, List.length_cons, ← (unhide hcp).1] at hle2
          have hc9 : c + 1 ≤ 100000 := by omega
          have HCP : Hid (c + 1 = (ys ++ [s * 64 + kz * rr]).length ∧ (ys ++ [s * 64 + kz * rr]) ++ spanU s rr u' = blkL A (s + 1)) := hide ⟨by rw [List.length_append, (unhide hcp).1]; rfl, by rw [← (unhide hcp).2, hst]; simp⟩
          have HXS : Hid (ys.map nv ++ [.int .i64 ((s : Int) * 64 + (kz : Int) * (rr : Int))] = (ys ++ [s * 64 + kz * rr]).map nv) := hide (by simp [nv])
          have hw1 : IntKind.i64.wrap ((s : Int) * 64) = (s : Int) * 64 := by rw [Go.IntKind.wrap_i64]; omega
          have hkri : (kz : Int) * (rr : Int) = ((kz * rr : Nat) : Int) := by simp
          have hw2 : IntKind.i64.wrap ((kz : Int) * (rr : Int)) = (kz : Int) * (rr : Int) := by rw [hkri, Go.IntKind.wrap_i64]; omega
          have hw3 : IntKind.i64.wrap ((s : Int) * 64 + (kz : Int) * (rr : Int)) = (s : Int) * 64 + (kz : Int) * (rr : Int) := by rw [hkri, Go.IntKind.wrap_i64]; omega
          clear hkri
          clear hu' hVr hst hcp hle2
          go_wp2
          go_region_law (first | (refine step_append_lies _ rfl (.tmp 25) (.tmp 34) 28 rfl base 3 i0 (.int .i64 0) 1 8 Tryd.underlying28 hi hz0 hz1 hz2 rfl (by decide) (.slice ao1 c cp1) c (ys.map nv) (by simp [Act.eval]) ((unhide hO).alloc _) ⟨wr.heap.size, 0, none⟩ 1 1 [.int .i64 ((s : Int) * 64 + (kz : Int) * (rr : Int))] (by simp [Act.eval]) rfl (by intro j x hj; match j, hj with | 0, hj => simp at hj; subst hj; simp [Addr.add]) (by intro x hx; simp at hx; subst hx; rfl) (by decide) (by unfold maxLen; omega) (by omega) (by simp; omega) _ rfl ?_; intro g cap w1 hown' hgrow hat hgl) | (go_simp; go_at_call 46; refine (unhide HT _ (by first | exact (Fr.refl _ _).drew | exact Fr.refl _ _)).mono ?_; rintro e w9 ⟨rfl, rfl⟩))
          all_goals
            have hK : Fr (fun j => some j = (Value.slice ao1 c cp1).ownBlock) wr w1 := (((Fr.refl _ wr).drew).alloc _).trans (Fr.grown hgrow)
            have hlo : ∀ j, some j = (Value.slice ao1 c cp1).ownBlock → base ≤ j := fun j e => ((unhide hO).lt j e.symm).1
            have HF1 : Hid (Fr (fun _ => False) w w1) := hide ((unhide hF).up hK (fun j e => by have := hlo j e; have := unhide HBs; omega))
            have cpb1 : w1.cell? ⟨pb, 0, none⟩ = some (.int .i64 rr) := (World.cell?_of_block (w := wr) (a := ⟨pb, 0, none⟩) (hK.block pb hpb1 (fun e => unhide hN e.symm))).trans cpb
            have hpb2 : pb < w1.heap.size := Nat.lt_of_lt_of_le hpb1 hK.size
            have HN1 : Hid ((Value.slice (some ⟨g, 0, none⟩) (c + 1) cap).ownBlock ≠ some pb) := hide fun e => by
              have eg : g = pb := by simpa [Value.ownBlock] using e
              rcases hat with h | h
              · exact unhide hN (by rw [h, eg])
              · simp at h; omega
            rw [unhide HXS] at hown'
            have HO1 := hide hown'
            clear hown' hgrow hat hgl hK hlo
            go_wp2
            go_roundw
            case rel => exact ⟨u', by omega, rfl, c + 1, _, cap, _, rfl, hc9, HCP, HO1, HF1, HN1, cpb1, hpb2⟩
            case measure => simp [intOf]; omega
    · have e : s = n := by omega
      subst e
      go_wp2
      go_ret
      exact unhide HP _ _ _ _ (unhide hc0) (unhide hO) (unhide hF)
end Go.Proofs.YtogjblikljggbaaDoor
