/- The two heaps side by side; same. -/
import Derived.Test.YtkhegceikdegbaaDoorRf8
namespace Go.Proofs.YtkhegceikdegbaaDoor
open Go.RowKit Go.Proofs.YtkhegceikdegbaaDoor.Hp
structure Ps (w0 : World) (B : HB) (pb base : Nat) : Prop where
  mem : ∀ j, B.mem j → w0.heap.size ≤ j ∧ j < base
  pb1 : w0.heap.size ≤ pb
  pb2 : pb < base
  npb : ¬ B.mem pb
  two : 2 ≤ w0.heap.size
structure Pl (w0 w : World) (B : HB) (pb base N : Nat) (A : Nat → Kd) (wd : Nat → Int) (L : List Rb) (lv : Value) : Prop where
  at_ : At w B N (hrOf A wd)
  inv : Inv N A
  vars : Vars w
  ref : RefAt w pb base N L lv
  mt : Match A L
  far : Fr (fun _ => False) w0 w
  le : base ≤ w.heap.size
  wrd : ∀ b ∈ L, base ≤ b.gw ∧ b.gw < w.heap.size ∧ lv.ownBlock ≠ some b.gw ∧ Row w b.gw b.room (fun x => .int .i64 (wd (b.at_ + x)))
  dis : L.Pairwise (fun a b => a.gw ≠ b.gw)
theorem Pl.quiet {w0 w w' : World} {B : HB} {pb base N : Nat} {A : Nat → Kd} {wd : Nat → Int} {L : List Rb} {lv : Value} (h : Pl w0 w B pb base N A wd L lv) (k : Fr (fun _ => False) w w') : Pl w0 w' B pb base N A wd L lv :=
  ⟨h.at_.quiet k, h.inv, h.vars.fr k id id, h.ref.quiet k, h.mt, h.far.trans k, Nat.le_trans h.le k.size, fun b hb => by
    obtain ⟨h1, h2, h3, h4⟩ := h.wrd b hb
    exact ⟨h1, Nat.lt_of_lt_of_le h2 k.size, h3, h4.fr k id⟩, h.dis⟩
theorem Load_out (B : HB) (n : Nat) (A : Nat → Kd) (wd : Nat → Int) (x : Nat) (w : World) (h : At w B n (hrOf A wd)) (hI : Inv n A) :
    Calls Tryd.prog 15 #[B.ptr, .int .i64 x, .int .i64 (roomN A x)] w fun e w' => e = .returned (.tuple #[.int .i64 0, .bool false]) ∧ Fr (fun _ => False) w w' := by
  refine (Load_any B n (hrOf A wd) x (roomN A x) w h (fine_of wd hI) (fits_of wd hI)).mono ?_
  rintro e w' ⟨rfl, hF⟩
  refine ⟨?_, hF⟩
  rw [loadV_neg]
  unfold inB
  rw [roomR_I wd hI, roomI, if_pos (by omega)]
  simp
theorem news2 {w : World} (H : Nat) (hH : w.heap.size = H) (x : Int) (t : Nat) : ∀ j u, ([.int .i64 x] : List Value)[j]? = some u → (w.alloc (.cells #[.int .i64 x] t)).cell? ((⟨H, 0, none⟩ : Addr).add j) = some u := by
  subst hH
  intro j u hj
  match j, hj with
  | 0, hj => simp at hj; subst hj; simp [Addr.add]
theorem one1r (x : Int) : ∀ u ∈ ([.int .i64 x] : List Value), u.oneCell' = true := by
  intro u hu; simp at hu; subst hu; rfl
structure Sm (w wr : World) (v : Value) (n : Nat) (ys : List Nat) : Prop where
  own : wr.ownsRow w.heap.size 3 1 v n (ys.map nv)
  far : Fr (fun _ => False) w wr
theorem Sm.quiet {w wr w' : World} {v : Value} {n : Nat} {ys : List Nat} (h : Sm w wr v n ys) (k : Fr (fun _ => False) wr w') : Sm w w' v n ys :=
  ⟨own_blk h.own fun g hg => k.block g (h.own.lt g hg).2 id, h.far.trans k⟩
theorem cell_q {w w' : World} {b i : Nat} {u : Value} (k : Fr (fun _ => False) w w') (hb : b < w.heap.size) (h : w.cell? ⟨b, i, none⟩ = some u) : w'.cell? ⟨b, i, none⟩ = some u :=
  (World.cell?_of_block (w := w) (a := ⟨b, i, none⟩) (k.block b hb id)).trans h
def atsL (L : List Rb) (i : Nat) : List Nat := (L.take i).map Rb.at_
theorem atsL_succ {L : List Rb} {i : Nat} {c : Rb} (h : L[i]? = some c) : atsL L (i + 1) = atsL L i ++ [c.at_] := by
  unfold atsL; rw [take_at h]; simp
/-- Behind the append of a block's address. -/
theorem Sm.push {w wr w1 : World} {v : Value} {n : Nat} {ys : List Nat} {g cap : Nat} (h : Sm w wr v n ys) (x : Nat) (vals : Array Value) (o2 : Obj)
    (ho : w1.ownsRow w.heap.size 3 1 (.slice (some ⟨g, 0, none⟩) (n + 1) cap) (n + 1) (ys.map nv ++ [.int .i64 (x : Int)])) (hg : ((wr.alloc (.cells vals 61)).alloc o2).grownBy w1 v.ownBlock) :
    Sm w w1 (.slice (some ⟨g, 0, none⟩) (n + 1) cap) (n + 1) (ys ++ [x]) ∧ wr.heap.size < w1.heap.size ∧ ∀ k, w1.cell? ⟨wr.heap.size, k, none⟩ = (wr.alloc (.cells vals 61)).cell? ⟨wr.heap.size, k, none⟩ := by
  have k1 : Fr (fun j => some j = v.ownBlock) (wr.alloc (.cells vals 61)) w1 := ((Fr.refl _ _).alloc o2).trans (Fr.grown hg)
  have k2 : Fr (fun j => some j = v.ownBlock) wr w1 := ((Fr.refl _ wr).alloc _).trans k1
  have hs : wr.heap.size < (wr.alloc (.cells vals 61)).heap.size := by simp
  refine ⟨⟨by rw [List.map_append]; exact ho, h.far.up k2 fun j e => (h.own.lt j e.symm).1⟩, Nat.lt_of_lt_of_le hs k1.size, fun k => ?_⟩
  exact World.cell?_of_block (w := wr.alloc (.cells vals 61)) (a := ⟨wr.heap.size, k, none⟩) (k1.block _ hs fun e => by have := (h.own.lt wr.heap.size e.symm).2; omega)
theorem own_ints {w : World} {base n cp : Nat} {ao : Option Addr} {ys : List Nat} (h : w.ownsRow base 3 1 (.slice ao n cp) n (ys.map nv)) : ∀ j, j < n → ∃ b off, ao = some ⟨b, off, none⟩ ∧ w.cell? ⟨b, off + j, none⟩ = some (.int .i64 ((ys.getD j 0 : Nat) : Int)) := by
  intro j hj
  obtain ⟨ao2, cp2, e, hg⟩ := own_form h
  injection e with e1 e2 e3
  subst e1
  obtain ⟨g, rfl⟩ := hg (by omega)
  refine ⟨g, 0, rfl, ?_⟩
  have hl : ys.length = n := by have := h.1; simpa using this
  rw [Nat.zero_add, h.cellAt j (by omega), List.getElem?_map, List.getElem?_eq_getElem (by omega)]
  simp [nv, List.getElem?_eq_getElem (show j < ys.length by omega)]
theorem cnt_past (S : Nat → Bool) (n : Nat) (h : ∀ s, n ≤ s → S s = false) (m : Nat) (hm : n ≤ m) : cntN S m = cntN S n := by
  obtain ⟨d, rfl⟩ : ∃ d, m = n + d := ⟨m - n, by omega⟩
  rw [cntN_add, cntN_ext (T := fun _ => false) (fun j _ => h (n + j) (by omega)), cnt_false]
  rfl
theorem atsL_all (L : List Rb) : atsL L L.length = L.map Rb.at_ := by unfold atsL; rw [List.take_length]
set_option maxRecDepth 100000 in
set_option maxHeartbeats 8000000 in
theorem same_any (w0 w : World) (B : HB) (pb base N : Nat) (A : Nat → Kd) (wd : Nat → Int) (L : List Rb) (lv : Value) (hP : Pl w0 w B pb base N A wd L lv) (hN1 : 2 ≤ N) (hN : N ≤ 64) (hf : L.length ≤ 5000) :
    Calls Tryd.prog 12 #[B.ptr, .pointer (some ⟨pb, 0, none⟩)] w fun e w' => e = .returned (.bool true) ∧ Fr (fun _ => False) w w' := by
  obtain ⟨ao, cp, rfl, hg⟩ := hP.ref.form
  have HG := hide hg
  have HP := hide hP
  have cL := hP.ref.cL
  clear hP hg
  obtain ⟨i0, hi, hz0, hz1, hz2⟩ := info_parts Tryd.info3
  unfold HB.ptr
  go_enter Tryd.func12, Tryd.ntmps12
  go_wp2
  have H0 : Hid (Sm w w (.slice none 0 0) 0 (atsL L 0)) := hide ⟨by have := World.ownsRow_nil w w.heap.size 3 1; exact this, Fr.refl _ _⟩
  have HLe := hide (unhide HP).le
  clear cL
  go_loopw [5, 19] (fun v t wr => ∃ i : Nat, i ≤ L.length ∧ t = .int .i64 i ∧ ∃ ao cp, v = .slice ao i cp ∧ Hid (Sm w wr (.slice ao i cp) i (atsL L i))) (fun _ t _ => L.length - (intOf t).toNat)
  case atStart => exact ⟨0, by omega, rfl, none, 0, rfl, H0⟩
  case round =>
    obtain ⟨i, hi', rfl, ao1, cp1, rfl, hSm⟩ := hrel
    by_cases hlt : i < L.length
    · obtain ⟨g, hg⟩ := unhide HG (by omega)
      subst hg
      obtain ⟨c, hc⟩ : ∃ c, L[i]? = some c := ⟨L[i], by simp [hlt]⟩
      have hmem := List.mem_of_getElem? hc
      have hPr := (unhide HP).quiet (unhide hSm).far
      obtain ⟨c0, c1, c2⟩ := hPr.ref.cells hc
      have HCc := hide hc
      have HMm := hide hmem
      have hats := hPr.ref.ats c hmem
      have hsz := (unhide hSm).far.size
      clear hc hmem hPr
      go_wp2_with (first | (at_builtin; refine wpList_append_lies _ rfl (.tmp 23) (.tmp 26) 34 rfl w.heap.size 3 i0 (.int .i64 0) 1 8 Tryd.underlying34 hi hz0 hz1 hz2 rfl (by decide) (.slice ao1 i cp1) i ((atsL L i).map nv) rfl (((unhide hSm).own.alloc _).alloc _) ⟨wr.heap.size + 1, 0, none⟩ 1 1 [.int .i64 (c.at_ : Int)] rfl rfl (news2 _ (by simp) _ _) (one1r _) (by decide) (by unfold maxLen; omega) (by omega) (by simp; omega) _ rfl ?_))
      intro g2 cap2 w1 ho2 hg2 hat2 _
      obtain ⟨hS1, hvb, hvc⟩ := (unhide hSm).push c.at_ _ _ ho2 hg2
      rw [← atsL_succ (unhide HCc)] at hS1
      have v0 : w1.cell? ⟨wr.heap.size, 0, none⟩ = some (.int .i64 c.at_) := (hvc 0).trans (by rw [World.cell?_alloc_at _ _ _ _ rfl]; rfl)
      have v1 : w1.cell? ⟨wr.heap.size, 1, none⟩ = some (.int .i64 c.room) := (hvc 1).trans (by rw [World.cell?_alloc_at _ _ _ _ rfl]; rfl)
      have v2 : w1.cell? ⟨wr.heap.size, 2, none⟩ = some (.slice (some ⟨c.gw, 0, none⟩) c.room c.room) := (hvc 2).trans (by rw [World.cell?_alloc_at _ _ _ _ rfl]; rfl)
      have HS1 := hide hS1
      clear ho2 hg2 hat2 hvc hS1 hSm c0 c1 c2
      generalize wr.heap.size = vb at *
      have hP1 := (unhide HP).quiet (unhide HS1).far
      have hrc := (hP1.mt.room c (unhide HMm)).1
      have HRm : Hid (∀ w', Fr (fun _ => False) w1 w' → Calls Tryd.prog 14 #[.pointer (some ⟨B.p, 0, none⟩), .int .i64 c.at_] w' fun e w'' => e = .returned (.int .i64 c.room) ∧ Fr (fun _ => False) w' w'') := hide fun w' q => by
        have := Room_in B N A wd c.at_ w' (hP1.at_.quiet q) hP1.inv
        rw [hrc] at this
        exact this
      have HRc := hide hrc
      clear hP1 hrc
      go_wp2
      go_region_law (first | (go_simp; go_at_call 14; refine (unhide HRm _ (by first | exact (Fr.refl _ _).drew | exact Fr.refl _ _)).mono ?_; rintro e w2 ⟨rfl, hq⟩; have hQ : Fr (fun _ => False) w1 w2 := (by first | exact ((Fr.refl _ _).drew).trans hq | exact hq); have x0 := cell_q hQ hvb v0; have x1 := cell_q hQ hvb v1; clear hq))
      all_goals
        have y0 := cell_q hQ hvb v0
        have y1 := cell_q hQ hvb v1
        have y2 := cell_q hQ hvb v2
        have HS2 := hide ((unhide HS1).quiet hQ)
        have hvb2 : vb < w2.heap.size := Nat.lt_of_lt_of_le hvb hQ.size
        clear hQ v0 v1 v2 x0 x1 HS1 HRm
        go_wp2
        go_loopw [38] (fun t wr => ∃ q : Nat, q ≤ c.room ∧ t = .int .i64 q ∧ Hid (Sm w wr (.slice (some ⟨g2, 0, none⟩) (i + 1) cap2) (i + 1) (atsL L (i + 1))) ∧ wr.cell? ⟨vb, 0, none⟩ = some (.int .i64 c.at_) ∧ wr.cell? ⟨vb, 1, none⟩ = some (.int .i64 c.room) ∧ vb < wr.heap.size) (fun t _ => c.room - (intOf t).toNat)
        case atStart => exact ⟨0, by omega, rfl, HS2, y0, y1, hvb2⟩
        case round =>
          clear y0 y1 y2 hvb2 HS2
          obtain ⟨q, hq, rfl, hS3, y0, y1, hvb3⟩ := hrel
          have hP3 := (unhide HP).quiet (unhide hS3).far
          by_cases hqr : q < c.room
          · have cw : World.cell? _ ⟨c.gw, q, none⟩ = some (.int .i64 (wd (c.at_ + q))) := ((hP3.wrd c (unhide HMm)).2.2.2 q hqr).1
            have HL := hide (Load_in B N A wd c.at_ c.room q _ hP3.at_ hP3.inv (unhide HRc) hqr)
            unfold HB.ptr at HL
            generalize wd (c.at_ + q) = z at *
            clear hP3
            go_wp2_with fail
            refine (unhide HL).mono ?_
            rintro e w4 ⟨rfl, hF4⟩
            have HS4 := hide ((unhide hS3).quiet hF4)
            have z0 := cell_q hF4 hvb3 y0
            have z1 := cell_q hF4 hvb3 y1
            have hvb4 := Nat.lt_of_lt_of_le hvb3 hF4.size
            clear hF4 HL
            go_wp2
            go_roundw
            case rel => exact ⟨q + 1, by omega, by go_num, HS4, z0, z1, hvb4⟩
            case measure => simp [intOf]; omega
          · have eq : q = c.room := by omega
            subst eq
            have HL := hide (Load_out B N A wd c.at_ _ hP3.at_ hP3.inv)
            rw [unhide HRc] at HL
            unfold HB.ptr at HL
            clear hP3
            go_wp2_with fail
            refine (unhide HL).mono ?_
            rintro e w4 ⟨rfl, hF4⟩
            have HS4 := hide ((unhide hS3).quiet hF4)
            clear hF4 HL
            go_wp2
            go_roundw
            case rel => exact ⟨i + 1, by omega, by go_num, _, _, rfl, HS4⟩
            case measure => simp [intOf]; omega
    · have ei : i = L.length := by omega
      subst ei
      have hPr := (unhide HP).quiet (unhide hSm).far
      have hAt := hPr.mt.ats hPr.inv
      have HBk := hide (Blocks_full B N A wd _ hPr.at_ hPr.inv hPr.vars (by rw [← hAt, List.length_map]; omega))
      rw [← hAt] at HBk
      unfold HB.ptr at HBk
      have HPr := hide hPr
      clear hPr hAt
      go_wp2_with fail
      refine (unhide HBk).mono ?_
      rintro e w2 ⟨ao2, cp2, rfl, ho2, hF2⟩
      simp only [List.length_map] at ho2 ⊢
      have hS2 := (unhide hSm).quiet hF2
      have hP2 := (unhide HPr).quiet hF2
      have ho1 := hS2.own
      rw [atsL_all] at ho1
      have HI := hide (ints_any ao2 ao1 L.length cp2 cp1 (fun j => (((L.map Rb.at_).getD j 0 : Nat) : Int)) w2 (by omega) (own_ints ho2) (own_ints ho1))
      have hcn : cntN (hrOf A wd).fr (64 * setM N) = cntN (fun s => frK (A s)) N := cnt_past (fun s => frK (A s)) N (fun s hs => by rw [hP2.inv.past s hs]; rfl) _ (by unfold setM; omega)
      have HSp := hide (Spans_any B N (hrOf A wd) w2 hP2.at_)
      rw [hcn] at HSp
      unfold HB.ptr at HSp
      have HRs := hide (RefSpans_any pb base N L _ A w2 hP2.ref hP2.inv hP2.mt (by omega) (by omega))
      have HF2 := hide hS2.far
      generalize cntN (fun s => frK (A s)) N = cs at *
      clear ho1 ho2 hS2 hP2 hF2 hcn HBk
      go_wp2_with fail
      refine (unhide HI).mono ?_
      rintro e w3 ⟨rfl, rfl⟩
      clear HI
      go_wp2_with fail
      refine (unhide HSp).mono ?_
      rintro e w4 ⟨rfl, rfl⟩
      clear HSp
      go_wp2_with fail
      refine (unhide HRs).mono ?_
      rintro e w5 ⟨rfl, hF5⟩
      have HF5 := hide ((unhide HF2).trans hF5)
      clear HRs hF5
      go_wp2
      go_ret
      exact ⟨rfl, unhide HF5⟩
end Go.Proofs.YtkhegceikdegbaaDoor
