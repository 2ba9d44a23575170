/- made, walked. -/
import Derived.Test.YtinmaogbfcmagaaDoorMd1
import Derived.Test.YtinmaogbfcmagaaDoorRf6
import Derived.Deep.LoopGhost
namespace Go.Proofs.YtinmaogbfcmagaaDoor
open Go.RowKit Go.Proofs.YtinmaogbfcmagaaDoor.Hp
theorem Tryd.info37 : (Tryd.prog.info? 37).map (fun i => (i.zero, i.size, i.bytes)) = some (some (.agg #[.int .i64 0, .int .i64 0, .int .i64 0, .int .i64 0, .slice none 0 0]), 5, 56) := by kernel_rfl
theorem Goes.unNo {n : Nat} {A A1 : Nat → Kd} {m a : Nat} (g : Goes n A m a A1) (h : NoPlace n A m) : False := g.not h
set_option maxRecDepth 100000 in
set_option maxHeartbeats 8000000 in
theorem made_any (w : World) (a0 : Option Addr) (cap : Nat) (rs : List Rw) (hV : Vars w) (hr : RawsAt w a0 rs) (hl : rs.length ≤ 40) :
    Calls Tryd.prog 12 #[.slice a0 rs.length cap] w fun e w' => MadeP w rs e w' := by
  have h2 := hV.size
  have HN : Hid (Calls Tryd.prog 23 #[.int .i64 8192] w fun e w' => NewP 8192 w e w') := hide (New_any 8192 w (by decide) (by decide))
  have HV := hide hV
  have HR := hide hr
  clear hV hr
  obtain ⟨len, hlen⟩ : ∃ len, len = rs.length := ⟨_, rfl⟩
  rw [← hlen]
  have HLn := hide hlen
  have hln : len ≤ 40 := by omega
  clear hlen hl
  obtain ⟨i1, hi, hz0, hz1, hz2⟩ := info_parts Tryd.info37
  go_enter Tryd.func12, Tryd.ntmps12
  go_wp2_with fail
  refine (unhide HN).mono ?_
  rintro e w1 ⟨B, rfl, hlo, hF1, hA1⟩
  have hV1 := (unhide HV).fr hF1 id id
  have HNR : Hid (Calls Tryd.prog 25 #[.int .i64 8192] w1 fun e w' => e = .returned (.tuple #[.pointer (some ⟨w1.heap.size, 0, none⟩), .bool true]) ∧ RefAt w' w1.heap.size w'.heap.size (8192 / 64) [] (.slice none 0 0) ∧ Fr (fun _ => False) w1 w') := hide (NewR_any 8192 w1 (by decide) (by decide))
  have HX : Hid (Vars w1 ∧ Fr (fun _ => False) w w1 ∧ (∀ k, B.mem k → w.heap.size ≤ k) ∧ At w1 B 128 (hrOf (emptyA 128) (fun _ => 0))) := hide ⟨hV1, hF1, hlo, hA1⟩
  clear hV1 hF1 hlo hA1 HN
  unfold HB.ptr
  go_wp2_with fail
  refine (unhide HNR).mono ?_
  rintro e w2 ⟨rfl, hR2, hF2⟩
  obtain ⟨pb, hpb⟩ : ∃ pb, pb = w1.heap.size := ⟨_, rfl⟩
  rw [← hpb] at hR2 ⊢
  obtain ⟨base, hbase⟩ : ∃ base, base = w2.heap.size := ⟨_, rfl⟩
  rw [← hbase] at hR2
  have HS : Hid (Ps w B pb base) := hide (by
    obtain ⟨x1, x2, x3, x4⟩ := unhide HX
    have h3 := hF2.size
    have h4 := x2.size
    have h5 : pb < w2.heap.size := World.block_lt_of_cell? w2 ⟨pb, 0, none⟩ hR2.cN
    exact ⟨fun j hj => ⟨x3 j hj, by have := x4.lt hj; omega⟩, by omega, by omega, fun hm => by have := x4.lt hm; omega, h2⟩)
  have HM : Hid (M1 w w2 B pb base [] (emptyA 128) [] (.slice none 0 0) [] (.slice none 0 0)) := hide (by
    obtain ⟨x1, x2, x3, x4⟩ := unhide HX
    refine ⟨⟨x4.quiet hF2, emptyA_inv 128, x1.fr hF2 id id, hR2, ⟨List.Pairwise.nil, fun b hb => by simp at hb, fun x hx => ?_⟩, x2.trans hF2, by omega⟩, .nil, by have := World.ownsRow_nil w2 base 37 5; exact this, fun g hg => by simp [Value.ownBlock] at hg, rfl⟩
    exfalso
    apply hx
    unfold roomN emptyA
    split <;> rfl)
  clear hR2 hF2 HX hpb hbase HNR
  go_wp2
  go_loopw [8, 30] (fun v i wr => ∃ k : Nat, k ≤ len ∧ i = .int .i64 k ∧ ∃ (A : Nat → Kd) (L : List Rb) (lv : Value) (l : List (Nat × Rw)) (ao : Option Addr) (cp c : Nat), v = .slice ao c cp ∧ c ≤ k ∧ Hid (c = l.length) ∧ Hid (M1 w wr B pb base (rs.take k) A L lv l (.slice ao l.length cp))) (fun _ i _ => len - (intOf i).toNat)
  case atStart => exact ⟨0, by omega, rfl, emptyA 128, [], .slice none 0 0, [], none, 0, 0, rfl, by omega, hide rfl, by rw [List.take_zero]; exact HM⟩
  case round =>
    obtain ⟨k, hk, rfl, A, L, lv, l, ao, cp, c, rfl, hck, hcl, hM⟩ := hrel
    by_cases hlt : k < len
    · have hkr : k < rs.length := by have := unhide HLn; omega
      obtain ⟨r, hr⟩ : ∃ r, rs[k]? = some r := ⟨rs[k], by simp [hkr]⟩
      obtain ⟨b, off, hab, hb1, c0, c1, c2, c3, hW1, hW2, hW3⟩ := ((unhide HR).far (unhide hM).mm.far) k r hr
      subst hab
      have HTk : Hid (rs.take (k + 1) = rs.take k ++ [r]) := hide (by
        rw [List.take_succ_eq_append_getElem hkr]
        have : rs[k] = r := by rw [List.getElem?_eq_getElem hkr] at hr; exact Option.some.inj hr
        rw [this])
      have HM2 := hide ((unhide hM).quiet ((Fr.refl _ wr).alloc (.cells #[.int .i64 r.kd, .int .i64 r.sz, .int .i64 r.ms, .slice r.wa r.W.length r.wc] 61)))
      have hx0 : ∀ j, (wr.alloc (.cells #[.int .i64 r.kd, .int .i64 r.sz, .int .i64 r.ms, .slice r.wa r.W.length r.wc] 61)).cell? ⟨wr.heap.size, j, none⟩ = (#[.int .i64 r.kd, .int .i64 r.sz, .int .i64 r.ms, .slice r.wa r.W.length r.wc] : Array Value)[j]? := fun j => by rw [World.cell?_alloc_at _ _ _ _ rfl]
      have hxs : wr.heap.size < (wr.alloc (.cells #[.int .i64 r.kd, .int .i64 r.sz, .int .i64 r.ms, .slice r.wa r.W.length r.wc] 61)).heap.size := by simp
      have HX0 := hide hx0
      have HXS : Hid (wr.heap.size < (wr.alloc (.cells #[.int .i64 r.kd, .int .i64 r.sz, .int .i64 r.ms, .slice r.wa r.W.length r.wc] 61)).heap.size ∧ base ≤ wr.heap.size) := hide ⟨hxs, (unhide hM).mm.le⟩
      have hWi : IntKind.i64.wrap ((r.W.length : Int) + 1) = (r.W.length : Int) + 1 := by rw [Go.IntKind.wrap_i64]; omega
      clear hr hkr hW2 hW3 hx0 hxs hb1
      obtain ⟨W0, hW0⟩ : ∃ W0, W0 = wr.alloc (.cells #[.int .i64 r.kd, .int .i64 r.sz, .int .i64 r.ms, .slice r.wa r.W.length r.wc] 61) := ⟨_, rfl⟩
      rw [← hW0] at HM2 HX0 HXS
      have h0 : ∀ k, B.mem k → 2 ≤ k := fun k hk => by have := (unhide HS).mem k hk; omega
      have hnx : Hid (¬ B.mem wr.heap.size ∧ wr.heap.size ≠ pb) := hide ⟨fun hm => by have := ((unhide HS).mem _ hm).2; have := (unhide HXS).2; omega, fun e => by have := (unhide HS).pb2; have := (unhide HXS).2; omega⟩
      have hLl : L.length ≤ 5000 := by have := (unhide hM).ll; have := unhide hcl; omega
      by_cases hno : NoPlace 128 A (r.W.length + 1)
      · have HC1 : Hid (Calls Tryd.prog 22 #[.pointer (some ⟨B.p, 0, none⟩), .int .i64 ((r.W.length : Int) + 1)] W0 fun e w' => e = .returned (.tuple #[.int .i64 0, .bool false]) ∧ Fr B.mem W0 w' ∧ Vars w' ∧ At w' B 128 (hrOf A (fun _ => 0))) := hide (by
          have := Alloc_no B 128 A (fun _ => 0) (r.W.length + 1) W0 (unhide HM2).mm.at_ (unhide HM2).mm.inv (unhide HM2).mm.vars h0 hno
          rw [show ((r.W.length + 1 : Nat) : Int) = (r.W.length : Int) + 1 by omega] at this
          exact this)
        rw [hW0] at HC1
        have HNo := hide hno
        have H0 := hide h0
        clear hno h0
        go_wp2_with fail
        refine (unhide HC1).mono ?_
        rw [← hW0]
        rintro e w3 ⟨rfl, hF3, hV3, hA3⟩
        have cx3 : w3.cell? ⟨wr.heap.size, 3, none⟩ = some (.slice r.wa r.W.length r.wc) := (World.cell?_of_block (w := W0) (a := ⟨wr.heap.size, 3, none⟩) (hF3.block _ (unhide HXS).1 (unhide hnx).1)).trans (unhide HX0 3)
        have HM3 := hide ((unhide HM2).no (unhide HS) hF3 hV3 hA3 (unhide HNo))
        have HC2 : Hid (Calls Tryd.prog 26 #[.pointer (some ⟨pb, 0, none⟩), .int .i64 ((r.W.length : Int) + 1)] w3 fun e w' => e = .returned (.tuple #[.int .i64 0, .bool false]) ∧ Fr (fun _ => False) w3 w') := hide (by
          refine (Alloc_ref pb base 128 ((r.W.length : Int) + 1) L lv A w3 (unhide HM3).mm.ref (unhide HM3).mm.le (unhide HM3).mm.inv (unhide HM3).mm.mt (by decide) (by decide) hLl).mono ?_
          rintro e w' (⟨_, _, hP⟩ | ⟨hP, _⟩)
          · rw [show ((r.W.length : Int) + 1).toNat = r.W.length + 1 by omega] at hP
            rcases hP with ⟨a, A', g, _⟩ | ⟨_, e1, e2⟩
            · exact (g.not (unhide HNo)).elim
            · exact ⟨e1, e2⟩
          · omega)
        clear hF3 hV3 hA3 HC1 hW0
        go_wp2_with fail
        refine (unhide HC2).mono ?_
        rintro e w4 ⟨rfl, hF4⟩
        have HM4 := hide ((unhide HM3).quiet hF4)
        clear hF4
        go_wp2
        go_roundw
        case rel => exact ⟨k + 1, by omega, by go_num, A, L, lv, l, ao, cp, c, rfl, by omega, hcl, by rw [unhide HTk]; exact HM4⟩
        case measure => simp [intOf]; omega
      · have HC1 : Hid (Calls Tryd.prog 22 #[.pointer (some ⟨B.p, 0, none⟩), .int .i64 ((r.W.length : Int) + 1)] W0 fun e w' => ∃ a A', Goes 128 A (r.W.length + 1) a A' ∧ e = .returned (.tuple #[.int .i64 ((a : Nat) : Int), .bool true]) ∧ Fr B.mem W0 w' ∧ Vars w' ∧ Inv 128 A' ∧ At w' B 128 (hrOf A' (clearW (fun _ => 0) a (roomOfM (r.W.length + 1))))) := hide (by
          have := Alloc_some B 128 A (fun _ => 0) (r.W.length + 1) W0 (unhide HM2).mm.at_ (unhide HM2).mm.inv (unhide HM2).mm.vars h0 (by omega) (by omega) hno
          rw [show ((r.W.length + 1 : Nat) : Int) = (r.W.length : Int) + 1 by omega] at this
          exact this)
        rw [hW0] at HC1
        clear hno h0
        go_wp2_with fail
        refine (unhide HC1).mono ?_
        rw [← hW0]
        rintro e w3 ⟨a, A', hg, rfl, hF3, hV3, hI3, hA3⟩
        have cx3 : w3.cell? ⟨wr.heap.size, 3, none⟩ = some (.slice r.wa r.W.length r.wc) := (World.cell?_of_block (w := W0) (a := ⟨wr.heap.size, 3, none⟩) (hF3.block _ (unhide HXS).1 (unhide hnx).1)).trans (unhide HX0 3)
        have HRf : Hid (RefAt w3 pb base 128 L lv ∧ base ≤ w3.heap.size) := hide ⟨(unhide HM2).mm.ref.fr hF3 (unhide HS).npb (fun g hg' hb => by have := ((unhide HS).mem g hb).2; have := ((unhide HM2).mm.ref.own.lt g hg').1; omega), Nat.le_trans (unhide HM2).mm.le hF3.size⟩
        have HC2 : Hid (Calls Tryd.prog 26 #[.pointer (some ⟨pb, 0, none⟩), .int .i64 ((r.W.length : Int) + 1)] w3 fun e w' => e = .returned (.tuple #[.int .i64 (a : Int), .bool true]) ∧ AddP w3 pb base 128 a (roomOfM (r.W.length + 1)) L (.returned (.int .i64 (a : Int))) w') := hide (by
          refine (Alloc_ref pb base 128 ((r.W.length : Int) + 1) L lv A w3 (unhide HRf).1 (unhide HRf).2 (unhide HM2).mm.inv (unhide HM2).mm.mt (by decide) (by decide) hLl).mono ?_
          rintro e w' (⟨_, _, hP⟩ | ⟨hP, _⟩)
          · rw [show ((r.W.length : Int) + 1).toNat = r.W.length + 1 by omega] at hP
            rcases hP with ⟨a2, A2, g2, e1, e2⟩ | ⟨hn, _⟩
            · obtain ⟨rfl, rfl⟩ := hg.det g2
              exact ⟨e1, e2⟩
            · exact (hg.not hn).elim
          · omega)
        have HG := hide hg
        have HG3 : Hid (Fr B.mem W0 w3 ∧ Vars w3 ∧ At w3 B 128 (hrOf A' (clearW (fun _ => 0) a (roomOfM (r.W.length + 1))))) := hide ⟨hF3, hV3, hA3⟩
        have ha : (a : Int) < 100000 := by
          have h1 := room_new (unhide HM2).mm.inv hg
          have h2 := room_in hI3 (x := a) (by rw [h1]; have := roomOfM_pos (r.W.length + 1); omega)
          omega
        clear hF3 hV3 hA3 hI3 HC1 hW0 hg
        go_wp2_with fail
        refine (unhide HC2).mono ?_
        rintro e w4 ⟨rfl, hP⟩
        obtain ⟨L', lv', k1, k2, k3, k4, k5⟩ := (unhide HM2).goes (unhide HS) (unhide HG) (by omega) (unhide HG3).1 (unhide HG3).2.1 (unhide HG3).2.2 hP
        have kx : ∀ j, w4.cell? ⟨wr.heap.size, j, none⟩ = W0.cell? ⟨wr.heap.size, j, none⟩ := fun j => World.cell?_of_block (w := W0) (a := ⟨wr.heap.size, j, none⟩) (k5.block _ (unhide HXS).1 (fun x => by rcases x with x | x; exact (unhide hnx).1 x; exact (unhide hnx).2 x))
        have d0 : w4.cell? ⟨wr.heap.size, 0, none⟩ = some (.int .i64 r.kd) := (kx 0).trans (unhide HX0 0)
        have d1 : w4.cell? ⟨wr.heap.size, 1, none⟩ = some (.int .i64 r.sz) := (kx 1).trans (unhide HX0 1)
        have d2 : w4.cell? ⟨wr.heap.size, 2, none⟩ = some (.int .i64 r.ms) := (kx 2).trans (unhide HX0 2)
        have d3 : w4.cell? ⟨wr.heap.size, 3, none⟩ = some (.slice r.wa r.W.length r.wc) := (kx 3).trans (unhide HX0 3)
        have HK1 := hide k1
        have HK2 := hide k2
        have HK3 := hide k3
        have HK4 := hide k4
        have hb4 : base ≤ w4.heap.size := k1.le
        have hcl2 := unhide hcl
        have HCl := hide hcl2
        subst hcl2
        clear k1 k2 k3 k4 k5 kx hP HC2
        go_wp2_with (first | (at_builtin; refine wpList_append_lies _ rfl (.tmp 61) (.tmp 72) 33 rfl base 37 i1 (.agg #[.int .i64 0, .int .i64 0, .int .i64 0, .int .i64 0, .slice none 0 0]) 5 56 Tryd.underlying33 hi hz0 hz1 hz2 rfl (by decide) (.slice ao l.length cp) l.length (lbAll (l.map lbO)) rfl ((unhide HK2).alloc _) ⟨w4.heap.size, 0, none⟩ 1 1 (lbCells (lbO (a, r))) rfl rfl (lb_news (lbO (a, r))) (lb_one _) (by decide) (by unfold maxLen; omega) (by omega) (by simp; omega) _ rfl ?_))
        intro g2 cap2 w5 ho5 hg5 hat5 _
        have HM5 : Hid (M1 w w5 B pb base (rs.take k ++ [r]) A' L' lv' (l ++ [(a, r)]) (.slice (some ⟨g2, 0, none⟩) (l ++ [(a, r)]).length cap2)) := hide (by
          rw [List.length_append]
          exact M1.put (unhide HS) (unhide HM2) (unhide HG) (unhide HK1) (unhide HK3) (unhide HK4) (unhide HK2) _ ho5 hg5 (by simpa using hat5))
        clear ho5 hg5 hat5
        go_wp2
        go_roundw
        case rel => exact ⟨k + 1, by omega, by go_num, A', L', lv', l ++ [(a, r)], some ⟨g2, 0, none⟩, cap2, l.length + 1, rfl, by omega, hide (by simp), by rw [unhide HTk]; exact HM5⟩
        case measure => simp [intOf]; omega
    · have e : k = len := by omega
      subst e
      have hcl2 := unhide hcl
      have HM0 : Hid (M1 w wr B pb base rs A L lv l (.slice ao l.length cp)) := hide (by
        have := unhide hM
        rw [unhide HLn, List.take_length] at this
        exact this)
      have HCh := hide (unhide HM0).ch
      obtain ⟨gl, hgl, hgl2, hM3⟩ := (unhide HM0).start
      have HW : Hid (∀ r ∈ rs, r.W.length ≤ 100 ∧ (∀ v ∈ r.W, -9223372036854775808 ≤ v ∧ v < 9223372036854775808) ∧ ∀ j, j < r.W.length → ∃ b' off', r.wa = some ⟨b', off', none⟩ ∧ b' < w.heap.size ∧ w.cell? ⟨b', off' + j, none⟩ = some (.int .i64 (r.W.getD j 0))) := hide fun r hr => by
        obtain ⟨i, hi⟩ := List.getElem?_of_mem hr
        obtain ⟨b, off, _, _, _, _, _, _, h7, h8, h9⟩ := unhide HR i r hi
        exact ⟨h7, h8, h9⟩
      have HBk := hide ((unhide HCh).bk fun r hr => (unhide HW r hr).1)
      have HGl := hide hgl
      have HMs := hide hM3
      have hlc : l.length ≤ 40 := by omega
      clear hM hcl hgl hM3 hgl2
      subst hcl2
      have HP : Hid (∀ n w' gw wd, n = l.length → M3 w w' B pb base A L lv l gl (Fto A l gw n) gw n 0 wd → MadeP w rs (.returned (.tuple #[.pointer (some ⟨B.p, 0, none⟩), .pointer (some ⟨pb, 0, none⟩), .slice ao n cp])) w') := hide fun n w' gw wd hn h3 => by
        subst hn
        exact ⟨B, pb, base, A, L, lv, l, gl, gw, wd, ao, cp, rfl, unhide HGl, unhide HS, unhide HCh, h3.re fun j hj => by unfold Fto; rw [if_pos hj]⟩
      obtain ⟨ln, hln2⟩ : ∃ ln, ln = l.length := ⟨_, rfl⟩
      rw [← hln2] at hlc ⊢
      have HL2 := hide hln2
      clear hln2 HM0 HM hck hlt
      go_wp2
      go_loopw [77] (fun t wr => ∃ i : Nat, i ≤ ln ∧ t = .int .i64 i ∧ ∃ (gw : Nat → Nat) (wd : Nat → Int), Hid (M3 w wr B pb base A L lv l gl (Fto A l gw i) gw i 0 wd)) (fun t _ => ln - (intOf t).toNat)
      case atStart => exact ⟨0, by omega, rfl, _, _, HMs⟩
      case round =>
        obtain ⟨i, hi2, rfl, gw, wd, hM⟩ := hrel
        clear HMs
        by_cases hlt2 : i < ln
        · have hiL : i < l.length := by have := unhide HL2; omega
          obtain rfl := unhide HGl (by omega)
          obtain ⟨c0, c1, c2, c3, c4, fz⟩ := (unhide hM).cells i hiL
          have eF : Fto A l gw i i = iniL l i := by unfold Fto; rw [if_neg (by omega)]
          have HEF := hide eF
          rw [eF] at c0 c1 c2 c3 c4
          have f1 := fz 1 (by omega)
          have f2 := fz 2 (by omega)
          have HRw := hide (unhide HW _ ((unhide HCh).mem i hiL))
          have hrm := (unhide HBk).2 i hiL
          have hrn := (unhide HBk).1.live i hiL rfl
          have hW1 := (unhide HRw).1
          have hro := room_in (unhide HBk).1.inv hrn
          have hr64 : roomN A (adO l i) ≤ 8192 := by omega
          simp only [iniL] at c0 c1 c2 c3 c4
          have HHd : Hid (∀ w', Calls Tryd.prog 9 #[.int .i64 (rwO l i).kd, .int .i64 (rwO l i).sz, .int .i64 (rwO l i).ms] w' fun e w'' => e = .returned (.int .i64 (hdO l i)) ∧ w'' = w') := hide fun w' => Header_any _ _ _ w'
          have HMd : Hid (midL l i = ⟨adO l i, if hdO l i = 0 then 0 else (rwO l i).kd, if hdO l i = 0 then 0 else (rwO l i).sz, (rwO l i).ms, (rwO l i).wa, (rwO l i).W.length, (rwO l i).wc⟩) := hide rfl
          have HFz := hide (finO_zero l i)
          have HFw := hide (finO_word l i)
          have HFp := hide (finO_past l i)
          have hsz0 := (unhide hM).mm.le
          have hglb := (unhide hM).gl1
          have hgll : gl < wr.heap.size := (unhide hM).row.lt (by omega)
          obtain ⟨wa, hwa0⟩ : ∃ wa, wa = (rwO l i).wa := ⟨_, rfl⟩
          rw [← hwa0] at c4
          have HWa := hide hwa0
          clear hwa0
          by_cases hz : hdO l i = 0
          · have HM1 := hide ((unhide hM).cell (unhide HS) i 1 hiL (by omega) ⟨adO l i, 0, (rwO l i).sz, (rwO l i).ms, (rwO l i).wa, (rwO l i).W.length, (rwO l i).wc⟩ (.int .i64 0) (fun t ht => by
              rw [unhide HEF]
              match t, ht with
              | 0, _ => rfl
              | 1, _ => rfl
              | 2, _ => rfl
              | 3, _ => rfl
              | 4, _ => rfl))
            obtain ⟨_, _, e3, _, _, fz1⟩ := (unhide HM1).cells i hiL
            have g3 := fz1 2 (by omega)
            have HM0 : Hid (M3 w ((wr.setCell ⟨gl, i * 5 + 1, none⟩ (.int .i64 0)).setCell ⟨gl, i * 5 + 2, none⟩ (.int .i64 0)) B pb base A L lv l gl (upd (Fto A l gw i) i (midL l i)) gw i 0 wd) := hide (((unhide HM1).cell (unhide HS) i 2 hiL (by omega) (midL l i) (.int .i64 0) (fun t ht => by
              rw [upd_same, unhide HMd, hz]
              match t, ht with
              | 0, _ => rfl
              | 1, _ => rfl
              | 2, _ => rfl
              | 3, _ => rfl
              | 4, _ => rfl)).re fun j _ => by
                by_cases e : j = i
                · subst e; rw [upd_same, upd_same]
                · rw [upd_ne _ _ e, upd_ne _ _ e, upd_ne _ _ e])
            have HM2 := hide ((unhide HM0).quiet ((Fr.refl _ ((wr.setCell ⟨gl, i * 5 + 1, none⟩ (.int .i64 0)).setCell ⟨gl, i * 5 + 2, none⟩ (.int .i64 0))).alloc (.cells #[.int .i64 (adO l i : Int), .int .i64 (rwO l i).kd, .int .i64 (rwO l i).sz, .int .i64 (rwO l i).ms, .slice wa (rwO l i).W.length (rwO l i).wc] 37)))
            have cb0 : (((wr.setCell ⟨gl, i * 5 + 1, none⟩ (.int .i64 0)).setCell ⟨gl, i * 5 + 2, none⟩ (.int .i64 0)).alloc (.cells #[.int .i64 (adO l i : Int), .int .i64 (rwO l i).kd, .int .i64 (rwO l i).sz, .int .i64 (rwO l i).ms, .slice wa (rwO l i).W.length (rwO l i).wc] 37)).cell? ⟨wr.heap.size, 0, none⟩ = some (.int .i64 (adO l i : Int)) := by rw [World.cell?_alloc_at _ _ _ _ (by simp)]; rfl
            have cb4 : (((wr.setCell ⟨gl, i * 5 + 1, none⟩ (.int .i64 0)).setCell ⟨gl, i * 5 + 2, none⟩ (.int .i64 0)).alloc (.cells #[.int .i64 (adO l i : Int), .int .i64 (rwO l i).kd, .int .i64 (rwO l i).sz, .int .i64 (rwO l i).ms, .slice wa (rwO l i).W.length (rwO l i).wc] 37)).cell? ⟨wr.heap.size, 4, none⟩ = some (.slice wa (rwO l i).W.length (rwO l i).wc) := by rw [World.cell?_alloc_at _ _ _ _ (by simp)]; rfl
            have hbs2 : wr.heap.size < (((wr.setCell ⟨gl, i * 5 + 1, none⟩ (.int .i64 0)).setCell ⟨gl, i * 5 + 2, none⟩ (.int .i64 0)).alloc (.cells #[.int .i64 (adO l i : Int), .int .i64 (rwO l i).kd, .int .i64 (rwO l i).sz, .int .i64 (rwO l i).ms, .slice wa (rwO l i).W.length (rwO l i).wc] 37)).heap.size := by simp
            have HZ := hide hz
            have hHD := hz
            obtain ⟨m, hm⟩ : ∃ m, m = roomN A (adO l i) - 1 := ⟨_, rfl⟩
            have hrm1 : roomN A (adO l i) = m + 1 := by omega
            have hm1 : m ≤ 8192 := by omega
            have hwm : (rwO l i).W.length ≤ m := by omega
            have HSt : Hid (Calls Tryd.prog 24 #[.pointer (some ⟨B.p, 0, none⟩), .int .i64 (adO l i : Int), .int .i64 0, .int .i64 0] (((wr.setCell ⟨gl, i * 5 + 1, none⟩ (.int .i64 0)).setCell ⟨gl, i * 5 + 2, none⟩ (.int .i64 0)).alloc (.cells #[.int .i64 (adO l i : Int), .int .i64 (rwO l i).kd, .int .i64 (rwO l i).sz, .int .i64 (rwO l i).ms, .slice wa (rwO l i).W.length (rwO l i).wc] 37)) fun e w' => e = .returned (.bool true) ∧ Fr B.mem (((wr.setCell ⟨gl, i * 5 + 1, none⟩ (.int .i64 0)).setCell ⟨gl, i * 5 + 2, none⟩ (.int .i64 0)).alloc (.cells #[.int .i64 (adO l i : Int), .int .i64 (rwO l i).kd, .int .i64 (rwO l i).sz, .int .i64 (rwO l i).ms, .slice wa (rwO l i).W.length (rwO l i).wc] 37)) w' ∧ At w' B 128 (hrOf A (upd wd (adO l i + 0) (finO l i 0)))) := hide (by
              have := Store_in B 128 A wd (adO l i) (m + 1) 0 (finO l i 0) (((wr.setCell ⟨gl, i * 5 + 1, none⟩ (.int .i64 0)).setCell ⟨gl, i * 5 + 2, none⟩ (.int .i64 0)).alloc (.cells #[.int .i64 (adO l i : Int), .int .i64 (rwO l i).kd, .int .i64 (rwO l i).sz, .int .i64 (rwO l i).ms, .slice wa (rwO l i).W.length (rwO l i).wc] 37)) (unhide HM2).mm.at_ (unhide HM2).mm.inv hrm1 (by omega)
              rw [unhide HFz] at this ⊢
              rw [hz] at this ⊢
              exact this)
            have HRoom : Hid (∀ w' wd', At w' B 128 (hrOf A wd') → Calls Tryd.prog 27 #[.pointer (some ⟨B.p, 0, none⟩), .int .i64 (adO l i : Int)] w' fun e w'' => e = .returned (.int .i64 ((m : Int) + 1)) ∧ Fr (fun _ => False) w' w'') := hide fun w' wd' h' => by
              have := Room_in B 128 A wd' (adO l i) w' h' (unhide HBk).1.inv
              rw [hrm1, show ((m + 1 : Nat) : Int) = (m : Int) + 1 by omega] at this
              exact this
            have hmk : ∀ W : World, (Instr.makeSlice 29 (.int .i64 (m : Int)) (.int .i64 (m : Int))).run Tryd.prog W = .ok (.slice (some ⟨W.heap.size, 0, none⟩) m m) (W.alloc (.cells (madeCells #[.int .i64 0] m) 3)) := fun W => make34 W m (by omega)
            have HRz : Hid (∀ W : World, Row (W.alloc (.cells (madeCells #[.int .i64 0] m) 3)) W.heap.size m (fun _ => .int .i64 0)) := hide fun W => (Row.made W #[.int .i64 0] m 3).ext fun i _ => by simp [Nat.mod_one]
            generalize madeCells #[.int .i64 0] m = Z at *
            have HRm1 := hide hrm1
            have hnb : Hid (¬ B.mem wr.heap.size) := hide fun hb => by have := ((unhide HS).mem _ hb).2; omega
            obtain ⟨bb, hbb⟩ : ∃ bb, bb = wr.heap.size := ⟨_, rfl⟩
            have hbbl : base ≤ bb := by omega
            have hbgl : bb ≠ gl := by omega
            have HNB : Hid (¬ B.mem bb) := hide (by rw [hbb]; exact unhide hnb)
            clear hm hrm hrn hro hrm1 eF hHD
            go_wp2_with (first | (go_at_call 9; refine (unhide HHd _).mono ?_; rintro e w' ⟨rfl, rfl⟩))
            refine (unhide HSt).mono ?_
            rintro e w3 ⟨rfl, hF3, hA3⟩
            have HM3 := hide ((unhide HM2).store (unhide HS) (unhide HBk).1 hiL (by rw [unhide HRm1]; omega) hF3 hA3)
            have cb0w3 : w3.cell? ⟨wr.heap.size, 0, none⟩ = some (.int .i64 (adO l i : Int)) := (World.cell?_of_block (w := (((wr.setCell ⟨gl, i * 5 + 1, none⟩ (.int .i64 0)).setCell ⟨gl, i * 5 + 2, none⟩ (.int .i64 0)).alloc (.cells #[.int .i64 (adO l i : Int), .int .i64 (rwO l i).kd, .int .i64 (rwO l i).sz, .int .i64 (rwO l i).ms, .slice wa (rwO l i).W.length (rwO l i).wc] 37))) (a := ⟨wr.heap.size, 0, none⟩) (hF3.block _ hbs2 (unhide hnb))).trans cb0
            have cb4w3 : w3.cell? ⟨wr.heap.size, 4, none⟩ = some (.slice wa (rwO l i).W.length (rwO l i).wc) := (World.cell?_of_block (w := (((wr.setCell ⟨gl, i * 5 + 1, none⟩ (.int .i64 0)).setCell ⟨gl, i * 5 + 2, none⟩ (.int .i64 0)).alloc (.cells #[.int .i64 (adO l i : Int), .int .i64 (rwO l i).kd, .int .i64 (rwO l i).sz, .int .i64 (rwO l i).ms, .slice wa (rwO l i).W.length (rwO l i).wc] 37))) (a := ⟨wr.heap.size, 4, none⟩) (hF3.block _ hbs2 (unhide hnb))).trans cb4
            have hb3 : wr.heap.size < w3.heap.size := Nat.lt_of_lt_of_le hbs2 hF3.size
            rw [← hbb] at cb0w3 cb4w3 hb3 ⊢
            have HBB := hide hbb
            clear hF3 hA3 cb0 cb4 hbs2 hbb HSt HM2 HM0 HM1 e3 g3
            go_wp2_with (first | (go_at_call 27; refine (unhide HRoom w3 _ (unhide HM3).mm.at_).mono ?_; rintro e w4 ⟨rfl, hF4⟩; have HM4 := hide ((unhide HM3).quiet (hF4.alloc (.cells Z 3))); have cb0w5 := cell_far (hF4.alloc (.cells Z 3)) hb3 cb0w3; have cb4w5 := cell_far (hF4.alloc (.cells Z 3)) hb3 cb4w3; have hb4 : bb < w4.heap.size := Nat.lt_of_lt_of_le hb3 hF4.size; have HM4q := hide ((unhide HM3).quiet hF4); have HRow0 := hide (unhide HRz w4); clear hF4))
            obtain ⟨gx, hgx⟩ : ∃ gx, gx = w4.heap.size := ⟨_, rfl⟩
            have HGx : Hid (base ≤ gx ∧ gx ≠ gl ∧ lv.ownBlock ≠ some gx ∧ (∀ j, j < i → gw j ≠ gx) ∧ bb ≠ gx) := hide (by
              have h1 := unhide HM4q
              have h2 := h1.mm.le
              have h3 := h1.row.lt (by omega)
              refine ⟨by omega, by omega, fun e => ?_, fun j hj e => ?_, by omega⟩
              · have := (h1.mm.ref.own.lt _ e).2; omega
              · have h4 := (h1.ws j hj).2.2.2
                have h5 := (unhide HBk).2 j (by omega)
                have h6 := (unhide HBk).1.live j (by omega) rfl
                have h7 := room_in (unhide HBk).1.inv h6
                have h8 : 0 < roomN A (adO l j) - 1 := by have := room_two (unhide HBk).1.inv h6; omega
                have := h4.lt h8
                omega)
            rw [← hgx] at HRow0 ⊢
            generalize w4.alloc (.cells Z 3) = w5 at *
            clear hgx hb4 HM4q hmk HRz cb0w3 cb4w3 hb3 HM3 HRoom
            go_loopg [113] ((rwO l i).W.length) (fun gk t wr => ∃ k : Nat, k ≤ (rwO l i).W.length ∧ Hid (gk = (rwO l i).W.length - k) ∧ t = .int .i64 k ∧ ∃ wd' : Nat → Int, Hid (M3 w wr B pb base A L lv l gl (upd (Fto A l gw i) i (midL l i)) gw i (k + 1) wd') ∧ Hid (Row wr gx m (fun q => .int .i64 (if q < k then finO l i (q + 1) else 0))) ∧ wr.cell? ⟨bb, 0, none⟩ = some (.int .i64 (adO l i : Int)) ∧ bb < wr.heap.size)
            case atStart => exact ⟨0, by omega, hide rfl, rfl, _, HM4, hide ((unhide HRow0).ext fun q _ => by simp), cb0w5, by have := World.block_lt_of_cell? w5 ⟨bb, 0, none⟩ cb0w5; exact this⟩
            case round =>
              obtain ⟨k, hk, hgk, rfl, wd', hM', hRow, cb, hbl⟩ := hrel
              by_cases hlt3 : k < (rwO l i).W.length
              · obtain ⟨b', off', hwa, hb', hcw⟩ := (unhide HRw).2.2 k hlt3
                have hwa2 := (unhide HWa).trans hwa
                clear hwa
                subst hwa2
                have cw := cell_far (unhide hM').mm.far hb' hcw
                have hvr := (unhide HRw).2.1 ((rwO l i).W.getD k 0) (by rw [List.getD, List.getElem?_eq_getElem hlt3]; exact List.getElem_mem hlt3)
                have hfin := unhide HFw k hlt3
                have cgx : wr.cell? ⟨gx, k, none⟩ = some (.int .i64 0) := ((unhide hRow) k (by omega)).1.trans (by simp)
                have fgx := ((unhide hRow) k (by omega)).2
                have HCm := hide (fun x (hx : x < l.length) => (unhide hM').cells x hx)
                generalize (rwO l i).W.getD k 0 = v at *
                clear hcw hb'
                by_cases hneg : v < 0
                · obtain ⟨x, hx1, hx2, hx3⟩ := neg_idx (n := ln) hneg (by omega)
                  have hval : finO l i (k + 1) = (adO l x : Int) := by rw [hfin]; unfold valO; rw [if_pos hneg, ← unhide HL2, hx3]
                  have cx := (unhide HCm x (by have := unhide HL2; omega)).1
                  rw [fto_at] at cx
                  have hd0 : ((ln : Int) == 0) = false := by simp; omega
                  have HMy := hide ((unhide hM').beside (unhide HS) (unhide HGx).1 (unhide HGx).2.1 (unhide HGx).2.2.1 (unhide HGx).2.2.2.1 ((Fr.refl (fun y => y = gx) wr).setCell (p := ⟨gx, k, none⟩) rfl (.int .i64 (adO l x : Int))))
                  have cby : (wr.setCell ⟨gx, k, none⟩ (.int .i64 (adO l x : Int))).cell? ⟨bb, 0, none⟩ = some (.int .i64 (adO l i : Int)) := by
                    rw [World.cell?_setCell_other _ _ _ _ (by intro e; injection e with e _; exact (unhide HGx).2.2.2.2 e.symm)]; exact cb
                  have hby : bb < (wr.setCell ⟨gx, k, none⟩ (.int .i64 (adO l x : Int))).heap.size := by simpa using hbl
                  have HSy : Hid (Calls Tryd.prog 24 #[.pointer (some ⟨B.p, 0, none⟩), .int .i64 (adO l i : Int), .int .i64 ((k : Int) + 1), .int .i64 (adO l x : Int)] (wr.setCell ⟨gx, k, none⟩ (.int .i64 (adO l x : Int))) fun e w' => e = .returned (.bool true) ∧ Fr B.mem (wr.setCell ⟨gx, k, none⟩ (.int .i64 (adO l x : Int))) w' ∧ At w' B 128 (hrOf A (upd wd' (adO l i + (k + 1)) (finO l i (k + 1))))) := hide (by
                    have := Store_in B 128 A wd' (adO l i) (m + 1) (k + 1) (finO l i (k + 1)) _ (unhide HMy).mm.at_ (unhide HMy).mm.inv (unhide HRm1) (by omega)
                    rw [show ((k + 1 : Nat) : Int) = (k : Int) + 1 by omega] at this
                    rw [hval] at this ⊢
                    exact this)
                  have HRy : Hid (Row (wr.setCell ⟨gx, k, none⟩ (.int .i64 (adO l x : Int))) gx m (fun q => .int .i64 (if q < k + 1 then finO l i (q + 1) else 0))) := hide (((unhide hRow).set k (.int .i64 (adO l x : Int)) (by omega)).ext fun q _ => by
                    by_cases e : q = k
                    · subst e; rw [upd_same, if_pos (by omega), hval]
                    · rw [upd_ne _ _ e]
                      by_cases e2 : q < k
                      · rw [if_pos e2, if_pos (by omega)]
                      · rw [if_neg e2, if_neg (by omega)])
                  have HVL := hide hval
                  clear hval hfin HCm
                  go_wp2_with fail
                  refine (unhide HSy).mono ?_
                  rintro e w6 ⟨rfl, hF6, hA6⟩
                  have HM6 := hide ((unhide HMy).store (unhide HS) (unhide HBk).1 hiL (by rw [unhide HRm1]; omega) hF6 hA6)
                  have HR6 := hide (Row.fr (unhide HRy) hF6 (fun hb => by have := ((unhide HS).mem _ hb).2; have := (unhide HGx).1; omega))
                  have cb6 : w6.cell? ⟨bb, 0, none⟩ = some (.int .i64 (adO l i : Int)) := (World.cell?_of_block (w := wr.setCell ⟨gx, k, none⟩ (.int .i64 (adO l x : Int))) (a := ⟨bb, 0, none⟩) (hF6.block _ hby (unhide HNB))).trans cby
                  have hb6 : bb < w6.heap.size := Nat.lt_of_lt_of_le hby hF6.size
                  clear hF6 hA6
                  have HLt : Hid ((rwO l i).W.length - (k + 1) < gk) := hide (by have := unhide hgk; omega)
                  go_wp2
                  go_roundg ((rwO l i).W.length - (k + 1))
                  case measure => exact unhide HLt
                  case rel => exact ⟨k + 1, by omega, hide rfl, by go_num, _, HM6, HR6, cb6, hb6⟩
                · have hval : finO l i (k + 1) = v := by rw [hfin]; unfold valO; rw [if_neg hneg]
                  have HMy := hide ((unhide hM').beside (unhide HS) (unhide HGx).1 (unhide HGx).2.1 (unhide HGx).2.2.1 (unhide HGx).2.2.2.1 ((Fr.refl (fun y => y = gx) wr).setCell (p := ⟨gx, k, none⟩) rfl (.int .i64 v)))
                  have cby : (wr.setCell ⟨gx, k, none⟩ (.int .i64 v)).cell? ⟨bb, 0, none⟩ = some (.int .i64 (adO l i : Int)) := by
                    rw [World.cell?_setCell_other _ _ _ _ (by intro e; injection e with e _; exact (unhide HGx).2.2.2.2 e.symm)]; exact cb
                  have hby : bb < (wr.setCell ⟨gx, k, none⟩ (.int .i64 v)).heap.size := by simpa using hbl
                  have HSy : Hid (Calls Tryd.prog 24 #[.pointer (some ⟨B.p, 0, none⟩), .int .i64 (adO l i : Int), .int .i64 ((k : Int) + 1), .int .i64 v] (wr.setCell ⟨gx, k, none⟩ (.int .i64 v)) fun e w' => e = .returned (.bool true) ∧ Fr B.mem (wr.setCell ⟨gx, k, none⟩ (.int .i64 v)) w' ∧ At w' B 128 (hrOf A (upd wd' (adO l i + (k + 1)) (finO l i (k + 1))))) := hide (by
                    have := Store_in B 128 A wd' (adO l i) (m + 1) (k + 1) (finO l i (k + 1)) _ (unhide HMy).mm.at_ (unhide HMy).mm.inv (unhide HRm1) (by omega)
                    rw [show ((k + 1 : Nat) : Int) = (k : Int) + 1 by omega] at this
                    rw [hval] at this ⊢
                    exact this)
                  have HRy : Hid (Row (wr.setCell ⟨gx, k, none⟩ (.int .i64 v)) gx m (fun q => .int .i64 (if q < k + 1 then finO l i (q + 1) else 0))) := hide (((unhide hRow).set k (.int .i64 v) (by omega)).ext fun q _ => by
                    by_cases e : q = k
                    · subst e; rw [upd_same, if_pos (by omega), hval]
                    · rw [upd_ne _ _ e]
                      by_cases e2 : q < k
                      · rw [if_pos e2, if_pos (by omega)]
                      · rw [if_neg e2, if_neg (by omega)])
                  have HVL := hide hval
                  clear hval hfin HCm
                  go_wp2_with fail
                  refine (unhide HSy).mono ?_
                  rintro e w6 ⟨rfl, hF6, hA6⟩
                  have HM6 := hide ((unhide HMy).store (unhide HS) (unhide HBk).1 hiL (by rw [unhide HRm1]; omega) hF6 hA6)
                  have HR6 := hide (Row.fr (unhide HRy) hF6 (fun hb => by have := ((unhide HS).mem _ hb).2; have := (unhide HGx).1; omega))
                  have cb6 : w6.cell? ⟨bb, 0, none⟩ = some (.int .i64 (adO l i : Int)) := (World.cell?_of_block (w := wr.setCell ⟨gx, k, none⟩ (.int .i64 v)) (a := ⟨bb, 0, none⟩) (hF6.block _ hby (unhide HNB))).trans cby
                  have hb6 : bb < w6.heap.size := Nat.lt_of_lt_of_le hby hF6.size
                  clear hF6 hA6
                  have HLt : Hid ((rwO l i).W.length - (k + 1) < gk) := hide (by have := unhide hgk; omega)
                  go_wp2
                  go_roundg ((rwO l i).W.length - (k + 1))
                  case measure => exact unhide HLt
                  case rel => exact ⟨k + 1, by omega, hide rfl, by go_num, _, HM6, HR6, cb6, hb6⟩
              · have ek : k = (rwO l i).W.length := by omega
                subst ek
                obtain ⟨_, _, _, _, c4', fz'⟩ := (unhide hM').cells i hiL
                have f4' := fz' 4 (by omega)
                have HRF : Hid (Row wr gx (roomN A (adO l i) - 1) (fun q => .int .i64 (finO l i (q + 1)))) := hide (by
                  rw [unhide HRm1, Nat.add_sub_cancel]
                  refine (unhide hRow).ext fun q _ => ?_
                  by_cases hq : q < (rwO l i).W.length
                  · rw [if_pos hq]
                  · rw [if_neg hq, unhide HFp q hq])
                have HME : Hid (M3 w (wr.setCell ⟨gl, i * 5 + 4, none⟩ (.slice (some ⟨gx, 0, none⟩) m m)) B pb base A L lv l gl (Fto A l (upd gw i gx) (i + 1)) (upd gw i gx) (i + 1) 0 wd') := hide (by
                  have h1 := (unhide hM').cell (unhide HS) i 4 hiL (by omega) ⟨adO l i, if hdO l i = 0 then 0 else (rwO l i).kd, if hdO l i = 0 then 0 else (rwO l i).sz, (rwO l i).ms, some ⟨gx, 0, none⟩, roomN A (adO l i) - 1, roomN A (adO l i) - 1⟩ (.slice (some ⟨gx, 0, none⟩) m m) (fun t ht => by
                    rw [upd_same, unhide HMd, unhide HRm1, Nat.add_sub_cancel]
                    match t, ht with
                    | 0, _ => rfl
                    | 1, _ => rfl
                    | 2, _ => rfl
                    | 3, _ => rfl
                    | 4, _ => rfl)
                  obtain ⟨y1, y2, y3, y4, y5⟩ := unhide HGx
                  exact (h1.next y1 y2 y3 (Row.fr (unhide HRF) ((Fr.refl (fun y => y = gl) wr).setCell (p := ⟨gl, i * 5 + 4, none⟩) rfl _) y2)).re fun j _ => fto_next A l gw i gx j)
                go_wp2
                go_roundw
                case rel => exact ⟨i + 1, by omega, by go_num, _, _, HME⟩
                case measure => simp [intOf]; omega
          · have HM0 := hide ((unhide hM).quiet ((Fr.refl _ wr).alloc (.cells #[.int .i64 (adO l i : Int), .int .i64 (rwO l i).kd, .int .i64 (rwO l i).sz, .int .i64 (rwO l i).ms, .slice wa (rwO l i).W.length (rwO l i).wc] 37)))
            have hbb0 : (wr.alloc (.cells #[.int .i64 (adO l i : Int), .int .i64 (rwO l i).kd, .int .i64 (rwO l i).sz, .int .i64 (rwO l i).ms, .slice wa (rwO l i).W.length (rwO l i).wc] 37)).cell? ⟨wr.heap.size, 0, none⟩ = some (.int .i64 (adO l i : Int)) := by rw [World.cell?_alloc_at _ _ _ _ rfl]; rfl
            have hbb4 : (wr.alloc (.cells #[.int .i64 (adO l i : Int), .int .i64 (rwO l i).kd, .int .i64 (rwO l i).sz, .int .i64 (rwO l i).ms, .slice wa (rwO l i).W.length (rwO l i).wc] 37)).cell? ⟨wr.heap.size, 4, none⟩ = some (.slice wa (rwO l i).W.length (rwO l i).wc) := by rw [World.cell?_alloc_at _ _ _ _ rfl]; rfl
            have hbs : wr.heap.size < (wr.alloc (.cells #[.int .i64 (adO l i : Int), .int .i64 (rwO l i).kd, .int .i64 (rwO l i).sz, .int .i64 (rwO l i).ms, .slice wa (rwO l i).W.length (rwO l i).wc] 37)).heap.size := by simp
            have HM2 : Hid (M3 w (wr.alloc (.cells #[.int .i64 (adO l i : Int), .int .i64 (rwO l i).kd, .int .i64 (rwO l i).sz, .int .i64 (rwO l i).ms, .slice wa (rwO l i).W.length (rwO l i).wc] 37)) B pb base A L lv l gl (upd (Fto A l gw i) i (midL l i)) gw i 0 wd) := hide ((unhide HM0).re fun j _ => by
                by_cases e : j = i
                · subst e; rw [upd_same, unhide HEF, unhide HMd, if_neg hz, if_neg hz]; rfl
                · rw [upd_ne _ _ e])
            have cb0 := hbb0
            have cb4 := hbb4
            have hbs2 := hbs
            have hzb : (hdO l i == 0) = false := by simpa using hz
            have HZ := hide hz
            clear hz
            obtain ⟨m, hm⟩ : ∃ m, m = roomN A (adO l i) - 1 := ⟨_, rfl⟩
            have hrm1 : roomN A (adO l i) = m + 1 := by omega
            have hm1 : m ≤ 8192 := by omega
            have hwm : (rwO l i).W.length ≤ m := by omega
            have HSt : Hid (Calls Tryd.prog 24 #[.pointer (some ⟨B.p, 0, none⟩), .int .i64 (adO l i : Int), .int .i64 0, .int .i64 (hdO l i)] (wr.alloc (.cells #[.int .i64 (adO l i : Int), .int .i64 (rwO l i).kd, .int .i64 (rwO l i).sz, .int .i64 (rwO l i).ms, .slice wa (rwO l i).W.length (rwO l i).wc] 37)) fun e w' => e = .returned (.bool true) ∧ Fr B.mem (wr.alloc (.cells #[.int .i64 (adO l i : Int), .int .i64 (rwO l i).kd, .int .i64 (rwO l i).sz, .int .i64 (rwO l i).ms, .slice wa (rwO l i).W.length (rwO l i).wc] 37)) w' ∧ At w' B 128 (hrOf A (upd wd (adO l i + 0) (finO l i 0)))) := hide (by
              have := Store_in B 128 A wd (adO l i) (m + 1) 0 (finO l i 0) (wr.alloc (.cells #[.int .i64 (adO l i : Int), .int .i64 (rwO l i).kd, .int .i64 (rwO l i).sz, .int .i64 (rwO l i).ms, .slice wa (rwO l i).W.length (rwO l i).wc] 37)) (unhide HM2).mm.at_ (unhide HM2).mm.inv hrm1 (by omega)
              rw [unhide HFz] at this ⊢
              exact this)
            have HRoom : Hid (∀ w' wd', At w' B 128 (hrOf A wd') → Calls Tryd.prog 27 #[.pointer (some ⟨B.p, 0, none⟩), .int .i64 (adO l i : Int)] w' fun e w'' => e = .returned (.int .i64 ((m : Int) + 1)) ∧ Fr (fun _ => False) w' w'') := hide fun w' wd' h' => by
              have := Room_in B 128 A wd' (adO l i) w' h' (unhide HBk).1.inv
              rw [hrm1, show ((m + 1 : Nat) : Int) = (m : Int) + 1 by omega] at this
              exact this
            have hmk : ∀ W : World, (Instr.makeSlice 29 (.int .i64 (m : Int)) (.int .i64 (m : Int))).run Tryd.prog W = .ok (.slice (some ⟨W.heap.size, 0, none⟩) m m) (W.alloc (.cells (madeCells #[.int .i64 0] m) 3)) := fun W => make34 W m (by omega)
            have HRz : Hid (∀ W : World, Row (W.alloc (.cells (madeCells #[.int .i64 0] m) 3)) W.heap.size m (fun _ => .int .i64 0)) := hide fun W => (Row.made W #[.int .i64 0] m 3).ext fun i _ => by simp [Nat.mod_one]
            generalize madeCells #[.int .i64 0] m = Z at *
            have HRm1 := hide hrm1
            have hnb : Hid (¬ B.mem wr.heap.size) := hide fun hb => by have := ((unhide HS).mem _ hb).2; omega
            obtain ⟨bb, hbb⟩ : ∃ bb, bb = wr.heap.size := ⟨_, rfl⟩
            have hbbl : base ≤ bb := by omega
            have hbgl : bb ≠ gl := by omega
            have HNB : Hid (¬ B.mem bb) := hide (by rw [hbb]; exact unhide hnb)
            clear hm hrm hrn hro hrm1 eF hbb0 hbb4 hbs
            go_wp2_with (first | (go_at_call 9; refine (unhide HHd _).mono ?_; rintro e w' ⟨rfl, rfl⟩))
            refine (unhide HSt).mono ?_
            rintro e w3 ⟨rfl, hF3, hA3⟩
            have HM3 := hide ((unhide HM2).store (unhide HS) (unhide HBk).1 hiL (by rw [unhide HRm1]; omega) hF3 hA3)
            have cb0w3 : w3.cell? ⟨wr.heap.size, 0, none⟩ = some (.int .i64 (adO l i : Int)) := (World.cell?_of_block (w := (wr.alloc (.cells #[.int .i64 (adO l i : Int), .int .i64 (rwO l i).kd, .int .i64 (rwO l i).sz, .int .i64 (rwO l i).ms, .slice wa (rwO l i).W.length (rwO l i).wc] 37))) (a := ⟨wr.heap.size, 0, none⟩) (hF3.block _ hbs2 (unhide hnb))).trans cb0
            have cb4w3 : w3.cell? ⟨wr.heap.size, 4, none⟩ = some (.slice wa (rwO l i).W.length (rwO l i).wc) := (World.cell?_of_block (w := (wr.alloc (.cells #[.int .i64 (adO l i : Int), .int .i64 (rwO l i).kd, .int .i64 (rwO l i).sz, .int .i64 (rwO l i).ms, .slice wa (rwO l i).W.length (rwO l i).wc] 37))) (a := ⟨wr.heap.size, 4, none⟩) (hF3.block _ hbs2 (unhide hnb))).trans cb4
            have hb3 : wr.heap.size < w3.heap.size := Nat.lt_of_lt_of_le hbs2 hF3.size
            rw [← hbb] at cb0w3 cb4w3 hb3 ⊢
            have HBB := hide hbb
            clear hF3 hA3 cb0 cb4 hbs2 hbb HSt HM2 HM0 
            go_wp2_with (first | (go_at_call 27; refine (unhide HRoom w3 _ (unhide HM3).mm.at_).mono ?_; rintro e w4 ⟨rfl, hF4⟩; have HM4 := hide ((unhide HM3).quiet (hF4.alloc (.cells Z 3))); have cb0w5 := cell_far (hF4.alloc (.cells Z 3)) hb3 cb0w3; have cb4w5 := cell_far (hF4.alloc (.cells Z 3)) hb3 cb4w3; have hb4 : bb < w4.heap.size := Nat.lt_of_lt_of_le hb3 hF4.size; have HM4q := hide ((unhide HM3).quiet hF4); have HRow0 := hide (unhide HRz w4); clear hF4))
            obtain ⟨gx, hgx⟩ : ∃ gx, gx = w4.heap.size := ⟨_, rfl⟩
            have HGx : Hid (base ≤ gx ∧ gx ≠ gl ∧ lv.ownBlock ≠ some gx ∧ (∀ j, j < i → gw j ≠ gx) ∧ bb ≠ gx) := hide (by
              have h1 := unhide HM4q
              have h2 := h1.mm.le
              have h3 := h1.row.lt (by omega)
              refine ⟨by omega, by omega, fun e => ?_, fun j hj e => ?_, by omega⟩
              · have := (h1.mm.ref.own.lt _ e).2; omega
              · have h4 := (h1.ws j hj).2.2.2
                have h5 := (unhide HBk).2 j (by omega)
                have h6 := (unhide HBk).1.live j (by omega) rfl
                have h7 := room_in (unhide HBk).1.inv h6
                have h8 : 0 < roomN A (adO l j) - 1 := by have := room_two (unhide HBk).1.inv h6; omega
                have := h4.lt h8
                omega)
            rw [← hgx] at HRow0 ⊢
            generalize w4.alloc (.cells Z 3) = w5 at *
            clear hgx hb4 HM4q hmk HRz cb0w3 cb4w3 hb3 HM3 HRoom
            go_loopg [113] ((rwO l i).W.length) (fun gk t wr => ∃ k : Nat, k ≤ (rwO l i).W.length ∧ Hid (gk = (rwO l i).W.length - k) ∧ t = .int .i64 k ∧ ∃ wd' : Nat → Int, Hid (M3 w wr B pb base A L lv l gl (upd (Fto A l gw i) i (midL l i)) gw i (k + 1) wd') ∧ Hid (Row wr gx m (fun q => .int .i64 (if q < k then finO l i (q + 1) else 0))) ∧ wr.cell? ⟨bb, 0, none⟩ = some (.int .i64 (adO l i : Int)) ∧ bb < wr.heap.size)
            case atStart => exact ⟨0, by omega, hide rfl, rfl, _, HM4, hide ((unhide HRow0).ext fun q _ => by simp), cb0w5, by have := World.block_lt_of_cell? w5 ⟨bb, 0, none⟩ cb0w5; exact this⟩
            case round =>
              obtain ⟨k, hk, hgk, rfl, wd', hM', hRow, cb, hbl⟩ := hrel
              by_cases hlt3 : k < (rwO l i).W.length
              · obtain ⟨b', off', hwa, hb', hcw⟩ := (unhide HRw).2.2 k hlt3
                have hwa2 := (unhide HWa).trans hwa
                clear hwa
                subst hwa2
                have cw := cell_far (unhide hM').mm.far hb' hcw
                have hvr := (unhide HRw).2.1 ((rwO l i).W.getD k 0) (by rw [List.getD, List.getElem?_eq_getElem hlt3]; exact List.getElem_mem hlt3)
                have hfin := unhide HFw k hlt3
                have cgx : wr.cell? ⟨gx, k, none⟩ = some (.int .i64 0) := ((unhide hRow) k (by omega)).1.trans (by simp)
                have fgx := ((unhide hRow) k (by omega)).2
                have HCm := hide (fun x (hx : x < l.length) => (unhide hM').cells x hx)
                generalize (rwO l i).W.getD k 0 = v at *
                clear hcw hb'
                by_cases hneg : v < 0
                · obtain ⟨x, hx1, hx2, hx3⟩ := neg_idx (n := ln) hneg (by omega)
                  have hval : finO l i (k + 1) = (adO l x : Int) := by rw [hfin]; unfold valO; rw [if_pos hneg, ← unhide HL2, hx3]
                  have cx := (unhide HCm x (by have := unhide HL2; omega)).1
                  rw [fto_at] at cx
                  have hd0 : ((ln : Int) == 0) = false := by simp; omega
                  have HMy := hide ((unhide hM').beside (unhide HS) (unhide HGx).1 (unhide HGx).2.1 (unhide HGx).2.2.1 (unhide HGx).2.2.2.1 ((Fr.refl (fun y => y = gx) wr).setCell (p := ⟨gx, k, none⟩) rfl (.int .i64 (adO l x : Int))))
                  have cby : (wr.setCell ⟨gx, k, none⟩ (.int .i64 (adO l x : Int))).cell? ⟨bb, 0, none⟩ = some (.int .i64 (adO l i : Int)) := by
                    rw [World.cell?_setCell_other _ _ _ _ (by intro e; injection e with e _; exact (unhide HGx).2.2.2.2 e.symm)]; exact cb
                  have hby : bb < (wr.setCell ⟨gx, k, none⟩ (.int .i64 (adO l x : Int))).heap.size := by simpa using hbl
                  have HSy : Hid (Calls Tryd.prog 24 #[.pointer (some ⟨B.p, 0, none⟩), .int .i64 (adO l i : Int), .int .i64 ((k : Int) + 1), .int .i64 (adO l x : Int)] (wr.setCell ⟨gx, k, none⟩ (.int .i64 (adO l x : Int))) fun e w' => e = .returned (.bool true) ∧ Fr B.mem (wr.setCell ⟨gx, k, none⟩ (.int .i64 (adO l x : Int))) w' ∧ At w' B 128 (hrOf A (upd wd' (adO l i + (k + 1)) (finO l i (k + 1))))) := hide (by
                    have := Store_in B 128 A wd' (adO l i) (m + 1) (k + 1) (finO l i (k + 1)) _ (unhide HMy).mm.at_ (unhide HMy).mm.inv (unhide HRm1) (by omega)
                    rw [show ((k + 1 : Nat) : Int) = (k : Int) + 1 by omega] at this
                    rw [hval] at this ⊢
                    exact this)
                  have HRy : Hid (Row (wr.setCell ⟨gx, k, none⟩ (.int .i64 (adO l x : Int))) gx m (fun q => .int .i64 (if q < k + 1 then finO l i (q + 1) else 0))) := hide (((unhide hRow).set k (.int .i64 (adO l x : Int)) (by omega)).ext fun q _ => by
                    by_cases e : q = k
                    · subst e; rw [upd_same, if_pos (by omega), hval]
                    · rw [upd_ne _ _ e]
                      by_cases e2 : q < k
                      · rw [if_pos e2, if_pos (by omega)]
                      · rw [if_neg e2, if_neg (by omega)])
                  have HVL := hide hval
                  clear hval hfin HCm
                  go_wp2_with fail
                  refine (unhide HSy).mono ?_
                  rintro e w6 ⟨rfl, hF6, hA6⟩
                  have HM6 := hide ((unhide HMy).store (unhide HS) (unhide HBk).1 hiL (by rw [unhide HRm1]; omega) hF6 hA6)
                  have HR6 := hide (Row.fr (unhide HRy) hF6 (fun hb => by have := ((unhide HS).mem _ hb).2; have := (unhide HGx).1; omega))
                  have cb6 : w6.cell? ⟨bb, 0, none⟩ = some (.int .i64 (adO l i : Int)) := (World.cell?_of_block (w := wr.setCell ⟨gx, k, none⟩ (.int .i64 (adO l x : Int))) (a := ⟨bb, 0, none⟩) (hF6.block _ hby (unhide HNB))).trans cby
                  have hb6 : bb < w6.heap.size := Nat.lt_of_lt_of_le hby hF6.size
                  clear hF6 hA6
                  have HLt : Hid ((rwO l i).W.length - (k + 1) < gk) := hide (by have := unhide hgk; omega)
                  go_wp2
                  go_roundg ((rwO l i).W.length - (k + 1))
                  case measure => exact unhide HLt
                  case rel => exact ⟨k + 1, by omega, hide rfl, by go_num, _, HM6, HR6, cb6, hb6⟩
                · have hval : finO l i (k + 1) = v := by rw [hfin]; unfold valO; rw [if_neg hneg]
                  have HMy := hide ((unhide hM').beside (unhide HS) (unhide HGx).1 (unhide HGx).2.1 (unhide HGx).2.2.1 (unhide HGx).2.2.2.1 ((Fr.refl (fun y => y = gx) wr).setCell (p := ⟨gx, k, none⟩) rfl (.int .i64 v)))
                  have cby : (wr.setCell ⟨gx, k, none⟩ (.int .i64 v)).cell? ⟨bb, 0, none⟩ = some (.int .i64 (adO l i : Int)) := by
                    rw [World.cell?_setCell_other _ _ _ _ (by intro e; injection e with e _; exact (unhide HGx).2.2.2.2 e.symm)]; exact cb
                  have hby : bb < (wr.setCell ⟨gx, k, none⟩ (.int .i64 v)).heap.size := by simpa using hbl
                  have HSy : Hid (Calls Tryd.prog 24 #[.pointer (some ⟨B.p, 0, none⟩), .int .i64 (adO l i : Int), .int .i64 ((k : Int) + 1), .int .i64 v] (wr.setCell ⟨gx, k, none⟩ (.int .i64 v)) fun e w' => e = .returned (.bool true) ∧ Fr B.mem (wr.setCell ⟨gx, k, none⟩ (.int .i64 v)) w' ∧ At w' B 128 (hrOf A (upd wd' (adO l i + (k + 1)) (finO l i (k + 1))))) := hide (by
                    have := Store_in B 128 A wd' (adO l i) (m + 1) (k + 1) (finO l i (k + 1)) _ (unhide HMy).mm.at_ (unhide HMy).mm.inv (unhide HRm1) (by omega)
                    rw [show ((k + 1 : Nat) : Int) = (k : Int) + 1 by omega] at this
                    rw [hval] at this ⊢
                    exact this)
                  have HRy : Hid (Row (wr.setCell ⟨gx, k, none⟩ (.int .i64 v)) gx m (fun q => .int .i64 (if q < k + 1 then finO l i (q + 1) else 0))) := hide (((unhide hRow).set k (.int .i64 v) (by omega)).ext fun q _ => by
                    by_cases e : q = k
                    · subst e; rw [upd_same, if_pos (by omega), hval]
                    · rw [upd_ne _ _ e]
                      by_cases e2 : q < k
                      · rw [if_pos e2, if_pos (by omega)]
                      · rw [if_neg e2, if_neg (by omega)])
                  have HVL := hide hval
                  clear hval hfin HCm
                  go_wp2_with fail
                  refine (unhide HSy).mono ?_
                  rintro e w6 ⟨rfl, hF6, hA6⟩
                  have HM6 := hide ((unhide HMy).store (unhide HS) (unhide HBk).1 hiL (by rw [unhide HRm1]; omega) hF6 hA6)
                  have HR6 := hide (Row.fr (unhide HRy) hF6 (fun hb => by have := ((unhide HS).mem _ hb).2; have := (unhide HGx).1; omega))
                  have cb6 : w6.cell? ⟨bb, 0, none⟩ = some (.int .i64 (adO l i : Int)) := (World.cell?_of_block (w := wr.setCell ⟨gx, k, none⟩ (.int .i64 v)) (a := ⟨bb, 0, none⟩) (hF6.block _ hby (unhide HNB))).trans cby
                  have hb6 : bb < w6.heap.size := Nat.lt_of_lt_of_le hby hF6.size
                  clear hF6 hA6
                  have HLt : Hid ((rwO l i).W.length - (k + 1) < gk) := hide (by have := unhide hgk; omega)
                  go_wp2
                  go_roundg ((rwO l i).W.length - (k + 1))
                  case measure => exact unhide HLt
                  case rel => exact ⟨k + 1, by omega, hide rfl, by go_num, _, HM6, HR6, cb6, hb6⟩
              · have ek : k = (rwO l i).W.length := by omega
                subst ek
                obtain ⟨_, _, _, _, c4', fz'⟩ := (unhide hM').cells i hiL
                have f4' := fz' 4 (by omega)
                have HRF : Hid (Row wr gx (roomN A (adO l i) - 1) (fun q => .int .i64 (finO l i (q + 1)))) := hide (by
                  rw [unhide HRm1, Nat.add_sub_cancel]
                  refine (unhide hRow).ext fun q _ => ?_
                  by_cases hq : q < (rwO l i).W.length
                  · rw [if_pos hq]
                  · rw [if_neg hq, unhide HFp q hq])
                have HME : Hid (M3 w (wr.setCell ⟨gl, i * 5 + 4, none⟩ (.slice (some ⟨gx, 0, none⟩) m m)) B pb base A L lv l gl (Fto A l (upd gw i gx) (i + 1)) (upd gw i gx) (i + 1) 0 wd') := hide (by
                  have h1 := (unhide hM').cell (unhide HS) i 4 hiL (by omega) ⟨adO l i, if hdO l i = 0 then 0 else (rwO l i).kd, if hdO l i = 0 then 0 else (rwO l i).sz, (rwO l i).ms, some ⟨gx, 0, none⟩, roomN A (adO l i) - 1, roomN A (adO l i) - 1⟩ (.slice (some ⟨gx, 0, none⟩) m m) (fun t ht => by
                    rw [upd_same, unhide HMd, unhide HRm1, Nat.add_sub_cancel]
                    match t, ht with
                    | 0, _ => rfl
                    | 1, _ => rfl
                    | 2, _ => rfl
                    | 3, _ => rfl
                    | 4, _ => rfl)
                  obtain ⟨y1, y2, y3, y4, y5⟩ := unhide HGx
                  exact (h1.next y1 y2 y3 (Row.fr (unhide HRF) ((Fr.refl (fun y => y = gl) wr).setCell (p := ⟨gl, i * 5 + 4, none⟩) rfl _) y2)).re fun j _ => fto_next A l gw i gx j)
                go_wp2
                go_roundw
                case rel => exact ⟨i + 1, by omega, by go_num, _, _, HME⟩
                case measure => simp [intOf]; omega
        · have e : i = ln := by omega
          subst e
          have HE := hide (unhide HP _ wr gw wd (unhide HL2) (unhide hM))
          clear HGl
          go_wp2
          go_ret3
          exact unhide HE
end Go.Proofs.YtinmaogbfcmagaaDoor
