/- SweepFrees, walked. -/
import Derived.Test.YtinmaogbfcmagaaDoorFe0
namespace Go.Proofs.YtinmaogbfcmagaaDoor
open Go.RowKit Go.Proofs.YtinmaogbfcmagaaDoor.Hp
theorem notB_nil {rb : Nat → Bool} {L : List Nat} (h : ∀ x ∈ L, rb x = false) : notB rb L = L.length := by
  unfold notB
  rw [List.countP_eq_length]
  intro x hx
  simp [h x hx]
/-- The roots so far. -/
def fromL (l : List (Nat × Rw)) (zs : List Int) (k : Nat) : List Value := (zs.take k).map (fun z => .int .i64 (frO l z))
structure Fe (w0 w : World) (B : HB) (base : Nat) (A : Nat → Kd) (wd : Nat → Int) (l : List (Nat × Rw)) (gl g : Nat) (zs : List Int) : Prop where
  at_ : At w B 128 (hrOf A wd)
  inv : Inv 128 A
  vars : Vars w
  far : Fr (fun _ => False) w0 w
  mem : ∀ j, B.mem j → w0.heap.size ≤ j ∧ 2 ≤ j ∧ j < base
  two : 2 ≤ base
  ads : ∀ j, j < l.length → w.cell? ⟨gl, j * 5, none⟩ = some (.int .i64 (adO l j : Int))
  glb : 0 < l.length → gl < base
  row : ∀ j, j < zs.length → w.cell? ⟨g, j, none⟩ = some (.int .i64 (zs.getD j 0))
  gb : g < base
  le : base ≤ w.heap.size
  lo : w0.heap.size ≤ base
theorem Fe.up {w0 w w' : World} {B : HB} {base : Nat} {A : Nat → Kd} {wd : Nat → Int} {l : List (Nat × Rw)} {gl g : Nat} {zs : List Int} (h : Fe w0 w B base A wd l gl g zs) {K : Nat → Prop} (q : Fr K w w') (hK : ∀ j, K j → base ≤ j) : Fe w0 w' B base A wd l gl g zs := by
  have hl := h.le
  have h2 := h.two
  have ho := h.lo
  have hn : ∀ j, j < base → ¬ K j := fun j hj x => by have := hK j x; omega
  exact ⟨h.at_.fr' q (fun b hb => hn b (h.mem b hb).2.2), h.inv, h.vars.fr q (hn 0 (by omega)) (hn 1 (by omega)), h.far.up q (fun j hj => by have := hK j hj; omega), h.mem, h.two,
    fun j hj => (World.cell?_of_block (w := w) (a := ⟨gl, j * 5, none⟩) (q.block gl (by have := h.glb (by omega); omega) (hn gl (h.glb (by omega))))).trans (h.ads j hj), h.glb,
    fun j hj => (World.cell?_of_block (w := w) (a := ⟨g, j, none⟩) (q.block g (by have := h.gb; omega) (hn g h.gb))).trans (h.row j hj), h.gb, Nat.le_trans h.le q.size, h.lo⟩
theorem Fe.push {w0 w w' : World} {B : HB} {base : Nat} {A : Nat → Kd} {wd : Nat → Int} {l : List (Nat × Rw)} {gl g : Nat} {zs : List Int} (h : Fe w0 w B base A wd l gl g zs) {v : Value} {k : Nat} {xs : List Value} (ho : w.ownsRow base 3 1 v k xs) {o : Obj} (hg : (w.alloc o).grownBy w' v.ownBlock) : Fe w0 w' B base A wd l gl g zs :=
  h.up (((Fr.refl _ w).alloc o).trans (Fr.grown hg)) (fun j e => (ho.lt j e.symm).1)
theorem Fe.start {w0 w w3 w5 : World} {B : HB} {pb base : Nat} {A : Nat → Kd} {L : List Rb} {lv : Value} {l : List (Nat × Rw)} {gl : Nat} {gw : Nat → Nat} {wd : Nat → Int} {g cap : Nat} {zs : List Int} (k : Fr (fun _ => False) w0 w) (hS : Ps w B pb base) (hM : M3 w w3 B pb base A L lv l gl (finL A l gw) gw l.length 0 wd) (q : Fr (fun j => w3.heap.size ≤ j) w3 w5) (ho : w5.ownsRow w3.heap.size 3 1 (.slice (some ⟨g, 0, none⟩) zs.length cap) zs.length (zs.map (Value.int .i64))) : Fe w0 w5 B w5.heap.size A wd l gl g zs := by
  have hs := k.size
  have hs2 := hM.mm.far.size
  have hs3 := q.size
  have hb := hM.mm.le
  have h2 := hS.two
  have hgl : ∀ j, j < l.length → w3.cell? ⟨gl, j * 5, none⟩ = some (.int .i64 (adO l j : Int)) := fun j hj => (hM.cells j hj).1
  have hgs : 0 < l.length → gl < w3.heap.size := fun h0 => World.block_lt_of_cell? w3 ⟨gl, 0 * 5, none⟩ (hgl 0 h0)
  refine ⟨hM.mm.at_.fr' q (fun b hb' x => by have := (hS.mem b hb').2; omega), hM.mm.inv, hM.mm.vars.fr q (by omega) (by omega), (k.trans hM.mm.far).up q (fun j hj => by omega), fun j hj => by have := hS.mem j hj; omega, by omega,
    fun j hj => (World.cell?_of_block (w := w3) (a := ⟨gl, j * 5, none⟩) (q.block gl (hgs (by omega)) (by have := hgs (by omega); omega))).trans (hgl j hj), fun h0 => by have := hgs h0; omega, fun j hj => ?_, (ho.lt g rfl).2, Nat.le_refl _, by omega⟩
  rw [ho.cellAt j (by omega)]
  simp [List.getD, hj]
theorem frO_rng {rs : List Rw} {A : Nat → Kd} {l : List (Nat × Rw)} (h : Mch rs A l) (hs : ∀ r ∈ rs, r.W.length ≤ 100) (hI : Inv 128 A) {z : Int} (hz : -9223372036854775808 ≤ z ∧ z < 9223372036854775808) : -9223372036854775808 ≤ frO l z ∧ frO l z < 9223372036854775808 := by
  unfold frO
  split
  · rename_i hc
    obtain ⟨x, hx1, _, hx3⟩ := neg_idx (n := l.length) hc.1 hc.2
    rw [hx3]
    have := (h.bk hs).2 x hx1
    have := room_in hI (x := adO l x) (by omega)
    omega
  · exact hz
theorem own_max {w : World} {base e size n : Nat} {v : Value} {xs : List Value} (h : w.ownsRow base e size v n xs) : n ≤ maxLen := by
  rcases h.2 with ⟨_, h3⟩ | ⟨g, cap, cur, _, _, _, h4, h5, _⟩
  · omega
  · omega
theorem fr_reach {w0 w W : World} {B : HB} {base : Nat} {A : Nat → Kd} {wd : Nat → Int} {l : List (Nat × Rw)} {gl g : Nat} {zs : List Int} (h : Fe w0 w B base A wd l gl g zs) {ao : Option Addr} {n cp : Nat} (hO : w.ownsRow base 3 1 (.slice ao n cp) n (fromL l zs n)) (hn : n = zs.length) (h2 : n ≤ 200) (hz : ∀ z ∈ zs, -9223372036854775808 ≤ frO l z ∧ frO l z < 9223372036854775808) (m : Nat) (hm : m ≤ n) (q : Fr (fun _ => False) w W) :
    Calls Tryd.prog 17 #[.pointer (some ⟨B.p, 0, none⟩), .slice ao m cp] W fun e w' => RchP W A wd ((zs.take m).map (frO l)) e w' := by
  have hl : ((zs.take m).map (frO l)).length = m := by rw [List.length_map, List.length_take]; omega
  have := Reached_any W B 128 A wd ao cp ((zs.take m).map (frO l)) (h.at_.quiet q) h.inv (by omega) (fun z hz' => by
    obtain ⟨y, hy, rfl⟩ := List.mem_map.1 hz'
    exact hz y (List.mem_of_mem_take hy)) (fun j hj => by
    rw [hl] at hj
    obtain ⟨ao', cp', e', hg'⟩ := own_form hO
    cases e'
    obtain ⟨g', hg⟩ := hg' (by omega)
    subst hg
    have hlt := hO.lt g' rfl
    refine ⟨g', 0, rfl, Nat.lt_of_lt_of_le hlt.2 q.size, ?_⟩
    rw [Nat.zero_add]
    refine cell_far q hlt.2 ?_
    rw [hO.cellAt j (by omega)]
    have hjz : j < zs.length := by omega
    have e1 : (List.map (fun z => Value.int .i64 (frO l z)) (zs.take n))[j]? = some (.int .i64 (frO l zs[j])) := by rw [List.getElem?_map, List.getElem?_take_of_lt (by omega), List.getElem?_eq_getElem hjz]; rfl
    have e2 : ((zs.take m).map (frO l)).getD j 0 = frO l zs[j] := by rw [List.getD, List.getElem?_map, List.getElem?_take_of_lt hj, List.getElem?_eq_getElem hjz]; rfl
    rw [e2]
    exact e1)
  rw [hl] at this
  exact this
theorem fe_collect {w0 w W : World} {B : HB} {base : Nat} {A : Nat → Kd} {wd : Nat → Int} {l : List (Nat × Rw)} {gl g : Nat} {zs : List Int} {rs : List Rw} (h : Fe w0 w B base A wd l gl g zs) (hc : Mch rs A l) (hs : ∀ r ∈ rs, r.W.length ≤ 100) (hl : l.length ≤ 40) (q : Fr (fun _ => False) w W) :
    Calls Tryd.prog 18 #[.pointer (some ⟨B.p, 0, none⟩), .slice none 0 0] W fun e w' => e = .returned (.int .i64 (l.length : Int)) ∧ At w' B 128 (hrOf (emptyA 128) wd) ∧ Vars w' ∧ Fr (fun _ => False) w0 w' := by
  have hb := blk_len (hc.bk hs).1
  refine (Collect_any W B 128 A wd none 0 [] (h.at_.quiet q) h.inv (h.vars.fr q id id) (fun k hk => (h.mem k hk).2.1) (by omega) (by simp) (by simp) (fun j hj => absurd hj (by simp))).mono ?_
  rintro e w' ⟨rb, A', hrb, rfl, hI, hR, hA, hV, hF⟩
  have hnone : ∀ y, rb y = false := fun y => by
    cases hb : rb y with
    | false => rfl
    | true => exact absurd ((hrb y).1 hb) (no_reach _)
  rw [notB_nil (fun y _ => hnone y), hb]
  have he : A' = emptyA 128 := empty_of hI fun y => by rw [hR y, hnone y]; rfl
  rw [he] at hA
  exact ⟨rfl, hA, hV, (h.far.trans q).up hF (fun k hk => (h.mem k hk).1)⟩
/-- The words of a list that was answered. -/
theorem blk_cells {w w' W : World} {ys : List Nat} {ao : Option Addr} {cp : Nat} (hO : w'.ownsRow w.heap.size 3 1 (.slice ao ys.length cp) ys.length (ys.map nv)) (q : Fr (fun _ => False) w' W) {j : Nat} (hj : j < ys.length) : ∃ g, ao = some ⟨g, 0, none⟩ ∧ g < W.heap.size ∧ W.cell? ⟨g, j, none⟩ = some (.int .i64 ((ys.getD j 0 : Nat) : Int)) := by
  obtain ⟨ao', cp', e', hg'⟩ := own_form hO
  cases e'
  obtain ⟨g', hg⟩ := hg' (by omega)
  subst hg
  have hlt := hO.lt g' rfl
  refine ⟨g', rfl, Nat.lt_of_lt_of_le hlt.2 q.size, cell_far q hlt.2 ?_⟩
  rw [hO.cellAt j (by omega)]
  simp [List.getD, hj, nv]
set_option maxRecDepth 100000 in
set_option maxHeartbeats 1000000 in
theorem frees_in (a0 : Option Addr) (cap : Nat) (rs : List Rw) (ao1 : Option Addr) (cp1 : Nat) (zs1 : List Int) (ao2 : Option Addr) (cp2 : Nat) (zs2 : List Int) (w : World) (hV : Vars w) (hm : rs.length ≤ maxLen) (hX : ∀ i r, rs[i]? = some r → RawX w a0 i r)
    (hz1 : ∀ z ∈ zs1, -9223372036854775808 ≤ z ∧ z < 9223372036854775808) (hc1 : ∀ j, j < zs1.length → ∃ b off, ao1 = some ⟨b, off, none⟩ ∧ b < w.heap.size ∧ w.cell? ⟨b, off + j, none⟩ = some (.int .i64 (zs1.getD j 0)))
    (hz2 : ∀ z ∈ zs2, -9223372036854775808 ≤ z ∧ z < 9223372036854775808) (hc2 : ∀ j, j < zs2.length → ∃ b off, ao2 = some ⟨b, off, none⟩ ∧ b < w.heap.size ∧ w.cell? ⟨b, off + j, none⟩ = some (.int .i64 (zs2.getD j 0)))
    (hf : fewB rs = true) (h1 : zs1.length ≤ 100) (h2 : zs2.length ≤ 100) : Calls Tryd.prog 5 #[.slice a0 rs.length cap, .slice ao1 zs1.length cp1, .slice ao2 zs2.length cp2] w fun e w' => e = .returned (.bool true) ∧ Below w.heap.size w w' := by
  have HA := hide (anchor_any w hV)
  obtain ⟨i0, hi, hi0, hi1, hi2⟩ := info_parts Tryd.info3
  have HX := hide hX
  have HZ1 := hide hz1
  have HZ2 := hide hz2
  have HC1 := hide hc1
  have HC2 := hide hc2
  have HM := hide hm
  have HF := hide hf
  have HW : Hid (∀ r ∈ rs, r.W.length ≤ 100) := hide (by
    unfold fewB at hf
    simp only [Bool.and_eq_true, decide_eq_true_eq, List.all_eq_true] at hf
    exact hf.2)
  clear hX hz1 hz2 hc1 hc2 hm hf hV
  go_enter Tryd.func5, Tryd.ntmps5
  go_wp2_with fail
  refine (unhide HA).mono ?_
  rintro e w1 ⟨rfl, hF1, hV1⟩
  have HX1 := hide (And.intro hF1 hV1)
  have HFw : Hid (Calls Tryd.prog 11 #[.slice a0 rs.length cap] w1 fun e w' => e = .returned (.bool true) ∧ Fr (fun _ => False) w1 w') := hide (by
    have := few_any w1 a0 cap rs (unhide HM) (fun i r hr => (unhide HX i r hr).far hF1)
    rw [unhide HF] at this
    exact this)
  clear hF1 hV1 HA
  go_wp2_with fail
  refine (unhide HFw).mono ?_
  rintro e w2 ⟨rfl, hF2⟩
  have HX2 : Hid (Fr (fun _ => False) w w2 ∧ Vars w2) := hide ⟨(unhide HX1).1.trans hF2, (unhide HX1).2.fr hF2 id id⟩
  have HMd : Hid (Calls Tryd.prog 12 #[.slice a0 rs.length cap] w2 fun e w' => MadeP w2 rs e w') := hide (by
    obtain ⟨r1, r2⟩ := raws_few (fun i r hr => (unhide HX i r hr).far (unhide HX2).1) (unhide HF)
    exact made_any w2 a0 cap rs (unhide HX2).2 r1 r2)
  clear hF2 HX1 HFw
  go_wp2_with fail
  refine (unhide HMd).mono ?_
  rintro e w3 ⟨B, pb, base, A, L, lv, l, gl, gw, wd, lo, cp, rfl, hlo, hS, hCh, hM⟩
  have HS := hide hS
  have HCh := hide hCh
  have HM3 := hide hM
  obtain ⟨ln, hln⟩ : ∃ ln, ln = l.length := ⟨_, rfl⟩
  rw [← hln] at hlo ⊢
  have HLn := hide hln
  have HLo := hide hlo
  clear hS hCh hM HMd hln hlo
  have hln40 : ln ≤ 40 := by
    have a1 := unhide HLn
    have a2 := (unhide HCh).len
    have a3 := unhide HF
    unfold fewB at a3
    simp only [Bool.and_eq_true, decide_eq_true_eq] at a3
    omega
  unfold HB.ptr
  have HR1 : Hid (∀ j, j < zs1.length → ∃ b off, ao1 = some ⟨b, off, none⟩ ∧ b < w3.heap.size ∧ w3.cell? ⟨b, off + j, none⟩ = some (.int .i64 (zs1.getD j 0))) := hide fun j hj => by
    obtain ⟨b, off, e1, e2, e3⟩ := unhide HC1 j hj
    have q := (unhide HX2).1.trans (unhide HM3).mm.far
    exact ⟨b, off, e1, Nat.lt_of_lt_of_le e2 q.size, cell_far q e2 e3⟩
  have HR2 : Hid (∀ j, j < zs2.length → ∃ b off, ao2 = some ⟨b, off, none⟩ ∧ b < w3.heap.size ∧ w3.cell? ⟨b, off + j, none⟩ = some (.int .i64 (zs2.getD j 0))) := hide fun j hj => by
    obtain ⟨b, off, e1, e2, e3⟩ := unhide HC2 j hj
    have q := (unhide HX2).1.trans (unhide HM3).mm.far
    exact ⟨b, off, e1, Nat.lt_of_lt_of_le e2 q.size, cell_far q e2 e3⟩
  have HO0 : Hid ((w3.alloc (.cells #[] 3)).ownsRow w3.heap.size 3 1 (.slice (some ⟨w3.heap.size, 0, none⟩) 0 0) 0 []) := hide (World.ownsRow_lit w3 #[] 0 (Nat.le_refl _) (by decide) rfl)
  clear HC1 HC2
  go_wp2_with (first | (at_builtin; refine wpList_append_ints _ rfl _ _ 29 rfl w3.heap.size 3 i0 Tryd.underlying29 hi hi0 hi1 hi2 g4 zs1.length cap4 (zs1.map (Value.int .i64)) rfl (unhide HO4).1 ao2 cp2 zs2 rfl (fun j hj => (by obtain ⟨b, off, e1, e2, e3⟩ := unhide HR2 j hj; exact ⟨b, off, e1, (World.cell?_of_block (w := w3) (a := ⟨b, off + j, none⟩) ((unhide HO4).2.block b e2 (by omega))).trans e3⟩)) (by omega) (unhide HO4).2.size ?_; intro g5 cap5 w5 hown5 hgrow5; have HO5 : Hid (w5.ownsRow w3.heap.size 3 1 (.slice (some ⟨g5, 0, none⟩) (zs1.length + zs2.length) cap5) (zs1.length + zs2.length) (zs1.map (Value.int .i64) ++ zs2.map (Value.int .i64)) ∧ Fr (fun j => w3.heap.size ≤ j) w3 w5) := hide ⟨hown5, (unhide HO4).2.trans ((Fr.grown hgrow5).mono (fun j e => by have := ((unhide HO4).1.lt j e.symm).1; exact this))⟩; clear hown5 hgrow5; obtain ⟨n, hn⟩ : ∃ n, n = zs1.length + zs2.length := ⟨_, rfl⟩; rw [← hn]; have hn200 : n ≤ 200 := (by omega); have HN := hide hn; clear hn) | (at_builtin; refine wpList_append_ints _ rfl _ _ 29 rfl w3.heap.size 3 i0 Tryd.underlying29 hi hi0 hi1 hi2 w3.heap.size 0 0 [] rfl (unhide HO0) ao1 cp1 zs1 rfl (fun j hj => (by obtain ⟨b, off, e1, e2, e3⟩ := unhide HR1 j hj; exact ⟨b, off, e1, cell_far ((Fr.refl _ w3).alloc _) e2 e3⟩)) (by omega) (by simp) ?_; intro g4 cap4 w4 hown4 hgrow4; rw [Nat.zero_add, List.nil_append] at hown4; have HO4 : Hid (w4.ownsRow w3.heap.size 3 1 (.slice (some ⟨g4, 0, none⟩) zs1.length cap4) zs1.length (zs1.map (Value.int .i64)) ∧ Fr (fun j => w3.heap.size ≤ j) w3 w4) := hide ⟨hown4, ((Fr.refl _ w3).alloc _).trans ((Fr.grown hgrow4).mono (fun j e => by cases e; exact Nat.le_refl _))⟩; clear hown4 hgrow4))
  obtain ⟨zs, hzs⟩ : ∃ zs, zs = zs1 ++ zs2 := ⟨_, rfl⟩
  have HFe : Hid (Fe w w5 B w5.heap.size A wd l gl g5 zs) := hide (by
    obtain ⟨o1, o2⟩ := unhide HO5
    rw [← List.map_append, ← List.length_append, ← hzs] at o1
    exact Fe.start (unhide HX2).1 (unhide HS) (unhide HM3) o2 o1)
  have HZ : Hid (∀ z ∈ zs, -9223372036854775808 ≤ z ∧ z < 9223372036854775808) := hide (by
    rw [hzs]
    intro z hz
    rcases List.mem_append.1 hz with h | h
    · exact unhide HZ1 z h
    · exact unhide HZ2 z h)
  have HZs := hide hzs
  have HNz : Hid (n = zs.length) := hide (by rw [hzs, unhide HN, List.length_append])
  obtain ⟨base2, hbase2⟩ : ∃ b, b = w5.heap.size := ⟨_, rfl⟩
  rw [← hbase2] at HFe
  clear HO5 HO4 HO0 HR1 HR2 HX2 HS HM3 HZ1 HZ2 hbase2 hzs HX HM
  go_wp2
  go_loopw [10, 51] (fun v i wr => ∃ k : Nat, k ≤ n ∧ i = .int .i64 k ∧ ∃ ao cp, v = .slice ao k cp ∧ Hid (k = 0 → ao = none) ∧ Hid (Fe w wr B base2 A wd l gl g5 zs) ∧ Hid (wr.ownsRow base2 3 1 (.slice ao k cp) k (fromL l zs k))) (fun _ i _ => n - (intOf i).toNat)
  case atStart => exact ⟨0, by omega, rfl, none, 0, rfl, hide (fun _ => rfl), HFe, hide (World.ownsRow_nil _ _ _ _)⟩
  case round =>
    obtain ⟨k, hk, rfl, ao, cp', rfl, hnil, hFe, hO⟩ := hrel
    by_cases hlt : k < n
    · have hkz : k < zs.length := by have := unhide HNz; omega
      have cz := (unhide hFe).row k hkz
      have hgb := (unhide hFe).gb
      have hle := (unhide hFe).le
      obtain ⟨z, hz⟩ : ∃ z, z = zs.getD k 0 := ⟨_, rfl⟩
      rw [← hz] at cz
      have hzm : z ∈ zs := by rw [hz]; simp [List.getD, hkz]
      have hzr := unhide HZ z hzm
      have HTk : Hid (∀ u, u = frO l z → fromL l zs k ++ [.int .i64 u] = fromL l zs (k + 1)) := hide fun u hu => by
        unfold fromL
        rw [List.take_succ_eq_append_getElem hkz, List.map_append, hu, hz]
        simp [List.getD, hkz]
      clear hz hzm
      by_cases hneg : z < 0
      · by_cases hl0 : 0 < ln
        · obtain ⟨x, hx1, hx2, hx3⟩ := neg_idx (n := ln) hneg hl0
          have hfr : frO l z = (adO l x : Int) := by unfold frO; rw [← unhide HLn, if_pos ⟨hneg, hl0⟩, hx3]
          have hlo := unhide HLo hl0
          subst hlo
          have cx := (unhide hFe).ads x (by have := unhide HLn; omega)
          have hkn : ¬ ln = 0 := by omega
          have hd0 : ((ln : Int) == 0) = false := by simp; omega
          have hw1 : IntKind.i64.wrap (z + 1) = z + 1 := by rw [Go.IntKind.wrap_i64]; omega
          have hw2 : IntKind.i64.wrap (-(z + 1)) = -(z + 1) := by rw [Go.IntKind.wrap_i64]; omega
          have hw3 : IntKind.i64.wrap (x : Int) = (x : Int) := by rw [Go.IntKind.wrap_i64]; omega
          have hglb := (unhide hFe).glb (by have := unhide HLn; omega)
          have HFr : Hid ((adO l x : Int) = frO l z) := hide hfr.symm
          clear hfr hx3 hkz
          go_wp2_with (first | (at_builtin; refine wpList_append_own _ rfl _ _ 29 rfl base2 3 i0 (.int .i64 0) 1 8 Tryd.underlying29 hi hi0 hi1 hi2 rfl (by decide) (.slice ao k cp') k (fromL l zs k) rfl ((unhide hO).alloc _) ⟨wr.heap.size, 0, none⟩ 1 1 [.int .i64 (adO l x : Int)] rfl rfl (cell_one_new _ _ _) (ints_oneCell .i64 [(adO l x : Int)]) (by unfold maxLen; omega) (by omega) (by simp; omega) ?_; intro v' w6 hown6 hgrow6 hnil6; obtain ⟨ao6, cp6, hv6, _⟩ := own_form hown6; subst hv6))
          have HFe6 := hide ((unhide hFe).push (unhide hO) hgrow6)
          have HO6 : Hid (w6.ownsRow base2 3 1 (.slice ao6 (k + 1) cp6) (k + 1) (fromL l zs (k + 1))) := hide (by
            rw [← unhide HTk _ (unhide HFr)]
            exact hown6)
          clear hown6 hgrow6 hnil6
          go_wp2
          go_roundw
          case rel => exact ⟨k + 1, by omega, by go_num, ao6, cp6, rfl, hide (fun h => by omega), HFe6, HO6⟩
          case measure => simp [intOf]; omega
        · have HFr : Hid (z = frO l z) := hide (by unfold frO; rw [← unhide HLn, if_neg (fun h => hl0 h.2)])
          have hl1 : ln = 0 := by omega
          subst hl1
          clear hl0 hkz
          go_wp2_with (first | (at_builtin; refine wpList_append_own _ rfl _ _ 29 rfl base2 3 i0 (.int .i64 0) 1 8 Tryd.underlying29 hi hi0 hi1 hi2 rfl (by decide) (.slice ao k cp') k (fromL l zs k) rfl ((unhide hO).alloc _) ⟨wr.heap.size, 0, none⟩ 1 1 [.int .i64 z] rfl rfl (cell_one_new _ _ _) (ints_oneCell .i64 [z]) (by unfold maxLen; omega) (by omega) (by simp; omega) ?_; intro v' w6 hown6 hgrow6 hnil6; obtain ⟨ao6, cp6, hv6, _⟩ := own_form hown6; subst hv6))
          have HFe6 := hide ((unhide hFe).push (unhide hO) hgrow6)
          have HO6 : Hid (w6.ownsRow base2 3 1 (.slice ao6 (k + 1) cp6) (k + 1) (fromL l zs (k + 1))) := hide (by
            rw [← unhide HTk _ (unhide HFr)]
            exact hown6)
          clear hown6 hgrow6 hnil6
          go_wp2
          go_roundw
          case rel => exact ⟨k + 1, by omega, by go_num, ao6, cp6, rfl, hide (fun h => by omega), HFe6, HO6⟩
          case measure => simp [intOf]; omega
      · have HFr : Hid (z = frO l z) := hide (by unfold frO; rw [if_neg (fun h => hneg h.1)])
        clear hkz
        go_wp2_with (first | (at_builtin; refine wpList_append_own _ rfl _ _ 29 rfl base2 3 i0 (.int .i64 0) 1 8 Tryd.underlying29 hi hi0 hi1 hi2 rfl (by decide) (.slice ao k cp') k (fromL l zs k) rfl ((unhide hO).alloc _) ⟨wr.heap.size, 0, none⟩ 1 1 [.int .i64 z] rfl rfl (cell_one_new _ _ _) (ints_oneCell .i64 [z]) (by unfold maxLen; omega) (by omega) (by simp; omega) ?_; intro v' w6 hown6 hgrow6 hnil6; obtain ⟨ao6, cp6, hv6, _⟩ := own_form hown6; subst hv6))
        have HFe6 := hide ((unhide hFe).push (unhide hO) hgrow6)
        have HO6 : Hid (w6.ownsRow base2 3 1 (.slice ao6 (k + 1) cp6) (k + 1) (fromL l zs (k + 1))) := hide (by
          rw [← unhide HTk _ (unhide HFr)]
          exact hown6)
        clear hown6 hgrow6 hnil6
        go_wp2
        go_roundw
        case rel => exact ⟨k + 1, by omega, by go_num, ao6, cp6, rfl, hide (fun h => by omega), HFe6, HO6⟩
        case measure => simp [intOf]; omega
    · have e : k = n := by omega
      subst e
      have hcap := own_cap (unhide hO)
      have hn1 : zs1.length ≤ k := by have := unhide HN; omega
      have hn2 : zs1.length ≤ cp' := by omega
      have hmap : Option.map (fun x => Addr.add x 0) ao = ao := by
        obtain ⟨ao', cp', e', hg'⟩ := own_form (unhide hO)
        cases e'
        by_cases h0 : k = 0
        · rw [unhide hnil h0]; rfl
        · obtain ⟨g', hg⟩ := hg' (by omega)
          rw [hg]; rfl
      have HRng : Hid (∀ z ∈ zs, -9223372036854775808 ≤ frO l z ∧ frO l z < 9223372036854775808) := hide fun z hz => frO_rng (unhide HCh) (unhide HW) (unhide hFe).inv (unhide HZ z hz)
      have HCa : Hid (Calls Tryd.prog 17 #[.pointer (some ⟨B.p, 0, none⟩), .slice ao zs1.length cp'] wr fun e w' => RchP wr A wd ((zs.take zs1.length).map (frO l)) e w') := hide (fr_reach (unhide hFe) (unhide hO) (unhide HNz) hn200 (unhide HRng) _ hn1 (Fr.refl _ _))
      have HCb : Hid (∀ W, Fr (fun _ => False) wr W → Calls Tryd.prog 17 #[.pointer (some ⟨B.p, 0, none⟩), .slice ao k cp'] W fun e w' => RchP W A wd ((zs.take k).map (frO l)) e w') := hide fun W q => fr_reach (unhide hFe) (unhide hO) (unhide HNz) hn200 (unhide HRng) _ (Nat.le_refl _) q
      have HSub : Hid (∀ z ∈ (zs.take zs1.length).map (frO l), z ∈ (zs.take k).map (frO l)) := hide fun z hz => by
        obtain ⟨y, hy, rfl⟩ := List.mem_map.1 hz
        refine List.mem_map.2 ⟨y, ?_, rfl⟩
        rw [unhide HNz, List.take_length]
        exact List.mem_of_mem_take hy
      clear hO hnil hcap HZ HRng HLo hlt hln40 HFe hk
      go_wp2_with fail
      refine (unhide HCa).mono ?_
      rintro e w7 ⟨ya, hy1, hy2, aoa, cpa, rfl, hOa, hFa⟩
      have HYa := hide (And.intro hy2 (And.intro hOa hFa))
      obtain ⟨ma, hma⟩ : ∃ m, m = ya.length := ⟨_, rfl⟩
      rw [← hma]
      have HMa := hide hma
      clear hy1 hy2 hOa hFa hma HCa
      go_wp2_with fail
      refine (unhide HCb _ (unhide HYa).2.2).mono ?_
      rintro e w8 ⟨yb, hy1, hy2, aob, cpb, rfl, hOb, hFb⟩
      have HYb : Hid (∀ x, x ∈ ya → x ∈ yb) := hide fun x hx => (hy2 x).2 (((unhide HYa).1 x).1 hx |>.mono (unhide HSub))
      have HCla : Hid (∀ j, j < ya.length → ∃ g, aoa = some ⟨g, 0, none⟩ ∧ g < w8.heap.size ∧ w8.cell? ⟨g, j, none⟩ = some (.int .i64 ((ya.getD j 0 : Nat) : Int))) := hide fun j hj => blk_cells (unhide HYa).2.1 hFb hj
      have HClb : Hid (∀ j, j < yb.length → ∃ g, aob = some ⟨g, 0, none⟩ ∧ g < w8.heap.size ∧ w8.cell? ⟨g, j, none⟩ = some (.int .i64 ((yb.getD j 0 : Nat) : Int))) := hide fun j hj => blk_cells hOb (Fr.refl _ _) hj
      have HQ8 : Hid (Fr (fun _ => False) wr w8) := hide ((unhide HYa).2.2.trans hFb)
      have HLa : Hid (ya.length ≤ maxLen ∧ yb.length ≤ maxLen) := hide ⟨own_max (unhide HYa).2.1, own_max hOb⟩
      have hla : ma ≤ 9223372036854775807 := by
        have := (unhide HLa).1
        have := unhide HMa
        unfold maxLen at *; omega
      obtain ⟨mb, hmb⟩ : ∃ m, m = yb.length := ⟨_, rfl⟩
      rw [← hmb]
      have hlb : mb ≤ 9223372036854775807 := by
        have := (unhide HLa).2
        unfold maxLen at *; omega
      have HMb := hide hmb
      have HCl : Hid (∀ W, Fr (fun _ => False) wr W → Calls Tryd.prog 18 #[.pointer (some ⟨B.p, 0, none⟩), .slice none 0 0] W fun e w' => e = .returned (.int .i64 (ln : Int)) ∧ At w' B 128 (hrOf (emptyA 128) wd) ∧ Vars w' ∧ Fr (fun _ => False) w w') := hide fun W q => by
        rw [unhide HLn]
        have a2 := (unhide HCh).len
        have a3 := unhide HF
        unfold fewB at a3
        simp only [Bool.and_eq_true, decide_eq_true_eq] at a3
        exact fe_collect (unhide hFe) (unhide HCh) (unhide HW) (by omega) q
      have HMem := hide (unhide hFe).mem
      clear hy1 hy2 hOb hFb hmb HCb HYa HLa HSub hFe
      go_wp2
      go_loopw [88] (fun i wr => ∃ t : Nat, t ≤ ma ∧ i = .int .i64 t ∧ w8 = wr) (fun i _ => ma - (intOf i).toNat)
      case atStart => exact ⟨0, by omega, rfl, rfl⟩
      case round =>
        obtain ⟨t, ht, rfl, rfl⟩ := hrel
        by_cases hlt : t < ma
        · obtain ⟨ga, hga, hga2, ca⟩ := unhide HCla t (by have := unhide HMa; omega)
          subst hga
          obtain ⟨x, hx⟩ : ∃ x, x = ya.getD t 0 := ⟨_, rfl⟩
          rw [← hx] at ca
          obtain ⟨jx, hjx1, hjx2⟩ := mem_getD (unhide HYb x (by rw [hx]; simp [List.getD, show t < ya.length by have := unhide HMa; omega]))
          have HJ : Hid (∃ j, j < mb ∧ yb.getD j 0 = x) := hide ⟨jx, by rw [unhide HMb]; exact hjx1, hjx2⟩
          clear hx hjx1 hjx2
          go_wp2
          go_loopw [17, 94] (fun v i wr => ∃ s : Nat, s ≤ mb ∧ i = .int .i64 s ∧ w8 = wr ∧ ∃ bb : Bool, v = .bool bb ∧ Hid (bb = true ↔ ∃ j, j < s ∧ yb.getD j 0 = x)) (fun _ i _ => mb - (intOf i).toNat)
          case atStart => exact ⟨0, by omega, rfl, rfl, false, rfl, hide (by simp)⟩
          case round =>
            obtain ⟨s, hs, rfl, rfl, bb, rfl, hbb⟩ := hrel
            by_cases hls : s < mb
            · obtain ⟨gb, hgb, hgb2, cb⟩ := unhide HClb s (by have := unhide HMb; omega)
              subst hgb
              obtain ⟨y, hy⟩ : ∃ y, y = yb.getD s 0 := ⟨_, rfl⟩
              rw [← hy] at cb
              have HY := hide hy
              clear hy
              cases bb with
              | true =>
                have HB2 : Hid (true = true ↔ ∃ j, j < s + 1 ∧ yb.getD j 0 = x) := hide (by
                  obtain ⟨j, h1, h2⟩ := (unhide hbb).1 rfl
                  exact ⟨fun _ => ⟨j, by omega, h2⟩, fun _ => rfl⟩)
                go_wp2
                go_roundw
                case rel => exact ⟨s + 1, by omega, by go_num, trivial, true, rfl, HB2⟩
                case measure => simp [intOf]; omega
              | false =>
                by_cases hxy : x = y
                · have HB2 : Hid (true = true ↔ ∃ j, j < s + 1 ∧ yb.getD j 0 = x) := hide ⟨fun _ => ⟨s, by omega, by rw [← unhide HY, hxy]⟩, fun _ => rfl⟩
                  subst hxy
                  go_wp2
                  go_roundw
                  case rel => exact ⟨s + 1, by omega, by go_num, trivial, true, rfl, HB2⟩
                  case measure => simp [intOf]; omega
                · have HB2 : Hid (false = true ↔ ∃ j, j < s + 1 ∧ yb.getD j 0 = x) := hide (by
                    constructor
                    · intro h; cases h
                    · rintro ⟨j, h1, h2⟩
                      by_cases e : j = s
                      · exfalso; rw [e, ← unhide HY] at h2; exact hxy h2.symm
                      · exact (unhide hbb).2 ⟨j, by omega, h2⟩)
                  have hne : ¬ ((x : Int) = (y : Int)) := by omega
                  go_wp2
                  go_roundw
                  case rel => exact ⟨s + 1, by omega, by go_num, trivial, false, by simp; omega, HB2⟩
                  case measure => simp [intOf]; omega
            · have e : s = mb := by omega
              subst e
              obtain rfl : bb = true := (unhide hbb).2 (unhide HJ)
              clear hbb HJ
              go_wp2
              go_roundw
              case rel => exact ⟨t + 1, by omega, by go_num, trivial⟩
              case measure => simp [intOf]; omega
        · have e : t = ma := by omega
          subst e
          clear HCla HClb
          go_wp2_with fail
          refine (unhide HCl _ (unhide HQ8)).mono ?_
          rintro e w9 ⟨rfl, hA9, hV9, hF9⟩
          have HX9 := hide (And.intro hA9 (And.intro hV9 hF9))
          have HSp : Hid (Calls Tryd.prog 21 #[.pointer (some ⟨B.p, 0, none⟩)] w9 fun e w' => e = .returned (.int .i64 127) ∧ w' = w9) := hide (Spans_empty B 128 wd w9 hA9)
          have HAl : Hid (Calls Tryd.prog 22 #[.pointer (some ⟨B.p, 0, none⟩), .int .i64 8128] w9 fun e w' => e = .returned (.tuple #[.int .i64 64, .bool true]) ∧ Below w.heap.size w w') := hide (by
            refine (Alloc_to B 128 (emptyA 128) wd 8128 w9 hA9 (emptyA_inv 128) hV9 (fun j hj => ((unhide HMem) j hj).2.1) (by decide) (by decide) goes_all).mono ?_
            rintro e w' ⟨rfl, hF, _⟩
            exact ⟨rfl, (hF9.up hF (fun j hj => ((unhide HMem) j hj).1)).below (Nat.le_refl _) (fun k (x : False) => x.elim)⟩)
          clear hA9 hV9 hF9 HCl
          go_wp2_with (first | (go_at_call 21; refine (unhide HSp).mono ?_; rintro e w' ⟨rfl, rfl⟩) | (go_at_call 22; refine (unhide HAl).mono ?_; rintro e w10 ⟨rfl, hB10⟩))
          go_ret
          exact ⟨rfl, hB10⟩
theorem frees_out (a0 : Option Addr) (cap : Nat) (rs : List Rw) (ao1 : Option Addr) (n1 cp1 : Nat) (ao2 : Option Addr) (n2 cp2 : Nat) (w : World) (hV : Vars w) (hm : rs.length ≤ maxLen) (hX : ∀ i r, rs[i]? = some r → RawX w a0 i r) (hn1 : n1 ≤ maxLen) (hn2 : n2 ≤ maxLen)
    (h : fewB rs = false ∨ 100 < n1 ∨ 100 < n2) : Calls Tryd.prog 5 #[.slice a0 rs.length cap, .slice ao1 n1 cp1, .slice ao2 n2 cp2] w fun e w' => e = .returned (.bool true) ∧ Below w.heap.size w w' := by
  have HA := hide (anchor_any w hV)
  have HX := hide hX
  have HM := hide hm
  unfold maxLen at hn1 hn2
  clear hX hm hV
  go_enter Tryd.func5, Tryd.ntmps5
  go_wp2_with fail
  refine (unhide HA).mono ?_
  rintro e w1 ⟨rfl, hF1, _⟩
  have HFw := hide (few_any w1 a0 cap rs (unhide HM) (fun i r hr => (unhide HX i r hr).far hF1))
  have HX1 := hide hF1
  clear hF1 HA HX HM
  go_wp2_with fail
  refine (unhide HFw).mono ?_
  rintro e w2 ⟨rfl, hF2⟩
  have HB := hide (((unhide HX1).trans hF2).below (Nat.le_refl _) (fun k (x : False) => x.elim))
  clear hF2 HX1 HFw
  generalize fewB rs = fb at *
  rcases h with rfl | h | h
  · go_wp2
    go_ret
    exact ⟨rfl, unhide HB⟩
  · cases fb with
    | true =>
      go_wp2
      go_ret
      exact ⟨rfl, unhide HB⟩
    | false =>
      go_wp2
      go_ret
      exact ⟨rfl, unhide HB⟩
  · cases fb with
    | true =>
      by_cases h' : 100 < n1
      · go_wp2
        go_ret
        exact ⟨rfl, unhide HB⟩
      · go_wp2
        go_ret
        exact ⟨rfl, unhide HB⟩
    | false =>
      go_wp2
      go_ret
      exact ⟨rfl, unhide HB⟩
theorem frees_w (a0 : Option Addr) (cap : Nat) (rs : List Rw) (ao1 : Option Addr) (cp1 : Nat) (zs1 : List Int) (ao2 : Option Addr) (cp2 : Nat) (zs2 : List Int) (w : World) (hV : Vars w) (hm : rs.length ≤ maxLen) (hX : ∀ i r, rs[i]? = some r → RawX w a0 i r)
    (hm1 : zs1.length ≤ maxLen) (hz1 : ∀ z ∈ zs1, -9223372036854775808 ≤ z ∧ z < 9223372036854775808) (hc1 : ∀ j, j < zs1.length → ∃ b off, ao1 = some ⟨b, off, none⟩ ∧ b < w.heap.size ∧ w.cell? ⟨b, off + j, none⟩ = some (.int .i64 (zs1.getD j 0)))
    (hm2 : zs2.length ≤ maxLen) (hz2 : ∀ z ∈ zs2, -9223372036854775808 ≤ z ∧ z < 9223372036854775808) (hc2 : ∀ j, j < zs2.length → ∃ b off, ao2 = some ⟨b, off, none⟩ ∧ b < w.heap.size ∧ w.cell? ⟨b, off + j, none⟩ = some (.int .i64 (zs2.getD j 0))) :
    Calls Tryd.prog 5 #[.slice a0 rs.length cap, .slice ao1 zs1.length cp1, .slice ao2 zs2.length cp2] w fun e w' => e = .returned (.bool true) ∧ Below w.heap.size w w' := by
  by_cases h1 : zs1.length ≤ 100
  · by_cases h2 : zs2.length ≤ 100
    · cases hf : fewB rs with
      | true => exact frees_in a0 cap rs ao1 cp1 zs1 ao2 cp2 zs2 w hV hm hX hz1 hc1 hz2 hc2 hf h1 h2
      | false => exact frees_out a0 cap rs ao1 _ cp1 ao2 _ cp2 w hV hm hX hm1 hm2 (.inl hf)
    · exact frees_out a0 cap rs ao1 _ cp1 ao2 _ cp2 w hV hm hX hm1 hm2 (.inr (.inr (by omega)))
  · exact frees_out a0 cap rs ao1 _ cp1 ao2 _ cp2 w hV hm hX hm1 hm2 (.inr (.inl (by omega)))
end Go.Proofs.YtinmaogbfcmagaaDoor
