import Derived.Test.YtheknbfbneghgaaGreatDoorMa
import Derived.Test.YtheknbfbneghgaaGreatDoorQg
import Derived.Test.YtheknbfbneghgaaGreatDoorQe
set_option linter.unusedVariables false
set_option linter.unusedSimpArgs false
set_option maxRecDepth 100000
namespace Go.Proofs.YtheknbfbneghgaaGreatDoor.Jj
open Go.RowKit Go.Proofs.YtheknbfbneghgaaGreatDoor Go.Proofs.YtheknbfbneghgaaGreatDoor.Lx Go.Proofs.YtheknbfbneghgaaGreatDoor.Px
def KidsAt (w : World) (kv : Value) (l : List Tree) : Prop := ∃ cs, w.ownsRow 0 25 7 kv l.length cs ∧ CellsS w l (fun b => b < w.heap.size) cs
theorem KidsAt.of {w : World} {lo hi : Nat} {kv : Value} {l : List Tree} (h : zq w lo hi kv l) (hh : hi ≤ w.heap.size) : KidsAt w kv l := by
  obtain ⟨cs, h1, h2, h3⟩ := h
  exact ⟨cs, own_low (Nat.zero_le _) h1, yZ h3 _ (fun b hb => ⟨om, rfl⟩)⟩
theorem KidsAt.grown {w w' : World} {kv : Value} {l : List Tree} (h : KidsAt w kv l) (hg : w.grownBy w' none) : KidsAt w' kv l := by
  obtain ⟨cs, h1, h3⟩ := h
  have hz := hg.size
  exact ⟨cs, ownsRow_blk h1 (fun g hq => hg.block g (h1.lt g hq).2 zK), yZ h3 _ (fun b hb => ⟨om, hg.block b hb zK⟩)⟩
theorem cells_at {w : World} {S : Nat → Prop} : ∀ {l : List Tree} {cs : List Value} (h : CellsS w l S cs) (i : Nat) (kd : Int) (tx : List UInt8) (nm ps : Int) (ks : List Tree), l[i]? = some (.mk kd tx nm ps ks) →
    ∃ kv kc, w.ownsRow 0 25 7 kv ks.length kc ∧ (∀ g, kv.ownBlock = some g → S g) ∧ CellsS w ks (fun b => S b ∧ some b ≠ kv.ownBlock) kc ∧ ∀ j, j < 7 → cs[i * 7 + j]? = (nodeC kd tx nm ps kv)[j]? := by
  intro l cs h
  induction h with
  | nil S => intro i kd tx nm ps ks e; simp at e
  | @cons S kd0 nm0 ps0 tx0 kids0 l0 kv0 ks0 r0 h1 h2 h3 h4 _ ih4 =>
    intro i kd tx nm ps ks e
    cases i with
    | zero =>
      simp at e
      obtain ⟨rfl, rfl, rfl, rfl, rfl⟩ := e
      refine ⟨kv0, ks0, h1, h2, h3, fun j hj => ?_⟩
      rw [Nat.zero_mul, Nat.zero_add, List.getElem?_append_left (by simp [nodeC]; omega)]
    | succ i =>
      simp at e
      obtain ⟨kv, kc, g1, g2, g3, g4⟩ := ih4 i kd tx nm ps ks e
      refine ⟨kv, kc, g1, g2, g3, fun j hj => ?_⟩
      rw [List.getElem?_append_right (by simp [nodeC]; omega)]
      have : (i + 1) * 7 + j - (nodeC kd0 tx0 nm0 ps0 kv0).length = i * 7 + j := by simp [nodeC]; omega
      rw [this]
      exact g4 j hj
theorem KidsAt.kid {w : World} {kv : Value} {l : List Tree} (h : KidsAt w kv l) (i : Nat) (kd : Int) (tx : List UInt8) (nm ps : Int) (ks : List Tree) (e : l[i]? = some (.mk kd tx nm ps ks)) :
    ∃ g cap ao2 cp2, kv = .slice (some ⟨g, 0, none⟩) l.length cap ∧ l.length ≤ cap ∧ cap ≤ maxLen ∧ g < w.heap.size ∧ KidsAt w (.slice ao2 ks.length cp2) ks ∧ ∀ j, j < 7 → w.cell? ⟨g, i * 7 + j, none⟩ = (nodeC kd tx nm ps (.slice ao2 ks.length cp2))[j]? := by
  obtain ⟨cs, h1, h3⟩ := h
  have hi : i < l.length := by
    apply Decidable.byContradiction
    intro hn
    rw [List.getElem?_eq_none om] at e
    cases e
  obtain ⟨kv2, kc, g1, g2, g3, g4⟩ := cells_at h3 i kd tx nm ps ks e
  have hform : ∃ ao2 cp2, kv2 = .slice ao2 ks.length cp2 := by
    rcases g1.2 with hx | ⟨g2, cap2, cur2, e2, _⟩
    · exact ⟨none, 0, by rw [hx.1, hx.2]⟩
    · exact ⟨_, _, e2⟩
  obtain ⟨ao2, cp2, rfl⟩ := hform
  obtain ⟨hlen, hn | ⟨g, cap, cur, e1, hlo, hb, hle, hcap, hsz, htk⟩⟩ := h1
  · exfalso; have := hn.2; omega
  refine ⟨g, cap, ao2, cp2, e1, hle, hcap, blk_lt hb, ⟨kc, g1, yZ g3 _ (fun b hb => ⟨hb.1, rfl⟩)⟩, fun j hj => ?_⟩
  rw [zv hb, ← g4 j hj, ← htk, List.getElem?_take_of_lt om]
  simp
theorem grown_cell {w w' : World} {b j : Nat} (hg : w.grownBy w' none) (hb : b < w.heap.size) : w'.cell? ⟨b, j, none⟩ = w.cell? ⟨b, j, none⟩ := by
  have := hg.block b hb zK
  simp [World.cell?, this]
theorem KidsAt.few {w : World} {kv : Value} {l : List Tree} (h : KidsAt w kv l) : l.length ≤ maxLen := by
  obtain ⟨cs, h1, h3⟩ := h
  obtain ⟨hlen, hn | ⟨g, cap, cur, e1, hlo, hb, hle, hcap, hsz, htk⟩⟩ := h1
  · have := hn.2; omega
  · omega
end Go.Proofs.YtheknbfbneghgaaGreatDoor.Jj
set_option maxHeartbeats 4000000
set_option maxRecDepth 100000
namespace Go.Proofs.YtheknbfbneghgaaGreatDoor.Jj
open Go.RowKit Go.Proofs.YtheknbfbneghgaaGreatDoor Go.Proofs.YtheknbfbneghgaaGreatDoor.Lx Go.Proofs.YtheknbfbneghgaaGreatDoor.Px
theorem kid_size {kd : Int} {tx : List UInt8} {nm ps : Int} {kids : List Tree} {i : Nat} {t : Tree} {n : Nat} (h : SizeOf.sizeOf (Px.Tree.mk kd tx nm ps kids) ≤ n + 1) (e : kids[i]? = some t) : SizeOf.sizeOf t ≤ n := by
  have hm : t ∈ kids := List.mem_of_getElem? e
  have := List.sizeOf_lt_of_mem hm
  simp only [Px.Tree.mk.sizeOf_spec] at h
  omega
theorem same_w : ∀ (n : Nat) (kd : Int) (tx : List UInt8) (nm ps : Int) (kids : List Tree), SizeOf.sizeOf (Px.Tree.mk kd tx nm ps kids) ≤ n → ∀ (w : World) (ao ao' : Option Addr) (cp cp' : Nat), KidsAt w (.slice ao kids.length cp) kids → KidsAt w (.slice ao' kids.length cp') kids →
    Calls Tryz.prog 9 #[.agg #[.int .i64 kd, .string ⟨tx.toArray⟩, .int .i64 nm, .int .i64 ps, .string ⟨#[]⟩, .int .i64 0, .slice ao kids.length cp], .agg #[.int .i64 kd, .string ⟨tx.toArray⟩, .int .i64 nm, .int .i64 ps, .string ⟨#[]⟩, .int .i64 0, .slice ao' kids.length cp']] w fun e w' => e = .returned (.bool true) ∧ w.grownBy w' none := by
  intro n
  induction n with
  | zero => intro kd tx nm ps kids h; exfalso; simp at h
  | succ n ih =>
    intro kd tx nm ps kids hsz w ao ao' cp cp' K1 K2
    have hfew := K1.few
    unfold maxLen at hfew
    have HI := zm ih
    have HS := zm hsz
    have HK1 := zm K1
    have HK2 := zm K2
    clear ih hsz K1 K2
    go_enter Tryz.func9, Tryz.ntmps9
    go_wp2
    go_loopg [5] (kids.length + 1) (fun g v5 wr => ∃ j : Nat, g = kids.length + 1 - j ∧ j ≤ kids.length ∧ v5 = .int .i64 j ∧ w.grownBy wr none ∧ BL wr w.heap.size (.cells #[.int .i64 kd, .string ⟨tx.toArray⟩, .int .i64 nm, .int .i64 ps, .string ⟨#[]⟩, .int .i64 0, .slice ao kids.length cp] 25) ∧ BL wr (w.heap.size + 1) (.cells #[.int .i64 kd, .string ⟨tx.toArray⟩, .int .i64 nm, .int .i64 ps, .string ⟨#[]⟩, .int .i64 0, .slice ao' kids.length cp'] 25))
    case atStart => exact ⟨0, om, om, rfl, by (repeat (first | with_reducible assumption | with_reducible exact zo _ _ | with_reducible refine zz ?_ | with_reducible refine zr ?_ _)), by (repeat (first | with_reducible assumption | with_reducible refine BL.drew ?_ | (with_reducible refine BL.new ?_; (first | omega | (simp <;> omega))) | with_reducible refine BL.alloc ?_ _)), by (repeat (first | with_reducible assumption | with_reducible refine BL.drew ?_ | (with_reducible refine BL.new ?_; (first | omega | (simp <;> omega))) | with_reducible refine BL.alloc ?_ _))⟩
    case round =>
      obtain ⟨j, rfl, hj, rfl, hgr, b0, b1⟩ := hrel
      have zc0 := b0.cell
      have zc1 := b1.cell
      have hl1 := b1.lt
      by_cases hlt : j < kids.length
      · have hltz : (j : Int) < kids.length := om
        obtain ⟨kd2, tx2, nm2, ps2, ks2, ek⟩ : ∃ a b c d e, kids[j]? = some (Px.Tree.mk a b c d e) := by
          rw [List.getElem?_eq_getElem hlt]; cases kids[j] with | mk a b c d e => exact ⟨a, b, c, d, e, rfl⟩
        obtain ⟨g, cap, ao2, cp2, e1, q1, q2, q3, Q, qc⟩ := ((zk HK1).grown hgr).kid j _ _ _ _ _ ek
        obtain ⟨g', cap', ao2', cp2', e1', q1', q2', q3', Q', qc'⟩ := ((zk HK2).grown hgr).kid j _ _ _ _ _ ek
        have a0 := qc 0 om
        have a1 := qc 1 om
        have a2 := qc 2 om
        have a3 := qc 3 om
        have a4 := qc 4 om
        have a5 := qc 5 om
        have a6 := qc 6 om
        have c0 := qc' 0 om
        have c1 := qc' 1 om
        have c2 := qc' 2 om
        have c3 := qc' 3 om
        have c4 := qc' 4 om
        have c5 := qc' 5 om
        have c6 := qc' 6 om
        simp only [nodeC, List.getElem?_cons_zero, List.getElem?_cons_succ, Nat.add_zero] at a0 a1 a2 a3 a4 a5 a6 c0 c1 c2 c3 c4 c5 c6
        cases e1
        cases e1'
        clear qc qc'
        have Q0 := zm Q
        have Q1 := zm Q'
        have EK := zm ek
        clear Q Q' ek
        have hgr0 := zo wr none
        have x0 : wr.cell? ⟨w.heap.size, 6, none⟩ = some (.slice (some ⟨g, 0, none⟩) kids.length cp) := zc0 6
        have x1 : wr.cell? ⟨w.heap.size + 1, 6, none⟩ = some (.slice (some ⟨g', 0, none⟩) kids.length cp') := zc1 6
        have hl0 := b0.lt
        go_wp2
        unfold maxLen at q2 q2'
        go_region_law (go_simp; go_at_call 9; refine (zk HI kd2 tx2 nm2 ps2 ks2 (kid_size (zk HS) (zk EK)) _ ao2 ao2' cp2 cp2' ((zk Q0).grown (by with_reducible repeat (first | assumption | exact zo _ _ | refine zz ?_))) ((zk Q1).grown (by with_reducible repeat (first | assumption | exact zo _ _ | refine zz ?_)))).mono ?_; rintro e w2 ⟨rfl, hg2⟩; have hw2 := zl (b := _) (show wr.grownBy _ none by with_reducible repeat (first | assumption | exact zo _ _ | refine zz ?_)) hg2)
        all_goals
          have G2 := zl hgr hw2
          have d0 := BL.quiet b0 hw2
          have d1 := BL.quiet b1 hw2
          go_wp2
          go_roundg (kids.length + 1 - (j + 1))
          case measure => omega
          case rel => exact ⟨j + 1, rfl, om, by go_num, by (repeat (first | with_reducible assumption | with_reducible exact zo _ _ | with_reducible refine zz ?_ | with_reducible refine zr ?_ _)), by (repeat (first | with_reducible assumption | with_reducible refine BL.drew ?_)), by (repeat (first | with_reducible assumption | with_reducible refine BL.drew ?_))⟩
      · have hltz : ¬ (j : Int) < kids.length := om
        go_wp2
        exact bodyPost_ret (v := .bool true) (by simp [results, Tryz.results9, go_sem]) rfl ⟨rfl, by (repeat (first | with_reducible assumption | with_reducible exact zo _ _ | with_reducible refine zz ?_ | with_reducible refine zr ?_ _))⟩
open Go.RowKit Go.Proofs.YtheknbfbneghgaaGreatDoor.Lx Go.Proofs.YtheknbfbneghgaaGreatDoor.Px
theorem Ag.quiet {lo hi : Nat} {a b c : World} (h : Ag lo hi a b) (k : b.grownBy c none) (hz : hi ≤ b.heap.size) : Ag lo hi a c := fun x h1 h2 => (k.block x om zK).trans (h x h1 h2)
def small : Px.Tree → Bool
  | .mk _ _ _ _ l => decide (l.length ≤ 1000000) && (l.map small).all id
theorem small_mk {a : Int} {b : List UInt8} {c d : Int} {l : List Tree} (h : small (.mk a b c d l) = true) : l.length ≤ 1000000 ∧ ∀ t ∈ l, small t = true := by
  rw [small] at h
  simp only [Bool.and_eq_true, decide_eq_true_eq, List.all_eq_true] at h
  exact ⟨h.1, fun t ht => h.2 _ (List.mem_map.2 ⟨t, ht, rfl⟩)⟩
theorem take_one {l : List Tree} {j : Nat} {t : Tree} (h : l[j]? = some t) : (l.take (j + 1)).map er = (l.take j).map er ++ [er t] := by
  have hj : j < l.length := by
    apply Decidable.byContradiction
    intro hn
    rw [List.getElem?_eq_none om] at h
    cases h
  rw [List.getElem?_eq_getElem hj] at h
  cases h
  rw [List.take_succ_eq_append_getElem hj, List.map_append]; rfl
theorem bare_w : ∀ (n : Nat) (kd : Int) (tx : List UInt8) (nm ps : Int) (kids : List Tree), SizeOf.sizeOf (Px.Tree.mk kd tx nm ps kids) ≤ n → small (.mk kd tx nm ps kids) = true → ∀ (w : World) (ao : Option Addr) (cp : Nat), KidsAt w (.slice ao kids.length cp) kids →
    Calls Tryz.prog 7 #[.agg #[.int .i64 kd, .string ⟨tx.toArray⟩, .int .i64 nm, .int .i64 ps, .string ⟨#[]⟩, .int .i64 0, .slice ao kids.length cp]] w fun e w' => w.grownBy w' none ∧ ∃ ao2 cp2, e = .returned (.agg #[.int .i64 kd, .string ⟨tx.toArray⟩, .int .i64 nm, .int .i64 0, .string ⟨#[]⟩, .int .i64 0, .slice ao2 (kids.map er).length cp2]) ∧ zq w' w.heap.size w'.heap.size (.slice ao2 (kids.map er).length cp2) (kids.map er) := by
  intro n
  induction n with
  | zero => intro kd tx nm ps kids h; exfalso; simp at h
  | succ n ih =>
    intro kd tx nm ps kids hsz hsm w ao cp K1
    have hfew := (small_mk hsm).1
    have HI := zm ih
    have HS := zm hsz
    have HM := zm (small_mk hsm).2
    have HK1 := zm K1
    clear ih hsz K1 hsm
    go_enter Tryz.func7, Tryz.ntmps7
    go_wp2
    go_loopg [4] (kids.length + 1) (fun g v4 wr => ∃ (j : Nat) (acc : List Tree) (ao0 : Option Addr) (cp0 : Nat), g = kids.length + 1 - j ∧ j ≤ kids.length ∧ v4 = .int .i64 j ∧ acc = (kids.take j).map er ∧ acc.length = j ∧ w.grownBy wr none ∧ BL wr w.heap.size (.cells #[.int .i64 kd, .string ⟨tx.toArray⟩, .int .i64 nm, .int .i64 ps, .string ⟨#[]⟩, .int .i64 0, .slice ao kids.length cp] 25) ∧ BL wr (w.heap.size + 1) yA ∧ BL wr (w.heap.size + 2) (.cells #[.int .i64 kd, .string ⟨tx.toArray⟩, .int .i64 nm, .int .i64 0, .string ⟨#[]⟩, .int .i64 0, .slice ao0 acc.length cp0] 25) ∧ zq wr (w.heap.size + 3) wr.heap.size (.slice ao0 acc.length cp0) acc)
    case atStart => exact ⟨0, [], none, 0, om, om, rfl, by simp, rfl, by (repeat (first | with_reducible assumption | with_reducible exact zo _ _ | with_reducible refine zz ?_ | with_reducible refine zr ?_ _ | (with_reducible refine yF ?_ _ zV))), by (repeat (first | with_reducible assumption | with_reducible refine BL.drew ?_ | (with_reducible refine BL.new ?_; (first | omega | (simp <;> omega))) | with_reducible refine BL.alloc ?_ _ | (with_reducible refine BL.set ?_ _ ?_; rotate_left; (first | omega | (simp <;> omega))))), by (repeat (first | with_reducible assumption | with_reducible refine BL.drew ?_ | (with_reducible refine BL.new ?_; (first | omega | (simp <;> omega))) | with_reducible refine BL.alloc ?_ _ | (with_reducible refine BL.set ?_ _ ?_; rotate_left; (first | omega | (simp <;> omega))))), (by simp only [List.length_nil]; (repeat (first | with_reducible assumption | with_reducible refine BL.drew ?_ | (with_reducible refine BL.new ?_; (first | omega | (simp <;> omega))) | with_reducible refine BL.alloc ?_ _ | (with_reducible refine BL.set ?_ _ ?_; rotate_left; (first | omega | (simp <;> omega)))))), zq.nil _ _ _⟩
    case round =>
      obtain ⟨j, acc, ao0, cp0, rfl, hj, rfl, hacc, hal, hgr, b0, b1, b2, row0⟩ := hrel
      have HAL := zm hal
      have hal2 : acc.length ≤ kids.length := om
      have HACC := zm hacc
      clear hal hacc
      have zc0 := b0.cell
      have zc2 := b2.cell
      have zc1 := b1.cell
      have fz1 := b1.frozen
      have fz2 := b2.frozen
      have hl2 := b2.lt
      by_cases hlt : j < kids.length
      · have hltz : (j : Int) < kids.length := om
        obtain ⟨kd2, tx2, nm2, ps2, ks2, ek⟩ : ∃ a b c d e, kids[j]? = some (Px.Tree.mk a b c d e) := by
          rw [List.getElem?_eq_getElem hlt]; cases kids[j] with | mk a b c d e => exact ⟨a, b, c, d, e, rfl⟩
        obtain ⟨g, cap, ao2, cp2, e1, q1, q2, q3, Q, qc⟩ := ((zk HK1).grown hgr).kid j _ _ _ _ _ ek
        have a0 := qc 0 om
        have a1 := qc 1 om
        have a2 := qc 2 om
        have a3 := qc 3 om
        have a4 := qc 4 om
        have a5 := qc 5 om
        have a6 := qc 6 om
        simp only [nodeC, List.getElem?_cons_zero, List.getElem?_cons_succ, Nat.add_zero] at a0 a1 a2 a3 a4 a5 a6
        cases e1
        clear qc
        have Q0 := zm Q
        have EK := zm ek
        have hsm2 := zk HM _ (List.mem_of_getElem? ek)
        obtain ⟨kb, hkb⟩ : ∃ kb, kb = ks2.map er := ⟨_, rfl⟩
        have HC : Hid (∀ X, KidsAt X (.slice ao2 ks2.length cp2) ks2 → Calls Tryz.prog 7 #[.agg #[.int .i64 kd2, .string ⟨tx2.toArray⟩, .int .i64 nm2, .int .i64 ps2, .string ⟨#[]⟩, .int .i64 0, .slice ao2 ks2.length cp2]] X fun e w' => X.grownBy w' none ∧ ∃ ao3 cp3, e = .returned (.agg #[.int .i64 kd2, .string ⟨tx2.toArray⟩, .int .i64 nm2, .int .i64 0, .string ⟨#[]⟩, .int .i64 0, .slice ao3 kb.length cp3]) ∧ zq w' X.heap.size w'.heap.size (.slice ao3 kb.length cp3) kb) := by
          subst hkb
          exact fun X K => zk HI kd2 tx2 nm2 ps2 ks2 (kid_size (zk HS) ek) hsm2 X ao2 cp2 K
        have HKB := zm hkb
        clear Q ek hsm2 hkb
        unfold maxLen at q2
        go_wp2
        go_region_law (first | (refine step_app rfl (.tmp 20) (.tmp 27) rfl (lo := w.heap.size + 3) (hi := wr.heap.size) (ao := ao0) (cp := cp0) (l := acc) (t := .mk kd2 tx2 nm2 0 kb) (A := lo2) (B := w2.heap.size) (g0 := w2.heap.size) (cur := #[.int .i64 kd2, .string ⟨tx2.toArray⟩, .int .i64 nm2, .int .i64 0, .string ⟨#[]⟩, .int .i64 0, .slice ao3 kb.length cp3]) zH (zq.ag row0 (yQ zu om) lr lr) zH (yN om) ((Nd.mk (kd := kd2) (tx := tx2) (nm := nm2) (ps := 0) row2).ag (yQ zu sq)) rfl one7 om sq sq om sq om ?_; intro g3 cp4 w3 hrw3 hgA hat3 hgl3; have hob := row0.own; have hz3 := hgA.size; (try simp at hz3); (try simp at hat3); have G3 : w.grownBy w3 none := yP (yD wg) hgA (fun x hx => by have := hob x hx; omega); have bl0_3 := BL.own (yS bl0_2) hgA (fun e => by have := hob _ e.symm; omega); have bl1_3 := BL.own (yS bl1_2) hgA (fun e => by have := hob _ e.symm; omega); have bl2_3 := BL.own (yS bl2_2) hgA (fun e => by have := hob _ e.symm; omega); have zc2_3 := bl2_3.cell; have fz2_3 := bl2_3.frozen; have hl2_3 := bl2_3.lt) | (go_simp; go_at_call 7; (refine (zk HC _ ((zk Q0).grown (by (repeat (first | with_reducible assumption | with_reducible exact zo _ _ | with_reducible refine zz ?_ | with_reducible refine zr ?_ _ | (with_reducible refine yF ?_ _ zV)))))).mono ?_; rintro e w2 ⟨hg, ao3, cp3, rfl, hrow⟩; have hz2 := hg.size; (try simp at hz2); have G2 : w.grownBy w2 none := zl (by (repeat (first | with_reducible assumption | with_reducible exact zo _ _ | with_reducible refine zz ?_ | with_reducible refine zr ?_ _ | (with_reducible refine yF ?_ _ zV)))) hg; replace row0 := zq.ag row0 (Ag.quiet (by (repeat (first | with_reducible exact Ag.refl _ _ _ | with_reducible refine Ag.drew ?_))) hg oz) lr lr; have bl0_2 := BL.quiet (show BL _ w.heap.size (.cells #[.int .i64 kd, .string ⟨tx.toArray⟩, .int .i64 nm, .int .i64 ps, .string ⟨#[]⟩, .int .i64 0, .slice (some ⟨g, 0, none⟩) kids.length cp] 25) by (repeat (first | with_reducible assumption | with_reducible refine BL.drew ?_ | (with_reducible refine BL.new ?_; (first | omega | (simp <;> omega))) | with_reducible refine BL.alloc ?_ _ | (with_reducible refine BL.set ?_ _ ?_; rotate_left; (first | omega | (simp <;> omega)))))) hg; have bl1_2 := BL.quiet (show BL _ (w.heap.size + 1) yA by (repeat (first | with_reducible assumption | with_reducible refine BL.drew ?_ | (with_reducible refine BL.new ?_; (first | omega | (simp <;> omega))) | with_reducible refine BL.alloc ?_ _ | (with_reducible refine BL.set ?_ _ ?_; rotate_left; (first | omega | (simp <;> omega)))))) hg; have bl2_2 := BL.quiet (show BL _ (w.heap.size + 2) (.cells #[.int .i64 kd, .string ⟨tx.toArray⟩, .int .i64 nm, .int .i64 0, .string ⟨#[]⟩, .int .i64 0, .slice ao0 acc.length cp0] 25) by (repeat (first | with_reducible assumption | with_reducible refine BL.drew ?_ | (with_reducible refine BL.new ?_; (first | omega | (simp <;> omega))) | with_reducible refine BL.alloc ?_ _ | (with_reducible refine BL.set ?_ _ ?_; rotate_left; (first | omega | (simp <;> omega)))))) hg; have zc2_2 := bl2_2.cell; have fz2_2 := bl2_2.frozen; have hl2_2 := bl2_2.lt; obtain ⟨lo2, hlo2, row2⟩ := hrow.named; (try simp at hlo2))))
        all_goals
          have hlen : (acc ++ [(.mk kd2 tx2 nm2 0 kb : Px.Tree)]).length = acc.length + 1 := by simp
          have rowz : zq (w3.setCell ⟨w.heap.size + 2, 6, none⟩ (.slice (some ⟨g3, 0, none⟩) (acc.length + 1) cp4)) (w.heap.size + 3) w3.heap.size (.slice (some ⟨g3, 0, none⟩) (acc.length + 1) cp4) (acc ++ [(.mk kd2 tx2 nm2 0 kb : Px.Tree)]) := zq.wide (hrw3 _ zK (Ag.one (aw3 zu sq)) (aw3 zu sq) (aw3 zu sq)) lr zK
          have hx1 : acc ++ [(.mk kd2 tx2 nm2 0 kb : Px.Tree)] = (kids.take (j + 1)).map er := by rw [take_one (zk EK), er_mk, ← zk HKB, ← zk HACC]
          have hx2 : (acc ++ [(.mk kd2 tx2 nm2 0 kb : Px.Tree)]).length = j + 1 := by rw [hlen, zk HAL]
          have H1 := zm hx1
          have H2 := zm hx2
          clear hx1 hx2
          go_wp2
          go_roundg (kids.length + 1 - (j + 1))
          case measure => omega
          case rel =>
            refine ⟨j + 1, acc ++ [(.mk kd2 tx2 nm2 0 kb : Px.Tree)], some ⟨g3, 0, none⟩, cp4, rfl, om, by go_num, zk H1, zk H2, by (repeat (first | with_reducible assumption | with_reducible exact zo _ _ | with_reducible refine zz ?_ | with_reducible refine zr ?_ _ | (with_reducible refine yF ?_ _ zV))), by (repeat (first | with_reducible assumption | with_reducible refine BL.drew ?_ | (with_reducible refine BL.new ?_; (first | omega | (simp <;> omega))) | with_reducible refine BL.alloc ?_ _ | (with_reducible refine BL.set ?_ _ ?_; rotate_left; (first | omega | (simp <;> omega))))), by (repeat (first | with_reducible assumption | with_reducible refine BL.drew ?_ | (with_reducible refine BL.new ?_; (first | omega | (simp <;> omega))) | with_reducible refine BL.alloc ?_ _ | (with_reducible refine BL.set ?_ _ ?_; rotate_left; (first | omega | (simp <;> omega))))), ?_, ?_⟩
            · rw [hlen]
              apply BL.put2 bl2_3; rfl
            · rw [hlen]
              exact zq.wide rowz lr zK
      · have hltz : ¬ (j : Int) < kids.length := om
        have hjn : j = kids.length := om
        have hfin := zm (show acc = kids.map er by rw [zk HACC, hjn, List.take_length])
        have hle := zm (show kids.length = acc.length by rw [zk HAL]; exact hjn.symm)
        go_wp2
        refine bodyPost_ret (v := .agg #[.int .i64 kd, .string ⟨tx.toArray⟩, .int .i64 nm, .int .i64 0, .string ⟨#[]⟩, .int .i64 0, .slice ao0 acc.length cp0]) (by simp [results, Tryz.results7, go_sem, *]) rfl ⟨by (repeat (first | with_reducible assumption | with_reducible exact zo _ _ | with_reducible refine zz ?_ | with_reducible refine zr ?_ _ | (with_reducible refine yF ?_ _ zV))), ao0, cp0, by rw [zk hle], ?_⟩
        rw [← zk hfin, zk hle]
        exact zq.ag row0 (by (repeat (first | with_reducible exact Ag.refl _ _ _ | with_reducible refine Ag.drew ?_ | with_reducible refine Ag.alloc ?_ _ zI | with_reducible refine Ag.set ?_ _ (by first | (left; simp <;> omega) | (left; omega))))) om zK
def Good (l : List UInt8) (kids : List Tree) : Prop := (lexR l).2.1 = 0 ∧ ∃ s k', runF (lexR l).1 = .ok [nd 1 [] 0 kids] s k'
theorem Parse_good (s : ByteArray) (kids : List Tree) (w : World) (hv : Vars w) (hg : Good s.toList kids) : Calls Tryz.prog 6 #[.string s] w fun e w' => Below w.heap.size w w' ∧ ∃ ao cp, e = .returned (.tuple #[.agg #[.int .i64 1, .string ⟨#[]⟩, .int .i64 0, .int .i64 0, .string ⟨#[]⟩, .int .i64 0, .slice ao kids.length cp], .agg #[.int .i64 0, .int .i64 0]]) ∧ KidsAt w' (.slice ao kids.length cp) kids := by
  refine (Parse_any s w hv).mono ?_
  rintro e w' ⟨hb, hp⟩
  obtain ⟨h0, s, k', hr⟩ := hg
  refine ⟨hb, ?_⟩
  rcases hp with ⟨h, rfl⟩ | ⟨h, kd, tx, nm, ps, kids2, s2, k2, ao, cp, hr2, rfl, hrow⟩ | ⟨h, p, hr2, rfl⟩
  · exact absurd h0 h
  · rw [hr] at hr2
    simp only [nd, R.ok.injEq, List.cons.injEq, Px.Tree.mk.injEq, and_true] at hr2
    obtain ⟨⟨rfl, rfl, rfl, rfl, rfl⟩, _, _⟩ := hr2
    exact ⟨ao, cp, rfl, KidsAt.of hrow lr⟩
  · rw [hr] at hr2; cases hr2
end Go.Proofs.YtheknbfbneghgaaGreatDoor.Jj
set_option maxHeartbeats 4000000
set_option maxRecDepth 100000
namespace Go.Proofs.YtheknbfbneghgaaGreatDoor.Jj
open Go.RowKit Go.Proofs.YtheknbfbneghgaaGreatDoor Go.Proofs.YtheknbfbneghgaaGreatDoor.Lx Go.Proofs.YtheknbfbneghgaaGreatDoor.Px
theorem b_set7 {w0 w : World} {B k : Nat} {v0 v1 v2 v3 v4 v5 v6 : Value} (h : Below B w0 w) (hk : B ≤ k) : Below B w0 (((((((w.setCell ⟨k, 0, none⟩ v0).setCell ⟨k, 1, none⟩ v1).setCell ⟨k, 2, none⟩ v2).setCell ⟨k, 3, none⟩ v3).setCell ⟨k, 4, none⟩ v4).setCell ⟨k, 5, none⟩ v5).setCell ⟨k, 6, none⟩ v6) :=
  ((((((h.setCell (p := ⟨k, 0, none⟩) hk _).setCell (p := ⟨k, 1, none⟩) hk _).setCell (p := ⟨k, 2, none⟩) hk _).setCell (p := ⟨k, 3, none⟩) hk _).setCell (p := ⟨k, 4, none⟩) hk _).setCell (p := ⟨k, 5, none⟩) hk _).setCell (p := ⟨k, 6, none⟩) hk _
theorem b_info24 : (Tryz.prog.info? 25).map (fun i => (i.zero, i.size, i.bytes)) = some (some (.agg #[.int .i64 0, .string ⟨#[]⟩, .int .i64 0, .int .i64 0, .string ⟨#[]⟩, .int .i64 0, .slice none 0 0]), 7, 88) := by kernel_rfl
theorem b_parts {i : Option TypeInfo} {z : Option Value} {s b : Nat} (h : i.map (fun i => (i.zero, i.size, i.bytes)) = some (z, s, b)) : ∃ j, i = some j ∧ j.zero = z ∧ j.size = s ∧ j.bytes = b := by
  obtain ⟨j, h1, h2⟩ := Option.map_eq_some_iff.1 h
  simp only [Prod.mk.injEq] at h2
  exact ⟨j, h1, h2.1, h2.2.1, h2.2.2⟩
theorem bt2 {a b c : World} (h : Below a.heap.size a b) (k : Below b.heap.size b c) : Below a.heap.size a c := h.trans (k.mono h.size)
theorem ba (w : World) (o : Obj) : Below w.heap.size w (w.alloc o) := (Below.refl _ _).alloc lr o
theorem KidsAt.below {w w' : World} {kv : Value} {l : List Tree} (h : KidsAt w kv l) (k : Below w.heap.size w w') : KidsAt w' kv l := h.grown ⟨k.os, k.tape, k.output, k.size, fun x hx _ => k.block x hx⟩
theorem made7 (n : Nat) (hn : n ≤ 1599289640354) : ∃ cur : Array Value, cur.size = n * 7 ∧ ∀ w : World, (Instr.makeSlice 23 (.int .i64 (n : Int)) (.int .i64 (n : Int))).run Tryz.prog w = .ok (.slice (some ⟨w.heap.size, 0, none⟩) n n) (w.alloc (.cells cur 25)) := by
  obtain ⟨i0, hi0, hz0, hz1, hz2⟩ := b_parts b_info24
  refine ⟨madeCells (Value.agg #[.int .i64 0, .string ⟨#[]⟩, .int .i64 0, .int .i64 0, .string ⟨#[]⟩, .int .i64 0, .slice none 0 0]).cells (n * 7), size_madeCells _ _, fun w => ?_⟩
  have h := run_make (P := Tryz.prog) w 23 25 i0 _ Tryz.underlying23 hi0 hz0 .i64 .i64 n n om (Int.le_refl _) (by rw [hz2]; omega) om
  rw [hz1] at h
  simp only [Int.toNat_natCast] at h
  exact h
def put7 (cur : Array Value) (p : Nat) (v0 v1 v2 v3 v4 v5 v6 : Value) : Array Value := ((((((cur.setIfInBounds p v0).setIfInBounds (p + 1) v1).setIfInBounds (p + 2) v2).setIfInBounds (p + 3) v3).setIfInBounds (p + 4) v4).setIfInBounds (p + 5) v5).setIfInBounds (p + 6) v6
theorem put7_size {cur : Array Value} {p : Nat} {v0 v1 v2 v3 v4 v5 v6 : Value} : (put7 cur p v0 v1 v2 v3 v4 v5 v6).size = cur.size := by simp [put7]
theorem put7_lt {cur : Array Value} {p i : Nat} {v0 v1 v2 v3 v4 v5 v6 : Value} (h : i < p) : (put7 cur p v0 v1 v2 v3 v4 v5 v6)[i]? = cur[i]? := by
  unfold put7
  repeat rw [Array.getElem?_setIfInBounds_ne om]
theorem put7_at {cur : Array Value} {p k : Nat} {v0 v1 v2 v3 v4 v5 v6 u : Value} (h : p + 6 < cur.size) (hk : [v0, v1, v2, v3, v4, v5, v6][k]? = some u) : (put7 cur p v0 v1 v2 v3 v4 v5 v6)[p + k]? = some u := by
  have hk7 : k < 7 := by
    rcases Nat.lt_or_ge k 7 with h | h
    · exact h
    · rw [List.getElem?_eq_none (by simpa using h)] at hk; cases hk
  have : k = 0 ∨ k = 1 ∨ k = 2 ∨ k = 3 ∨ k = 4 ∨ k = 5 ∨ k = 6 := om
  unfold put7
  rcases this with rfl | rfl | rfl | rfl | rfl | rfl | rfl <;> simp at hk <;> subst hk <;> simp [Array.getElem?_setIfInBounds] <;> omega
theorem b_put7 {w : World} {g t : Nat} {cur : Array Value} (h : w.heap[g]? = some (.cells cur t)) (p : Nat) (v0 v1 v2 v3 v4 v5 v6 : Value) : (((((((w.setCell ⟨g, p, none⟩ v0).setCell ⟨g, p + 1, none⟩ v1).setCell ⟨g, p + 2, none⟩ v2).setCell ⟨g, p + 3, none⟩ v3).setCell ⟨g, p + 4, none⟩ v4).setCell ⟨g, p + 5, none⟩ v5).setCell ⟨g, p + 6, none⟩ v6).heap[g]? = some (.cells (put7 cur p v0 v1 v2 v3 v4 v5 v6) t) :=
  setCell_blk (setCell_blk (setCell_blk (setCell_blk (setCell_blk (setCell_blk (setCell_blk h p v0) (p + 1) v1) (p + 2) v2) (p + 3) v3) (p + 4) v4) (p + 5) v5) (p + 6) v6
theorem b_far7 {w : World} {g p k : Nat} {v0 v1 v2 v3 v4 v5 v6 : Value} (h : k ≠ g) : (((((((w.setCell ⟨g, p, none⟩ v0).setCell ⟨g, p + 1, none⟩ v1).setCell ⟨g, p + 2, none⟩ v2).setCell ⟨g, p + 3, none⟩ v3).setCell ⟨g, p + 4, none⟩ v4).setCell ⟨g, p + 5, none⟩ v5).setCell ⟨g, p + 6, none⟩ v6).heap[k]? = w.heap[k]? := by
  repeat rw [Below.heap_setCell _ _ _ _ (show k ≠ g from h)]
theorem b_size7 {w : World} {g p : Nat} {v0 v1 v2 v3 v4 v5 v6 : Value} : (((((((w.setCell ⟨g, p, none⟩ v0).setCell ⟨g, p + 1, none⟩ v1).setCell ⟨g, p + 2, none⟩ v2).setCell ⟨g, p + 3, none⟩ v3).setCell ⟨g, p + 4, none⟩ v4).setCell ⟨g, p + 5, none⟩ v5).setCell ⟨g, p + 6, none⟩ v6).heap.size = w.heap.size := by simp [World.setCell]
theorem b_sets {w0 w : World} {B g p : Nat} {v0 v1 v2 v3 v4 v5 v6 : Value} (h : Below B w0 w) (hk : B ≤ g) : Below B w0 (((((((w.setCell ⟨g, p, none⟩ v0).setCell ⟨g, p + 1, none⟩ v1).setCell ⟨g, p + 2, none⟩ v2).setCell ⟨g, p + 3, none⟩ v3).setCell ⟨g, p + 4, none⟩ v4).setCell ⟨g, p + 5, none⟩ v5).setCell ⟨g, p + 6, none⟩ v6) :=
  ((((((h.setCell (p := ⟨g, p, none⟩) hk _).setCell (p := ⟨g, p + 1, none⟩) hk _).setCell (p := ⟨g, p + 2, none⟩) hk _).setCell (p := ⟨g, p + 3, none⟩) hk _).setCell (p := ⟨g, p + 4, none⟩) hk _).setCell (p := ⟨g, p + 5, none⟩) hk _).setCell (p := ⟨g, p + 6, none⟩) hk _
theorem put7_take {cur : Array Value} {p : Nat} {v0 v1 v2 v3 v4 v5 v6 : Value} (h : p + 6 < cur.size) : (put7 cur p v0 v1 v2 v3 v4 v5 v6).toList.take (p + 7) = cur.toList.take p ++ [v0, v1, v2, v3, v4, v5, v6] := by
  apply List.ext_getElem?
  intro i
  have hm : (cur.toList.take p).length = p := by simp; omega
  by_cases h1 : i < p
  · rw [List.getElem?_append_left om, List.getElem?_take_of_lt om, List.getElem?_take_of_lt h1, Array.getElem?_toList, Array.getElem?_toList]
    exact put7_lt h1
  · rw [List.getElem?_append_right om, hm]
    by_cases h2 : i < p + 7
    · obtain ⟨k, rfl⟩ : ∃ k, i = p + k := ⟨i - p, om⟩
      have hk : k < [v0, v1, v2, v3, v4, v5, v6].length := by simp; omega
      rw [List.getElem?_take_of_lt h2, Nat.add_sub_cancel_left, Array.getElem?_toList, List.getElem?_eq_getElem hk]
      exact put7_at h (List.getElem?_eq_getElem hk)
    · rw [List.getElem?_eq_none sp, List.getElem?_eq_none sp]
theorem b_far8 {w : World} {g k : Nat} {v0 v1 v2 v3 v4 v5 v6 : Value} (h : k ≠ g) : (((((((w.setCell ⟨g, 0, none⟩ v0).setCell ⟨g, 1, none⟩ v1).setCell ⟨g, 2, none⟩ v2).setCell ⟨g, 3, none⟩ v3).setCell ⟨g, 4, none⟩ v4).setCell ⟨g, 5, none⟩ v5).setCell ⟨g, 6, none⟩ v6).heap[k]? = w.heap[k]? := by
  repeat rw [Below.heap_setCell _ _ _ _ (show k ≠ g from h)]
theorem b_size8 {w : World} {g : Nat} {v0 v1 v2 v3 v4 v5 v6 : Value} : (((((((w.setCell ⟨g, 0, none⟩ v0).setCell ⟨g, 1, none⟩ v1).setCell ⟨g, 2, none⟩ v2).setCell ⟨g, 3, none⟩ v3).setCell ⟨g, 4, none⟩ v4).setCell ⟨g, 5, none⟩ v5).setCell ⟨g, 6, none⟩ v6).heap.size = w.heap.size := by simp [World.setCell]
theorem seven (cur : Array Value) (p : Nat) (h : p + 6 < cur.size) : ∃ u0 u1 u2 u3 u4 u5 u6, cur[p]? = some u0 ∧ cur[p + 1]? = some u1 ∧ cur[p + 2]? = some u2 ∧ cur[p + 3]? = some u3 ∧ cur[p + 4]? = some u4 ∧ cur[p + 5]? = some u5 ∧ cur[p + 6]? = some u6 :=
  ⟨_, _, _, _, _, _, _, Array.getElem?_eq_getElem om, Array.getElem?_eq_getElem om, Array.getElem?_eq_getElem om, Array.getElem?_eq_getElem om, Array.getElem?_eq_getElem om, Array.getElem?_eq_getElem om, Array.getElem?_eq_getElem om⟩

def BareS (w W : World) (nd cur out : Array Value) (G B : Nat) : Prop :=
  Below w.heap.size w W ∧ W.heap[w.heap.size]? = some (.cells nd 25) ∧ W.heap[w.heap.size + 1]? = some (.cells #[.int .i64 0, .string ⟨#[]⟩, .int .i64 0, .int .i64 0, .string ⟨#[]⟩, .int .i64 0, .slice none 0 0] 25) ∧ W.heap[G]? = some (.cells cur 25) ∧ W.heap[B]? = some (.cells out 25) ∧ w.heap.size + 2 ≤ G ∧ w.heap.size + 2 ≤ B ∧ G ≠ B
theorem bs1 (w : World) (nd cur out : Array Value) : BareS w ((((w.alloc (.cells nd 25)).alloc (.cells #[.int .i64 0, .string ⟨#[]⟩, .int .i64 0, .int .i64 0, .string ⟨#[]⟩, .int .i64 0, .slice none 0 0] 25)).alloc (.cells cur 25)).alloc (.cells out 25)).drew nd cur out (w.heap.size + 1 + 1) (w.heap.size + 1 + 1 + 1) :=
  ⟨(ba2 (ba2 (ba2 (ba _ _) _) _) _).drew, blk_alloc (blk_alloc (blk_alloc (yW _ _ rfl) _) _) _, blk_alloc (blk_alloc (yW _ _ zK) _) _, blk_alloc (yW _ _ zK) _, yW _ _ zK, om, om, om⟩
theorem bs2 (w : World) (nd cur out : Array Value) : BareS w ((((w.alloc (.cells nd 25)).alloc (.cells #[.int .i64 0, .string ⟨#[]⟩, .int .i64 0, .int .i64 0, .string ⟨#[]⟩, .int .i64 0, .slice none 0 0] 25)).alloc (.cells out 25)).alloc (.cells cur 25)).drew nd cur out (w.heap.size + 1 + 1 + 1) (w.heap.size + 1 + 1) :=
  ⟨(ba2 (ba2 (ba2 (ba _ _) _) _) _).drew, blk_alloc (blk_alloc (blk_alloc (yW _ _ rfl) _) _) _, blk_alloc (blk_alloc (yW _ _ zK) _) _, yW _ _ zK, blk_alloc (yW _ _ zK) _, om, om, om⟩
theorem pbare_w : ∀ (n : Nat) (kd : Int) (tx : List UInt8) (nm ps : Int) (kids : List Tree), SizeOf.sizeOf (Px.Tree.mk kd tx nm ps kids) ≤ n → small (.mk kd tx nm ps kids) = true → ∀ (w : World) (ao : Option Addr) (cp : Nat), KidsAt w (.slice ao kids.length cp) kids →
    Calls Tryz.prog 10 #[.agg #[.int .i64 kd, .string ⟨tx.toArray⟩, .int .i64 nm, .int .i64 ps, .string ⟨#[]⟩, .int .i64 0, .slice ao kids.length cp]] w fun e w' => Below w.heap.size w w' ∧ ∃ ao2 cp2, e = .returned (.agg #[.int .i64 kd, .string ⟨tx.toArray⟩, .int .i64 nm, .int .i64 0, .string ⟨#[]⟩, .int .i64 0, .slice ao2 (kids.map er).length cp2]) ∧ zq w' w.heap.size w'.heap.size (.slice ao2 (kids.map er).length cp2) (kids.map er) := by
  intro n
  induction n with
  | zero => intro kd tx nm ps kids h; exfalso; simp at h
  | succ n ih =>
    intro kd tx nm ps kids hsz hsm w ao cp K1
    have hfew := (small_mk hsm).1
    obtain ⟨cur0, hcs, hmk⟩ := made7 kids.length om
    have HI := zm ih
    have HS := zm hsz
    have HM := zm (small_mk hsm).2
    have HK1 := zm K1
    have HCS := zm hcs
    clear ih hsz K1 hsm hcs
    go_enter Tryz.func10, Tryz.ntmps10
    go_wp2
    go_region
    have F := bs1 w #[.int .i64 kd, .string ⟨tx.toArray⟩, .int .i64 nm, .int .i64 ps, .string ⟨#[]⟩, .int .i64 0, .slice ao kids.length cp] cur0 #[.int .i64 kd, .string ⟨tx.toArray⟩, .int .i64 nm, .int .i64 0, .string ⟨#[]⟩, .int .i64 0, .slice (some ⟨w.heap.size + 1 + 1, 0, none⟩) kids.length kids.length]
    generalize ((((w.alloc (.cells #[.int .i64 kd, .string ⟨tx.toArray⟩, .int .i64 nm, .int .i64 ps, .string ⟨#[]⟩, .int .i64 0, .slice ao kids.length cp] 25)).alloc (.cells #[.int .i64 0, .string ⟨#[]⟩, .int .i64 0, .int .i64 0, .string ⟨#[]⟩, .int .i64 0, .slice none 0 0] 25)).alloc (.cells cur0 25)).alloc (.cells #[.int .i64 kd, .string ⟨tx.toArray⟩, .int .i64 nm, .int .i64 0, .string ⟨#[]⟩, .int .i64 0, .slice (some ⟨w.heap.size + 1 + 1, 0, none⟩) kids.length kids.length] 25)).drew = W1 at F ⊢
    generalize w.heap.size + 1 + 1 + 1 = B3 at F ⊢
    generalize w.heap.size + 1 + 1 = G at F ⊢
    rotate_left
    have F := bs2 w #[.int .i64 kd, .string ⟨tx.toArray⟩, .int .i64 nm, .int .i64 ps, .string ⟨#[]⟩, .int .i64 0, .slice ao kids.length cp] cur0 #[.int .i64 kd, .string ⟨tx.toArray⟩, .int .i64 nm, .int .i64 0, .string ⟨#[]⟩, .int .i64 0, .slice (some ⟨w.heap.size + 1 + 1 + 1, 0, none⟩) kids.length kids.length]
    generalize ((((w.alloc (.cells #[.int .i64 kd, .string ⟨tx.toArray⟩, .int .i64 nm, .int .i64 ps, .string ⟨#[]⟩, .int .i64 0, .slice ao kids.length cp] 25)).alloc (.cells #[.int .i64 0, .string ⟨#[]⟩, .int .i64 0, .int .i64 0, .string ⟨#[]⟩, .int .i64 0, .slice none 0 0] 25)).alloc (.cells #[.int .i64 kd, .string ⟨tx.toArray⟩, .int .i64 nm, .int .i64 0, .string ⟨#[]⟩, .int .i64 0, .slice (some ⟨w.heap.size + 1 + 1 + 1, 0, none⟩) kids.length kids.length] 25)).alloc (.cells cur0 25)).drew = W1 at F ⊢
    generalize w.heap.size + 1 + 1 + 1 = G at F ⊢
    generalize w.heap.size + 1 + 1 = B3 at F ⊢
    all_goals
      obtain ⟨hb0, f0, f1, f2, f3, hG, hB3, hGB⟩ := F
      have x6 : W1.cell? ⟨w.heap.size, 6, none⟩ = some (.slice ao kids.length cp) := zv f0 6
      clear hmk
      go_wp2
      go_loopg [20] (kids.length + 1) (fun g v20 wr => ∃ (j : Nat) (acc : List Tree) (cur : Array Value), g = kids.length + 1 - j ∧ j ≤ kids.length ∧ v20 = .int .i64 j ∧ Hid (acc = (kids.take j).map er) ∧ Hid (acc.length = j) ∧ Below w.heap.size w wr ∧ wr.heap[w.heap.size + 1]? = some (.cells #[.int .i64 0, .string ⟨#[]⟩, .int .i64 0, .int .i64 0, .string ⟨#[]⟩, .int .i64 0, .slice none 0 0] 25) ∧ wr.heap[B3]? = some (.cells #[.int .i64 kd, .string ⟨tx.toArray⟩, .int .i64 nm, .int .i64 0, .string ⟨#[]⟩, .int .i64 0, .slice (some ⟨G, 0, none⟩) kids.length kids.length] 25) ∧ wr.heap[G]? = some (.cells cur 25) ∧ Hid (cur.size = kids.length * 7) ∧ Hid (Kids wr (w.heap.size + 2) wr.heap.size G acc (cur.toList.take (j * 7))))
      case atStart => exact ⟨0, [], cur0, om, om, rfl, zm zK, zm rfl, hb0, f1, f3, f2, HCS, zm (by simpa using Kids.nil)⟩
      case round =>
        obtain ⟨j, acc, cur, rfl, hj, rfl, HACC, HAL, hb, b1, b3, bG, HSZ, HX⟩ := hrel
        have x36 : wr.cell? ⟨B3, 6, none⟩ = some (.slice (some ⟨G, 0, none⟩) kids.length kids.length) := zv b3 6
        have hl1 := blk_lt b1
        have hl3 := blk_lt b3
        have hlG := blk_lt bG
        by_cases hlt : j < kids.length
        · have hltz : (j : Int) < kids.length := om
          obtain ⟨kd2, tx2, nm2, ps2, ks2, ek⟩ : ∃ a b c d e, kids[j]? = some (Px.Tree.mk a b c d e) := by
            rw [List.getElem?_eq_getElem hlt]; cases kids[j] with | mk a b c d e => exact ⟨a, b, c, d, e, rfl⟩
          obtain ⟨g, cap, ao2, cp2, e1, q1, q2, q3, Q, qc⟩ := ((zk HK1).below hb).kid j _ _ _ _ _ ek
          have a0 := qc 0 om
          have a1 := qc 1 om
          have a2 := qc 2 om
          have a3 := qc 3 om
          have a4 := qc 4 om
          have a5 := qc 5 om
          have a6 := qc 6 om
          simp only [nodeC, List.getElem?_cons_zero, List.getElem?_cons_succ, Nat.add_zero] at a0 a1 a2 a3 a4 a5 a6
          cases e1
          clear qc
          have EK := zm ek
          have hsm2 := zk HM _ (List.mem_of_getElem? ek)
          obtain ⟨kb, hkb⟩ : ∃ kb, kb = ks2.map er := ⟨_, rfl⟩
          have HC : Hid (∀ W, Below wr.heap.size wr W → Calls Tryz.prog 10 #[.agg #[.int .i64 kd2, .string ⟨tx2.toArray⟩, .int .i64 nm2, .int .i64 ps2, .string ⟨#[]⟩, .int .i64 0, .slice ao2 ks2.length cp2]] W fun e w' => ∃ ao3 cp3, e = .returned (.agg #[.int .i64 kd2, .string ⟨tx2.toArray⟩, .int .i64 nm2, .int .i64 0, .string ⟨#[]⟩, .int .i64 0, .slice ao3 kb.length cp3]) ∧ zq w' wr.heap.size w'.heap.size (.slice ao3 kb.length cp3) kb ∧ Below wr.heap.size wr w') := by
            subst hkb
            intro W hW
            refine (zk HI kd2 tx2 nm2 ps2 ks2 (kid_size (zk HS) ek) hsm2 W ao2 cp2 (Q.below hW)).mono ?_
            rintro e w' ⟨h4, ao3, cp3, h1, h2⟩
            exact ⟨ao3, cp3, h1, h2.wide hW.size lr, hW.trans (h4.mono hW.size)⟩
          have HKB := zm hkb
          obtain ⟨u0, u1, u2, u3, u4, u5, u6, e0, e1, e2, e3, e4, e5, e6⟩ := seven cur (j * 7) (by have := zk HSZ; omega)
          have HE7 := zm (And.intro e0 (And.intro e1 (And.intro e2 (And.intro e3 (And.intro e4 (And.intro e5 e6))))))
          have HB := zm hb
          have HB1 := zm b1
          have HB3 := zm b3
          have HBG := zm bG
          clear Q ek hsm2 hkb hb b1 b3 bG e0 e1 e2 e3 e4 e5 e6
          unfold maxLen at q2
          go_wp2
          go_region_law (go_simp; go_at_call 10; refine (zk HC _ (by (repeat' (first | exact Below.refl _ _ | refine Below.drew ?_ | refine ba2 ?_ _)))).mono ?_; rintro e w2 ⟨ao3, cp3, rfl, hk3, hb3⟩; have z2 := hb3.size; have HK3 := zm hk3; have HW2 := zm hb3; have y36 : w2.cell? ⟨B3, 6, none⟩ = some (.slice (some ⟨G, 0, none⟩) kids.length kids.length) := zv ((hb3.block _ (blk_lt (zk HB3))).trans (zk HB3)) 6; have hgb := (hb3.block _ (blk_lt (zk HBG))).trans (zk HBG); have HG2 := zm hgb; have fz := yT hgb; obtain ⟨q0, q1, q2, q3, q4, q5, q6⟩ := (show w2.cell? ⟨G, j * 7, none⟩ = some u0 ∧ w2.cell? ⟨G, j * 7 + 1, none⟩ = some u1 ∧ w2.cell? ⟨G, j * 7 + 2, none⟩ = some u2 ∧ w2.cell? ⟨G, j * 7 + 3, none⟩ = some u3 ∧ w2.cell? ⟨G, j * 7 + 4, none⟩ = some u4 ∧ w2.cell? ⟨G, j * 7 + 5, none⟩ = some u5 ∧ w2.cell? ⟨G, j * 7 + 6, none⟩ = some u6 from ⟨(zv hgb _).trans (zk HE7).1, (zv hgb _).trans (zk HE7).2.1, (zv hgb _).trans (zk HE7).2.2.1, (zv hgb _).trans (zk HE7).2.2.2.1, (zv hgb _).trans (zk HE7).2.2.2.2.1, (zv hgb _).trans (zk HE7).2.2.2.2.2.1, (zv hgb _).trans (zk HE7).2.2.2.2.2.2⟩); clear hk3 hb3 hgb)
          all_goals
            go_wp2
            go_roundg (kids.length + 1 - (j + 1))
            case measure => omega
            case rel =>
              have hz7 : j * 7 + 6 < cur.size := by have := zk HSZ; omega
              refine ⟨j + 1, acc ++ [.mk kd2 tx2 nm2 0 kb], _, rfl, om, by go_num, zm ?_, zm ?_, b_sets (bt2 (zk HB) (zk HW2)) om, ?_, ?_, b_put7 (zk HG2) _ _ _ _ _ _ _ _, zm ?_, zm ?_⟩
              · rw [take_one (zk EK), er_mk, ← zk HKB, ← zk HACC]
              · rw [List.length_append, zk HAL]; rfl
              · exact (b_far7 om).trans (((zk HW2).block _ om).trans (zk HB1))
              · exact (b_far7 om).trans (((zk HW2).block _ om).trans (zk HB3))
              · rw [put7_size]; exact zk HSZ
              · rw [Nat.add_mul, Nat.one_mul, put7_take hz7]
                refine Kids.snoc (a := wr.heap.size) (b := w2.heap.size) (yZ (zk HX) _ fun b hb => ⟨⟨⟨hb.1.1, by rw [b_size7]; have := hb.1.2; omega⟩, hb.2⟩, (b_far7 hb.2).trans ((zk HW2).block _ hb.1.2)⟩) ((Nd.mk (zk HK3)).frame (fun b hb1 hb2 => b_far7 om) lr lr) om (by rw [b_size7]; omega) (.inl hlG)
        · have hltz : ¬ (j : Int) < kids.length := om
          have hjn : j = kids.length := om
          have hfin := zm (show acc = kids.map er by rw [zk HACC, hjn, List.take_length])
          have hle := zm (show kids.length = acc.length by rw [zk HAL]; exact hjn.symm)
          have y0 : wr.cell? ⟨B3, 0, none⟩ = some (.int .i64 kd) := zv b3 0
          have y1 : wr.cell? ⟨B3, 1, none⟩ = some (.string ⟨tx.toArray⟩) := zv b3 1
          have y2 : wr.cell? ⟨B3, 2, none⟩ = some (.int .i64 nm) := zv b3 2
          have y3 : wr.cell? ⟨B3, 3, none⟩ = some (.int .i64 0) := zv b3 3
          have y4 : wr.cell? ⟨B3, 4, none⟩ = some (.string ⟨#[]⟩) := zv b3 4
          have y5 : wr.cell? ⟨B3, 5, none⟩ = some (.int .i64 0) := zv b3 5
          have zc1 := zv b1
          have fz1 := yT b1
          have HBG := zm bG
          have hne1 : B3 ≠ w.heap.size + 1 := om
          clear b1 b3 bG
          go_wp2
          refine bodyPost_ret (v := .agg #[.int .i64 kd, .string ⟨tx.toArray⟩, .int .i64 nm, .int .i64 0, .string ⟨#[]⟩, .int .i64 0, .slice (some ⟨G, 0, none⟩) kids.length kids.length]) (by simp [results, Tryz.results10, go_sem, *]) rfl ⟨b_set7 hb om, some ⟨G, 0, none⟩, kids.length, (by first | rfl | rw [List.length_map]), ?_⟩
          first | rw [← zk hfin, ← zk hle] | rw [← zk hfin]
          refine zq.lit (g := G) (cur := cur) ((b_far8 om).trans (zk HBG)) (zk hle) (zk HSZ) hfew om (by rw [b_size8]; exact hlG) ?_
          have hx := zk HX
          rw [hjn, List.take_of_length_le (by rw [Array.length_toList, zk HSZ]; exact Nat.le_refl _)] at hx
          exact yZ hx _ fun b hb => ⟨⟨⟨by have := hb.1.1; omega, by rw [b_size8]; exact hb.1.2⟩, hb.2⟩, b_far8 (by have := hb.1.1; omega)⟩
end Go.Proofs.YtheknbfbneghgaaGreatDoor.Jj
