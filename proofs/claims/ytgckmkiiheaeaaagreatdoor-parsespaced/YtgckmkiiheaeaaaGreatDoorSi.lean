import Derived.Test.YtgckmkiiheaeaaaGreatDoorParP
import Derived.Test.YtgckmkiiheaeaaaGreatDoorState
import Derived.Deep.Slices
import Derived.ProofKit
import Derived.SizedLaws
import Derived.Deep.RegionHeld2
import Derived.Deep.LoopGhost
import Derived.Deep.AppendLies
import Derived.Laws.MakeOwn
import Derived.Test.YtgckmkiiheaeaaaGreatDoorSc
import Derived.Test.YtgckmkiiheaeaaaGreatDoorSn
import Derived.Test.YtgckmkiiheaeaaaGreatDoorQe
import Derived.Test.YtgckmkiiheaeaaaGreatDoorQg
set_option linter.unusedVariables false
set_option linter.unusedSimpArgs false
set_option maxRecDepth 100000
namespace Go.Proofs.YtgckmkiiheaeaaaGreatDoor.Px
open Lx
def er : Tree → Tree
 | .mk a b c _ l => .mk a b c 0 (l.map er)
theorem er_mk (a : Int) (b : List UInt8) (c p : Int) (l : List Tree) : er (.mk a b c p l) = .mk a b c 0 (l.map er) := by rw [er]
end Go.Proofs.YtgckmkiiheaeaaaGreatDoor.Px
namespace Go.Proofs.YtgckmkiiheaeaaaGreatDoor
open Go.RowKit Lx
theorem ba2 {a b : World} (h : Below a.heap.size a b) (o : Obj) : Below a.heap.size a (b.alloc o) := h.alloc h.size o
theorem b_ownsRow {w w' : World} {base e size n : Nat} {v : Value} {xs : List Value} (h : w.ownsRow base e size v n xs) (hb : ∀ g, v.ownBlock = some g → w'.heap[g]? = w.heap[g]?) : w'.ownsRow base e size v n xs := by
 refine ⟨h.1, ?_⟩
 rcases h.2 with h2 | ⟨g, cap, cur, rfl, h3, h4, h5⟩
 ·exact .inl h2
 ·exact .inr ⟨g, cap, cur, rfl, h3, (hb g rfl).trans h4, h5⟩
end Go.Proofs.YtgckmkiiheaeaaaGreatDoor
namespace Go.Proofs.YtgckmkiiheaeaaaGreatDoor.Px
open Lx Lx.Sp
def bareRel : TRel where
 E := fun t t' => er t = er t'
 L := fun l l' => l.map er = l'.map er
 P := fun _ _ => True
 node := fun _ h2 => by rw [er_mk, er_mk, h2]
 nil := rfl
 cons := fun h1 h2 => by rw [List.map_cons, List.map_cons, h1, h2]
 app := fun h1 h2 => by rw [List.map_append, List.map_append, h1, h2]
 text := fun {t t'} h => by cases t; cases t'; rw [er_mk, er_mk] at h; exact (Tree.mk.inj h).2.1
 pos := fun _ => trivial
 kids := fun {t t'} h => by cases t; cases t'; rw [er_mk, er_mk] at h; exact (Tree.mk.inj h).2.2.2.2
 zero := trivial
 reflE := fun _ => rfl
 reflL := fun _ => rfl
 reflP := fun _ => trivial
 one := fun {t l'} h => by
  match l' with
  | [] => simp at h
  | [t'] => exact ⟨t', rfl, by simpa using h⟩
  | _ :: _ :: _ => simp at h
theorem tokR_er {L L' : List Tok} (h : L'.map er3 = L.map er3) (m : Nat) : TokR bareRel m 0 L L' := by
 intro i _
 rw [Nat.add_zero]
 have hl : L'.length = L.length := by have := congrArg List.length h; simpa using this
 unfold tok
 rw [List.getD_eq_getElem?_getD, List.getD_eq_getElem?_getD]
 have hg : (L'.map er3)[i]? = (L.map er3)[i]? := by rw [h]
 rw [List.getElem?_map, List.getElem?_map] at hg
 by_cases hi : i < L.length
 ·rw [List.getElem?_eq_getElem hi, List.getElem?_eq_getElem (by omega)] at hg ⊢
  have h1 : er3 L'[i] = er3 L[i] := by simpa using hg
  have h2 : L'[i].kind = L[i].kind := congrArg Prod.fst h1
  have h3 : L'[i].text = L[i].text := congrArg (fun x => x.2.1) h1
  have h4 : L'[i].num = L[i].num := congrArg (fun x => x.2.2) h1
  exact ⟨h2, h3, h4, trivial⟩
 ·rw [List.getElem?_eq_none (by omega), List.getElem?_eq_none (by omega)]
  exact ⟨rfl, rfl, rfl, trivial⟩
theorem spaced_ok {L L' : List Tok} (h : L'.map er3 = L.map er3) {t : Tree} {s : Int} {k : Nat} (hr : runF L = .ok [t] s k) : ∃ t', runF L' = .ok [t'] s k ∧ er t = er t' := by
 have hl : L'.length = L.length := by have := congrArg List.length h; simpa using this
 have hs := run_sim bareRel (k + 1) 0 L L' (tokR_er h _) (64 * L.length + 64 + 1) (.fileMore []) (.fileMore []) false 0 0 rfl (fun _ => jr_refl _ _)
 obtain ⟨_, h2⟩ := hs [t] s k hr
 obtain ⟨l', kk, e1, e2, e3⟩ := h2 (Nat.lt_succ_self _)
 obtain ⟨t', rfl, e4⟩ := bareRel.one e3
 refine ⟨t', ?_, e4⟩
 unfold runF
 rw [hl, e1, e2]
 rfl
theorem spaced_bad {L L' : List Tok} (h : L'.map er3 = L.map er3) {p : Int} (hr : runF L = .bad p) {t : Tree} {s : Int} {k : Nat} : runF L' ≠ .ok [t] s k := fun e => by
 obtain ⟨t', e1, _⟩ := spaced_ok h.symm e
 rw [hr] at e1
 cases e1
end Go.Proofs.YtgckmkiiheaeaaaGreatDoor.Px
namespace Go.Proofs.YtgckmkiiheaeaaaGreatDoor.Jj
open Go.RowKit Lx Px
def KidsAt (w : World) (kv : Value) (l : List Tree) : Prop := ∃ cs, w.ownsRow 0 24 7 kv l.length cs ∧ CellsS w l (fun b => b < w.heap.size) cs
theorem KidsAt.of {w : World} {lo hi : Nat} {kv : Value} {l : List Tree} (h : RowI w lo hi kv l) (hh : hi ≤ w.heap.size) : KidsAt w kv l := by
 obtain ⟨cs, h1, h2, h3⟩ := h
 exact ⟨cs, own_low (Nat.zero_le _) h1, cells_frame h3 _ (fun b hb => ⟨by omega, rfl⟩)⟩
theorem KidsAt.grown {w w' : World} {kv : Value} {l : List Tree} (h : KidsAt w kv l) (hg : w.grownBy w' none) : KidsAt w' kv l := by
 obtain ⟨cs, h1, h3⟩ := h
 have hz := hg.size
 exact ⟨cs, ownsRow_blk h1 (fun g hq => hg.block g (h1.lt g hq).2 (by simp)), cells_frame h3 _ (fun b hb => ⟨by omega, hg.block b hb (by simp)⟩)⟩
theorem cells_at {w : World} {S : Nat → Prop} : ∀ {l : List Tree} {cs : List Value} (h : CellsS w l S cs) (i : Nat) (kd : Int) (tx : List UInt8) (nm ps : Int) (ks : List Tree), l[i]? = some (.mk kd tx nm ps ks) →
 ∃ kv kc, w.ownsRow 0 24 7 kv ks.length kc ∧ (∀ g, kv.ownBlock = some g → S g) ∧ CellsS w ks (fun b => S b ∧ some b ≠ kv.ownBlock) kc ∧ ∀ j, j < 7 → cs[i * 7 + j]? = (nodeC kd tx nm ps kv)[j]? := by
 intro l cs h
 induction h with
 | nil S => intro i kd tx nm ps ks e; simp at e
 | @cons S kd0 nm0 ps0 tx0 kids0 l0 kv0 ks0 r0 h1 h2 h3 h4 _ ih4 =>
   intro i kd tx nm ps ks e
   cases i with
   | zero =>
     simp at e
     obtain ⟨rfl, rfl, rfl, rfl, rfl⟩ := e
     refine ⟨kv0, ks0, h1, h2, h3, fun j hj => ?_⟩
     rw [Nat.zero_mul, Nat.zero_add, List.getElem?_append_left (by simp [nodeC]; omega)]
   | succ i =>
     simp at e
     obtain ⟨kv, kc, g1, g2, g3, g4⟩ := ih4 i kd tx nm ps ks e
     refine ⟨kv, kc, g1, g2, g3, fun j hj => ?_⟩
     rw [List.getElem?_append_right (by simp [nodeC]; omega)]
     have : (i + 1) * 7 + j - (nodeC kd0 tx0 nm0 ps0 kv0).length = i * 7 + j := by simp [nodeC]; omega
     rw [this]
     exact g4 j hj
theorem KidsAt.kid {w : World} {kv : Value} {l : List Tree} (h : KidsAt w kv l) (i : Nat) (kd : Int) (tx : List UInt8) (nm ps : Int) (ks : List Tree) (e : l[i]? = some (.mk kd tx nm ps ks)) :
 ∃ g cap ao2 cp2, kv = .slice (some ⟨g, 0, none⟩) l.length cap ∧ l.length ≤ cap ∧ cap ≤ maxLen ∧ g < w.heap.size ∧ KidsAt w (.slice ao2 ks.length cp2) ks ∧ ∀ j, j < 7 → w.cell? ⟨g, i * 7 + j, none⟩ = (nodeC kd tx nm ps (.slice ao2 ks.length cp2))[j]? := by
 obtain ⟨cs, h1, h3⟩ := h
 have hi : i < l.length := by
  apply Decidable.byContradiction
  intro hn
  rw [List.getElem?_eq_none (by omega)] at e
  cases e
 obtain ⟨kv2, kc, g1, g2, g3, g4⟩ := cells_at h3 i kd tx nm ps ks e
 have hform : ∃ ao2 cp2, kv2 = .slice ao2 ks.length cp2 := by
  rcases g1.2 with hx | ⟨g2, cap2, cur2, e2, _⟩
  ·exact ⟨none, 0, by rw [hx.1, hx.2]⟩
  ·exact ⟨_, _, e2⟩
 obtain ⟨ao2, cp2, rfl⟩ := hform
 obtain ⟨hlen, hn | ⟨g, cap, cur, e1, hlo, hb, hle, hcap, hsz, htk⟩⟩ := h1
 ·exfalso; have := hn.2; omega
 refine ⟨g, cap, ao2, cp2, e1, hle, hcap, blk_lt hb, ⟨kc, g1, cells_frame g3 _ (fun b hb => ⟨hb.1, rfl⟩)⟩, fun j hj => ?_⟩
 rw [blk_cell hb, ← g4 j hj, ← htk, List.getElem?_take_of_lt (by omega)]
 simp
theorem KidsAt.few {w : World} {kv : Value} {l : List Tree} (h : KidsAt w kv l) : l.length ≤ maxLen := by
 obtain ⟨cs, h1, h3⟩ := h
 obtain ⟨hlen, hn | ⟨g, cap, cur, e1, hlo, hb, hle, hcap, hsz, htk⟩⟩ := h1
 ·have := hn.2; omega
 ·omega
theorem kid_size {kd : Int} {tx : List UInt8} {nm ps : Int} {kids : List Tree} {i : Nat} {t : Tree} {n : Nat} (h : SizeOf.sizeOf (Px.Tree.mk kd tx nm ps kids) ≤ n + 1) (e : kids[i]? = some t) : SizeOf.sizeOf t ≤ n := by
 have hm : t ∈ kids := List.mem_of_getElem? e
 have := List.sizeOf_lt_of_mem hm
 simp only [Px.Tree.mk.sizeOf_spec] at h
 omega
set_option maxHeartbeats 4000000 in
theorem same_w : ∀ (n : Nat) (kd : Int) (tx : List UInt8) (nm ps : Int) (kids : List Tree), SizeOf.sizeOf (Px.Tree.mk kd tx nm ps kids) ≤ n → ∀ (w : World) (ao ao' : Option Addr) (cp cp' : Nat), KidsAt w (.slice ao kids.length cp) kids → KidsAt w (.slice ao' kids.length cp') kids →
 Calls Tryz.prog 11 #[.agg #[.int .i64 kd, .string ⟨tx.toArray⟩, .int .i64 nm, .int .i64 ps, .string ⟨#[]⟩, .int .i64 0, .slice ao kids.length cp], .agg #[.int .i64 kd, .string ⟨tx.toArray⟩, .int .i64 nm, .int .i64 ps, .string ⟨#[]⟩, .int .i64 0, .slice ao' kids.length cp']] w fun e w' => e = .returned (.bool true) ∧ w.grownBy w' none := by
 intro n
 induction n with
 | zero => intro kd tx nm ps kids h; exfalso; simp at h
 | succ n ih =>
   intro kd tx nm ps kids hsz w ao ao' cp cp' K1 K2
   have hfew := K1.few
   unfold maxLen at hfew
   have HI := hide ih
   have HS := hide hsz
   have HK1 := hide K1
   have HK2 := hide K2
   clear ih hsz K1 K2
   go_enter Tryz.func11, Tryz.ntmps11
   go_wp2
   go_loopg [5] (kids.length + 1) (fun g v5 wr => ∃ j : Nat, g = kids.length + 1 - j ∧ j ≤ kids.length ∧ v5 = .int .i64 j ∧ w.grownBy wr none ∧ BL wr w.heap.size (.cells #[.int .i64 kd, .string ⟨tx.toArray⟩, .int .i64 nm, .int .i64 ps, .string ⟨#[]⟩, .int .i64 0, .slice ao kids.length cp] 24) ∧ BL wr (w.heap.size + 1) (.cells #[.int .i64 kd, .string ⟨tx.toArray⟩, .int .i64 nm, .int .i64 ps, .string ⟨#[]⟩, .int .i64 0, .slice ao' kids.length cp'] 24))
   case atStart => exact ⟨0, by omega, by omega, rfl, by (repeat (first | with_reducible assumption | with_reducible exact grown_refl _ _ | with_reducible refine grown_drew ?_ | with_reducible refine grown_alloc ?_ _)), by (repeat (first | with_reducible assumption | with_reducible refine BL.drew ?_ | (with_reducible refine BL.new ?_; (first | omega | (simp <;> omega))) | with_reducible refine BL.alloc ?_ _)), by (repeat (first | with_reducible assumption | with_reducible refine BL.drew ?_ | (with_reducible refine BL.new ?_; (first | omega | (simp <;> omega))) | with_reducible refine BL.alloc ?_ _))⟩
   case round =>
    obtain ⟨j, rfl, hj, rfl, hgr, b0, b1⟩ := hrel
    have zc0 := b0.cell
    have zc1 := b1.cell
    have hl1 := b1.lt
    by_cases hlt : j < kids.length
    ·have hltz : (j : Int) < kids.length := by omega
     obtain ⟨kd2, tx2, nm2, ps2, ks2, ek⟩ : ∃ a b c d e, kids[j]? = some (Px.Tree.mk a b c d e) := by
      rw [List.getElem?_eq_getElem hlt]; cases kids[j] with | mk a b c d e => exact ⟨a, b, c, d, e, rfl⟩
     obtain ⟨g, cap, ao2, cp2, e1, q1, q2, q3, Q, qc⟩ := ((unhide HK1).grown hgr).kid j _ _ _ _ _ ek
     obtain ⟨g', cap', ao2', cp2', e1', q1', q2', q3', Q', qc'⟩ := ((unhide HK2).grown hgr).kid j _ _ _ _ _ ek
     have a0 := qc 0 (by omega)
     have a1 := qc 1 (by omega)
     have a2 := qc 2 (by omega)
     have a3 := qc 3 (by omega)
     have a4 := qc 4 (by omega)
     have a5 := qc 5 (by omega)
     have a6 := qc 6 (by omega)
     have c0 := qc' 0 (by omega)
     have c1 := qc' 1 (by omega)
     have c2 := qc' 2 (by omega)
     have c3 := qc' 3 (by omega)
     have c4 := qc' 4 (by omega)
     have c5 := qc' 5 (by omega)
     have c6 := qc' 6 (by omega)
     simp only [nodeC, List.getElem?_cons_zero, List.getElem?_cons_succ, Nat.add_zero] at a0 a1 a2 a3 a4 a5 a6 c0 c1 c2 c3 c4 c5 c6
     cases e1
     cases e1'
     clear qc qc'
     have Q0 := hide Q
     have Q1 := hide Q'
     have EK := hide ek
     clear Q Q' ek
     have hgr0 := grown_refl wr none
     have x0 : wr.cell? ⟨w.heap.size, 6, none⟩ = some (.slice (some ⟨g, 0, none⟩) kids.length cp) := zc0 6
     have x1 : wr.cell? ⟨w.heap.size + 1, 6, none⟩ = some (.slice (some ⟨g', 0, none⟩) kids.length cp') := zc1 6
     have hl0 := b0.lt
     go_wp2
     unfold maxLen at q2 q2'
     go_region_law (go_simp; go_at_call 11; refine (unhide HI kd2 tx2 nm2 ps2 ks2 (kid_size (unhide HS) (unhide EK)) _ ao2 ao2' cp2 cp2' ((unhide Q0).grown (by with_reducible repeat (first | assumption | exact grown_refl _ _ | refine grown_drew ?_))) ((unhide Q1).grown (by with_reducible repeat (first | assumption | exact grown_refl _ _ | refine grown_drew ?_)))).mono ?_; rintro e w2 ⟨rfl, hg2⟩; have hw2 := grown_trans (b := _) (show wr.grownBy _ none by with_reducible repeat (first | assumption | exact grown_refl _ _ | refine grown_drew ?_)) hg2)
     all_goals
      have G2 := grown_trans hgr hw2
      have d0 := BL.quiet b0 hw2
      have d1 := BL.quiet b1 hw2
      go_wp2
      go_roundg (kids.length + 1 - (j + 1))
      case measure => omega
      case rel => exact ⟨j + 1, rfl, by omega, by go_num, by (repeat (first | with_reducible assumption | with_reducible exact grown_refl _ _ | with_reducible refine grown_drew ?_ | with_reducible refine grown_alloc ?_ _)), by (repeat (first | with_reducible assumption | with_reducible refine BL.drew ?_)), by (repeat (first | with_reducible assumption | with_reducible refine BL.drew ?_))⟩
    ·have hltz : ¬ (j : Int) < kids.length := by omega
     go_wp2
     exact bodyPost_ret (v := .bool true) (by simp [results, Tryz.results11, go_sem]) rfl ⟨rfl, by (repeat (first | with_reducible assumption | with_reducible exact grown_refl _ _ | with_reducible refine grown_drew ?_ | with_reducible refine grown_alloc ?_ _))⟩
open Go.RowKit Lx Px
theorem Ag.quiet {lo hi : Nat} {a b c : World} (h : Ag lo hi a b) (k : b.grownBy c none) (hz : hi ≤ b.heap.size) : Ag lo hi a c := fun x h1 h2 => (k.block x (by omega) (by simp)).trans (h x h1 h2)
def small : Px.Tree → Bool
 | .mk _ _ _ _ l => decide (l.length ≤ 1000000) && (l.map small).all id
theorem small_mk {a : Int} {b : List UInt8} {c d : Int} {l : List Tree} (h : small (.mk a b c d l) = true) : l.length ≤ 1000000 ∧ ∀ t ∈ l, small t = true := by
 rw [small] at h
 simp only [Bool.and_eq_true, decide_eq_true_eq, List.all_eq_true] at h
 exact ⟨h.1, fun t ht => h.2 _ (List.mem_map.2 ⟨t, ht, rfl⟩)⟩
theorem take_one {l : List Tree} {j : Nat} {t : Tree} (h : l[j]? = some t) : (l.take (j + 1)).map er = (l.take j).map er ++ [er t] := by
 have hj : j < l.length := by
  apply Decidable.byContradiction
  intro hn
  rw [List.getElem?_eq_none (by omega)] at h
  cases h
 rw [List.getElem?_eq_getElem hj] at h
 cases h
 rw [List.take_succ_eq_append_getElem hj, List.map_append]; rfl
set_option maxHeartbeats 4000000 in
theorem bare_w : ∀ (n : Nat) (kd : Int) (tx : List UInt8) (nm ps : Int) (kids : List Tree), SizeOf.sizeOf (Px.Tree.mk kd tx nm ps kids) ≤ n → small (.mk kd tx nm ps kids) = true → ∀ (w : World) (ao : Option Addr) (cp : Nat), KidsAt w (.slice ao kids.length cp) kids →
 Calls Tryz.prog 12 #[.agg #[.int .i64 kd, .string ⟨tx.toArray⟩, .int .i64 nm, .int .i64 ps, .string ⟨#[]⟩, .int .i64 0, .slice ao kids.length cp]] w fun e w' => w.grownBy w' none ∧ ∃ ao2 cp2, e = .returned (.agg #[.int .i64 kd, .string ⟨tx.toArray⟩, .int .i64 nm, .int .i64 0, .string ⟨#[]⟩, .int .i64 0, .slice ao2 (kids.map er).length cp2]) ∧ RowI w' w.heap.size w'.heap.size (.slice ao2 (kids.map er).length cp2) (kids.map er) := by
 intro n
 induction n with
 | zero => intro kd tx nm ps kids h; exfalso; simp at h
 | succ n ih =>
   intro kd tx nm ps kids hsz hsm w ao cp K1
   have hfew := (small_mk hsm).1
   have HI := hide ih
   have HS := hide hsz
   have HM := hide (small_mk hsm).2
   have HK1 := hide K1
   clear ih hsz K1 hsm
   go_enter Tryz.func12, Tryz.ntmps12
   go_wp2
   go_loopg [4] (kids.length + 1) (fun g v4 wr => ∃ (j : Nat) (acc : List Tree) (ao0 : Option Addr) (cp0 : Nat), g = kids.length + 1 - j ∧ j ≤ kids.length ∧ v4 = .int .i64 j ∧ acc = (kids.take j).map er ∧ acc.length = j ∧ w.grownBy wr none ∧ BL wr w.heap.size (.cells #[.int .i64 kd, .string ⟨tx.toArray⟩, .int .i64 nm, .int .i64 ps, .string ⟨#[]⟩, .int .i64 0, .slice ao kids.length cp] 24) ∧ BL wr (w.heap.size + 1) nd0 ∧ BL wr (w.heap.size + 2) (.cells #[.int .i64 kd, .string ⟨tx.toArray⟩, .int .i64 nm, .int .i64 0, .string ⟨#[]⟩, .int .i64 0, .slice ao0 acc.length cp0] 24) ∧ RowI wr (w.heap.size + 3) wr.heap.size (.slice ao0 acc.length cp0) acc)
   case atStart => exact ⟨0, [], none, 0, by omega, by omega, rfl, by simp, rfl, by (repeat (first | with_reducible assumption | with_reducible exact grown_refl _ _ | with_reducible refine grown_drew ?_ | with_reducible refine grown_alloc ?_ _ | (with_reducible refine grown_set ?_ _ (by first | (left; omega) | (left; simp <;> omega))))), by (repeat (first | with_reducible assumption | with_reducible refine BL.drew ?_ | (with_reducible refine BL.new ?_; (first | omega | (simp <;> omega))) | with_reducible refine BL.alloc ?_ _ | (with_reducible refine BL.set ?_ _ ?_; rotate_left; (first | omega | (simp <;> omega))))), by (repeat (first | with_reducible assumption | with_reducible refine BL.drew ?_ | (with_reducible refine BL.new ?_; (first | omega | (simp <;> omega))) | with_reducible refine BL.alloc ?_ _ | (with_reducible refine BL.set ?_ _ ?_; rotate_left; (first | omega | (simp <;> omega))))), (by simp only [List.length_nil]; (repeat (first | with_reducible assumption | with_reducible refine BL.drew ?_ | (with_reducible refine BL.new ?_; (first | omega | (simp <;> omega))) | with_reducible refine BL.alloc ?_ _ | (with_reducible refine BL.set ?_ _ ?_; rotate_left; (first | omega | (simp <;> omega)))))), RowI.nil _ _ _⟩
   case round =>
    obtain ⟨j, acc, ao0, cp0, rfl, hj, rfl, hacc, hal, hgr, b0, b1, b2, row0⟩ := hrel
    have HAL := hide hal
    have hal2 : acc.length ≤ kids.length := by omega
    have HACC := hide hacc
    clear hal hacc
    have zc0 := b0.cell
    have zc2 := b2.cell
    have zc1 := b1.cell
    have fz1 := b1.frozen
    have fz2 := b2.frozen
    have hl2 := b2.lt
    by_cases hlt : j < kids.length
    ·have hltz : (j : Int) < kids.length := by omega
     obtain ⟨kd2, tx2, nm2, ps2, ks2, ek⟩ : ∃ a b c d e, kids[j]? = some (Px.Tree.mk a b c d e) := by
      rw [List.getElem?_eq_getElem hlt]; cases kids[j] with | mk a b c d e => exact ⟨a, b, c, d, e, rfl⟩
     obtain ⟨g, cap, ao2, cp2, e1, q1, q2, q3, Q, qc⟩ := ((unhide HK1).grown hgr).kid j _ _ _ _ _ ek
     have a0 := qc 0 (by omega)
     have a1 := qc 1 (by omega)
     have a2 := qc 2 (by omega)
     have a3 := qc 3 (by omega)
     have a4 := qc 4 (by omega)
     have a5 := qc 5 (by omega)
     have a6 := qc 6 (by omega)
     simp only [nodeC, List.getElem?_cons_zero, List.getElem?_cons_succ, Nat.add_zero] at a0 a1 a2 a3 a4 a5 a6
     cases e1
     clear qc
     have Q0 := hide Q
     have EK := hide ek
     have hsm2 := unhide HM _ (List.mem_of_getElem? ek)
     obtain ⟨kb, hkb⟩ : ∃ kb, kb = ks2.map er := ⟨_, rfl⟩
     have HC : Hid (∀ X, KidsAt X (.slice ao2 ks2.length cp2) ks2 → Calls Tryz.prog 12 #[.agg #[.int .i64 kd2, .string ⟨tx2.toArray⟩, .int .i64 nm2, .int .i64 ps2, .string ⟨#[]⟩, .int .i64 0, .slice ao2 ks2.length cp2]] X fun e w' => X.grownBy w' none ∧ ∃ ao3 cp3, e = .returned (.agg #[.int .i64 kd2, .string ⟨tx2.toArray⟩, .int .i64 nm2, .int .i64 0, .string ⟨#[]⟩, .int .i64 0, .slice ao3 kb.length cp3]) ∧ RowI w' X.heap.size w'.heap.size (.slice ao3 kb.length cp3) kb) := by
      subst hkb
      exact fun X K => unhide HI kd2 tx2 nm2 ps2 ks2 (kid_size (unhide HS) ek) hsm2 X ao2 cp2 K
     have HKB := hide hkb
     clear Q ek hsm2 hkb
     unfold maxLen at q2
     go_wp2
     go_region_law (first | (refine step_app rfl (.tmp 20) (.tmp 27) rfl (lo := w.heap.size + 3) (hi := wr.heap.size) (ao := ao0) (cp := cp0) (l := acc) (t := .mk kd2 tx2 nm2 0 kb) (A := lo2) (B := w2.heap.size) (g0 := w2.heap.size) (cur := #[.int .i64 kd2, .string ⟨tx2.toArray⟩, .int .i64 nm2, .int .i64 0, .string ⟨#[]⟩, .int .i64 0, .slice ao3 kb.length cp3]) (by simp [Act.eval]) (RowI.ag row0 (aw2 aw0 (by omega)) (Nat.le_refl _) (Nat.le_refl _)) (by simp [Act.eval]) (bw0 (by omega)) ((Nd.mk (kd := kd2) (tx := tx2) (nm := nm2) (ps := 0) row2).ag (aw2 aw0 (by simp <;> omega))) rfl one7 (by omega) (by simp <;> omega) (by simp <;> omega) (by omega) (by simp <;> omega) (by omega) ?_; intro g3 cp4 w3 hrw3 hgA hat3 hgl3; have hob := row0.own; have hz3 := hgA.size; (try simp at hz3); (try simp at hat3); have G3 : w.grownBy w3 none := grown_own (gw2 (by go_wf)) hgA (fun x hx => by have := hob x hx; omega); have bl0_3 := BL.own (bw2 bl0_2) hgA (fun e => by have := hob _ e.symm; omega); have bl1_3 := BL.own (bw2 bl1_2) hgA (fun e => by have := hob _ e.symm; omega); have bl2_3 := BL.own (bw2 bl2_2) hgA (fun e => by have := hob _ e.symm; omega); have zc2_3 := bl2_3.cell; have fz2_3 := bl2_3.frozen; have hl2_3 := bl2_3.lt) | (go_simp; go_at_call 12; (refine (unhide HC _ ((unhide Q0).grown (by (repeat (first | with_reducible assumption | with_reducible exact grown_refl _ _ | with_reducible refine grown_drew ?_ | with_reducible refine grown_alloc ?_ _ | (with_reducible refine grown_set ?_ _ (by first | (left; omega) | (left; simp <;> omega)))))))).mono ?_; rintro e w2 ⟨hg, ao3, cp3, rfl, hrow⟩; have hz2 := hg.size; (try simp at hz2); have G2 : w.grownBy w2 none := grown_trans (by (repeat (first | with_reducible assumption | with_reducible exact grown_refl _ _ | with_reducible refine grown_drew ?_ | with_reducible refine grown_alloc ?_ _ | (with_reducible refine grown_set ?_ _ (by first | (left; omega) | (left; simp <;> omega)))))) hg; replace row0 := RowI.ag row0 (Ag.quiet (by (repeat (first | with_reducible exact Ag.refl _ _ _ | with_reducible refine Ag.drew ?_))) hg (by first | omega | (simp <;> omega))) (Nat.le_refl _) (Nat.le_refl _); have bl0_2 := BL.quiet (show BL _ w.heap.size (.cells #[.int .i64 kd, .string ⟨tx.toArray⟩, .int .i64 nm, .int .i64 ps, .string ⟨#[]⟩, .int .i64 0, .slice (some ⟨g, 0, none⟩) kids.length cp] 24) by (repeat (first | with_reducible assumption | with_reducible refine BL.drew ?_ | (with_reducible refine BL.new ?_; (first | omega | (simp <;> omega))) | with_reducible refine BL.alloc ?_ _ | (with_reducible refine BL.set ?_ _ ?_; rotate_left; (first | omega | (simp <;> omega)))))) hg; have bl1_2 := BL.quiet (show BL _ (w.heap.size + 1) nd0 by (repeat (first | with_reducible assumption | with_reducible refine BL.drew ?_ | (with_reducible refine BL.new ?_; (first | omega | (simp <;> omega))) | with_reducible refine BL.alloc ?_ _ | (with_reducible refine BL.set ?_ _ ?_; rotate_left; (first | omega | (simp <;> omega)))))) hg; have bl2_2 := BL.quiet (show BL _ (w.heap.size + 2) (.cells #[.int .i64 kd, .string ⟨tx.toArray⟩, .int .i64 nm, .int .i64 0, .string ⟨#[]⟩, .int .i64 0, .slice ao0 acc.length cp0] 24) by (repeat (first | with_reducible assumption | with_reducible refine BL.drew ?_ | (with_reducible refine BL.new ?_; (first | omega | (simp <;> omega))) | with_reducible refine BL.alloc ?_ _ | (with_reducible refine BL.set ?_ _ ?_; rotate_left; (first | omega | (simp <;> omega)))))) hg; have zc2_2 := bl2_2.cell; have fz2_2 := bl2_2.frozen; have hl2_2 := bl2_2.lt; obtain ⟨lo2, hlo2, row2⟩ := hrow.named; (try simp at hlo2))))
     all_goals
      have hlen : (acc ++ [(.mk kd2 tx2 nm2 0 kb : Px.Tree)]).length = acc.length + 1 := by simp
      have rowz : RowI (w3.setCell ⟨w.heap.size + 2, 6, none⟩ (.slice (some ⟨g3, 0, none⟩) (acc.length + 1) cp4)) (w.heap.size + 3) w3.heap.size (.slice (some ⟨g3, 0, none⟩) (acc.length + 1) cp4) (acc ++ [(.mk kd2 tx2 nm2 0 kb : Px.Tree)]) := RowI.wide (hrw3 _ (by simp) (Ag.one (aw3 aw0 (by simp <;> omega))) (aw3 aw0 (by simp <;> omega)) (aw3 aw0 (by simp <;> omega))) (Nat.le_refl _) (by simp)
      have hx1 : acc ++ [(.mk kd2 tx2 nm2 0 kb : Px.Tree)] = (kids.take (j + 1)).map er := by rw [take_one (unhide EK), er_mk, ← unhide HKB, ← unhide HACC]
      have hx2 : (acc ++ [(.mk kd2 tx2 nm2 0 kb : Px.Tree)]).length = j + 1 := by rw [hlen, unhide HAL]
      have H1 := hide hx1
      have H2 := hide hx2
      clear hx1 hx2
      go_wp2
      go_roundg (kids.length + 1 - (j + 1))
      case measure => omega
      case rel =>
       refine ⟨j + 1, acc ++ [(.mk kd2 tx2 nm2 0 kb : Px.Tree)], some ⟨g3, 0, none⟩, cp4, rfl, by omega, by go_num, unhide H1, unhide H2, by (repeat (first | with_reducible assumption | with_reducible exact grown_refl _ _ | with_reducible refine grown_drew ?_ | with_reducible refine grown_alloc ?_ _ | (with_reducible refine grown_set ?_ _ (by first | (left; omega) | (left; simp <;> omega))))), by (repeat (first | with_reducible assumption | with_reducible refine BL.drew ?_ | (with_reducible refine BL.new ?_; (first | omega | (simp <;> omega))) | with_reducible refine BL.alloc ?_ _ | (with_reducible refine BL.set ?_ _ ?_; rotate_left; (first | omega | (simp <;> omega))))), by (repeat (first | with_reducible assumption | with_reducible refine BL.drew ?_ | (with_reducible refine BL.new ?_; (first | omega | (simp <;> omega))) | with_reducible refine BL.alloc ?_ _ | (with_reducible refine BL.set ?_ _ ?_; rotate_left; (first | omega | (simp <;> omega))))), ?_, ?_⟩
       ·rw [hlen]
        apply BL.put2 bl2_3; rfl
       ·rw [hlen]
        exact RowI.wide rowz (Nat.le_refl _) (by simp)
    ·have hltz : ¬ (j : Int) < kids.length := by omega
     have hjn : j = kids.length := by omega
     have hfin := hide (show acc = kids.map er by rw [unhide HACC, hjn, List.take_length])
     have hle := hide (show kids.length = acc.length by rw [unhide HAL]; exact hjn.symm)
     go_wp2
     refine bodyPost_ret (v := .agg #[.int .i64 kd, .string ⟨tx.toArray⟩, .int .i64 nm, .int .i64 0, .string ⟨#[]⟩, .int .i64 0, .slice ao0 acc.length cp0]) (by simp [results, Tryz.results12, go_sem, *]) rfl ⟨by (repeat (first | with_reducible assumption | with_reducible exact grown_refl _ _ | with_reducible refine grown_drew ?_ | with_reducible refine grown_alloc ?_ _ | (with_reducible refine grown_set ?_ _ (by first | (left; omega) | (left; simp <;> omega))))), ao0, cp0, by rw [unhide hle], ?_⟩
     rw [← unhide hfin, unhide hle]
     exact RowI.ag row0 (by (repeat (first | with_reducible exact Ag.refl _ _ _ | with_reducible refine Ag.drew ?_ | with_reducible refine Ag.alloc ?_ _ (by first | (simp <;> omega) | omega) | with_reducible refine Ag.set ?_ _ (by first | (left; simp <;> omega) | (left; omega))))) (by omega) (by simp)
def Good (l : List UInt8) (kids : List Tree) : Prop := (lexR l).2.1 = 0 ∧ ∃ s k', runF (lexR l).1 = .ok [nd 1 [] 0 kids] s k'
theorem Parse_good (s : ByteArray) (kids : List Tree) (w : World) (hv : Vars w) (hg : Good s.toList kids) : Calls Tryz.prog 15 #[.string s] w fun e w' => Below w.heap.size w w' ∧ ∃ ao cp, e = .returned (.tuple #[.agg #[.int .i64 1, .string ⟨#[]⟩, .int .i64 0, .int .i64 0, .string ⟨#[]⟩, .int .i64 0, .slice ao kids.length cp], .agg #[.int .i64 0, .int .i64 0]]) ∧ KidsAt w' (.slice ao kids.length cp) kids := by
 refine (Parse_any s w hv).mono ?_
 rintro e w' ⟨hb, hp⟩
 obtain ⟨h0, s, k', hr⟩ := hg
 refine ⟨hb, ?_⟩
 rcases hp with ⟨h, rfl⟩ | ⟨h, kd, tx, nm, ps, kids2, s2, k2, ao, cp, hr2, rfl, hrow⟩ | ⟨h, p, hr2, rfl⟩
 ·exact absurd h0 h
 ·rw [hr] at hr2
  simp only [nd, R.ok.injEq, List.cons.injEq, Px.Tree.mk.injEq, and_true] at hr2
  obtain ⟨⟨rfl, rfl, rfl, rfl, rfl⟩, _, _⟩ := hr2
  exact ⟨ao, cp, rfl, KidsAt.of hrow (Nat.le_refl _)⟩
 ·rw [hr] at hr2; cases hr2
end Go.Proofs.YtgckmkiiheaeaaaGreatDoor.Jj
namespace Go.Proofs.YtgckmkiiheaeaaaGreatDoor.Px
open Lx
theorem file_top (ts : List Tok) (h : Bool) : ∀ (n : Nat) (acc : List Tree) (k : Nat) (l : List Tree) (s : Int) (k' : Nat), k ≤ ts.length → run ts n (.fileMore acc) h k = .ok l s k' → k' ≤ ts.length ∧ ∃ kids, l = [nd 1 [] 0 kids]
 | 0, _, _, _, _, _, _, e => by cases e
 | n + 1, acc, k, l, s, k', hk, e => by
   have e2 : fFileMore ts (run ts n) acc h k = .ok l s k' := e
   unfold fFileMore at e2
   split at e2
   ·cases e2; exact ⟨hk, _, rfl⟩
   ·cases hd : run ts n .decl h k with
    | ok l2 s2 k2 =>
      rw [hd] at e2
      match l2, e2 with
      | [d], e2 =>
        simp only [R.bind1, want] at e2
        split at e2
        ·rename_i hq
         exact file_top ts h n _ _ _ _ _ (lt_is hq) e2
        ·cases e2
      | [], e2 => cases e2
      | _ :: _ :: _, e2 => cases e2
    | bad p => rw [hd] at e2; cases e2
    | out => rw [hd] at e2; cases e2
theorem small_of : ∀ (n : Nat) (t : Px.Tree), SizeOf.sizeOf t ≤ n → cnt t ≤ 1000000 → Jj.small t = true := by
 intro n
 induction n with
 | zero => intro t h; exfalso; cases t; simp at h
 | succ n ih =>
   intro t h hc
   cases t with
   | mk a b c d l =>
     rw [cnt_mk] at hc
     have hl := cntL_len l
     rw [Jj.small]
     simp only [Bool.and_eq_true, decide_eq_true_eq, List.all_eq_true]
     refine ⟨by omega, fun x hx => ?_⟩
     obtain ⟨t, ht, rfl⟩ := List.mem_map.1 hx
     have h1 := List.sizeOf_lt_of_mem ht
     have h2 := cntL_mem ht
     simp only [Px.Tree.mk.sizeOf_spec] at h
     exact ih t (by omega) (by omega)
theorem file_few (ts : List Tok) (n : Nat) (h : Bool) (kids : List Tree) (s : Int) (k' : Nat) (hr : run ts n (.fileMore []) h 0 = .ok [nd 1 [] 0 kids] s k') (hk : k' ≤ 60000) : Jj.small (.mk 1 [] 0 0 kids) = true := by
 have h1 := (run_few ts n (.fileMore []) h 0 trivial _ _ _ hr).2
 simp only [cntL_cons, cntL_nil, cnt_nd, cj, ex] at h1
 exact small_of _ _ (Nat.le_refl _) (by rw [cnt_mk]; omega)
end Go.Proofs.YtgckmkiiheaeaaaGreatDoor.Px
namespace Go.Proofs.YtgckmkiiheaeaaaGreatDoor
open Go.RowKit Lx Px
abbrev PG (s : ByteArray) (kd : Int) (kids : List Tree) (m : Nat) (st : Int) : Prop := ∀ w, Vars w → Calls Tryz.prog 15 #[.string s] w fun e w' => Below w.heap.size w w' ∧ ∃ ao cp p, e = .returned (.tuple #[.agg #[.int .i64 kd, .string ⟨#[]⟩, .int .i64 0, .int .i64 0, .string ⟨#[]⟩, .int .i64 0, .slice ao m cp], .agg #[.int .i64 st, .int .i64 p]]) ∧ Jj.KidsAt w' (.slice ao m cp) kids
theorem pg_ok {s : ByteArray} {kids : List Tree} {m : Nat} (hm : kids.length = m) (h : Jj.Good s.toList kids) : PG s 1 kids m 0 := by
 subst hm
 exact fun w hv => (Jj.Parse_good s kids w hv h).mono fun e w' ⟨hb, ao, cp, he, hk⟩ => ⟨hb, ao, cp, 0, he, hk⟩
theorem pg_bad {s : ByteArray} {p : Int} (h0 : (lexR s.toList).2.1 = 0) (hr : runF (lexR s.toList).1 = .bad p) : PG s 0 [] 0 4 := by
 intro w hv
 refine (Parse_any s w hv).mono ?_
 rintro e w' ⟨hb, hp⟩
 refine ⟨hb, ?_⟩
 rcases hp with ⟨h, _⟩ | ⟨h, kd, tx, nm, ps, kids2, s2, k2, ao, cp, hr2, _, _⟩ | ⟨h, p, hr2, rfl⟩
 ·exact absurd h0 h
 ·rw [hr] at hr2; cases hr2
 ·exact ⟨none, 0, p, rfl, [], ⟨rfl, .inl ⟨rfl, rfl⟩⟩, .nil _⟩
theorem both (s x : ByteArray) (L : List Tok) (p : Int) (hL : lexR s.toList = (L, 0, p)) (hx : x.toList = Sp.spell L) (hl : x.size ≤ 8192) (hn : L.length ≤ 2002) :
 ∃ kd kids kids' m st, PG s kd kids m st ∧ PG x kd kids' m st ∧ kids.length = m ∧ kids'.length = m ∧ kids'.map er = kids.map er ∧ Jj.small (.mk kd [] 0 0 kids) = true ∧ Jj.small (.mk kd [] 0 0 kids') = true ∧ m ≤ 1000000 := by
 obtain ⟨L', hL', hm⟩ := Sp.lex_spell _ L p hL (by rw [← hx, toL_len]; exact hl)
 rw [← hx] at hL'
 have hll : L'.length = L.length := by have := congrArg List.length hm; simpa using this
 have a1 : (lexR s.toList).2.1 = 0 := by rw [hL]
 have a2 : (lexR s.toList).1 = L := by rw [hL]
 have b1 : (lexR x.toList).2.1 = 0 := by rw [hL']
 have b2 : (lexR x.toList).1 = L' := by rw [hL']
 cases hr : runF L with
 | ok l sg k =>
   obtain ⟨hk, kids, rfl⟩ := file_top L false _ [] 0 l sg k (Nat.zero_le _) hr
   obtain ⟨t', hr', he⟩ := spaced_ok hm hr
   obtain ⟨hk', kids', e'⟩ := file_top L' false _ [] 0 _ _ _ (Nat.zero_le _) hr'
   obtain rfl : t' = nd 1 [] 0 kids' := by simpa using e'
   have e3 : kids'.map er = kids.map er := by rw [nd, er_mk, nd, er_mk] at he; exact ((Tree.mk.inj he).2.2.2.2).symm
   have e4 : kids'.length = kids.length := by have := congrArg List.length e3; simpa using this
   have s1 := file_few L _ false kids sg k hr (by omega)
   exact ⟨1, kids, kids', kids.length, 0, pg_ok rfl ⟨a1, sg, k, by rw [a2]; exact hr⟩, pg_ok e4 ⟨b1, sg, k, by rw [b2]; exact hr'⟩, rfl, e4, e3, s1, file_few L' _ false kids' sg k hr' (by omega), (Jj.small_mk s1).1⟩
 | bad p2 =>
   cases hr' : runF L' with
   | ok l' s' k' =>
     obtain ⟨_, kids', rfl⟩ := file_top L' false _ [] 0 _ _ _ (Nat.zero_le _) hr'
     exact absurd hr' (spaced_bad hm hr)
   | bad p3 =>
     exact ⟨0, [], [], 0, 4, pg_bad a1 (by rw [a2]; exact hr), pg_bad b1 (by rw [b2]; exact hr'), rfl, rfl, rfl, by simp [Jj.small], by simp [Jj.small], by omega⟩
   | out => exact absurd hr' (file_live _ _)
 | out => exact absurd hr (file_live _ _)
end Go.Proofs.YtgckmkiiheaeaaaGreatDoor
