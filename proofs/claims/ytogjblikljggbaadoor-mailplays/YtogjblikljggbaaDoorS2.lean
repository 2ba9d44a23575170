/- Hold, Drop, roots, Told. -/
import Derived.Test.YtogjblikljggbaaDoorS1
import Derived.Deep.AppendLies
import Derived.Laws.Small
import Derived.Deep.RegionHeld2
namespace Go.Proofs.YtogjblikljggbaaDoor
open Go.RowKit Go.Proofs.YtogjblikljggbaaDoor.Hp
variable {w w' : World} {B : HB} {n p : Nat} {A : Nat → Kd} {wd : Nat → Int} {hv : Value} {held : List Int} {cnt : Nat}
/-- The words that are held are others. -/
theorem Sp.heldTo {hv' : Value} {held' : List Int} {w1 : World} {K : Nat → Prop} (h : Sp w B n p A wd hv held cnt) (k : Fr K w w1) (hk : ∀ b, B.mem b → ¬ K b) (hp : ¬ K p) (h0 : ¬ K 0) (h1 : ¬ K 1)
    (ho : w1.ownsRow 2 3 1 hv' held'.length (held'.map (Value.int .i64))) (hon : ∀ g, hv'.ownBlock = some g → ¬ B.mem g ∧ g ≠ p) (hl : held'.length ≤ 900) (hr : ∀ z ∈ held', -9223372036854775808 ≤ z ∧ z < 9223372036854775808) :
    Sp (w1.setCell ⟨p, 2, none⟩ hv') B n p A wd hv' held' cnt := by
  have k2 : Fr (· = p) w1 (w1.setCell ⟨p, 2, none⟩ hv') := (Fr.refl (· = p) w1).setCell (p := ⟨p, 2, none⟩) rfl _
  have h2 := h.p2
  refine ⟨(h.at_.fr' k hk).fr' k2 (fun b hb e => h.pm (e ▸ hb)), h.inv, (h.vars.fr k h0 h1).fr k2 (by omega) (by omega), h.lo, h.hi, ?_, h.pm, h.p2, own_blk ho (fun g hg => k2.block g (ho.lt g hg).2 (hon g hg).2), hon, hl, hr, h.cn, h.hd⟩
  refine ((h.st.fr k hp).set 2 hv' (by omega)).ext fun i hi => ?_
  by_cases e : i = 2
  · subst e; rw [upd_same]; rfl
  · rw [upd_ne _ _ e]
    unfold spCell
    rw [if_neg e, if_neg e]
def HoldP (w : World) (B : HB) (n p : Nat) (A : Nat → Kd) (wd : Nat → Int) (hv : Value) (held : List Int) (cnt : Nat) (e : Ending) (w' : World) : Prop :=
  ∃ hv', e = .returned (.tuple #[]) ∧ Sp w' B n p A wd hv' held cnt ∧ Fr (SpK B p hv) w w' ∧ ∀ g, hv'.ownBlock = some g → hv.ownBlock = some g ∨ w.heap.size ≤ g
set_option maxRecDepth 100000 in
set_option maxHeartbeats 2000000 in
theorem Hold_any (h : Sp w B n p A wd hv held cnt) (z : Int) (hz : -9223372036854775808 ≤ z ∧ z < 9223372036854775808) (hl : held.length < 900) :
    Calls Tryd.prog 18 #[.pointer (some ⟨p, 0, none⟩), .int .i64 z] w fun e w' => HoldP w B n p A wd hv (held ++ [z]) cnt e w' := by
  have HS := hide h
  have c2 := h.c2
  have c2f := (h.st 2 (by omega)).2
  have hp := h.st.lt (by omega)
  obtain ⟨i0, hi, hz0, hz1, hz2⟩ := info_parts Tryd.info3
  obtain ⟨ao, cp, hf, _⟩ := own_form h.own
  have HEq := hide hf
  rw [hf] at c2
  have HO := hide h.own
  obtain ⟨len, hlen⟩ : ∃ len, len = held.length := ⟨_, rfl⟩
  rw [hf] at HO
  rw [← hlen] at c2 hl HO
  have HLn := hide hlen
  have HG : Hid (∀ (o : Obj) (w4 : World), (w.alloc o).grownBy w4 (Value.slice ao len cp).ownBlock → Fr (SpK B p hv) w w4 ∧ w4.cell? ⟨p, 2, none⟩ = some (.slice ao len cp) ∧ w4.frozen? ⟨p, 2, none⟩ = false ∧ Fr (fun k => hv.ownBlock = some k) w w4) := hide fun o w4 hg => by
    rw [hlen, ← hf] at hg
    have hF : Fr (fun k => hv.ownBlock = some k) w w4 := ((Fr.refl _ w).alloc o).trans ((Fr.grown hg).mono fun k e => e.symm)
    have hpn : ¬ hv.ownBlock = some p := fun e => (h.on p e).2 rfl
    have hr := h.st.fr hF hpn
    exact ⟨hF.mono fun k e => .inr (.inr e), by rw [(hr 2 (by omega)).1, hlen, ← hf]; rfl, (hr 2 (by omega)).2, hF⟩
  clear h hf hlen
  go_enter Tryd.func18, Tryd.ntmps18
  go_wp2_with (first | (at_builtin; refine wpList_append_lies _ rfl _ _ 28 rfl 2 3 i0 (.int .i64 0) 1 8 Tryd.underlying28 hi hz0 hz1 hz2 rfl (by decide) (.slice ao len cp) len (held.map (Value.int .i64)) rfl ((unhide HO).alloc _) ⟨w.heap.size, 0, none⟩ 1 1 [.int .i64 z] rfl rfl (cell_one_new _ _ _) (ints_oneCell .i64 [z]) (by decide) (by unfold maxLen; omega) (by omega) (by simp; omega) _ rfl ?_; intro g cap w4 hown4 hgrow4 hat4 hlt4; obtain ⟨hF4, c4, f4, hG4⟩ := unhide HG _ _ hgrow4; have HF4 := hide hF4; have HG4 := hide hG4; have HO4 := hide hown4; have HA4 := hide hat4; clear hF4 hG4 hown4 hat4 hgrow4))
  go_end0
  have hs := unhide HS
  have hel := unhide HEq
  have hln := unhide HLn
  refine ⟨.slice (some ⟨g, 0, none⟩) (len + 1) cap, rfl, ?_, (unhide HF4).setCell (p := ⟨p, 2, none⟩) (.inr (.inl rfl)) _, ?_⟩
  · have hw := hs.at_.lts.1
    refine hs.heldTo (unhide HG4) (fun b hb e => (hs.on b e).1 hb) (fun e => (hs.on p e).2 rfl) (fun e => by have := (hs.own.lt 0 e).1; omega) (fun e => by have := (hs.own.lt 1 e).1; omega) ?_ ?_ ?_ ?_
    · have := unhide HO4
      rw [List.length_append, ← hln, List.map_append]
      exact this
    · intro g' hg'
      have eg : g = g' := by simpa [Value.ownBlock] using hg'
      subst eg
      rcases unhide HA4 with e | e
      · rw [hln, ← hel] at e; exact hs.on g e
      · have : w.heap.size < g := by rw [e]; simp
        exact ⟨fun hm => by have := hs.at_.lt hm; omega, by omega⟩
    · simp; omega
    · intro y hy
      rcases List.mem_append.1 hy with hy | hy
      · exact hs.hr y hy
      · obtain rfl : y = z := by simpa using hy
        exact hz
  · intro g' hg'
    have eg : g = g' := by simpa [Value.ownBlock] using hg'
    subst eg
    rcases unhide HA4 with e | e
    · rw [hln, ← hel] at e; exact .inl e
    · exact .inr (by rw [e]; simp)
end Go.Proofs.YtogjblikljggbaaDoor
