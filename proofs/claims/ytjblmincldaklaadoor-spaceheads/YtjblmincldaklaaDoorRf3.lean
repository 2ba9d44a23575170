/- The document's heap: row. -/
import Derived.Test.YtjblmincldaklaaDoorRf2
namespace Go.Proofs.YtjblmincldaklaaDoor
open Go.RowKit Go.Proofs.YtjblmincldaklaaDoor.Hp
theorem AddP.pre {w0 w1 w' : World} {pb base N a r : Nat} {L : List Rb} {e : Ending} (k : Fr (fun _ => False) w0 w1) (h : AddP w1 pb base N a r L e w') : AddP w0 pb base N a r L e w' := by
  obtain ⟨e1, gw, lv, h1, h2, h3, h4, h5, h6⟩ := h
  have := k.size
  exact ⟨e1, gw, lv, h1, by omega, h3, h4, fun g hg => ⟨by have := (h5 g hg).1; omega, (h5 g hg).2⟩, (k.mono fun _ x => x.elim).trans h6⟩
def RAllocP (w0 : World) (pb base N m : Nat) (A : Nat → Kd) (L : List Rb) (e : Ending) (w' : World) : Prop :=
  (∃ a A', Goes N A m a A' ∧ e = .returned (.tuple #[.int .i64 (a : Int), .bool true]) ∧ AddP w0 pb base N a (roomOfM m) L (.returned (.int .i64 (a : Int))) w') ∨ (NoPlace N A m ∧ e = .returned (.tuple #[.int .i64 0, .bool false]) ∧ Fr (fun _ => False) w0 w')
/-- The free spans in a row ahead of s. -/
structure RowI (A : Nat → Kd) (k s hv : Nat) : Prop where
  le : hv < s
  lt : hv < k
  fr : ∀ t, s - hv ≤ t → t < s → A t = .free
  no : ∀ g, g < s - hv → ∃ t, g ≤ t ∧ t < g + k ∧ A t ≠ .free
theorem RowI.start {A : Nat → Kd} {k : Nat} (h0 : A 0 = .tail) (hk : 0 < k) : RowI A k 1 0 :=
  ⟨by omega, hk, fun t a b => by omega, fun g hg => ⟨0, by omega, by omega, by rw [h0]; intro h; cases h⟩⟩
theorem RowI.more {A : Nat → Kd} {k s hv : Nat} (h : RowI A k s hv) (e : A s = .free) (hlt : hv + 1 < k) : RowI A k (s + 1) (hv + 1) := by
  have := h.le
  refine ⟨by omega, hlt, fun t a b => ?_, fun g hg => h.no g (by omega)⟩
  by_cases e2 : t = s
  · rw [e2]; exact e
  · exact h.fr t (by omega) (by omega)
theorem RowI.stop {A : Nat → Kd} {k s hv : Nat} (h : RowI A k s hv) (e : A s ≠ .free) : RowI A k (s + 1) 0 := by
  have := h.le
  have := h.lt
  refine ⟨by omega, by omega, fun t a b => by omega, fun g hg => ?_⟩
  by_cases e2 : g < s - hv
  · exact h.no g e2
  · exact ⟨s, by omega, by omega, e⟩
theorem RowI.goes {A : Nat → Kd} {N m k s hv : Nat} (h : RowI A k s hv) (e : A s = .free) (hlt : hv + 1 = k) (hs : s < N) (hm : 64 < m) (hk : k = (m + 63) / 64) : ∃ A', Goes N A m ((s - hv) * 64) A' := by
  have := h.le
  refine ⟨_, Goes.row (s - hv) k hm hk (by omega) (fun t a b => ?_) h.no⟩
  by_cases e2 : t = s
  · rw [e2]; exact e
  · exact h.fr t (by omega) (by omega)
theorem RowI.none {A : Nat → Kd} {N m k hv : Nat} (h : RowI A k N hv) (hm : 64 < m) (hk : k = (m + 63) / 64) : NoPlace N A m := by
  have := h.le
  have := h.lt
  subst hk
  exact .inr ⟨hm, fun g hg => h.no g (by omega)⟩
set_option maxRecDepth 100000 in
set_option maxHeartbeats 2000000 in
theorem row_ref (pb base N m k : Nat) (L : List Rb) (lv : Value) (A : Nat → Kd) (w : World) (h : RefAt w pb base N L lv) (hb : base ≤ w.heap.size) (hI : Inv N A) (hM : Match A L) (hN1 : 1 ≤ N) (hN : N ≤ 128) (hf : L.length ≤ 5000) (hm : 64 < m) (hm2 : m ≤ 16448) (hk : k = (m + 63) / 64) :
    Calls Tryd.prog 51 #[.pointer (some ⟨pb, 0, none⟩), .int .i64 k] w fun e w' => RAllocP w pb base N m A L e w' := by
  have hr : roomOfM m = 64 * k := by unfold roomOfM; rw [if_neg (by omega), hk]
  have hk1 : 2 ≤ k := by omega
  have hk2 : k ≤ 257 := by omega
  have H := hide h
  have HI := hide hI
  have HM := hide hM
  have HS := hide (RowI.start (k := k) (A := A) hI.zero (by omega))
  have HR := hide hr
  have HK := hide hk
  clear h hI hM hr hk
  go_enter Tryd.func51, Tryd.ntmps51
  go_wp2
  go_loopw [4, 5, 6, 7] (fun t4 t5 t u wr => t4 = .int .i64 0 ∧ t5 = .bool false ∧ ∃ s hv : Nat, 1 ≤ s ∧ s ≤ N ∧ hv < s ∧ hv < k ∧ t = .int .i64 hv ∧ u = .int .i64 s ∧ Hid (RowI A k s hv) ∧ Hid (Fr (fun _ => False) w wr)) (fun _ _ _ u _ => N - (intOf u).toNat)
  case atStart => exact ⟨rfl, rfl, 1, 0, by omega, by omega, by omega, by omega, rfl, rfl, HS, hide (Fr.refl _ _)⟩
  case round =>
    obtain ⟨rfl, rfl, s, hv, hs1, hs2, hv1, hv2, rfl, rfl, hRo, hF⟩ := hrel
    have hR := (unhide H).quiet (unhide hF)
    have cN := hR.cN
    by_cases hlt : s < N
    · have HC := hide (Class_any pb base N L lv A s wr hR (unhide HI) (unhide HM) hs1 hlt (by omega))
      clear hR
      by_cases hfr : A s = .free
      · rw [(cK_zero s).2 hfr] at HC
        go_wp2_with fail
        refine (unhide HC).mono ?_
        rintro e w1 ⟨rfl, hF1⟩
        have hF2 := (unhide hF).trans hF1
        by_cases hlk : hv + 1 = k
        · obtain ⟨A', hgo⟩ := (unhide hRo).goes hfr hlk hlt hm (unhide HK)
          have HGo := hide hgo
          have HF2 := hide hF2
          have hsz := hF2.size
          have hA := add_ref pb base N ((s - hv) * 64) (64 * k) L lv w1 ((unhide H).quiet hF2) (by omega) (by omega) hf
          have HA := hide hA
          rw [show (((s - hv) * 64 : Nat) : Int) = 64 * ((s : Int) - (k : Int) + 1) by omega, show ((64 * k : Nat) : Int) = 64 * (k : Int) by omega] at HA
          clear hF1 hF2 hfr hgo hA HC
          go_wp2_with fail
          refine (unhide HA).mono ?_
          intro e w2 hP
          have he := hP.1
          subst he
          have HP := hide hP
          clear hP HA
          go_wp2
          go_ret2
          exact .inl ⟨_, _, unhide HGo, rfl, by rw [unhide HR]; exact (unhide HP).pre (unhide HF2)⟩
        · have HF2 := hide hF2
          have HRo := hide ((unhide hRo).more hfr (by omega))
          clear hF1 hF2 hfr HC
          go_wp2
          go_roundw
          case rel => exact ⟨rfl, rfl, s + 1, hv + 1, by omega, by omega, by omega, by omega, by go_num, by go_num, HRo, HF2⟩
          case measure => simp [intOf]; omega
      · have hne : cK (A s) ≠ 0 := fun e => hfr ((cK_zero s).1 e)
        have HRo := hide ((unhide hRo).stop hfr)
        clear hfr
        generalize cK (A s) = z at *
        go_wp2_with fail
        refine (unhide HC).mono ?_
        rintro e w1 ⟨rfl, hF1⟩
        have HF2 := hide ((unhide hF).trans hF1)
        clear hF1 HC
        go_wp2
        go_roundw
        case rel => exact ⟨rfl, rfl, s + 1, 0, by omega, by omega, by omega, by omega, rfl, by go_num, HRo, HF2⟩
        case measure => simp [intOf]; omega
    · have es : s = N := by omega
      subst es
      have HP := hide ((unhide hRo).none hm (unhide HK))
      clear hR
      go_wp2
      go_ret2
      exact .inr ⟨unhide HP, rfl, unhide hF⟩
end Go.Proofs.YtjblmincldaklaaDoor
