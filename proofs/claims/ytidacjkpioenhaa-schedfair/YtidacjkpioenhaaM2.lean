/- The queue in memory; numbers of its schedule. -/
import Derived.Test.YtidacjkpioenhaaM1
namespace Go.Proofs.Ytidacjkpioenhaa
open Go.RowKit
/-- The queue's blocks: its own, that of its schedule, that of those who wait. -/
structure Qb where
  p : Nat
  sb : Option Nat
  ib : Option Nat
def Qb.own (B : Qb) (k : Nat) : Prop := k = B.p ∨ B.ib = some k
def Qb.all (B : Qb) (k : Nat) : Prop := k = B.p ∨ B.ib = some k ∨ B.sb = some k
def rng (z : Int) : Prop := -9223372036854775808 ≤ z ∧ z < 9223372036854775808
structure QAt (w : World) (B : Qb) (S I : List Int) : Prop where
  vs : ∃ v, w.cell? ⟨B.p, 0, none⟩ = some v ∧ Own w v B.sb S
  vi : ∃ v, w.cell? ⟨B.p, 1, none⟩ = some v ∧ Own w v B.ib I
  f0 : w.frozen? ⟨B.p, 0, none⟩ = false
  f1 : w.frozen? ⟨B.p, 1, none⟩ = false
  ps : B.sb ≠ some B.p
  pi : B.ib ≠ some B.p
  si : ∀ k, B.sb = some k → B.ib ≠ some k
  rg : ∀ z ∈ S, rng z
  le : S.length ≤ 1000000
theorem QAt.plt {w : World} {B : Qb} {S I : List Int} (h : QAt w B S I) : B.p < w.heap.size := by
  obtain ⟨v, h, _⟩ := h.vs
  exact World.block_lt_of_cell? w ⟨B.p, 0, none⟩ h
theorem QAt.lt {w : World} {B : Qb} {S I : List Int} (h : QAt w B S I) (k : Nat) (hk : B.all k) : k < w.heap.size := by
  rcases hk with rfl | hk | hk
  · exact h.plt
  · obtain ⟨v, _, ho⟩ := h.vi
    exact ho.lt k hk
  · obtain ⟨v, _, ho⟩ := h.vs
    exact ho.lt k hk
theorem QAt.fr {w w' : World} {B : Qb} {S I : List Int} {K : Nat → Prop} (h : QAt w B S I) (k : Fr K w w') (hk : ∀ j, B.all j → ¬ K j) : QAt w' B S I := by
  obtain ⟨v, c0, o0⟩ := h.vs
  obtain ⟨u, c1, o1⟩ := h.vi
  have hp := hk B.p (.inl rfl)
  exact ⟨⟨v, k.cell c0 hp, o0.fr k fun g e => hk g (.inr (.inr e))⟩, ⟨u, k.cell c1 hp, o1.fr k fun g e => hk g (.inr (.inl e))⟩, k.free h.plt h.f0 hp, k.free h.plt h.f1 hp, h.ps, h.pi, h.si, h.rg, h.le⟩
theorem QAt.quiet {w w' : World} {B : Qb} {S I : List Int} (h : QAt w B S I) (k : Fr (fun _ => False) w w') : QAt w' B S I := h.fr k fun _ _ => id
/-- The schedule's cell is written. -/
theorem QAt.setS {w : World} {B : Qb} {S I : List Int} (h : QAt w B S I) {S' : List Int} {v : Value} (ho : Own w v B.sb S') (hr : ∀ z ∈ S', rng z) (hl : S'.length ≤ 1000000) : QAt (w.setCell ⟨B.p, 0, none⟩ v) B S' I := by
  obtain ⟨v0, c0, _⟩ := h.vs
  obtain ⟨u, c1, o1⟩ := h.vi
  have k : Fr (· = B.p) w (w.setCell ⟨B.p, 0, none⟩ v) := (Fr.refl (· = B.p) w).setCell (p := ⟨B.p, 0, none⟩) rfl v
  refine ⟨⟨v, World.cell?_setCell_same _ _ _ c0, ho.fr k fun g e hg => h.ps (hg ▸ e)⟩, ⟨u, ?_, o1.fr k fun g e hg => h.pi (hg ▸ e)⟩, ?_, ?_, h.ps, h.pi, h.si, hr, hl⟩
  · rw [World.cell?_setCell_other _ _ _ _ (by simp)]; exact c1
  · rw [World.frozen?_setCell]; exact h.f0
  · rw [World.frozen?_setCell]; exact h.f1
/-- The cell of those who wait is written. -/
theorem QAt.mkI {w : World} {p : Nat} {sb ib : Option Nat} {S I : List Int} {v0 v u : Value} (c0 : w.cell? ⟨p, 0, none⟩ = some v0) (o0 : Own w v0 sb S) (c1 : w.cell? ⟨p, 1, none⟩ = some u) (f0 : w.frozen? ⟨p, 0, none⟩ = false) (f1 : w.frozen? ⟨p, 1, none⟩ = false) (ps : sb ≠ some p) (rg : ∀ z ∈ S, rng z) (le : S.length ≤ 1000000)
    (ho : Own w v ib I) (hp : ib ≠ some p) (hs : ∀ k, sb = some k → ib ≠ some k) : QAt (w.setCell ⟨p, 1, none⟩ v) ⟨p, sb, ib⟩ S I := by
  have k : Fr (· = p) w (w.setCell ⟨p, 1, none⟩ v) := (Fr.refl (· = p) w).setCell (p := ⟨p, 1, none⟩) rfl v
  refine ⟨⟨v0, ?_, o0.fr k fun g e hg => ps (hg ▸ e)⟩, ⟨v, World.cell?_setCell_same _ _ _ c1, ho.fr k fun g e hg => hp (hg ▸ e)⟩, ?_, ?_, ps, hp, hs, rg, le⟩
  · rw [World.cell?_setCell_other _ _ _ _ (by simp)]; exact c0
  · rw [World.frozen?_setCell]; exact f0
  · rw [World.frozen?_setCell]; exact f1
/-- The schedule's next number. -/
def numN (S : List Int) : Nat := (S.headD 0).toNat
theorem num_lt {S : List Int} (h : ∀ z ∈ S, rng z) : numN S < 9223372036854775808 := by
  unfold numN
  cases S with
  | nil => simp
  | cons z r => have := h z (by simp); unfold rng at this; simp; omega
set_option maxRecDepth 100000 in
set_option maxHeartbeats 1000000 in
theorem Number_q (w : World) (B : Qb) (S I : List Int) (h : QAt w B S I) :
    Calls Try.prog 15 #[.pointer (some ⟨B.p, 0, none⟩)] w fun e w' => e = .returned (.int .i64 (numN S : Nat)) ∧ QAt w' B S.tail I ∧ Fr (· = B.p) w w' := by
  obtain ⟨v, c0, o0⟩ := h.vs
  have f0 := h.f0
  cases S with
  | nil =>
    obtain ⟨ao, cap, rfl, _⟩ := o0.form
    have HQ := hide h
    clear h o0
    go_enter Try.func15, Try.ntmps15
    go_wp2
    go_ret
    exact ⟨rfl, unhide HQ, Fr.refl _ _⟩
  | cons z r =>
    obtain ⟨b, off, cap, rfl, hle, cz⟩ : ∃ b off cap, v = .slice (some ⟨b, off, none⟩) (r.length + 1) cap ∧ r.length + 1 ≤ cap ∧ w.cell? ⟨b, off, none⟩ = some (.int .i64 z) := by
      rcases o0 with ⟨_, e, _⟩ | ⟨g, off, cap, hv, e, hl, hle, hs, hc⟩
      · cases e
      · exact ⟨g, off, cap, hv, hle, by simpa using hc 0 (by simp)⟩
    have hln := h.le
    simp only [List.length_cons] at hln
    have HQ : Hid (∀ u, Own w u B.sb r → QAt (w.setCell ⟨B.p, 0, none⟩ u) B r I ∧ Fr (· = B.p) w (w.setCell ⟨B.p, 0, none⟩ u)) := hide fun u hu => ⟨h.setS hu (fun y hy => h.rg y (by simp [hy])) (by omega), (Fr.refl (· = B.p) w).setCell (p := ⟨B.p, 0, none⟩) rfl u⟩
    have HT := hide o0.tail
    have hrz := h.rg z (by simp)
    unfold rng at hrz
    have HN : Hid ((numN (z :: r) : Int) = if z < 0 then 0 else z) := hide (by unfold numN; simp; split <;> omega)
    clear h o0
    obtain ⟨n, hn⟩ : ∃ n, n = r.length := ⟨_, rfl⟩
    rw [← hn] at hle hln c0 HT
    have HNn := hide hn
    clear hn
    by_cases hc1 : cap = 1
    · have hn0 : n = 0 := by omega
      subst hc1
      have HO : Hid (Own w (.slice (some ⟨b, off, none⟩) 0 0) B.sb r) := hide ((unhide HT).2 rfl)
      subst hn0
      clear HT HNn
      by_cases hz : z < 0
      · have HN2 : Hid ((numN (z :: r) : Int) = 0) := hide (by rw [unhide HN, if_pos hz])
        go_enter Try.func15, Try.ntmps15
        go_wp2
        go_ret
        exact ⟨ret_int (unhide HN2).symm, unhide HQ _ (unhide HO)⟩
      · have HN2 : Hid ((numN (z :: r) : Int) = z) := hide (by rw [unhide HN, if_neg hz])
        have hz2 : 0 ≤ z := by omega
        go_enter Try.func15, Try.ntmps15
        go_wp2
        go_ret
        exact ⟨ret_int (unhide HN2).symm, unhide HQ _ (unhide HO)⟩
    · have HO : Hid (Own w (.slice (some ⟨b, off + 1, none⟩) n (cap - 1)) B.sb r) := hide ((unhide HT).1 hc1)
      have hc2 : 1 < cap := by omega
      clear HT HNn
      by_cases hz : z < 0
      · have HN2 : Hid ((numN (z :: r) : Int) = 0) := hide (by rw [unhide HN, if_pos hz])
        go_enter Try.func15, Try.ntmps15
        go_wp2
        go_ret
        exact ⟨ret_int (unhide HN2).symm, unhide HQ _ (unhide HO)⟩
      · have HN2 : Hid ((numN (z :: r) : Int) = z) := hide (by rw [unhide HN, if_neg hz])
        have hz2 : 0 ≤ z := by omega
        go_enter Try.func15, Try.ntmps15
        go_wp2
        go_ret
        exact ⟨ret_int (unhide HN2).symm, unhide HQ _ (unhide HO)⟩
end Go.Proofs.Ytidacjkpioenhaa
