/- The one at a place is taken out. -/
import Derived.Test.YtidacjkpioenhaaM3
namespace Go.Proofs.Ytidacjkpioenhaa
open Go.RowKit
theorem getD_erase (I : List Int) (pl j : Nat) : (I.eraseIdx pl).getD j 0 = if j < pl then I.getD j 0 else I.getD (j + 1) 0 := by
  simp only [List.getD, List.getElem?_eraseIdx]
  split <;> rfl
theorem own_taken {w : World} {g off cap : Nat} {ib : Option Nat} {I : List Int} {pl : Nat} (h : Own w (.slice (some ⟨g, off, none⟩) I.length cap) ib I) (hpl : pl < I.length) :
    (cap ≠ 1 → Own (w.setCells g (off + 1) ((I.take pl).map (Value.int .i64))) (.slice (some ⟨g, off + 1, none⟩) (I.length - 1) (cap - 1)) ib (I.eraseIdx pl)) ∧ (cap = 1 → Own (w.setCells g (off + 1) ((I.take pl).map (Value.int .i64))) (.slice (some ⟨g, off, none⟩) 0 0) ib (I.eraseIdx pl)) := by
  rcases h with ⟨hv, _, _⟩ | ⟨g', off', cap', hv, e, hl, hle, hs, hc⟩
  · cases hv
  · cases hv
    have hlen : (I.eraseIdx pl).length = I.length - 1 := List.length_eraseIdx_of_lt hpl
    have F : Fr (· = g) w (w.setCells g (off + 1) ((I.take pl).map (Value.int .i64))) := Fr.setCells (K := (· = g)) (b := g) rfl _ _ (Fr.refl _ w)
    have htk : ((I.take pl).map (Value.int .i64)).length = pl := by simp; omega
    have hin : ∀ j, j < ((I.take pl).map (Value.int .i64)).length → (w.cell? ⟨g, off + 1 + j, none⟩).isSome = true := fun j hj => by
      have := (hs (j + 1) (by omega)).1
      rwa [show off + (j + 1) = off + 1 + j by omega] at this
    constructor
    · intro _
      refine .inr ⟨g, off + 1, cap - 1, by rw [hlen], e, Nat.lt_of_lt_of_le hl F.size, by omega, fun j hj => ⟨?_, ?_⟩, fun j hj => ?_⟩
      · by_cases hj2 : j < pl
        · rw [World.cell?_setCells_in g _ _ _ hin j (by omega)]; rfl
        · rw [World.cell?_setCells_out g _ _ _ _ (fun _ _ => by right; simp only [htk]; omega)]
          have := (hs (j + 1) (by omega)).1
          rwa [show off + (j + 1) = off + 1 + j by omega] at this
      · rw [World.frozen?_setCells]
        have := (hs (j + 1) (by omega)).2
        rwa [show off + (j + 1) = off + 1 + j by omega] at this
      · rw [getD_erase]
        by_cases hj2 : j < pl
        · rw [World.cell?_setCells_in g _ _ _ hin j (by omega), if_pos hj2]
          have : j < I.length := by omega
          simp [List.getD, this]
        · rw [World.cell?_setCells_out g _ _ _ _ (fun _ _ => by right; simp only [htk]; omega), if_neg hj2]
          have := hc (j + 1) (by omega)
          rwa [show off + (j + 1) = off + 1 + j by omega] at this
    · intro h1
      have h0 : I.eraseIdx pl = [] := List.eq_nil_of_length_eq_zero (by omega)
      rw [h0]
      exact .inr ⟨g, off, 0, rfl, e, Nat.lt_of_lt_of_le hl F.size, by simp, fun j hj => by omega, fun j hj => by simp at hj⟩
theorem run_cp (w : World) (dp sp : Option Addr) (dLen dCap sLen sCap b off : Nat) (ys : List Int) (hn : ys.length = Nat.min sLen dLen)
    (hpos : 0 < ys.length → dp = some ⟨b, off, none⟩ ∧ IntsAt w sp ys) (hc : ∀ j, j < ys.length → (w.cell? ⟨b, off + j, none⟩).isSome = true ∧ w.frozen? ⟨b, off + j, none⟩ = false) :
    (Builtin.copy_ #[22, 22] 3 #[.slice dp dLen dCap, .slice sp sLen sCap]).run Try.prog w = .ok (goInt ys.length) (w.setCells b off (ys.map (Value.int .i64))) := by
  have hsz : (Try.prog.info? 3).map (·.size) = some 1 := by
    obtain ⟨i0, hi, hi0, hi1, hi2⟩ := info_parts Try.info3
    rw [hi]; simp [hi1]
  by_cases h0 : ys = []
  · subst h0
    exact run_copy_none (P := Try.prog) w 22 22 3 3 dp sp dLen dCap sLen sCap Try.underlying22 hsz (by simpa using hn.symm)
  · have hp : 0 < ys.length := List.length_pos_iff.2 h0
    obtain ⟨rfl, hy⟩ := hpos hp
    obtain ⟨b', off', rfl, _, _⟩ := hy 0 hp
    have hr := run_copy_cells (P := Try.prog) w 22 22 3 3 b off dLen dCap ⟨b', off', none⟩ sLen sCap (ys.map (Value.int .i64)) Try.underlying22 hsz (by simpa using hn)
      (ints_get fun j hj => by obtain ⟨_, _, e, _, h⟩ := hy j hj; cases e; exact h) (fun j hj => (hc j (by simpa using hj)).1) (fun j hj => (hc j (by simpa using hj)).2) (ints_one ys)
    rw [List.length_map] at hr
    exact hr
def TakeP (w : World) (B : Qb) (S I : List Int) (pl : Nat) (e : Ending) (w' : World) : Prop := e = .returned (.int .i64 (I.getD pl 0)) ∧ QAt w' B S (I.eraseIdx pl) ∧ Fr B.own w w'
set_option maxRecDepth 100000 in
set_option maxHeartbeats 1000000 in
theorem take_q (w : World) (B : Qb) (S I : List Int) (N : Nat) (h : QAt w B S I) (hl : I.length ≤ 1000000) (h0 : 0 < I.length) (hN : N < 9223372036854775808) :
    Calls Try.prog 21 #[.pointer (some ⟨B.p, 0, none⟩), .int .i64 (N : Nat)] w (TakeP w B S I (N % I.length)) := by
  obtain ⟨v, c1, o1⟩ := h.vi
  have f1 := h.f1
  obtain ⟨pl, hpe⟩ : ∃ pl, pl = N % I.length := ⟨_, rfl⟩
  have hpl : pl < I.length := by rw [hpe]; exact Nat.mod_lt _ h0
  have hq : ((N : Nat) : Int).tmod (I.length : Int) = (pl : Int) := by rw [hpe, Int.tmod_eq_emod_of_nonneg (by omega)]; rfl
  rw [← hpe]
  obtain ⟨g, off, cap, rfl, hle, hib, hsp, hcl⟩ : ∃ g off cap, v = .slice (some ⟨g, off, none⟩) I.length cap ∧ I.length ≤ cap ∧ B.ib = some g ∧ (∀ j, j < cap → (w.cell? ⟨g, off + j, none⟩).isSome = true ∧ w.frozen? ⟨g, off + j, none⟩ = false) ∧ ∀ j, j < I.length → w.cell? ⟨g, off + j, none⟩ = some (.int .i64 (I.getD j 0)) := by
    rcases o1 with ⟨_, e, _⟩ | ⟨g, off, cap, hv, e, hl, hle, hs, hc⟩
    · rw [e] at h0; simp at h0
    · exact ⟨g, off, cap, hv, hle, e, hs, hc⟩
  have hgp : g ≠ B.p := fun e => h.pi (by rw [hib, e])
  have cp := hcl pl hpl
  have HT := hide (own_taken o1 hpl)
  have hIn : IntsAt w.drew (some ⟨g, off, none⟩) (I.take pl) := fun j hj => by
    have hj' : j < pl := by simp at hj; omega
    have := hcl j (by omega)
    refine ⟨g, off, rfl, World.block_lt_of_cell? w ⟨g, off + j, none⟩ this, ?_⟩
    have hji : j < I.length := by omega
    refine this.trans ?_
    simp [List.getD, hj', hji]
  have hSp : ∀ j, j < (I.take pl).length → (w.drew.cell? ⟨g, off + 1 + j, none⟩).isSome = true ∧ w.drew.frozen? ⟨g, off + 1 + j, none⟩ = false := fun j hj => by
    have hj' : j < pl := by simp at hj; omega
    have := hsp (j + 1) (by omega)
    rw [show off + (j + 1) = off + 1 + j by omega] at this
    exact this
  have HT := hide (own_taken (o1.fr ((Fr.refl (fun _ => False) w).drew) fun _ _ => id) hpl)
  obtain ⟨w2, hw2⟩ : ∃ w2, w2 = w.drew.setCells g (off + 1) ((I.take pl).map (Value.int .i64)) := ⟨_, rfl⟩
  have hTl : (I.take pl).length = pl := by simp; omega
  have HR : Hid (∀ dp dLen dCap sCap, pl ≤ dLen → (0 < pl → dp = some ⟨g, off + 1, none⟩) → (Builtin.copy_ #[22, 22] 3 #[.slice dp dLen dCap, .slice (some ⟨g, off, none⟩) pl sCap]).run Try.prog w.drew = .ok (.int .i64 (pl : Nat)) w2) := hide fun dp dLen dCap sCap h1 h2 => by
    have := run_cp w.drew dp (some ⟨g, off, none⟩) dLen dCap pl sCap g (off + 1) (I.take pl) (by rw [hTl]; exact (Nat.min_eq_left h1).symm) (fun h => ⟨h2 (by omega), hIn⟩) hSp
    rw [hTl, ← hw2] at this
    exact this
  have F2 : Fr (· = g) w w2 := by rw [hw2]; exact Fr.setCells (K := (· = g)) (b := g) rfl _ _ ((Fr.refl _ w).drew)
  have c12 : w2.cell? ⟨B.p, 1, none⟩ = some (.slice (some ⟨g, off, none⟩) I.length cap) := F2.cell c1 (Ne.symm hgp)
  have f12 : w2.frozen? ⟨B.p, 1, none⟩ = false := F2.free h.plt f1 (Ne.symm hgp)
  have HE : Hid (∀ u, Own w2 u B.ib (I.eraseIdx pl) → TakeP w B S I pl (.returned (.int .i64 (I.getD pl 0))) (w2.setCell ⟨B.p, 1, none⟩ u)) := hide fun u hu => by
    obtain ⟨vs, c0, o0⟩ := h.vs
    refine ⟨rfl, QAt.mkI (F2.cell c0 (Ne.symm hgp)) (o0.fr F2 fun k e e2 => ?_) c12 (F2.free h.plt h.f0 (Ne.symm hgp)) f12 h.ps h.rg h.le hu h.pi h.si, ?_⟩
    · subst e2; exact h.si k e hib
    · exact (F2.mono fun k e => .inr (by rw [e]; exact hib)).setCell (p := ⟨B.p, 1, none⟩) (.inl rfl) _
  rw [← hw2] at HT
  obtain ⟨z, hz⟩ : ∃ z, z = I.getD pl 0 := ⟨_, rfl⟩
  rw [← hz] at cp HE
  obtain ⟨n, hn⟩ : ∃ n, n = I.length := ⟨_, rfl⟩
  rw [← hn] at c1 c12 HT hl h0 hpl hq hle
  have hwp : IntKind.i64.wrap (pl : Int) = (pl : Int) := by rw [Go.IntKind.wrap_i64]; omega
  have hn0 : ¬ (n : Int) = 0 := by omega
  have hn1 : ¬ n = 0 := by omega
  have hpi : (pl : Int) < (n : Int) := by omega
  clear h o1 hsp hcl hw2 F2 hpe hn hz hib hIn hSp hTl
  by_cases hc1 : cap = 1
  · have hn1 : n = 1 := by omega
    have hp0 : pl = 0 := by omega
    subst hc1 hn1 hp0
    rw [Nat.add_zero] at cp
    have HO := hide ((unhide HT).2 rfl)
    have hrun := unhide HR (some ⟨g, off, none⟩) 0 0 1 (Nat.le_refl _) (fun h => by omega)
    clear HT HR
    go_enter Try.func21, Try.ntmps21
    go_wp2
    go_region
    go_wp2
    go_ret
    exact unhide HE _ (unhide HO)
  · have HO := hide ((unhide HT).1 hc1)
    have hc2 : 1 < cap := by omega
    have hrun := unhide HR (some ⟨g, off + 1, none⟩) (n - 1) (cap - 1) cap (by omega) (fun _ => rfl)
    clear HT HR
    go_enter Try.func21, Try.ntmps21
    go_wp2
    go_region
    go_wp2
    go_ret
    exact unhide HE _ (unhide HO)
end Go.Proofs.Ytidacjkpioenhaa
