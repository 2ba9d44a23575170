/- The document's queue in memory; its numbers. -/
import Derived.Test.YtidacjkpioenhaaM6
namespace Go.Proofs.Ytidacjkpioenhaa
open Go.RowKit
structure Rb where
  p : Nat
  lb : Option Nat
  za : Option Addr
def Rb.own (C : Rb) (k : Nat) : Prop := k = C.p ∨ C.lb = some k
def Rb.all (C : Rb) (k : Nat) : Prop := k = C.p ∨ C.lb = some k ∨ ∃ off, C.za = some ⟨k, off, none⟩
theorem ints_or {w w' : World} {K : Nat → Prop} {za zb : Option Addr} {Z : List Int} (hz : IntsAt w za Z) (ho : Z = [] ∨ zb = za) (k : Fr K w w') (hb : ∀ b off, zb = some ⟨b, off, none⟩ → ¬ K b) : IntsAt w' za Z := by
  rcases ho with rfl | rfl
  · exact IntsAt.nil _ _
  · exact hz.fr k fun b off e _ => hb b off e
/-- What is left of its schedule are S, those who wait are L. -/
structure RAt (w : World) (C : Rb) (S L : List Int) : Prop where
  vz : ∃ (Z : List Int) (k zc : Nat) (za : Option Addr), S = Z.drop k ∧ k ≤ Z.length ∧ Z.length ≤ 1000000 ∧ w.cell? ⟨C.p, 0, none⟩ = some (.slice za Z.length zc) ∧ w.cell? ⟨C.p, 1, none⟩ = some (.int .i64 (k : Nat)) ∧ IntsAt w za Z ∧ (Z = [] ∨ C.za = za)
  vl : ∃ v, w.cell? ⟨C.p, 2, none⟩ = some v ∧ Own w v C.lb L
  f1 : w.frozen? ⟨C.p, 1, none⟩ = false
  f2 : w.frozen? ⟨C.p, 2, none⟩ = false
  pl : C.lb ≠ some C.p
  pz : ∀ off, C.za ≠ some ⟨C.p, off, none⟩
  lz : ∀ k off, C.za = some ⟨k, off, none⟩ → C.lb ≠ some k
  zl : ∀ k off, C.za = some ⟨k, off, none⟩ → k < w.heap.size
  rg : ∀ z ∈ S, rng z
theorem RAt.plt {w : World} {C : Rb} {S L : List Int} (h : RAt w C S L) : C.p < w.heap.size := by
  obtain ⟨v, h, _⟩ := h.vl
  exact World.block_lt_of_cell? w ⟨C.p, 2, none⟩ h
theorem RAt.lt {w : World} {C : Rb} {S L : List Int} (h : RAt w C S L) (k : Nat) (hk : C.all k) : k < w.heap.size := by
  rcases hk with rfl | hk | ⟨off, hk⟩
  · exact h.plt
  · obtain ⟨v, _, ho⟩ := h.vl
    exact ho.lt k hk
  · exact h.zl k off hk
theorem RAt.fr {w w' : World} {C : Rb} {S L : List Int} {K : Nat → Prop} (h : RAt w C S L) (k : Fr K w w') (hk : ∀ j, C.all j → ¬ K j) : RAt w' C S L := by
  obtain ⟨Z, n, zc, za, hS, hn, hZ, c0, c1, hz, ho⟩ := h.vz
  obtain ⟨u, c2, o2⟩ := h.vl
  have hp := hk C.p (.inl rfl)
  exact ⟨⟨Z, n, zc, za, hS, hn, hZ, k.cell c0 hp, k.cell c1 hp, ints_or hz ho k fun b off e => hk b (.inr (.inr ⟨off, e⟩)), ho⟩, ⟨u, k.cell c2 hp, o2.fr k fun g e => hk g (.inr (.inl e))⟩, k.free h.plt h.f1 hp, k.free h.plt h.f2 hp, h.pl, h.pz, h.lz, fun j off e => Nat.lt_of_lt_of_le (h.zl j off e) k.size, h.rg⟩
theorem RAt.quiet {w w' : World} {C : Rb} {S L : List Int} (h : RAt w C S L) (k : Fr (fun _ => False) w w') : RAt w' C S L := h.fr k fun _ _ => id
set_option maxRecDepth 100000 in
set_option maxHeartbeats 1000000 in
theorem Number_r (w : World) (C : Rb) (S L : List Int) (h : RAt w C S L) :
    Calls Try.prog 20 #[.pointer (some ⟨C.p, 0, none⟩)] w fun e w' => e = .returned (.int .i64 (numN S : Nat)) ∧ RAt w' C S.tail L ∧ Fr (· = C.p) w w' := by
  obtain ⟨Z, k, zc, za, hS, hk, hZ, c0, c1, hz, ho⟩ := h.vz
  have f1 := h.f1
  by_cases hlt : k < Z.length
  · obtain ⟨b, off, hab, hbl, cz⟩ := hz k hlt
    obtain ⟨z, hzz⟩ : ∃ z, z = Z.getD k 0 := ⟨_, rfl⟩
    rw [← hzz] at cz
    have hz2 : z = Z[k] := by rw [hzz]; simp [List.getD, hlt]
    have hS2 : S = z :: Z.drop (k + 1) := by rw [hS, List.drop_eq_getElem_cons hlt, hz2]
    have HQ : Hid (∀ w1, Fr (fun _ => False) w w1 → RAt (w1.setCell ⟨C.p, 1, none⟩ (.int .i64 ((k : Int) + 1))) C S.tail L ∧ Fr (· = C.p) w (w1.setCell ⟨C.p, 1, none⟩ (.int .i64 ((k : Int) + 1)))) := hide fun w1 hF => by
      have h1 := h.quiet hF
      have F : Fr (· = C.p) w1 (w1.setCell ⟨C.p, 1, none⟩ (.int .i64 ((k : Int) + 1))) := (Fr.refl (· = C.p) w1).setCell (p := ⟨C.p, 1, none⟩) rfl _
      obtain ⟨u, c2, o2⟩ := h1.vl
      refine ⟨⟨⟨Z, k + 1, zc, za, by rw [hS2]; rfl, hlt, hZ, ?_, ?_, ints_or (hz.quiet hF) ho F fun b off e e2 => ?_, ho⟩, ⟨u, ?_, o2.fr F fun g e e2 => ?_⟩, ?_, ?_, h.pl, h.pz, h.lz, fun j off e => ?_, ?_⟩, (hF.mono fun _ x => x.elim).trans F⟩
      · rw [World.cell?_setCell_other _ _ _ _ (by simp)]; exact hF.cell c0 id
      · rw [World.cell?_setCell_same _ _ _ (hF.cell c1 id)]; simp
      · exact h.pz off (by rw [e, e2])
      · rw [World.cell?_setCell_other _ _ _ _ (by simp)]; exact c2
      · exact h.pl (by rw [e, e2])
      · rw [World.frozen?_setCell]; exact h1.f1
      · rw [World.frozen?_setCell]; exact h1.f2
      · exact Nat.lt_of_lt_of_le (h1.zl j off e) F.size
      · intro y hy; exact h.rg y (List.mem_of_mem_tail hy)
    have hrz := h.rg z (by rw [hS2]; simp)
    unfold rng at hrz
    have HN : Hid ((numN S : Int) = if z < 0 then 0 else z) := hide (by rw [hS2]; unfold numN; simp; split <;> omega)
    rw [hab] at c0
    clear h hz hS2 hS hzz hz2 ho
    obtain ⟨n, hn⟩ : ∃ n, n = Z.length := ⟨_, rfl⟩
    rw [← hn] at c0 hlt hk hZ
    clear hn
    have hki : (k : Int) < (n : Int) := by omega
    have hge : ¬ ((n : Int) ≤ (k : Int)) := by omega
    have hF2 : Hid (Fr (fun _ => False) w w.drew.drew) := hide ((Fr.refl _ w).drew.drew)
    by_cases hneg : z < 0
    · have HN2 : Hid ((numN S : Int) = 0) := hide (by rw [unhide HN, if_pos hneg])
      go_enter Try.func20, Try.ntmps20
      go_wp2
      go_region
      go_wp2
      go_region
      go_wp2
      go_ret
      exact ⟨ret_int (unhide HN2).symm, unhide HQ _ (unhide hF2)⟩
    · have HN2 : Hid ((numN S : Int) = z) := hide (by rw [unhide HN, if_neg hneg])
      go_enter Try.func20, Try.ntmps20
      go_wp2
      go_region
      go_wp2
      go_region
      go_wp2
      go_ret
      exact ⟨ret_int (unhide HN2).symm, unhide HQ _ (unhide hF2)⟩
  · have hS0 : S = [] := by rw [hS]; exact List.drop_eq_nil_of_le (by omega)
    subst hS0
    have HQ : Hid (RAt w.drew C [] L ∧ Fr (· = C.p) w w.drew) := hide ⟨h.quiet ((Fr.refl _ w).drew), (Fr.refl _ w).drew⟩
    clear h hz hS ho
    obtain ⟨n, hn⟩ : ∃ n, n = Z.length := ⟨_, rfl⟩
    rw [← hn] at c0 hlt hk hZ
    clear hn
    have hki : (n : Int) ≤ (k : Int) := by omega
    go_enter Try.func20, Try.ntmps20
    go_wp2
    go_region
    go_wp2
    go_ret
    exact ⟨rfl, unhide HQ⟩
end Go.Proofs.Ytidacjkpioenhaa
