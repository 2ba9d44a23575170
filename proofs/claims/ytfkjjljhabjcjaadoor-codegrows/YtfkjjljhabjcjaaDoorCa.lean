/- The anchor: a program there and back. -/
import Derived.Test.YtfkjjljhabjcjaaDoorCf2
import Derived.Laws.BytesString
namespace Go.Proofs.YtfkjjljhabjcjaaDoor
open Go.RowKit Go.Proofs.YtfkjjljhabjcjaaDoor.Cx
def p0 : Prg := ⟨[⟨#[97]⟩], [], [], [], 3⟩
theorem own_bytes {w : World} {base : Nat} {ao : Option Addr} {cp : Nat} {b : List UInt8} (h : w.ownsRow base 5 1 (.slice ao b.length cp) b.length (b.map byteV)) : BytesAt w b ao := by
  intro j hj
  obtain ⟨ao', cp', e, hg⟩ := own_form h
  cases e
  obtain ⟨g, rfl⟩ := hg (by omega)
  exact ⟨g, 0, rfl, by rw [Nat.zero_add, h.cellAt j (by omega)]; simp [List.getElem?_map, List.getElem?_eq_getElem hj]⟩
theorem BytesAt.fr {w w' : World} {b : List UInt8} {a : Option Addr} (h : BytesAt w b a) (hF : Fr (fun _ => False) w w') : BytesAt w' b a := fun j hj => by
  obtain ⟨bk, off, h1, h2⟩ := h j hj
  exact ⟨bk, off, h1, hF.cell h2 id⟩
theorem Vars.fr {pe pf : Addr} {w w' : World} (h : Vars w pe pf) (hF : Fr (fun _ => False) w w') : Vars w' pe pf := ⟨hF.cell h.v0 id, hF.cell h.v1 id⟩
theorem rowNil {α : Type} (C : (Nat → Prop) → World → α → List Value → Prop) (size : Nat) (S : Nat → Prop) (w : World) (a : Option Addr) : RowOf C size S w ([] : List α) a := ⟨by simp, fun j h => by simp at h⟩
set_option maxRecDepth 100000 in
set_option maxHeartbeats 2000000 in
theorem anchor_any (pe pf : Addr) (w : World) (hv : Vars w pe pf) : Calls Tryd.prog 8 #[] w fun e w' => e = .returned (.bool true) ∧ Fr (fun _ => False) w w' := by
  have HV := hide hv
  clear hv
  have hk : okP p0 := ⟨⟨by unfold okS; decide, fun y hy => by cases hy with | head => show 1 < _; decide | tail _ h => cases h⟩, ⟨by unfold okS; decide, fun _ _ => trivial⟩, ⟨by unfold okS; decide, fun y hy => by cases hy⟩, ⟨by unfold okS; decide, fun y hy => by cases hy⟩, by unfold okN; decide⟩
  have HK := hide hk
  have HL : Hid (0 < (encP p0).length ∧ (encP p0).length ≤ 1000) := hide (by
    have h1 := encP_le hk
    have e : tot p0 = 2 := by rfl
    have h2 : 0 < (encL encT p0.texts).length := encL_ne encT p0.texts
    have h3 : (encP p0).length = (encL encT p0.texts ++ (encL encB p0.globals ++ (encL (encL encB) p0.structs ++ (encL encF p0.funcs ++ encN p0.main)))).length := rfl
    rw [List.length_append] at h3
    exact ⟨by omega, by omega⟩)
  clear hk
  have HC : Hid (Calls Tryd.prog 11 #[.agg #[.slice (some ⟨w.heap.size, 0, none⟩) 1 1, .slice none 0 0, .slice none 0 0, .slice none 0 0, .int .i64 3]] (w.alloc (.cells #[.string ⟨#[97]⟩] 9)) fun e w' => EncP p0 (w.alloc (.cells #[.string ⟨#[97]⟩] 9)) e w') := by
    refine hide (Encode_any p0 [.slice (some ⟨w.heap.size, 0, none⟩) 1 1, .slice none 0 0, .slice none 0 0, .slice none 0 0, .int .i64 3] _ ?_ ?_)
    · refine ⟨by unfold okN p0; decide, some ⟨w.heap.size, 0, none⟩, 1, none, 0, none, 0, none, 0, rfl, ⟨by simp [p0], fun j hj => ?_⟩, rowNil _ _ _ _ _, rowNil _ _ _ _ _, rowNil _ _ _ _ _⟩
      have : j = 0 := by have : p0.texts.length = 1 := rfl; omega
      subst this
      refine ⟨w.heap.size, 0, [.string ⟨#[97]⟩], rfl, by simp, ⟨by show 1 ≤ _; decide, rfl⟩, rfl, fun k u hk => ?_⟩
      match k, hk with
      | 0, hk => cases hk; rw [World.cell?_alloc_at _ _ _ _ rfl]; rfl
    · have := (unhide HL).2
      omega
  go_enter Tryd.func8, Tryd.ntmps8
  go_wp2_with fail
  refine (unhide HC).mono ?_
  rintro e w1 ⟨ao, cp, rfl, ho, hF⟩
  have hB : ∃ B, B = encP p0 := ⟨_, rfl⟩
  obtain ⟨B, hB⟩ := hB
  rw [← hB] at ho
  have hl : 0 < B.length ∧ B.length ≤ 1000 := by
    rw [hB]
    have h1 := (unhide HL)
    exact h1
  obtain ⟨ao', cp', e, hg⟩ := own_form ho
  cases e
  obtain ⟨g0, rfl⟩ := hg hl.1
  have hcap := own_cap ho
  have HB := hide hB
  have hv1 := (unhide HV).fr (((Fr.refl _ w).alloc _).trans hF)
  have HO := hide ho
  have HF := hide hF
  have HD := hide (Decode_any pe pf B (some ⟨g0, 0, none⟩) cp w1 hv1 (own_bytes ho) (by omega) hcap)
  have hBl : (encP p0).length = B.length := by rw [hB]
  rw [hBl]
  clear hF ho hv1 HC hB hBl
  obtain ⟨hl0, hl1⟩ := hl
  go_wp2_with fail
  refine (unhide HD).mono ?_
  rintro e w2 ⟨hF2, ⟨x, cs, hx1, hx2, rfl, hx3⟩ | ⟨hno, _⟩⟩
  · obtain rfl : p0 = x := encP_inj ((unhide HB).symm.trans hx2)
    obtain ⟨_, a1, c1, a2, c2, a3, c3, a4, c4, rfl, r1, _⟩ := hx3
    obtain ⟨tb, toff, tc, rfl, _, ⟨_, rfl⟩, _, tcell⟩ := r1.2 0 (by decide)
    have t0 : w2.cell? ⟨tb, toff, none⟩ = some (.string ⟨#[97]⟩) := tcell 0 _ rfl
    have e1 : p0.texts.length = 1 := rfl
    have e5 : p0.main = 3 := rfl
    rw [e1, e5]
    generalize p0.globals.length = m2
    generalize p0.structs.length = m3
    generalize p0.funcs.length = m4
    have HF2 := hide hF2
    clear hx1 hx2 r1 tcell e1 e5 hF2 HD
    have HS : Hid (∀ W, Fr (fun _ => False) w2 W → ∀ j u, (B.map byteV)[j]? = some u → W.cell? ((⟨g0, 0, none⟩ : Addr).add j) = some u) := hide fun W hW j u hj => by
      rw [Go.WideShapes.add_plain, Nat.zero_add]
      refine hW.cell ((unhide HF2).cell ?_ id) id
      have hjl : j < B.length := by
        rcases Nat.lt_or_ge j B.length with h | h
        · exact h
        · rw [List.getElem?_eq_none (by simpa using h)] at hj; cases hj
      rw [(unhide HO).cellAt j (by omega)]; exact hj
    have HOwn : Hid (∀ o, ((w2.alloc o).alloc (.cells #[] 5)).ownsRow (w2.heap.size + 1) 5 1 (.slice (some ⟨w2.heap.size + 1, 0, none⟩) 0 0) 0 []) := hide fun o => by
      have := World.ownsRow_made (base := w2.heap.size + 1) (e := 5) (size := 1) (w2.alloc o) #[] 0 (by simp) (by decide) rfl
      simpa using this
    obtain ⟨i1, hi, hz0, hz1, hz2⟩ := info_parts Tryd.info5
    have HV2 := hide (((unhide HV).fr (((Fr.refl _ w).alloc _).trans (unhide HF))).fr (unhide HF2))
    have HFw2 := hide ((((Fr.refl (fun _ => False) w).alloc _).trans (unhide HF)).trans (unhide HF2))
    have P0 : Hid (∀ W, Fr (fun _ => False) (w2.alloc (.cells #[.slice (some ⟨tb, toff, none⟩) 1 c1, .slice a2 m2 c2, .slice a3 m3 c3, .slice a4 m4 c4, .int .i64 3] 27)) W → W.cell? ⟨w2.heap.size, 0, none⟩ = some (.slice (some ⟨tb, toff, none⟩) 1 c1) ∧ W.cell? ⟨w2.heap.size, 4, none⟩ = some (.int .i64 3) ∧ W.cell? ⟨tb, toff, none⟩ = some (.string ⟨#[97]⟩)) := hide fun W hW => ⟨hW.cell (by rw [World.cell?_alloc_at _ _ _ _ rfl]; rfl) id, hW.cell (by rw [World.cell?_alloc_at _ _ _ _ rfl]; rfl) id, hW.cell (((Fr.refl (fun _ => False) w2).alloc _).cell t0 id) id⟩
    clear HF HF2 HO HV t0 hg
    go_wp2_with (first
      | (at_builtin; refine wpList_append_lies _ rfl (.tmp 17) (.tmp 18) 32 rfl (w2.heap.size + 1) 5 i1 (.int .u8 0) 1 1 Tryd.underlying32 hi hz0 hz1 hz2 rfl (by decide) (.slice (some ⟨g5, 0, none⟩) B.length cap5) B.length (B.map byteV) rfl ((unhide HO5).alloc _) ⟨w5.heap.size, 0, none⟩ 1 1 [.int .u8 ((0 : UInt8).toNat : Int)] rfl rfl (byte_news w5 0) (bytes_one [0]) (by decide) (by unfold maxLen; omega) (by omega) (by first | (simp; done) | (simp; omega)) _ rfl ?_; intro g6 cap6 w6 hown6 hgrow6 _ _; have HO6 := hide hown6; have HF6 := hide ((unhide HF5).up (((Fr.refl (fun k => some k = some g5) w5).alloc _).trans (Fr.grown hgrow6)) fun k hk => .inr (by have := ((unhide HO5).lt g5 rfl).1; have hk' : k = g5 := Option.some.inj hk; first | (simp; done) | (simp; omega))); clear hown6 hgrow6)
      | (at_builtin; refine wpList_append_lies _ rfl (.tmp 15) (.tmp 16) 32 rfl (w2.heap.size + 1) 5 i1 (.int .u8 0) 1 1 Tryd.underlying32 hi hz0 hz1 hz2 rfl (by decide) (.slice (some ⟨w2.heap.size + 1, 0, none⟩) 0 0) 0 [] rfl (unhide HOwn _) ⟨g0, 0, none⟩ B.length cp (B.map byteV) rfl (by simp) (unhide HS _ (((Fr.refl _ w2).alloc _).alloc _)) (bytes_one B) hl0 (by unfold maxLen; omega) (by omega) (by first | (simp; done) | (simp; omega)) _ rfl ?_; intro g5 cap5 w5 hown5 hgrow5 _ hlt5; simp only [Nat.zero_add, List.nil_append] at hown5; have HO5 := hide hown5; have HF5 : Hid (Fr (fun _ => False) (w2.alloc (.cells #[.slice (some ⟨tb, toff, none⟩) 1 c1, .slice a2 m2 c2, .slice a3 m3 c3, .slice a4 m4 c4, .int .i64 3] 27)) w5) := hide (((Fr.refl _ _).alloc _).up (Fr.grown hgrow5) fun k hk => .inr (by have hk' : k = w2.heap.size + 1 := Option.some.inj hk; first | (simp; done) | (simp; omega))); have hs5 : w2.heap.size + 1 ≤ w5.heap.size := (by have := (unhide HF5).size; simpa using this); clear hown5 hgrow5))
    have hB1 : (B ++ [0]).length = B.length + 1 := by simp
    have ho6 : w6.ownsRow (w2.heap.size + 1) 5 1 (.slice (some ⟨g6, 0, none⟩) (B ++ [0]).length cap6) (B ++ [0]).length ((B ++ [0]).map byteV) := by
      rw [hB1, List.map_append]; exact unhide HO6
    have HD2 := hide (Decode_any pe pf (B ++ [0]) (some ⟨g6, 0, none⟩) cap6 w6 (((unhide HV2).fr ((Fr.refl _ _).alloc _)).fr (unhide HF6)) (own_bytes ho6) (by rw [hB1]; omega) (own_cap ho6))
    rw [hB1] at HD2
    clear ho6 hB1
    refine (unhide HD2).mono ?_
    rintro e w7 ⟨hF7, ⟨x, cs, _, hx2, _, _⟩ | ⟨_, rfl⟩⟩
    · exfalso
      have := encP_pf p0 x [0] [] (by rw [← unhide HB, hx2, List.append_nil])
      cases this.2
    · have pp : ∀ o, _ := fun o => (unhide P0) (w7.alloc o) (((unhide HF6).trans hF7).alloc _)
      have pp0 := fun o => (pp o).1
      have pp4 := fun o => (pp o).2.1
      have ppt := fun o => (pp o).2.2
      have HEnd : Hid (∀ o, Fr (fun _ => False) w (w7.alloc o)) := hide fun o => (((unhide HFw2).alloc _).trans ((unhide HF6).trans hF7)).alloc _
      clear pp hF7 HD2 HO6 HF6 HO5 HF5 P0 HFw2 HV2 HS HOwn
      unfold zero5
      go_wp2
      go_ret
      exact ⟨rfl, unhide HEnd _⟩
  · exact (hno p0 (unhide HK) (unhide HB)).elim
end Go.Proofs.YtfkjjljhabjcjaaDoor
