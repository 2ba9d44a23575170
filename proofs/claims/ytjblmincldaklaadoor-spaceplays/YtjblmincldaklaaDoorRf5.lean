/- The document's heap: Free. -/
import Derived.Test.YtjblmincldaklaaDoorLq
import Derived.Maps.AppendAt
namespace Go.Proofs.YtjblmincldaklaaDoor
open Go.RowKit Go.Proofs.YtjblmincldaklaaDoor.Hp
theorem findI_at {x : Int} : ∀ (L : List Rb) (k : Int), 0 ≤ findI L x k → ∃ (i : Nat) (b : Rb), findI L x k = k + i ∧ L[i]? = some b ∧ (b.at_ : Int) = x
  | [], _, h => by simp [findI] at h
  | b :: L, k, h => by
    unfold findI at h ⊢
    by_cases e : (b.at_ : Int) = x
    · exact ⟨0, b, by rw [if_pos e]; omega, rfl, e⟩
    · rw [if_neg e] at h ⊢
      obtain ⟨i, c, h1, h2, h3⟩ := findI_at L (k + 1) h
      exact ⟨i + 1, c, by rw [h1]; omega, by simpa using h2, h3⟩
theorem rbAll_app (L M : List Rb) : rbAll (L ++ M) = rbAll L ++ rbAll M := by simp [rbAll]
theorem rbAll_one (L : List Rb) : ∀ u ∈ rbAll L, u.oneCell' = true := by
  intro u hu
  obtain ⟨b, _, hb⟩ := List.mem_flatMap.1 hu
  exact rb_one b u hb
theorem RefAt.part {w : World} {pb base N g cp : Nat} {L : List Rb} (h : RefAt w pb base N L (.slice (some ⟨g, 0, none⟩) L.length cp)) (k : Nat) : ∀ j u, (rbAll (L.drop k))[j]? = some u → w.cell? ((⟨g, k * 3, none⟩ : Addr).add j) = some u := by
  intro j u hj
  have hlt : j < (rbAll (L.drop k)).length := by
    rcases Nat.lt_or_ge j (rbAll (L.drop k)).length with h1 | h1
    · exact h1
    · rw [List.getElem?_eq_none h1] at hj; cases hj
  rw [rbAll_len, List.length_drop] at hlt
  have e : rbAll L = rbAll (L.take k) ++ rbAll (L.drop k) := by rw [← rbAll_app, List.take_append_drop]
  rw [show (⟨g, k * 3, none⟩ : Addr).add j = ⟨g, k * 3 + j, none⟩ by simp [Addr.add]]
  rw [h.own.cellAt (k * 3 + j) (by omega), e, List.getElem?_append_right (by rw [rbAll_len, List.length_take]; omega), rbAll_len, List.length_take, Nat.min_eq_left (by omega)]
  rw [show k * 3 + j - k * 3 = j by omega]
  exact hj
theorem RefAt.front {w : World} {pb base N g cp : Nat} {L : List Rb} (h : RefAt w pb base N L (.slice (some ⟨g, 0, none⟩) L.length cp)) (k : Nat) : ∀ j u, (rbAll (L.take k))[j]? = some u → w.cell? ((⟨g, 0, none⟩ : Addr).add j) = some u := by
  intro j u hj
  have hlt : j < (rbAll (L.take k)).length := by
    rcases Nat.lt_or_ge j (rbAll (L.take k)).length with h1 | h1
    · exact h1
    · rw [List.getElem?_eq_none h1] at hj; cases hj
  have e : rbAll L = rbAll (L.take k) ++ rbAll (L.drop k) := by rw [← rbAll_app, List.take_append_drop]
  have hl2 := hlt
  rw [rbAll_len, List.length_take] at hl2
  have ea : (⟨g, 0, none⟩ : Addr).add j = ⟨g, 0 + j, none⟩ := by simp [Addr.add]; exact fun h => h.symm
  rw [ea, Nat.zero_add]
  rw [h.own.cellAt j (by omega), e, List.getElem?_append_left hlt]
  exact hj
def RFreeP (w0 : World) (pb base N : Nat) (L : List Rb) (i : Nat) (e : Ending) (w' : World) : Prop :=
  e = .returned (.bool true) ∧ ∃ lv, RefAt w' pb base N (L.take i ++ L.drop (i + 1)) lv ∧ (∀ g, lv.ownBlock = some g → w0.heap.size ≤ g) ∧ Fr (· = pb) w0 w'
theorem RFreeP.of {w0 w : World} {pb base N i : Nat} {L : List Rb} {lv0 lv : Value} (h : RefAt w0 pb base N L lv0) (hb : base ≤ w0.heap.size) (hi : i < L.length) (hF : Fr (fun _ => False) w0 w) (ho : w.ownsRow w0.heap.size 79 3 lv (i + (L.length - (i + 1))) (rbAll (L.take i) ++ rbAll (L.drop (i + 1)))) :
    RFreeP w0 pb base N L i (.returned (.bool true)) (w.setCell ⟨pb, 1, none⟩ lv) := by
  have hpb : pb < w0.heap.size := World.block_lt_of_cell? w0 ⟨pb, 0, none⟩ h.cN
  have h2 := h.quiet hF
  have hS : Fr (· = pb) w (w.setCell ⟨pb, 1, none⟩ lv) := (Fr.refl (· = pb) w).setCell (p := ⟨pb, 1, none⟩) rfl _
  have hl : (L.take i ++ L.drop (i + 1)).length = i + (L.length - (i + 1)) := by simp; omega
  refine ⟨rfl, _, ⟨?_, World.cell?_setCell_same _ _ _ h2.cL, by rw [World.frozen?_setCell]; exact h2.fL, ?_, ?_, fun b hb' => ?_⟩, fun x hx => (ho.lt x hx).1, (hF.mono fun _ x => x.elim).trans hS⟩
  · rw [World.cell?_setCell_other _ _ _ _ (by intro e; injection e with _ e2; cases e2)]; exact h2.cN
  · rw [hl, rbAll_app]
    exact own_blk (own_low hb ho) (fun x hx => hS.block x (ho.lt x hx).2 (fun e => by have := (ho.lt x hx).1; omega))
  · rw [hl]; have := h.few; omega
  · rcases List.mem_append.1 hb' with e | e
    · exact h.ats b (List.mem_of_mem_take e)
    · exact h.ats b (List.mem_of_mem_drop e)
set_option maxRecDepth 100000 in
set_option maxHeartbeats 4000000 in
theorem Free_ref (pb base N : Nat) (x : Int) (L : List Rb) (lv : Value) (w : World) (h : RefAt w pb base N L lv) (hb : base ≤ w.heap.size) (hf : L.length ≤ 5000) (i : Nat) (hi : findI L x 0 = i) (hiL : i < L.length) :
    Calls Tryd.prog 41 #[.pointer (some ⟨pb, 0, none⟩), .int .i64 x] w fun e w' => RFreeP w pb base N L i e w' := by
  have HFi := hide (Find_any pb base N L lv x w h)
  obtain ⟨ao, cp, rfl, hg⟩ := h.form
  have cL := h.cL
  have hcap := own_cap h.own
  rw [hi] at HFi
  obtain ⟨g, hg⟩ := hg (by omega)
  subst hg
  have H := hide h
  have HEnd : Hid (∀ w1 lv1, Fr (fun _ => False) w w1 → w1.ownsRow w.heap.size 79 3 lv1 (i + (L.length - (i + 1))) (rbAll (L.take i) ++ rbAll (L.drop (i + 1))) → RFreeP w pb base N L i (.returned (.bool true)) (w1.setCell ⟨pb, 1, none⟩ lv1)) := hide fun w1 lv1 h1 h2 => RFreeP.of h hb hiL h1 h2
  have HN0 : Hid (w.ownsRow w.heap.size 79 3 (.slice none 0 0) 0 []) := hide (World.ownsRow_nil w w.heap.size 79 3)
  obtain ⟨i1, hi1, hz0, hz1, hz2⟩ := info_parts Tryd.info79
  clear h hi
  go_enter Tryd.func41, Tryd.ntmps41
  go_wp2_with fail
  refine (unhide HFi).mono ?_
  rintro e w2 ⟨rfl, rfl⟩
  clear HFi
  go_wp2_with (first | (at_builtin; refine wpList_append_own_at _ rfl (.tmp 12) (.tmp 18) 57 rfl w2.heap.size 79 i1 (.agg #[.int .i64 0, .int .i64 0, .slice none 0 0]) 3 40 Tryd.underlying57 hi1 hz0 hz1 hz2 rfl (by decide) (.slice none 0 0) 0 [] rfl (unhide HN0) ⟨g, 0, none⟩ i cp (rbAll (L.take i)) rfl (by rw [rbAll_len, List.length_take, Nat.min_eq_left (by omega)]) ((unhide H).front i) (rbAll_one _) (by unfold maxLen; omega) (by omega) (Nat.le_refl _) ?_))
  intro v1 w1 ho1 hg1 _ hat1
  have hF1 : Fr (fun _ => False) w2 w1 := (Fr.grown hg1).mono fun _ x => by simp [Value.ownBlock] at x
  have hR1 := (unhide H).quiet hF1
  have cL1 := hR1.cL
  have fL1 := hR1.fL
  have HR1 := hide hR1
  have HO1 := hide ho1
  have HF1 := hide hF1
  have hsz := hF1.size
  have HAt1 : Hid (∀ k, v1.ownBlock = some k → w2.heap.size ≤ k) := hide fun k hk => (ho1.lt k hk).1
  clear ho1 hg1 hat1 hF1 hR1 cL
  by_cases hcp : cp = i + 1
  · have hdr : L.drop (i + 1) = [] := by rw [List.drop_eq_nil_iff]; omega
    have hl0 : L.length - (i + 1) = 0 := by omega
    rw [hdr, hl0] at HEnd
    subst hcp
    clear hdr hl0
    go_wp2_with (first | (at_builtin; refine wpList_append_own_at _ rfl (.tmp 21) (.tmp 28) 57 rfl w2.heap.size 79 i1 (.agg #[.int .i64 0, .int .i64 0, .slice none 0 0]) 3 40 Tryd.underlying57 hi1 hz0 hz1 hz2 rfl (by decide) v1 i (rbAll (L.take i)) rfl (unhide HO1) ⟨g, 0, none⟩ 0 0 (rbAll []) rfl rfl (fun j u hj => by simp [rbAll] at hj) (rbAll_one _) (by unfold maxLen; omega) (by omega) hsz ?_))
    intro v3 w3 ho3 hg3 _ _
    have hF3 : Fr (fun _ => False) w2 w3 := (unhide HF1).up (Fr.grown hg3) (fun k hk => unhide HAt1 k hk.symm)
    obtain ⟨ao3, cp3, rfl, _⟩ := own_form ho3
    have HF := hide (unhide HEnd w3 _ hF3 ho3)
    have hR3 := (unhide H).quiet hF3
    have cL3 := hR3.cL
    have fL3 := hR3.fL
    clear ho3 hg3 hF3 hR3 cL1 fL1
    go_wp2
    go_ret
    exact unhide HF
  · go_wp2_with (first | (at_builtin; refine wpList_append_own_at _ rfl (.tmp 21) (.tmp 28) 57 rfl w2.heap.size 79 i1 (.agg #[.int .i64 0, .int .i64 0, .slice none 0 0]) 3 40 Tryd.underlying57 hi1 hz0 hz1 hz2 rfl (by decide) v1 i (rbAll (L.take i)) rfl (unhide HO1) ⟨g, (i + 1) * 3, none⟩ (L.length - (i + 1)) (cp - (i + 1)) (rbAll (L.drop (i + 1))) rfl (by rw [rbAll_len, List.length_drop]) ((unhide HR1).part (i + 1)) (rbAll_one _) (by unfold maxLen; omega) (by omega) hsz ?_))
    intro v3 w3 ho3 hg3 _ _
    have hF3 : Fr (fun _ => False) w2 w3 := (unhide HF1).up (Fr.grown hg3) (fun k hk => unhide HAt1 k hk.symm)
    obtain ⟨ao3, cp3, rfl, _⟩ := own_form ho3
    have HF := hide (unhide HEnd w3 _ hF3 ho3)
    have hR3 := (unhide H).quiet hF3
    have cL3 := hR3.cL
    have fL3 := hR3.fL
    clear ho3 hg3 hF3 hR3 cL1 fL1
    go_wp2
    go_ret
    exact unhide HF
end Go.Proofs.YtjblmincldaklaaDoor
