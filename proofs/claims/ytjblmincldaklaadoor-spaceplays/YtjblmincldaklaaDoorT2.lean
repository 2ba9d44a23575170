/- What a collection leaves of the lists, plainly. -/
import Derived.Test.YtjblmincldaklaaDoorT1
namespace Go.Proofs.YtjblmincldaklaaDoor
open Go.RowKit Go.Proofs.YtjblmincldaklaaDoor.Hp
theorem rk_kids {A : Nat → Kd} {wd : Nat → Int} {x : Nat} {kd sz ms : Int} {f : Nat → Int} (h1 : hK (wd x) = kd) (h3 : hM (wd x) = ms) (h0 : 0 ≤ sz) : ∀ m, (∀ k, k < m → wd (x + (k + 1)) = f k) → rkTo A kd sz ms f m = kidsTo A wd x (min sz.toNat m)
  | 0, _ => by simp [rkTo, kidsTo]
  | m + 1, h => by
    have ih := rk_kids (A := A) h1 h3 h0 m fun k hk => h k (by omega)
    unfold rkTo
    rw [ih]
    by_cases hm : (m : Int) < sz
    · rw [show min sz.toNat (m + 1) = m + 1 by omega, show min sz.toNat m = m by omega]
      rw [show kidsTo A wd x (m + 1) = kidsTo A wd x m ++ (if tellsB (hK (wd x)) (hM (wd x)) m && refB A (wd (x + (m + 1))) then [wd (x + (m + 1))] else []) from rfl, h1, h3, h m (by omega)]
      unfold mayB
      rw [decide_eq_true hm, Bool.true_and]
    · rw [show min sz.toNat (m + 1) = min sz.toNat m by omega]
      unfold mayB
      rw [decide_eq_false hm]
      simp
variable {N : Nat} {A A1 : Nat → Kd} {wd : Nat → Int} {L : List Rb} {T : List Tb} {held : List Int}
def tbD : Tb := ⟨0, 0, 0, 0, 0, 0⟩
theorem tb_in {T : List Tb} {i : Nat} (hi : i < T.length) : T.getD i tbD ∈ T ∧ T[i]? = some (T.getD i tbD) := by
  have : T[i]? = some (T.getD i tbD) := by simp [List.getD, List.getElem?_eq_getElem hi]
  exact ⟨List.mem_of_getElem? this, this⟩
/-- The children of a block, by the list and by the heap. -/
theorem Tm.kidsOf (h : Tm A wd L T) {b : Tb} (hb : b ∈ T) : rkTo A b.kd b.sz b.ms (fun q => wd (b.at_ + (q + 1))) (b.room - 1) = kids A wd (b.at_ : Int) := by
  obtain ⟨h1, h2, h3, h4⟩ := h.bl b hb
  have hs : roomN A b.at_ ≠ 0 := (h.lv _).2 ⟨b, hb, rfl⟩
  have hI : roomI A (b.at_ : Int) = b.room := by unfold roomI; rw [if_pos (by omega), Int.toNat_natCast]; exact h1
  obtain ⟨k1, k2, k3, k4⟩ := hdr_open h2
  rw [← h3] at k1 k2 k3 k4
  unfold kids
  rw [if_pos ⟨by rw [hI]; omega, by rw [Int.toNat_natCast]; exact k1⟩, hI, Int.toNat_natCast, k3]
  unfold Right at h2
  exact rk_kids k2 k4 (by omega) (b.room - 1) (fun _ _ => rfl)
theorem Tm.inj (h : Tm A wd L T) {i j : Nat} (hi : i < T.length) (hj : j < T.length) (e : (T.getD i tbD).at_ = (T.getD j tbD).at_) : i = j := by
  have hn := List.pairwise_iff_getElem.1 h.nd
  have e1 : ∀ i (hi : i < T.length), (T.map Tb.at_)[i]'(by simpa using hi) = (T.getD i tbD).at_ := fun i hi => by simp [List.getD, List.getElem?_eq_getElem hi]
  rcases Nat.lt_trichotomy i j with o | o | o
  · exact absurd (by rw [e1 i hi, e1 j hj]; exact e) (hn i j (by simpa using hi) (by simpa using hj) o)
  · exact o
  · exact absurd (by rw [e1 i hi, e1 j hj]; exact e.symm) (hn j i (by simpa using hj) (by simpa using hi) o)
theorem Tm.rch (h : Tm A wd L T) (hI : Inv N A) {i : Nat} (hi : i < T.length) :
    RchI T.length (fun i => ((T.getD i tbD).at_ : Int)) (fun k => kids A wd ((T.getD k tbD).at_ : Int)) held i ↔ Reach (refB A) (kids A wd) held ((T.getD i tbD).at_ : Int) := by
  have hr : ∀ j, j < T.length → refB A ((T.getD j tbD).at_ : Int) = true := fun j hj => ref_cast.2 ((h.lv _).2 ⟨_, (tb_in hj).1, rfl⟩)
  constructor
  · intro h
    clear hi
    induction h with
    | root i hi hm => exact .root _ hm (hr i hi)
    | kid k i _ hi hm ih => exact .kid _ _ ih hm (hr i hi)
  · intro hh
    have key : ∀ x, Reach (refB A) (kids A wd) held x → ∀ i, i < T.length → ((T.getD i tbD).at_ : Int) = x → RchI T.length (fun i => ((T.getD i tbD).at_ : Int)) (fun k => kids A wd ((T.getD k tbD).at_ : Int)) held i := by
      intro x hx
      induction hx with
      | root x hm _ => intro i hi e; exact .root i hi (by rw [← e] at hm; exact hm)
      | kid y x hy hm _ ih =>
        intro i hi e
        obtain ⟨y', rfl, hy', _⟩ := ref_nat hI hy.ref
        obtain ⟨b, hb, eb⟩ := (h.lv y').1 hy'
        obtain ⟨j, hj⟩ := List.getElem?_of_mem hb
        have hjl := (List.getElem?_eq_some_iff.1 hj).1
        have ej : T.getD j tbD = b := by simp [List.getD, hj]
        exact .kid j i (ih j hjl (by rw [ej, eb])) hi (by show ((T.getD i tbD).at_ : Int) ∈ kids A wd ((T.getD j tbD).at_ : Int); rw [ej, eb, e]; exact hm)
    exact key _ hh i hi rfl
/-- What is kept of the first k blocks, and where those stood that are not. -/
def keepT (T : List Tb) (M : Nat → Bool) : Nat → List Tb
  | 0 => []
  | k + 1 => keepT T M k ++ (if M k then [T.getD k tbD] else [])
def goneL (T : List Tb) (M : Nat → Bool) : Nat → List Nat
  | 0 => []
  | k + 1 => goneL T M k ++ (if M k then [] else [(T.getD k tbD).at_])
theorem keep_mem {M : Nat → Bool} {b : Tb} : ∀ {k : Nat}, b ∈ keepT T M k ↔ ∃ i, i < k ∧ M i = true ∧ T.getD i tbD = b
  | 0 => by simp [keepT]
  | k + 1 => by
    rw [keepT, List.mem_append, keep_mem]
    constructor
    · rintro (⟨i, hi, h1, h2⟩ | hb)
      · exact ⟨i, by omega, h1, h2⟩
      · split at hb
        · rename_i hM; exact ⟨k, by omega, hM, (List.mem_singleton.1 hb).symm⟩
        · simp at hb
    · rintro ⟨i, hi, h1, h2⟩
      by_cases e : i = k
      · subst e; rw [if_pos h1, h2]; exact .inr (List.mem_singleton.2 rfl)
      · exact .inl ⟨i, by omega, h1, h2⟩
theorem gone_mem {M : Nat → Bool} {x : Nat} : ∀ {k : Nat}, x ∈ goneL T M k ↔ ∃ i, i < k ∧ M i = false ∧ (T.getD i tbD).at_ = x
  | 0 => by simp [goneL]
  | k + 1 => by
    rw [goneL, List.mem_append, gone_mem]
    constructor
    · rintro (⟨i, hi, h1, h2⟩ | hb)
      · exact ⟨i, by omega, h1, h2⟩
      · split at hb
        · simp at hb
        · rename_i hM; exact ⟨k, by omega, by simpa using hM, (List.mem_singleton.1 hb).symm⟩
    · rintro ⟨i, hi, h1, h2⟩
      by_cases e : i = k
      · subst e; rw [h1, if_neg (by simp), h2]; exact .inr (List.mem_singleton.2 rfl)
      · exact .inl ⟨i, by omega, h1, h2⟩
theorem keep_gone {M : Nat → Bool} : ∀ k, (keepT T M k).length + (goneL T M k).length = k
  | 0 => rfl
  | k + 1 => by
    have := keep_gone (M := M) k
    rw [keepT, goneL, List.length_append, List.length_append]
    split <;> simp <;> omega
theorem keep_sub {M : Nat → Bool} : ∀ k, k ≤ T.length → (keepT T M k).Sublist (T.take k)
  | 0, _ => by simp [keepT]
  | k + 1, hk => by
    have ih := keep_sub (M := M) k (by omega)
    rw [keepT, List.take_succ_eq_append_getElem (by omega)]
    split
    · rw [show T.getD k tbD = T[k] by simp [List.getD, List.getElem?_eq_getElem (show k < T.length by omega)]]
      exact ih.append (List.Sublist.refl _)
    · rw [List.append_nil]; exact ih.trans (List.sublist_append_left _ _)
/-- A list without one. -/
theorem cut_one {x : Nat} : ∀ (L : List Rb) (i : Nat) (b : Rb), L.Pairwise (fun a b => a.at_ < b.at_) → L[i]? = some b → b.at_ = x → L.take i ++ L.drop (i + 1) = L.filter (fun c => decide (c.at_ ≠ x))
  | [], i, b, _, h, _ => by simp at h
  | c :: L, 0, b, hp, h, e => by
    obtain rfl : c = b := by simpa using h
    rw [List.pairwise_cons] at hp
    have : L.filter (fun d => decide (d.at_ ≠ x)) = L := List.filter_eq_self.2 fun d hd => by have := hp.1 d hd; simp; omega
    simp only [List.take_zero, List.nil_append, List.drop_succ_cons, List.drop_zero]
    rw [List.filter_cons_of_neg (by simp [e]), this]
  | c :: L, i + 1, b, hp, h, e => by
    rw [List.pairwise_cons] at hp
    have hb : L[i]? = some b := by simpa using h
    have ih := cut_one L i b hp.2 hb e
    have hc := hp.1 b (List.mem_of_getElem? hb)
    rw [List.take_succ_cons, List.drop_succ_cons, List.cons_append, ih, List.filter_cons_of_pos (by simp; omega)]
def cutL (L : List Rb) (G : List Nat) : List Rb := L.filter fun b => decide (b.at_ ∉ G)
theorem cut_snoc (G : List Nat) (x : Nat) : (cutL L G).filter (fun c => decide (c.at_ ≠ x)) = cutL L (G ++ [x]) := by
  unfold cutL
  rw [List.filter_filter]
  congr 1
  funext b
  simp [Bool.and_comm]
theorem cut_sorted (h : L.Pairwise (fun a b => a.at_ < b.at_)) (G : List Nat) : (cutL L G).Pairwise (fun a b => a.at_ < b.at_) := h.sublist List.filter_sublist
/-- Behind a collection. -/
theorem Tm.gc {rb : Nat → Bool} {M : Nat → Bool} (h : Tm A wd L T) (hI : Inv N A) (hg : Gc N A wd held rb A1) (hM : ∀ i, i < T.length → (M i = true ↔ RchI T.length (fun i => ((T.getD i tbD).at_ : Int)) (fun k => kids A wd ((T.getD k tbD).at_ : Int)) held i)) :
    Tm A1 wd (cutL L (goneL T M T.length)) (keepT T M T.length) ∧ (goneL T M T.length).length = notB rb (blkL A N) := by
  have hrb : ∀ i, i < T.length → (M i = rb (T.getD i tbD).at_) := fun i hi => by
    have h1 := (hM i hi).trans ((h.rch hI hi).trans (hg.rch _).symm)
    generalize rb (T.getD i tbD).at_ = r at h1
    generalize M i = m at h1
    cases m <;> cases r
    · rfl
    · exact absurd (h1.2 rfl) (by simp)
    · exact absurd (h1.1 rfl) (by simp)
    · rfl
  have hroom : ∀ x, roomN A1 x ≠ 0 ↔ ∃ b ∈ keepT T M T.length, b.at_ = x := fun x => by
    rw [hg.room x]
    constructor
    · intro hx
      by_cases hb : rb x = true
      · rw [if_pos hb] at hx
        obtain ⟨b, hb', e⟩ := (h.lv x).1 hx
        obtain ⟨j, hj⟩ := List.getElem?_of_mem hb'
        have hjl := (List.getElem?_eq_some_iff.1 hj).1
        have ej : T.getD j tbD = b := by simp [List.getD, hj]
        exact ⟨b, keep_mem.2 ⟨j, hjl, by rw [hrb j hjl, ej, e]; exact hb, ej⟩, e⟩
      · rw [if_neg hb] at hx; exact absurd rfl hx
    · rintro ⟨b, hb, e⟩
      obtain ⟨i, hi, hm, ei⟩ := keep_mem.1 hb
      have h2 := hrb i hi
      rw [hm, ei, e] at h2
      rw [if_pos h2.symm]
      exact (h.lv x).2 ⟨b, by rw [← ei]; exact (tb_in hi).1, e⟩
  have hkT : ∀ b ∈ keepT T M T.length, b ∈ T ∧ rb b.at_ = true := fun b hb => by
    obtain ⟨i, hi, hm, ei⟩ := keep_mem.1 hb
    have h2 := hrb i hi
    rw [hm, ei] at h2
    exact ⟨by rw [← ei]; exact (tb_in hi).1, h2.symm⟩
  have hgone : ∀ x, x ∈ goneL T M T.length ↔ roomN A x ≠ 0 ∧ rb x = false := fun x => by
    rw [gone_mem]
    constructor
    · rintro ⟨i, hi, hm, rfl⟩
      have h2 := hrb i hi
      rw [hm] at h2
      exact ⟨(h.lv _).2 ⟨_, (tb_in hi).1, rfl⟩, h2.symm⟩
    · rintro ⟨hx, hb⟩
      obtain ⟨b, hb', e⟩ := (h.lv x).1 hx
      obtain ⟨j, hj⟩ := List.getElem?_of_mem hb'
      have hjl := (List.getElem?_eq_some_iff.1 hj).1
      have ej : T.getD j tbD = b := by simp [List.getD, hj]
      exact ⟨j, hjl, by rw [hrb j hjl, ej, e]; exact hb, by rw [ej, e]⟩
  refine ⟨⟨⟨cut_sorted h.mt.sorted _, fun b hb => ?_, fun x hx => ?_⟩, hroom, ?_, fun b hb => ?_, fun b hb => h.rg b (hkT b hb).1⟩, ?_⟩
  · obtain ⟨hb1, hb2⟩ := List.mem_filter.1 hb
    have hb3 : b.at_ ∉ goneL T M T.length := by simpa using hb2
    obtain ⟨r1, r2⟩ := h.mt.room b hb1
    have : rb b.at_ = true := by
      cases hr : rb b.at_ with
      | true => rfl
      | false => exact absurd ((hgone _).2 ⟨by rw [r1]; exact r2, hr⟩) hb3
    rw [hg.room, if_pos this]
    exact ⟨r1, r2⟩
  · rw [hg.room] at hx
    by_cases hb : rb x = true
    · rw [if_pos hb] at hx
      obtain ⟨b, hb', e⟩ := h.mt.all x hx
      refine ⟨b, List.mem_filter.2 ⟨hb', ?_⟩, e⟩
      have : b.at_ ∉ goneL T M T.length := fun hm => by have := ((hgone _).1 hm).2; rw [e, hb] at this; cases this
      simpa using this
    · rw [if_neg hb] at hx; exact absurd rfl hx
  · have hs := keep_sub (T := T) (M := M) T.length (Nat.le_refl _)
    rw [List.take_length] at hs
    exact h.nd.sublist (hs.map _)
  · obtain ⟨hb1, hb2⟩ := hkT b hb
    rw [hg.room, if_pos hb2]
    exact h.bl b hb1
  · have hbl : (blkL A N).Nodup := (blkL_sorted hI N).imp fun h => by omega
    have hnd : (goneL T M T.length).Nodup := by
      have : ∀ k, k ≤ T.length → (goneL T M k).Nodup := by
        intro k
        induction k with
        | zero => intro _; exact List.Pairwise.nil
        | succ k ih =>
          intro hk
          rw [goneL]
          split
          · rw [List.append_nil]; exact ih (by omega)
          · rw [List.nodup_append]
            refine ⟨ih (by omega), by simp, fun a ha b hb => ?_⟩
            rintro rfl
            obtain ⟨i, hi, _, ei⟩ := gone_mem.1 ha
            have : a = (T.getD k tbD).at_ := by simpa using hb
            have := h.inj (i := i) (j := k) (by omega) (by omega) (by rw [ei]; exact this)
            omega
      exact this _ (Nat.le_refl _)
    unfold notB
    rw [List.countP_eq_length_filter]
    refine perm_len hnd (hbl.filter _) fun x => ?_
    rw [hgone x, List.mem_filter, blkL_mem hI x N]
    constructor
    · rintro ⟨h1, h2⟩
      have := room_in hI h1
      exact ⟨⟨by omega, h1⟩, by simp [h2]⟩
    · rintro ⟨⟨_, h1⟩, h2⟩
      exact ⟨h1, by simpa using h2⟩
end Go.Proofs.YtjblmincldaklaaDoor
