/- SpaceHeads, plainly. -/
import Derived.Test.YtjblmincldaklaaDoorD0
namespace Go.Proofs.YtjblmincldaklaaDoor
open Go.RowKit Go.Proofs.YtjblmincldaklaaDoor.Hp
/-- A block that was made: where, and of what. -/
structure It where
  a : Nat
  k : Int
  s : Int
  m : Int
structure ItAt (A : Nat → Kd) (wd : Nat → Int) (i : It) : Prop where
  rt : Right i.k i.s i.m
  room : roomN A i.a = roomOfM (1 + i.s.toNat)
  hd : wd i.a = hdr i.k i.s i.m
  ws : ∀ q, q < i.s.toNat → wd (i.a + (1 + q)) = 0
structure Hds (A : Nat → Kd) (wd : Nat → Int) (L : List It) : Prop where
  suf : ∃ h, 1 ≤ h ∧ h ≤ 1 + 8 * L.length ∧ ∀ t, A t = .free ↔ h ≤ t ∧ t < 512
  all : ∀ i ∈ L, ItAt A wd i
theorem Hds.start : Hds (emptyA 512) (fun _ => 0) [] := by
  refine ⟨⟨1, by omega, by omega, fun t => ?_⟩, fun i hi => by simp at hi⟩
  unfold emptyA
  split
  · simp; omega
  · simp; omega
theorem Hds.place {A : Nat → Kd} {wd : Nat → Int} {L : List It} (h : Hds A wd L) (hl : L.length < 40) {m : Nat} (hm : m ≤ 512) : ¬ NoPlace 512 A m := by
  obtain ⟨q, h1, h2, h3⟩ := h.suf
  rintro (⟨_, _, k3⟩ | ⟨k1, k2⟩)
  · exact k3 q ((h3 q).2 (by omega))
  · obtain ⟨t, k3, k4, k5⟩ := k2 q (by omega)
    exact k5 ((h3 t).2 (by omega))
theorem suf_goes {A A' : Nat → Kd} {m a h : Nat} (g : Goes 512 A m a A') (hm : m ≤ 512) (hf : ∀ t, A t = .free ↔ h ≤ t ∧ t < 512) : ∃ h', h ≤ h' ∧ h' ≤ h + 8 ∧ ∀ t, A' t = .free ↔ h' ≤ t ∧ t < 512 := by
  cases g with
  | op s u hm hs e hn hl =>
    refine ⟨h, by omega, by omega, fun t => ?_⟩
    by_cases et : t = s
    · subst et
      have := hf t
      rw [e] at this
      rw [upd_same]
      simp at this ⊢
      exact this
    · rw [upd_ne _ _ et]; exact hf t
  | free s hm hs e hl hn =>
    have h1 := (hf s).1 e
    have h2 : s = h := by
      by_cases hh : s = h
      · exact hh
      · exact absurd ((hf h).2 (by omega)) (hl h (by omega))
    subst h2
    refine ⟨s + 1, by omega, by omega, fun t => ?_⟩
    by_cases et : t = s
    · subst et
      rw [upd_same]
      simp; omega
    · rw [upd_ne _ _ et, hf t]; omega
  | row f k hm hk hfn e hl =>
    have h1 := (hf f).1 (e f (by omega) (by omega))
    have h2 : f = h := by
      by_cases hh : f = h
      · exact hh
      · obtain ⟨t, k1, k2, k3⟩ := hl h (by omega)
        exact absurd ((hf t).2 (by omega)) k3
    subst h2
    refine ⟨f + k, by omega, by omega, fun t => ?_⟩
    show (if t = f then Kd.head k else if f < t ∧ t < f + k then Kd.tail else A t) = .free ↔ _
    by_cases e1 : t = f
    · rw [if_pos e1]; simp; omega
    · rw [if_neg e1]
      by_cases e2 : f < t ∧ t < f + k
      · rw [if_pos e2]; simp; omega
      · rw [if_neg e2, hf t]; omega
theorem Hds.goes {A A' : Nat → Kd} {wd : Nat → Int} {L : List It} {a : Nat} {k s ms : Int} (h : Hds A wd L) (hI : Inv 512 A) (hI' : Inv 512 A') (hR : Right k s ms) (hs : s ≤ 500) (g : Goes 512 A (1 + s.toNat) a A') : Hds A' (newW wd a (1 + s.toNat) (hdr k s ms)) (L ++ [⟨a, k, s, ms⟩]) := by
  have hg := room_goes hI g
  have hge := roomOfM_ge (1 + s.toNat)
  have ha : roomN A' a = roomOfM (1 + s.toNat) := by rw [hg.2, if_pos rfl]
  refine ⟨?_, fun i hi => ?_⟩
  · obtain ⟨q, h1, h2, h3⟩ := h.suf
    obtain ⟨q', k1, k2, k3⟩ := suf_goes g (by omega) h3
    exact ⟨q', by omega, by rw [List.length_append]; simp; omega, k3⟩
  · rcases List.mem_append.1 hi with hi | hi
    · have hi' := h.all i hi
      have hge2 := roomOfM_ge (1 + i.s.toNat)
      have hr := hi'.room
      have hne : i.a ≠ a := fun e => by rw [e, hg.1] at hr; omega
      have hr' : roomN A' i.a = roomOfM (1 + i.s.toNat) := by rw [hg.2, if_neg hne, hr]
      have hap : i.a + roomOfM (1 + i.s.toNat) ≤ a ∨ a + roomOfM (1 + s.toNat) ≤ i.a := by
        by_cases hl : i.a < a
        · have := apart hI' hl (by omega) (by omega); omega
        · have := apart hI' (show a < i.a by omega) (by omega) (by omega); omega
      have key : ∀ q, q < roomOfM (1 + i.s.toNat) → newW wd a (1 + s.toNat) (hdr k s ms) (i.a + q) = wd (i.a + q) := fun q hq => by
        unfold newW
        rw [upd_ne _ _ (by omega), clear_out (by omega)]
      refine ⟨hi'.rt, hr', ?_, fun q hq => ?_⟩
      · have := key 0 (by omega)
        rw [Nat.add_zero] at this
        rw [this]; exact hi'.hd
      · rw [key _ (by omega)]; exact hi'.ws q hq
    · obtain rfl : i = ⟨a, k, s, ms⟩ := by simpa using hi
      refine ⟨hR, ha, newW_at, fun q hq => ?_⟩
      show newW wd a (1 + s.toNat) (hdr k s ms) (a + (1 + q)) = 0
      have hq' : q < s.toNat := hq
      unfold newW
      rw [upd_ne _ _ (by omega)]
      unfold clearW
      rw [if_pos (by omega)]
end Go.Proofs.YtjblmincldaklaaDoor
