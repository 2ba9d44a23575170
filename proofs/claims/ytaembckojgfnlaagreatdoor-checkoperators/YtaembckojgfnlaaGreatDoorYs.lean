import Derived.Test.YtaembckojgfnlaaGreatDoorYf
import Derived.Test.YtaembckojgfnlaaGreatDoorProg
set_option linter.all false
namespace Go.Proofs.YtaembckojgfnlaaGreatDoor
open Go Ex
def tabL : List Nat := [0, 0, 0, 0, 0, 0, 0, 0, 0, 0, 0, 0, 0, 0, 0, 0, 0, 0, 0, 0, 0, 0, 0, 0, 0, 0, 0, 0, 0, 0, 0, 0, 0, 2, 0, 0, 0, 1, 2, 0, 1, 1, 2, 2, 1, 2, 1, 1, 0, 0, 0, 0, 0, 0, 0, 0, 0, 0, 2, 1, 2, 2, 2, 0, 0, 0, 0, 0, 0, 0, 0, 0, 0, 0, 0, 0, 0, 0, 0, 0, 0, 0, 0, 0, 0, 0, 0, 0, 0, 0, 0, 1, 0, 1, 0, 0, 0, 0, 0, 0, 0, 0, 0, 0, 0, 0, 0, 0, 0, 0, 0, 0, 0, 0, 0, 0, 0, 0, 0, 0, 0, 0, 0, 1, 2, 1, 0, 0]
noncomputable def tabV (l : List Nat) : V := List.rec .nil (fun a _ ih => .cons (.int .i8 (.ofNat a)) ih) l
/-- An error of its own, and what it points to. -/
noncomputable def gob (τ : Nat → Nat) (g : Nat) : Ob := .cells true false (T.set (T.e : T V) (key 0) (.iface 244 (.ptr (key (10 + g)) 0))) 1 (τ g)
noncomputable def sob (τ : Nat → Nat) (g : Nat) : Ob := .cells true false (T.e : T V) 0 (τ (10 + g))
noncomputable def tob (τ : Nat → Nat) : Ob := .cells true false (putCells (T.e : T V) (tabV tabL) 0) 128 (τ 7)
noncomputable def objs (τ : Nat → Nat) : List (Nat × Ob) := [(0, gob τ 0), (1, gob τ 1), (2, gob τ 2), (3, gob τ 3), (4, gob τ 4), (5, gob τ 5), (7, tob τ), (10, sob τ 0), (11, sob τ 1), (12, sob τ 2), (13, sob τ 3), (14, sob τ 4), (15, sob τ 5)]
noncomputable def h0 (τ : Nat → Nat) : H := hOf (objs τ) 16
def locOf (adr : Nat → Addr) : Nat → Option Ex.Loc := fun n => if n ≤ 9 then some ⟨n, 0, 0⟩ else if n < 16 then some ⟨(adr (n - 10)).block, (adr (n - 10)).off, 0⟩ else none
/-- What the variables hold when the call begins. -/
structure StartAt (W : World) (adr : Nat → Addr) (τ : Nat → Nat) : Prop where
  g : ∀ g, g < 6 → W.heap[g]? = some (.cells #[.iface 244 (.pointer (some (adr g)))] (τ g))
  s : ∀ g, g < 6 → (adr g).spot = none ∧ ∃ cs, W.heap[(adr g).block]? = some (.cells cs (τ (10 + g))) ∧ (adr g).off < cs.size
  t : ∃ cs, W.heap[7]? = some (.cells cs (τ 7)) ∧ cs.size = 128 ∧ ∀ i, i < 128 → cs[i]? = some (.int .i8 (.ofNat (tabL.getD i 0)))
  d : ∀ g k, g < 6 → k < 6 → g ≠ k → (adr g).block = (adr k).block → (adr g).off ≠ (adr k).off
  e : ∀ g k, g < 6 → k < 8 → k ≠ 6 → (adr g).block = k → (adr g).off ≠ 0
def StartOk (W : World) : Prop := ∃ adr τ, StartAt W adr τ
theorem lt_of_some {α : Type} {a : Array α} {i : Nat} {x : α} (h : a[i]? = some x) : i < a.size := by
  rcases Nat.lt_or_ge i a.size with k | k
  · exact k
  · rw [Array.getElem?_eq_none k] at h; cases h
theorem StartOk.keep {W W' : World} (h : StartOk W) (hk : ∀ k, k < W.heap.size → W'.heap[k]? = W.heap[k]?) : StartOk W' := by
  obtain ⟨adr, τ, a⟩ := h
  have kp : ∀ {k : Nat} {x : Obj}, W.heap[k]? = some x → W'.heap[k]? = some x := fun h => by rw [hk _ (lt_of_some h)]; exact h
  refine ⟨adr, τ, fun g hg => kp (a.g g hg), fun g hg => ?_, ?_, a.d, a.e⟩
  · obtain ⟨s1, cs, s2, s3⟩ := a.s g hg
    exact ⟨s1, cs, kp s2, s3⟩
  · obtain ⟨cs, t1, t2⟩ := a.t
    exact ⟨cs, kp t1, t2⟩
theorem objs_mem {τ : Nat → Nat} {n : Nat} {o : Ob} (h : (objs τ).lookup n = some o) : (n < 6 ∧ o = gob τ n) ∨ (n = 7 ∧ o = tob τ) ∨ (10 ≤ n ∧ n < 16 ∧ o = sob τ (n - 10)) := by
  have key : ∀ (l : List (Nat × Ob)), (∀ p ∈ l, (p.1 < 6 ∧ p.2 = gob τ p.1) ∨ (p.1 = 7 ∧ p.2 = tob τ) ∨ (10 ≤ p.1 ∧ p.1 < 16 ∧ p.2 = sob τ (p.1 - 10))) → l.lookup n = some o → (n < 6 ∧ o = gob τ n) ∨ (n = 7 ∧ o = tob τ) ∨ (10 ≤ n ∧ n < 16 ∧ o = sob τ (n - 10)) := by
    intro l
    induction l with
    | nil => intro _ h; cases h
    | cons p r ih =>
      intro hp h
      rw [List.lookup_cons] at h
      split at h
      · rename_i hn
        have hn : n = p.1 := by simpa using hn
        injection h with h
        rw [hn, ← h]
        exact hp p List.mem_cons_self
      · exact ih (fun q hq => hp q (List.mem_cons_of_mem _ hq)) h
  refine key (objs τ) (fun p hp => ?_) h
  unfold objs at hp
  simp only [List.mem_cons, List.mem_nil_iff, or_false] at hp
  rcases hp with rfl | rfl | rfl | rfl | rfl | rfl | rfl | rfl | rfl | rfl | rfl | rfl | rfl <;> simp
theorem tabV_list : ∀ (l : List Nat), (tabV l).isL ∧ (tabV l).toL = l.map fun n => V.int .i8 (.ofNat n)
  | [] => ⟨trivial, rfl⟩
  | a :: r => by
    obtain ⟨h1, h2⟩ := tabV_list r
    exact ⟨h1, by show V.int .i8 (.ofNat a) :: (tabV r).toL = _; rw [h2]; rfl⟩
theorem ro_all [Base] {τ : Nat → Nat} {b : K} {o : Ob} (h : (h0 τ).get b = some o) : o.rw = false := by
  rw [key_of b] at h
  have h' : (objs τ).lookup (b.num - 1) = some o := by rw [← hOf_get 16]; exact h
  rcases objs_mem h' with ⟨_, rfl⟩ | ⟨_, rfl⟩ | ⟨_, _, rfl⟩ <;> rfl
theorem start_hr {W : World} {adr : Nat → Addr} {τ : Nat → Nat} (a : StartAt W adr τ) : letI : Base := ⟨W⟩; HR Tryz.prog (rhoOf (locOf adr)) (h0 τ) W ∧ Gl (rhoOf (locOf adr)) := by
  letI : Base := ⟨W⟩
  have l9 : ∀ n, n ≤ 9 → locOf adr n = some ⟨n, 0, 0⟩ := fun n hn => if_pos hn
  have l16 : ∀ n, 10 ≤ n → n < 16 → locOf adr n = some ⟨(adr (n - 10)).block, (adr (n - 10)).off, 0⟩ := fun n h1 h2 => by
    unfold locOf; rw [if_neg (by omega), if_pos h2]
  refine ⟨hr_of (fun n o h => ?_) (fun n m o q l l' h1 h2 k1 k2 hb => ?_) (fun n hn => ?_) ⟨Nat.le_refl _, fun _ _ => rfl, fun k hw => ?_⟩, fun g hg => ⟨0, by rw [rhoOf_key]; exact l9 g hg⟩⟩
  · rcases objs_mem h with ⟨hn, rfl⟩ | ⟨rfl, rfl⟩ | ⟨h1, h2, rfl⟩
    · have hg := a.g n hn
      refine ⟨⟨n, 0, 0⟩, l9 n (by omega), ⟨_, _, hg, by simp, by simp, ⟨fun _ => rfl, fun z => (by cases z)⟩, fun i hi => ?_⟩, lt_of_some hg⟩
      have : i = 0 := by omega
      subst this
      obtain ⟨s1, _⟩ := a.s n hn
      refine ⟨.iface 244 (.ptr (key (10 + n)) 0), .iface 244 (.pointer (some (adr n))), ?_, by simp, .iface _ ?_, rfl⟩
      · rw [cellAt, keyed_eq, T.get_set, if_pos rfl]
      · have hl : rhoOf (locOf adr) (key (10 + n)) = some ⟨(adr n).block, (adr n).off, 0⟩ := by
          rw [rhoOf_key, l16 _ (by omega) (by omega)]; simp
        have := DV.ptr (ρ := rhoOf (locOf adr)) 0 hl
        have he : (⟨(adr n).block, (adr n).off + 0, none⟩ : Addr) = adr n := by
          rw [← s1]; rfl
        rw [he] at this
        exact this
    · obtain ⟨cs, t1, t2, t3⟩ := a.t
      refine ⟨⟨7, 0, 0⟩, l9 7 (by omega), ⟨cs, _, t1, by simp [t2], by simp, ⟨fun _ => rfl, fun z => (by cases z)⟩, fun i hi => ?_⟩, lt_of_some t1⟩
      obtain ⟨v1, v2⟩ := tabV_list tabL
      refine ⟨.int .i8 (.ofNat (tabL.getD i 0)), .int .i8 (.ofNat (tabL.getD i 0)), ?_, by simpa using t3 i hi, .int _ _, rfl⟩
      have hlen : tabL.length = 128 := rfl
      rw [putCells_at _ _ _ _ v1, v2, if_pos ⟨Nat.zero_le _, by simp [hlen]; omega⟩]
      have : i < tabL.length := by omega
      simp [List.getD, this]
    · obtain ⟨s1, cs, s2, s3⟩ := a.s (n - 10) (by omega)
      have he : 10 + (n - 10) = n := by omega
      exact ⟨_, l16 n h1 h2, ⟨cs, _, s2, by simp; omega, by simp; omega, ⟨fun _ => rfl, fun z => (by cases z)⟩, fun i hi => by omega⟩, lt_of_some s2⟩
  · have ro : ∀ {n o}, (objs τ).lookup n = some o → o.rw = false := fun h => by
      rcases objs_mem h with ⟨_, rfl⟩ | ⟨_, rfl⟩ | ⟨_, _, rfl⟩ <;> rfl
    by_cases hnm : n = m
    · exact .inl hnm
    refine .inr ⟨ro h1, ro h2, ?_⟩
    have cls : ∀ {n o}, (objs τ).lookup n = some o → (n < 8 ∧ n ≠ 6) ∨ (10 ≤ n ∧ n < 16) := fun h => by
      rcases objs_mem h with ⟨q, _⟩ | ⟨q, _⟩ | ⟨q1, q2, _⟩ <;> omega
    rcases cls h1 with ⟨c1, c2⟩ | ⟨c1, c2⟩ <;> rcases cls h2 with ⟨c3, c4⟩ | ⟨c3, c4⟩
    · rw [l9 n (by omega)] at k1; rw [l9 m (by omega)] at k2
      injection k1 with k1; injection k2 with k2; subst k1; subst k2
      exact (hnm hb).elim
    · rw [l9 n (by omega)] at k1; rw [l16 m c3 c4] at k2
      injection k1 with k1; injection k2 with k2; subst k1; subst k2
      exact fun z => a.e (m - 10) n (by omega) c1 c2 hb.symm z.symm
    · rw [l16 n c1 c2] at k1; rw [l9 m (by omega)] at k2
      injection k1 with k1; injection k2 with k2; subst k1; subst k2
      exact a.e (n - 10) m (by omega) c3 c4 hb
    · rw [l16 n c1 c2] at k1; rw [l16 m c3 c4] at k2
      injection k1 with k1; injection k2 with k2; subst k1; subst k2
      exact a.d (n - 10) (m - 10) (by omega) (by omega) (by omega) hb
  · unfold locOf; rw [if_neg (by omega), if_neg (by omega)]
  · obtain ⟨b, o, l, h1, h2, _⟩ := hw
    rw [ro_all h1] at h2; cases h2
end Go.Proofs.YtaembckojgfnlaaGreatDoor
