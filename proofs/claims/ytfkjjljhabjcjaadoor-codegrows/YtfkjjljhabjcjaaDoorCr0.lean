/- The reader in memory. -/
import Derived.Test.YtfkjjljhabjcjaaDoorCe
namespace Go.Proofs.YtfkjjljhabjcjaaDoor
open Go.RowKit Go.Proofs.YtfkjjljhabjcjaaDoor.Cx
/-- The two errors, as their initialisers lay them. -/
structure Vars (w : World) (pe pf : Addr) : Prop where
  v0 : w.cell? ⟨0, 0, none⟩ = some (.iface 107 (.pointer (some pe)))
  v1 : w.cell? ⟨1, 0, none⟩ = some (.iface 107 (.pointer (some pf)))
/-- The reader at rp over the bytes b; st: where it is; none: it is stuck. All that counts lies below lo. -/
structure Rd (pe pf : Addr) (w : World) (rp lo : Nat) (b : List UInt8) (a : Option Addr) (cap : Nat) (st : Option Nat) : Prop where
  c0 : w.cell? ⟨rp, 0, none⟩ = some (.slice a b.length cap)
  c1 : ∃ i : Nat, i ≤ b.length ∧ w.cell? ⟨rp, 1, none⟩ = some (.int .i64 i) ∧ ∀ j, st = some j → j = i
  c2 : ∃ v, w.cell? ⟨rp, 2, none⟩ = some v ∧ ((∃ j, st = some j ∧ v = .nilIface) ∨ (st = none ∧ ∃ q, v = .iface 103 (.pointer (some ⟨q, 0, none⟩))))
  f1 : w.frozen? ⟨rp, 1, none⟩ = false
  f2 : w.frozen? ⟨rp, 2, none⟩ = false
  bytes : ∀ j (h : j < b.length), ∃ bk off, a = some ⟨bk, off, none⟩ ∧ bk < lo ∧ bk ≠ rp ∧ w.cell? ⟨bk, off + j, none⟩ = some (byteV b[j])
  few : b.length ≤ 1000000000
  hcap : b.length ≤ cap
  rlo : rp < lo
  glo : 1 < lo
  r01 : 1 < rp
  size : lo ≤ w.heap.size
  vars : Vars w pe pf
theorem Rd.keep {pe pf : Addr} {w w' : World} {rp lo : Nat} {b : List UInt8} {a : Option Addr} {cap : Nat} {st : Option Nat} (h : Rd pe pf w rp lo b a cap st) (hs : w.heap.size ≤ w'.heap.size) (hb : ∀ k, k < lo → w'.heap[k]? = w.heap[k]?) : Rd pe pf w' rp lo b a cap st := by
  have hc : ∀ x : Addr, x.block < lo → w'.cell? x = w.cell? x := fun x hx => World.cell?_of_block (hb _ hx)
  have hf : ∀ x : Addr, x.block < lo → w'.frozen? x = w.frozen? x := fun x hx => World.frozen?_of_block (hb _ hx)
  have hl := h.rlo
  have hg := h.glo
  refine ⟨(hc _ hl).trans h.c0, ?_, ?_, (hf _ hl).trans h.f1, (hf _ hl).trans h.f2, ?_, h.few, h.hcap, hl, hg, h.r01, Nat.le_trans h.size hs, ⟨(hc _ (show 0 < lo by omega)).trans h.vars.v0, (hc _ hg).trans h.vars.v1⟩⟩
  · obtain ⟨i, h1, h2, h3⟩ := h.c1
    exact ⟨i, h1, (hc _ hl).trans h2, h3⟩
  · obtain ⟨v, h1, h2⟩ := h.c2
    exact ⟨v, (hc _ hl).trans h1, h2⟩
  · intro j hj
    obtain ⟨bk, off, h1, h2, h3, h4⟩ := h.bytes j hj
    exact ⟨bk, off, h1, h2, h3, (hc _ h2).trans h4⟩
theorem Rd.fr {pe pf : Addr} {K : Nat → Prop} {w w' : World} {rp lo : Nat} {b : List UInt8} {a : Option Addr} {cap : Nat} {st : Option Nat} (h : Rd pe pf w rp lo b a cap st) (hF : Fr K w w') (hk : ∀ k, K k → lo ≤ k) : Rd pe pf w' rp lo b a cap st :=
  h.keep hF.size fun k hk' => hF.block k (Nat.lt_of_lt_of_le hk' h.size) fun x => by have := hk k x; omega
theorem Rd.alloc {pe pf : Addr} {w : World} {rp lo : Nat} {b : List UInt8} {a : Option Addr} {cap : Nat} {st : Option Nat} (h : Rd pe pf w rp lo b a cap st) (o : Obj) : Rd pe pf (w.alloc o) rp lo b a cap st :=
  h.fr ((Fr.refl (fun _ => False) w).alloc o) fun _ x => x.elim
theorem Rd.at {pe pf : Addr} {w : World} {rp lo : Nat} {b : List UInt8} {a : Option Addr} {cap : Nat} {i : Nat} (h : Rd pe pf w rp lo b a cap (some i)) : i ≤ b.length ∧ w.cell? ⟨rp, 1, none⟩ = some (.int .i64 i) ∧ w.cell? ⟨rp, 2, none⟩ = some .nilIface := by
  obtain ⟨j, h1, h2, h3⟩ := h.c1
  obtain rfl := h3 i rfl
  obtain ⟨v, h4, h5⟩ := h.c2
  rcases h5 with ⟨_, _, rfl⟩ | ⟨h5, _⟩
  · exact ⟨h1, h2, h4⟩
  · cases h5
theorem Rd.st {pe pf : Addr} {w : World} {rp lo : Nat} {b : List UInt8} {a : Option Addr} {cap : Nat} (h : Rd pe pf w rp lo b a cap none) : ∃ (i q : Nat), i ≤ b.length ∧ w.cell? ⟨rp, 1, none⟩ = some (.int .i64 i) ∧ w.cell? ⟨rp, 2, none⟩ = some (.iface 103 (.pointer (some ⟨q, 0, none⟩))) := by
  obtain ⟨j, h1, h2, _⟩ := h.c1
  obtain ⟨v, h4, h5⟩ := h.c2
  rcases h5 with ⟨_, h5, _⟩ | ⟨_, q, rfl⟩
  · cases h5
  · exact ⟨j, q, h1, h2, h4⟩
theorem cell_ne {w : World} {p q : Addr} {v : Value} (h : p ≠ q) : (w.setCell p v).cell? q = w.cell? q := World.cell?_setCell_other _ _ _ _ h
theorem Rd.setAt {pe pf : Addr} {w : World} {rp lo : Nat} {b : List UInt8} {a : Option Addr} {cap : Nat} {i : Nat} (h : Rd pe pf w rp lo b a cap (some i)) {j : Nat} (hj : j ≤ b.length) : Rd pe pf (w.setCell ⟨rp, 1, none⟩ (.int .i64 j)) rp lo b a cap (some j) := by
  obtain ⟨_, h1, h2⟩ := h.at
  have hr := h.r01
  refine ⟨?_, ⟨j, hj, World.cell?_setCell_same _ _ _ h1, fun _ e => (Option.some.inj e).symm⟩, ⟨_, ?_, .inl ⟨j, rfl, rfl⟩⟩, ?_, ?_, ?_, h.few, h.hcap, h.rlo, h.glo, h.r01, ?_, ?_, ?_⟩
  · rw [cell_ne (by intro e; injection e with _ e; cases e)]; exact h.c0
  · rw [cell_ne (by intro e; injection e with _ e; cases e)]; exact h2
  · rw [World.frozen?_setCell]; exact h.f1
  · rw [World.frozen?_setCell]; exact h.f2
  · intro j hj
    obtain ⟨bk, off, e1, e2, e3, e4⟩ := h.bytes j hj
    exact ⟨bk, off, e1, e2, e3, by rw [cell_ne (by intro e; injection e with e _; exact e3 e.symm)]; exact e4⟩
  · have := h.size; simp [World.setCell]; omega
  · rw [cell_ne (by intro e; injection e with e _; omega)]; exact h.vars.v0
  · rw [cell_ne (by intro e; injection e with e _; omega)]; exact h.vars.v1
theorem Rd.setSt {pe pf : Addr} {w : World} {rp lo : Nat} {b : List UInt8} {a : Option Addr} {cap : Nat} {i : Nat} (h : Rd pe pf w rp lo b a cap (some i)) (q : Nat) : Rd pe pf (w.setCell ⟨rp, 2, none⟩ (.iface 103 (.pointer (some ⟨q, 0, none⟩)))) rp lo b a cap none := by
  obtain ⟨h0, h1, h2⟩ := h.at
  have hr := h.r01
  refine ⟨?_, ⟨i, h0, ?_, fun _ e => by cases e⟩, ⟨_, World.cell?_setCell_same _ _ _ h2, .inr ⟨rfl, q, rfl⟩⟩, ?_, ?_, ?_, h.few, h.hcap, h.rlo, h.glo, h.r01, ?_, ?_, ?_⟩
  · rw [cell_ne (by intro e; injection e with _ e; cases e)]; exact h.c0
  · rw [cell_ne (by intro e; injection e with _ e; cases e)]; exact h1
  · rw [World.frozen?_setCell]; exact h.f1
  · rw [World.frozen?_setCell]; exact h.f2
  · intro j hj
    obtain ⟨bk, off, e1, e2, e3, e4⟩ := h.bytes j hj
    exact ⟨bk, off, e1, e2, e3, by rw [cell_ne (by intro e; injection e with e _; exact e3 e.symm)]; exact e4⟩
  · have := h.size; simp [World.setCell]; omega
  · rw [cell_ne (by intro e; injection e with e _; omega)]; exact h.vars.v0
  · rw [cell_ne (by intro e; injection e with e _; omega)]; exact h.vars.v1
/-- Stuck at the end of the bytes. -/
def EndAt (pe : Addr) (w : World) (rp : Nat) : Prop := ∃ q, w.cell? ⟨rp, 2, none⟩ = some (.iface 103 (.pointer (some ⟨q, 0, none⟩))) ∧ w.cell? ⟨q, 1, none⟩ = some (.iface 107 (.pointer (some pe)))
set_option maxRecDepth 100000 in
set_option maxHeartbeats 1000000 in
theorem fail_r (pe pf p : Addr) (rp lo : Nat) (b : List UInt8) (a : Option Addr) (cap : Nat) (st : Option Nat) (w : World) (h : Rd pe pf w rp lo b a cap st) :
    Calls Tryd.prog 44 #[.pointer (some ⟨rp, 0, none⟩), .iface 107 (.pointer (some p))] w fun e w' => e = .returned (.tuple #[]) ∧ Rd pe pf w' rp lo b a cap none ∧ Fr (· = rp) w w' ∧ (∀ i, st = some i → p = pe → EndAt pe w' rp) := by
  cases st with
  | none =>
    obtain ⟨i, q, h0, h1, h2⟩ := h.st
    have H := hide h
    clear h
    go_enter Tryd.func44, Tryd.ntmps44
    go_wp2
    go_end0
    exact ⟨rfl, unhide H, Fr.refl _ _, fun _ e => by cases e⟩
  | some i =>
    obtain ⟨h0, h1, h2⟩ := h.at
    have hf2 := h.f2
    have H := hide h
    have hlt : rp < w.heap.size := Nat.lt_of_lt_of_le h.rlo h.size
    clear h
    go_enter Tryd.func44, Tryd.ntmps44
    go_wp2
    go_end0
    refine ⟨rfl, ((unhide H).setSt _).alloc _, ((Fr.refl (· = rp) w).setCell (p := ⟨rp, 2, none⟩) rfl _).alloc _, fun _ _ e => ⟨w.heap.size, ((Fr.refl (fun _ => False) _).alloc _).cell (World.cell?_setCell_same _ _ _ h2) id, ?_⟩⟩
    rw [World.cell?_alloc_at _ _ _ _ (by simp [World.setCell]), e]
    rfl
end Go.Proofs.YtfkjjljhabjcjaaDoor
