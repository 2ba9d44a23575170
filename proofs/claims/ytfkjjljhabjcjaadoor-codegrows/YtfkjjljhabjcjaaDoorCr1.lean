/- The reader: take. -/
import Derived.Test.YtfkjjljhabjcjaaDoorCr0
namespace Go.Proofs.YtfkjjljhabjcjaaDoor
open Go.RowKit Go.Proofs.YtfkjjljhabjcjaaDoor.Cx
theorem Rd.drewN {pe pf : Addr} {w : World} {rp lo : Nat} {b : List UInt8} {a : Option Addr} {cap : Nat} {st : Option Nat} (h : Rd pe pf w rp lo b a cap st) (n : Nat) : Rd pe pf (w.drewN n) rp lo b a cap st :=
  h.fr ((Fr.refl (fun _ => False) w).drewN n) fun _ x => x.elim
def TakeP (pe pf : Addr) (rp lo : Nat) (b : List UInt8) (a : Option Addr) (cap n : Nat) (st : Option Nat) (w : World) (e : Ending) (w' : World) : Prop :=
  Fr (· = rp) w w' ∧
  ((∃ i a' cap', st = some i ∧ n ≤ b.length - i ∧ e = .returned (.slice a' n cap') ∧ Rd pe pf w' rp lo b a cap (some (i + n)) ∧ ∀ j (h : i + j < b.length), j < n → ∃ bk off, a' = some ⟨bk, off, none⟩ ∧ bk < lo ∧ w'.cell? ⟨bk, off + j, none⟩ = some (byteV b[i + j])) ∨
   (e = .returned (.slice none 0 0) ∧ Rd pe pf w' rp lo b a cap none ∧ ∀ i, st = some i → b.length - i < n ∧ EndAt pe w' rp))
set_option maxRecDepth 100000 in
set_option maxHeartbeats 1000000 in
theorem take_none (pe pf : Addr) (rp lo : Nat) (b : List UInt8) (a : Option Addr) (cap n : Nat) (w : World) (h : Rd pe pf w rp lo b a cap none) (_hn : n < 18446744073709551616) :
    Calls Tryd.prog 27 #[.pointer (some ⟨rp, 0, none⟩), .int .u64 n] w fun e w' => TakeP pe pf rp lo b a cap n none w e w' := by
  obtain ⟨i, q, h0, h1, h2⟩ := h.st
  have c0 := h.c0
  have v0 := h.vars.v0
  have hfew := h.few
  have HF : Hid (∀ k, Calls Tryd.prog 44 _ (w.drewN k) _) := hide fun k => fail_r pe pf pe rp lo b a cap none (w.drewN k) (h.drewN k)
  have H := hide h
  clear h
  go_enter Tryd.func27, Tryd.ntmps27
  go_wp2
  by_cases hgt : b.length - i < n
  · have hgt' : ((b.length : Int) - (i : Int)) < (n : Int) := by omega
    go_quiet (fail)
    go_wp2_with fail
    refine ((unhide HF) _).mono ?_
    rintro e w1 ⟨rfl, hR, hF, _⟩
    obtain ⟨i1, q1, k0, k1, k2⟩ := hR.st
    have HE : Hid (TakeP pe pf rp lo b a cap n none w (.returned (.slice none 0 0)) w1) := hide ⟨((Fr.refl _ w).drewN _).trans hF, .inr ⟨rfl, hR, fun _ e => by cases e⟩⟩
    clear hR hF HF h1 h2 c0 v0
    go_wp2
    go_ret
    exact unhide HE
  · have hgt' : ¬ ((b.length : Int) - (i : Int)) < (n : Int) := by omega
    go_quiet (fail)
    go_wp2
    go_ret
    exact ⟨(Fr.refl _ w).drewN _, .inr ⟨rfl, (unhide H).drewN _, fun _ e => by cases e⟩⟩
set_option maxRecDepth 100000 in
set_option maxHeartbeats 1000000 in
theorem take_out (pe pf : Addr) (rp lo : Nat) (b : List UInt8) (a : Option Addr) (cap n i : Nat) (w : World) (h : Rd pe pf w rp lo b a cap (some i)) (_hn : n < 18446744073709551616) (hgt : b.length - i < n) :
    Calls Tryd.prog 27 #[.pointer (some ⟨rp, 0, none⟩), .int .u64 n] w fun e w' => TakeP pe pf rp lo b a cap n (some i) w e w' := by
  obtain ⟨h0, h1, h2⟩ := h.at
  have c0 := h.c0
  have v0 := h.vars.v0
  have hfew := h.few
  have HF : Hid (∀ k, Calls Tryd.prog 44 _ (w.drewN k) _) := hide fun k => fail_r pe pf pe rp lo b a cap (some i) (w.drewN k) (h.drewN k)
  clear h
  go_enter Tryd.func27, Tryd.ntmps27
  go_wp2
  have hgt' : ((b.length : Int) - (i : Int)) < (n : Int) := by omega
  go_quiet (fail)
  go_wp2_with fail
  refine ((unhide HF) _).mono ?_
  rintro e w1 ⟨rfl, hR, hF, hE⟩
  obtain ⟨i1, q1, k0, k1, k2⟩ := hR.st
  have HE : Hid (TakeP pe pf rp lo b a cap n (some i) w (.returned (.slice none 0 0)) w1) := hide ⟨((Fr.refl _ w).drewN _).trans hF, .inr ⟨rfl, hR, fun j e => by cases e; exact ⟨hgt, hE i (by first | rfl | trivial) (by first | rfl | trivial)⟩⟩⟩
  clear hR hF HF h1 h2 c0 v0 hE
  go_wp2
  go_ret
  exact unhide HE
set_option maxRecDepth 100000 in
set_option maxHeartbeats 1000000 in
theorem take_in (pe pf : Addr) (rp lo : Nat) (b : List UInt8) (a : Option Addr) (cap n i : Nat) (w : World) (h : Rd pe pf w rp lo b a cap (some i)) (hgt : n ≤ b.length - i) :
    Calls Tryd.prog 27 #[.pointer (some ⟨rp, 0, none⟩), .int .u64 n] w fun e w' => TakeP pe pf rp lo b a cap n (some i) w e w' := by
  obtain ⟨h0, h1, h2⟩ := h.at
  have c0 := h.c0
  have v0 := h.vars.v0
  have hfew := h.few
  have hcap := h.hcap
  have f1 := h.f1
  have HT : Hid (∀ n1 nq a' cap', (0 < n → a' = a.map (fun x => x.add i)) → TakeP pe pf rp lo b a cap n (some i) w (.returned (.slice a' n cap')) (((w.drewN n1).setCell ⟨rp, 1, none⟩ (.int .i64 ((i : Int) + (n : Int)))).drewN nq)) := by
    refine hide fun n1 nq a' cap' ha => ?_
    have HR := (((h.drewN n1).setAt (j := i + n) (by omega)).drewN nq)
    rw [Int.natCast_add] at HR
    refine ⟨(((Fr.refl (· = rp) w).drewN n1).setCell (p := ⟨rp, 1, none⟩) rfl _).drewN nq, .inl ⟨i, _, _, rfl, hgt, rfl, HR, fun j hj hjn => ?_⟩⟩
    obtain ⟨bk, off, rfl, hl, _, hc⟩ := HR.bytes (i + j) hj
    exact ⟨bk, off + i, by rw [ha (by omega)]; simp [Addr.add], hl, by rw [Nat.add_assoc]; exact hc⟩
  clear h
  go_enter Tryd.func27, Tryd.ntmps27
  go_wp2
  have hgt' : ¬ ((b.length : Int) - (i : Int)) < (n : Int) := by omega
  go_quiet (fail)
  obtain ⟨n1, rfl⟩ : ∃ n1, n1 = nq := ⟨_, rfl⟩
  go_wp2
  have hnn : i + n - i = n := by omega
  go_quiet (fail)
  rw [hnn]
  have HT2 := (unhide HT) n1 nq
  generalize ((w.drewN n1).setCell ⟨rp, 1, none⟩ (.int .i64 ((i : Int) + (n : Int)))).drewN nq = W at *
  have hga : 0 < n → (if cap = i then a else Option.map (fun x => x.add i) a) = a.map (fun x => x.add i) := fun _ => by rw [if_neg (by omega)]
  generalize (if cap = i then a else Option.map (fun x => x.add i) a) = a' at *
  have HT3 := hide (HT2 a' (cap - i) hga)
  clear HT2 hga HT
  go_wp2
  go_ret
  exact unhide HT3
theorem take_r (pe pf : Addr) (rp lo : Nat) (b : List UInt8) (a : Option Addr) (cap n : Nat) (st : Option Nat) (w : World) (h : Rd pe pf w rp lo b a cap st) (hn : n < 18446744073709551616) :
    Calls Tryd.prog 27 #[.pointer (some ⟨rp, 0, none⟩), .int .u64 n] w fun e w' => TakeP pe pf rp lo b a cap n st w e w' := by
  cases st with
  | none => exact take_none pe pf rp lo b a cap n w h hn
  | some i =>
    by_cases hgt : n ≤ b.length - i
    · exact take_in pe pf rp lo b a cap n i w h hgt
    · exact take_out pe pf rp lo b a cap n i w h hn (by omega)
end Go.Proofs.YtfkjjljhabjcjaaDoor
