/- The reader: bytes, flags. -/
import Derived.Test.YtfkjjljhabjcjaaDoorCr1
namespace Go.Proofs.YtfkjjljhabjcjaaDoor
open Go.RowKit Go.Proofs.YtfkjjljhabjcjaaDoor.Cx
/-- A byte was read, or the reader is stuck and gives 0. -/
def OctP (pe pf : Addr) (rp lo : Nat) (b : List UInt8) (a : Option Addr) (cap : Nat) (st : Option Nat) (w : World) (e : Ending) (w' : World) : Prop :=
  Fr (· = rp) w w' ∧
  ((∃ i c, st = some i ∧ b[i]? = some c ∧ e = .returned (.int .u8 (c.toNat : Int)) ∧ Rd pe pf w' rp lo b a cap (some (i + 1))) ∨
   (e = .returned (.int .u8 0) ∧ Rd pe pf w' rp lo b a cap none ∧ ∀ i, st = some i → b[i]? = none ∧ i = b.length ∧ EndAt pe w' rp))
set_option maxRecDepth 100000 in
set_option maxHeartbeats 1000000 in
theorem octet_r (pe pf : Addr) (rp lo : Nat) (b : List UInt8) (a : Option Addr) (cap : Nat) (st : Option Nat) (w : World) (h : Rd pe pf w rp lo b a cap st) :
    Calls Tryd.prog 16 #[.pointer (some ⟨rp, 0, none⟩)] w fun e w' => OctP pe pf rp lo b a cap st w e w' := by
  have HT := hide (take_r pe pf rp lo b a cap 1 st w h (by decide))
  have hat : ∀ i, st = some i → i ≤ b.length := fun i e => by subst e; exact h.at.1
  have HA := hide hat
  clear h hat
  go_enter Tryd.func16, Tryd.ntmps16
  go_wp2_with fail
  refine (unhide HT).mono ?_
  rintro e w1 ⟨hF, ⟨i, a', cap', rfl, hle, rfl, hR, hB⟩ | ⟨rfl, hR, hE⟩⟩
  · obtain ⟨bk, off, rfl, _, hc⟩ := hB 0 (by omega) (by decide)
    have hc0 : w1.cell? ⟨bk, off, none⟩ = some (.int .u8 (b[i].toNat : Int)) := hc
    have HE : Hid (OctP pe pf rp lo b a cap (some i) w (.returned (.int .u8 (b[i].toNat : Int))) w1) := hide ⟨hF, .inl ⟨i, b[i], rfl, List.getElem?_eq_getElem _, rfl, hR⟩⟩
    clear hB hc hR hF HT
    generalize b[i] = c at *
    go_wp2
    go_ret
    exact unhide HE
  · have HE : Hid (OctP pe pf rp lo b a cap st w (.returned (.int .u8 0)) w1) := hide ⟨hF, .inr ⟨rfl, hR, fun i e => by
      obtain ⟨h1, h2⟩ := hE i e
      have := unhide HA i e
      exact ⟨List.getElem?_eq_none (by omega), by omega, h2⟩⟩⟩
    clear hR hF hE HT
    go_wp2
    go_ret
    exact unhide HE
/-- What a reader's call gives: it ends at st'. -/
def RdP {α : Type} (pe pf : Addr) (rp lo : Nat) (b : List UInt8) (a : Option Addr) (cap : Nat) (st : Option Nat) (enc : α → List UInt8) (ok : α → Prop) (G : World → α → Prop) (w w' : World) : Prop :=
  Fr (· = rp) w w' ∧ ∃ st', Rd pe pf w' rp lo b a cap st' ∧ Res b st st' enc ok (G w')
theorem flag_byte {b : List UInt8} {i : Nat} {c : UInt8} (h : b[i]? = some c) (hc : ¬ c.toNat ≤ 1) : ∀ x : Bool, okB x → ¬ At b i (encB x) := by
  intro x _ ha
  have := (At.one.1 ha).symm.trans h
  have e := Option.some.inj this
  rw [← e] at hc
  cases x <;> simp at hc
theorem flag_none {b : List UInt8} {i : Nat} (h : b[i]? = none) : ∀ x : Bool, okB x → ¬ At b i (encB x) := by
  intro x _ ha
  have := (At.one.1 ha).symm.trans h
  cases this
set_option maxRecDepth 100000 in
set_option maxHeartbeats 1000000 in
theorem flag_r (pe pf : Addr) (rp lo : Nat) (b : List UInt8) (a : Option Addr) (cap : Nat) (st : Option Nat) (w : World) (h : Rd pe pf w rp lo b a cap st) :
    Calls Tryd.prog 41 #[.pointer (some ⟨rp, 0, none⟩)] w fun e w' => ∃ x : Bool, e = .returned (.bool x) ∧ RdP pe pf rp lo b a cap st encB okB (fun _ y => y = x) w w' := by
  have HT := hide (octet_r pe pf rp lo b a cap st w h)
  clear h
  go_enter Tryd.func41, Tryd.ntmps41
  go_wp2_with fail
  refine (unhide HT).mono ?_
  rintro e w1 ⟨hF, ⟨i, c, rfl, hc, rfl, hR⟩ | ⟨rfl, hR, hE⟩⟩
  · by_cases hgt : c.toNat ≤ 1
    · have hgt' : ¬ (1 : Int) < (c.toNat : Int) := by omega
      have HE : Hid (∀ x : Bool, x = (c.toNat == 1) → RdP pe pf rp lo b a cap (some i) encB okB (fun _ y => y = x) w w1) := by
        refine hide fun x hx => ⟨hF, some (i + 1), hR, x, trivial, At.one.2 ?_, rfl, rfl⟩
        rw [hc, hx]
        congr 1
        have : c.toNat = 0 ∨ c.toNat = 1 := by omega
        rcases this with h | h
        · rw [h]; exact UInt8.toNat_inj.1 h
        · rw [h]; exact UInt8.toNat_inj.1 h
      clear hR hF HT hc
      generalize c.toNat = m at *
      go_wp2
      go_ret
      refine ⟨_, rfl, unhide HE _ ?_⟩
      by_cases hm : m = 1
      · subst hm; rfl
      · have h1 : ((m : Int) == 1) = false := by simp; omega
        have h2 : (m == 1) = false := by simp; omega
        rw [h1, h2]
    · have hgt' : (1 : Int) < (c.toNat : Int) := by omega
      have v1 := hR.vars.v1
      have HF := hide (fail_r pe pf pf rp lo b a cap (some (i + 1)) w1 hR)
      have HFr := hide hF
      have HB := hide (flag_byte hc hgt)
      clear hR hF HT hc
      generalize c.toNat = m at *
      go_wp2_with fail
      refine (unhide HF).mono ?_
      rintro e w2 ⟨rfl, hR2, hF2, _⟩
      have HE : Hid (∀ x : Bool, RdP pe pf rp lo b a cap (some i) encB okB (fun _ y => y = x) w w2) := hide fun x => ⟨(unhide HFr).trans hF2, none, hR2, unhide HB⟩
      clear hR2 hF2 HF HFr HB v1
      go_wp2
      go_ret
      exact ⟨_, rfl, unhide HE _⟩
  · have HE : Hid (∀ x : Bool, RdP pe pf rp lo b a cap st encB okB (fun _ y => y = x) w w1) := hide fun x => ⟨hF, none, hR, by
      cases st with
      | none => trivial
      | some i => exact flag_none (hE i rfl).1⟩
    clear hR hF hE HT
    go_wp2
    go_ret
    exact ⟨_, rfl, unhide HE _⟩
end Go.Proofs.YtfkjjljhabjcjaaDoor
