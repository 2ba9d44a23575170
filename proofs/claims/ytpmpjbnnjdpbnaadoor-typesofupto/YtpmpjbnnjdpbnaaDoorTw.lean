/- Contracts over trees that are handed in: spent, great, the reference's Of. -/
import Derived.Test.YtpmpjbnnjdpbnaaDoorTo
import Derived.Test.YtpmpjbnnjdpbnaaDoorState
import Derived.Deep.RegionHeld2
import Derived.Deep.LoopGhost
set_option linter.unusedVariables false
set_option linter.unusedSimpArgs false
namespace Go.Proofs.YtpmpjbnnjdpbnaaDoor
open Go.RowKit Go.Proofs.YtpmpjbnnjdpbnaaDoor.Lx

def SpentP (N n : Nat) : Prop := ∀ (kd : Int) (tx : ByteArray) (nm ps : Int) (ty : ByteArray) (rf : Int) (kids : List Tr) (a : Option Addr) (cp : Nat) (d l : Int) (w : World), KidsT N w n kids a → N ≤ w.heap.size → kids.length ≤ cp →
    Calls Tryd.prog 36 #[.agg #[.int .i64 kd, .string tx, .int .i64 nm, .int .i64 ps, .string ty, .int .i64 rf, .slice a kids.length cp], .int .i64 d, .int .i64 l] w fun e w' => (∃ r, e = .returned (.int .i64 r)) ∧ Below w.heap.size w w'
theorem bt2 {a b c : World} (h : Below a.heap.size a b) (k : Below b.heap.size b c) : Below a.heap.size a c := h.trans (k.mono h.size)
theorem below_in {N : Nat} {a b : World} (h : Below a.heap.size a b) (hN : N ≤ a.heap.size) : Below N a b := h.mono hN
set_option maxRecDepth 100000 in
set_option maxHeartbeats 1000000 in
theorem spent_step (N n : Nat) (ih : ∀ m, n = m + 1 → SpentP N m) : SpentP N n := by
  intro kd tx nm ps ty rf kids a cp d l w hk hN hcp
  have hfew := hk.1
  unfold maxLen at hfew
  have HK := hide hk
  have HI := hide ih
  clear hk ih
  go_enter Tryd.func36, Tryd.ntmps36
  go_wp2
  · go_ret
    exact ⟨⟨_, rfl⟩, (Below.refl _ _).alloc (Nat.le_refl _) _⟩
  · go_ret
    exact ⟨⟨_, rfl⟩, (Below.refl _ _).alloc (Nat.le_refl _) _⟩
  rename_i hA hB K1 a1
  clear hA hB
  go_loopg [2, 20] (kids.length + 1) (fun g v2 v20 wr => ∃ (j : Nat) (l' : Int), g = kids.length + 1 - j ∧ j ≤ kids.length ∧ v20 = .int .i64 j ∧ v2 = .int .i64 l' ∧ Below w.heap.size w wr)
  case atStart => exact ⟨0, _, by omega, by omega, rfl, rfl, (Below.refl _ _).alloc (Nat.le_refl _) _⟩
  case round =>
    obtain ⟨j, l', rfl, hj, rfl, rfl, hb⟩ := hrel
    by_cases hlt : j < kids.length
    · have hltz : (j : Int) < kids.length := by omega
      obtain ⟨m, b, off, kd2, tx2, nm2, ps2, ty2, rf2, ks2, a2, cp2, hn, rfl, hbN, ek, hcp2, hk2, c0, c1, c2, c3, c4, c5, c6⟩ := ((unhide HK).below (below_in hb hN)).kid hlt
      have hbs := hb.size
      have IH := hide (unhide HI m hn)
      have HK2 := hide hk2
      clear hk2 ek hn
      have hb1 := fun o => hb.alloc hbs o
      go_wp2_with (go_at_call 36; refine (unhide IH kd2 tx2 nm2 ps2 ty2 rf2 ks2 a2 cp2 _ _ _ ((unhide HK2).below ((Below.refl N wr).alloc (by omega) _)) (by simp; omega) hcp2).mono ?_; rintro e w2 ⟨⟨r, rfl⟩, hb2⟩; have HB2 := hide (bt2 (hb1 _) hb2); clear hb2)
      · go_ret
        exact ⟨⟨_, rfl⟩, unhide HB2⟩
      · go_roundg (kids.length + 1 - (j + 1))
        case measure => omega
        case rel => exact ⟨j + 1, _, rfl, by omega, by go_num, rfl, unhide HB2⟩
    · have hltz : ¬ (j : Int) < kids.length := by omega
      go_wp2
      go_ret
      exact ⟨⟨_, rfl⟩, hb⟩
theorem spent_w (N : Nat) : ∀ n, SpentP N n := by
  intro n
  induction n with
  | zero => exact spent_step N 0 fun m h => by omega
  | succ n ih => exact spent_step N (n + 1) fun m h => by obtain rfl : m = n := by omega
                                                          exact ih
theorem great_w (N n : Nat) (kd : Int) (tx : ByteArray) (nm ps : Int) (ty : ByteArray) (rf : Int) (kids : List Tr) (a : Option Addr) (cp : Nat) (d l : Int) (w : World) (hk : KidsT N w n kids a) (hN : N ≤ w.heap.size) (hcp : kids.length ≤ cp) :
    Calls Tryd.prog 24 #[.agg #[.int .i64 kd, .string tx, .int .i64 nm, .int .i64 ps, .string ty, .int .i64 rf, .slice a kids.length cp], .int .i64 d, .int .i64 l] w fun e w' => (∃ r, e = .returned (.bool r)) ∧ Below w.heap.size w w' := by
  have HK := hide hk
  clear hk
  go_enter Tryd.func24, Tryd.ntmps24
  go_wp2_with (go_at_call 36; refine (spent_w N n kd tx nm ps ty rf kids a cp d l _ ((unhide HK).below ((Below.refl N w).alloc hN _)) (by simp; omega) hcp).mono ?_; rintro e w2 ⟨⟨r, rfl⟩, hb2⟩; have HB2 := hide (bt2 ((Below.refl _ _).alloc (Nat.le_refl _) _) hb2); clear hb2)
  go_ret
  exact ⟨⟨_, rfl⟩, unhide HB2⟩
end Go.Proofs.YtpmpjbnnjdpbnaaDoor
