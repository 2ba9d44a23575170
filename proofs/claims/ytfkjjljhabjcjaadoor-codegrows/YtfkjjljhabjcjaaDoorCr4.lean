/- The reader: numbers, texts. -/
import Derived.Test.YtfkjjljhabjcjaaDoorCr3
import Derived.Lib.BufferRead
import Derived.Laws.IdiomStrings
namespace Go.Proofs.YtfkjjljhabjcjaaDoor
open Go.RowKit Go.Proofs.YtfkjjljhabjcjaaDoor.Cx
/-- The number that is written as n. -/
def unzig (n : Nat) : Int := if n % 2 = 0 then ((n / 2 : Nat) : Int) else -((n / 2 : Nat) : Int) - 1
theorem zig_unzig (n : Nat) : zig (unzig n) = n := by
  unfold unzig zig
  split <;> split <;> omega
theorem unzig_ok {n : Nat} (h : n < 18446744073709551616) : okN (unzig n) := by
  unfold unzig okN
  split <;> omega
theorem xor_m1 (x : Nat) (hx : x < 9223372036854775808) : bits .xor .i64 (x : Int) (-1) = -(x : Int) - 1 := by
  rw [← Lib.i64_not x hx]
  show IntKind.i64.wrap ((BitVec.ofInt 64 (x : Int) ^^^ BitVec.ofInt 64 (-1)).toNat : Int) = IntKind.i64.wrap ((BitVec.ofInt 64 (-1) ^^^ BitVec.ofInt 64 (x : Int)).toNat : Int)
  rw [BitVec.xor_comm]
theorem xor_z (x : Nat) (hx : x < 9223372036854775808) : bits .xor .i64 (x : Int) 0 = (x : Int) := by
  show IntKind.i64.wrap ((BitVec.ofInt 64 (x : Int) ^^^ BitVec.ofInt 64 0).toNat : Int) = _
  have h2 : (BitVec.ofInt 64 (x : Int)).toNat = x := by
    rw [BitVec.ofInt_natCast, BitVec.toNat_ofNat]; exact Nat.mod_eq_of_lt (by omega)
  rw [show BitVec.ofInt 64 0 = 0#64 from rfl, BitVec.xor_zero, h2, IntKind.wrap_i64]
  omega
theorem unzig_bits (x : Nat) (hx : x < 18446744073709551616) : bits BinOp.xor IntKind.i64 ((x : Int) / 2) (wrap64 (-wrap64 (bits BinOp.and IntKind.u64 (x : Int) 1))) = unzig x := by
  rw [Lib.u64_and1 _ (by omega) (by omega)]
  have e : (x : Int) / 2 = ((x / 2 : Nat) : Int) := by omega
  rw [e]
  unfold unzig
  by_cases h : x % 2 = 0
  · have : (x : Int) % 2 = 0 := by omega
    rw [this, if_pos h]
    rw [show wrap64 (-wrap64 0) = 0 by unfold wrap64; decide]
    exact xor_z (x / 2) (by omega)
  · have : (x : Int) % 2 = 1 := by omega
    rw [this, if_neg h]
    rw [show wrap64 (-wrap64 1) = -1 by unfold wrap64; decide]
    exact xor_m1 (x / 2) (by omega)
theorem Res.num {b : List UInt8} {st st' : Option Nat} {x : Nat} (h : Res b st st' sz okS (fun y => y = x)) : Res b st st' encN okN (fun y => y = unzig x) := by
  cases st <;> cases st' <;> simp only [Res] at h ⊢
  · exact fun z hz => h (zig z) (zig_lt hz)
  · obtain ⟨y, h1, h2, h3, rfl⟩ := h
    exact ⟨unzig y, unzig_ok h1, by rw [encN, zig_unzig]; exact h2, by rw [encN, zig_unzig]; exact h3, rfl⟩
set_option maxRecDepth 100000 in
set_option maxHeartbeats 1000000 in
theorem number_r (pe pf : Addr) (rp lo : Nat) (b : List UInt8) (a : Option Addr) (cap : Nat) (st : Option Nat) (w : World) (h : Rd pe pf w rp lo b a cap st) :
    Calls Tryd.prog 26 #[.pointer (some ⟨rp, 0, none⟩)] w fun e w' => ∃ x : Int, e = .returned (.int .i64 x) ∧ RdP pe pf rp lo b a cap st encN okN (fun _ y => y = x) w w' := by
  have HT := hide (size_r pe pf rp lo b a cap st w h)
  clear h
  go_enter Tryd.func26, Tryd.ntmps26
  go_wp2_with fail
  refine (unhide HT).mono ?_
  rintro e w1 ⟨x, hx, rfl, hF, st', hR, hS⟩
  have HE : Hid (RdP pe pf rp lo b a cap st encN okN (fun _ y => y = unzig x) w w1) := hide ⟨hF, st', hR, Res.num hS⟩
  clear hF hR hS HT
  go_wp2
  go_ret
  refine ⟨unzig x, ret_int ?_, unhide HE⟩
  exact unzig_bits x hx
def bytesOf (b : List UInt8) (i n : Nat) : ByteArray := ⟨((b.drop i).take n).toArray⟩
theorem text_at {b : List UInt8} {i n : Nat} (h : At b i (sz n)) (hn : n ≤ b.length - (i + (sz n).length)) :
    At b i (encT (bytesOf b (i + (sz n).length) n)) ∧ (encT (bytesOf b (i + (sz n).length) n)).length = (sz n).length + n ∧ (bytesOf b (i + (sz n).length) n).size = n := by
  have hsz : (bytesOf b (i + (sz n).length) n).size = n := by
    show ((b.drop (i + (sz n).length)).take n).toArray.size = n
    simp; omega
  refine ⟨?_, ?_, hsz⟩
  · rw [encT, hsz]
    refine At.app.2 ⟨h, ?_⟩
    exact At.take
  · rw [encT_len, hsz]
theorem text_bad {b : List UInt8} {i n : Nat} (h : At b i (sz n)) (hn : b.length - (i + (sz n).length) < n) : ∀ s, okT s → ¬ At b i (encT s) := by
  intro s _ ha
  rw [encT, At.app] at ha
  have := At.uniq sz_pf ha.1 h
  have h2 := ha.2.len
  rw [this, Array.length_toList] at h2
  have : s.data.size = s.size := rfl
  omega
set_option maxRecDepth 100000 in
set_option maxHeartbeats 1000000 in
theorem text_r (pe pf : Addr) (rp lo : Nat) (b : List UInt8) (a : Option Addr) (cap : Nat) (st : Option Nat) (w : World) (h : Rd pe pf w rp lo b a cap st) :
    Calls Tryd.prog 21 #[.pointer (some ⟨rp, 0, none⟩)] w fun e w' => ∃ s : ByteArray, e = .returned (.string s) ∧ RdP pe pf rp lo b a cap st encT okT (fun _ y => y = s ∧ s.size ≤ 281474976710656) w w' := by
  have HT := hide (size_r pe pf rp lo b a cap st w h)
  have hfew := h.few
  clear h
  go_enter Tryd.func21, Tryd.ntmps21
  go_wp2_with fail
  refine (unhide HT).mono ?_
  rintro e w1 ⟨x, hx, rfl, hF, st1, hR, hS⟩
  have HT2 := hide (take_r pe pf rp lo b a cap x st1 w1 hR hx)
  have HS := hide hS
  have HF := hide hF
  clear hF hR hS HT
  go_wp2_with fail
  refine (unhide HT2).mono ?_
  rintro e w2 ⟨hF2, ⟨i, a', cap', rfl, hle, rfl, hR, hB⟩ | ⟨rfl, hR, hE⟩⟩
  · have HE : Hid (x ≤ 281474976710656 ∧ RdP pe pf rp lo b a cap st encT okT (fun _ y => y = bytesOf b i x ∧ (bytesOf b i x).size ≤ 281474976710656) w w2) := by
      have hxl : x ≤ b.length := by omega
      refine hide ⟨by omega, (unhide HF).trans hF2, some (i + x), hR, ?_⟩
      have hS := unhide HS
      cases st with
      | none => exact hS
      | some i0 =>
        obtain ⟨y, h1, h2, rfl, rfl⟩ := hS
        have := text_at h2 hle
        refine ⟨_, ?_, this.1, ?_, rfl, ?_⟩
        · show _ < _; rw [this.2.2]; exact hx
        · rw [this.2.1]; omega
        · rw [this.2.2]; omega
    have HC : Hid ((convert 32 9 (.slice a' x cap')).run Tryd.prog w2 = .ok (.string (bytesOf b i x)) w2) := by
      have hll : ((b.drop i).take x).length = x := by simp; omega
      cases a' with
      | none =>
        have hx0 : x = 0 := by
          rcases Nat.eq_zero_or_pos x with h0 | h0
          · exact h0
          · obtain ⟨_, _, e, _⟩ := hB 0 (by omega) h0
            cases e
        subst hx0
        exact hide (Lib.run_convert_nil_bytes (P := Tryd.prog) w2 32 9 5 cap' Tryd.underlying32 Tryd.underlying5 Tryd.underlying9)
      | some ad =>
        have := run_convert_bytes_back (P := Tryd.prog) w2 32 9 5 ad cap' ((b.drop i).take x) Tryd.underlying32 Tryd.underlying5 Tryd.underlying9 (fun j hj => by
          rw [hll] at hj
          obtain ⟨bk, off, e, _, hc⟩ := hB j (by omega) hj
          obtain rfl := Option.some.inj e
          have e2 : ((b.drop i).take x)[j]'(by rw [hll]; exact hj) = b[i + j]'(by omega) := by simp
          rw [e2, Go.WideShapes.add_plain]
          exact hc)
        rw [hll] at this
        exact hide this
    clear hF2 hR hB HT2 HS HF
    have hconv := unhide HC
    go_wp2
    go_ret
    exact ⟨_, rfl, (unhide HE).2⟩
  · have HE : Hid (∀ s, RdP pe pf rp lo b a cap st encT okT (fun _ y => y = s ∧ s.size ≤ 281474976710656) w w2) := by
      refine hide fun s => ⟨(unhide HF).trans hF2, none, hR, ?_⟩
      have hS := unhide HS
      cases st with
      | none => exact trivial
      | some i0 =>
        cases st1 with
        | none =>
          intro s hs ha
          rw [encT, At.app] at ha
          exact hS _ hs ha.1
        | some i1 =>
          obtain ⟨y, h1, h2, rfl, rfl⟩ := hS
          exact text_bad h2 (hE _ rfl).1
    clear hF2 hR hE HT2 HS HF
    have hconv := Lib.run_convert_nil_bytes (P := Tryd.prog) w2 32 9 5 0 Tryd.underlying32 Tryd.underlying5 Tryd.underlying9
    go_wp2
    go_ret
    exact ⟨_, rfl, unhide HE _⟩
end Go.Proofs.YtfkjjljhabjcjaaDoor
