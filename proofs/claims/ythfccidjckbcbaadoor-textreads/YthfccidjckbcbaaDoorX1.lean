/- Bytes in words: wordsFor, pack, Constant, constant. -/
import Derived.Test.YthfccidjckbcbaaDoorS6
import Derived.Lib.AppendStr
namespace Go.Proofs.YthfccidjckbcbaaDoor
open Go.RowKit Go.Proofs.YthfccidjckbcbaaDoor.Hp

def packN : List UInt8 → Nat
  | [] => 0
  | b :: r => b.toNat + 256 * packN r
theorem packN_lt : ∀ l : List UInt8, packN l < 256 ^ l.length
  | [] => by simp [packN]
  | b :: r => by
    have := packN_lt r
    have hb := b.toNat_lt
    rw [packN, List.length_cons, Nat.pow_succ]
    omega
theorem packN_snoc (b : UInt8) : ∀ l : List UInt8, packN (l ++ [b]) = 256 ^ l.length * b.toNat + packN l
  | [] => by simp [packN]
  | a :: r => by
    rw [List.cons_append, packN, packN_snoc b r, packN, List.length_cons, Nat.pow_succ, Nat.mul_add, Nat.mul_comm (256 ^ r.length) 256, Nat.mul_assoc]
    omega
theorem packN_get : ∀ (l : List UInt8) (k : Nat), packN l / 256 ^ k % 256 = (l.getD k 0).toNat
  | [], k => by simp [packN]
  | b :: r, 0 => by
    simp [packN]
  | b :: r, k + 1 => by
    have hb := b.toNat_lt
    rw [packN, Nat.pow_succ, Nat.mul_comm (256 ^ k), ← Nat.div_div_eq_div_mul, show (b.toNat + 256 * packN r) / 256 = packN r by omega, packN_get r k]
    simp
def packI (l : List UInt8) : Int := IntKind.i64.wrap (packN l)
def byteAt (z : Int) (k : Nat) : UInt8 := UInt8.ofNat (z / 2 ^ (8 * k) % 256).toNat
theorem wrap_byte (S k : Nat) (hk : k < 8) : IntKind.i64.wrap (S : Int) / 2 ^ (8 * k) % 256 = ((S / 256 ^ k % 256 : Nat) : Int) := by
  rw [IntKind.wrap_i64]
  rcases (show k = 0 ∨ k = 1 ∨ k = 2 ∨ k = 3 ∨ k = 4 ∨ k = 5 ∨ k = 6 ∨ k = 7 by omega) with rfl | rfl | rfl | rfl | rfl | rfl | rfl | rfl <;> simp <;> omega
theorem byteAt_pack (l : List UInt8) (k : Nat) (hk : k < 8) : byteAt (packI l) k = l.getD k 0 := by
  unfold byteAt packI
  rw [wrap_byte _ _ hk, packN_get]
  simp
theorem byteAt_toNat (z : Int) (k : Nat) : ((byteAt z k).toNat : Int) = z / 2 ^ (8 * k) % 256 := by
  unfold byteAt
  have h1 := Int.emod_nonneg (z / 2 ^ (8 * k)) (show (256 : Int) ≠ 0 by decide)
  have h2 := Int.emod_lt_of_pos (z / 2 ^ (8 * k)) (show (0 : Int) < 256 by decide)
  generalize z / 2 ^ (8 * k) % 256 = y at *
  simp
  omega
theorem or_wrap (S T : Nat) (hS : S < 18446744073709551616) (hT : T < 18446744073709551616) : bits .or .i64 (IntKind.i64.wrap S) (IntKind.i64.wrap T) = IntKind.i64.wrap ((S ||| T : Nat) : Int) := by
  have e : ∀ c : Nat, c < 18446744073709551616 → (BitVec.ofInt 64 (IntKind.i64.wrap c)).toNat = c := fun c hc => by
    rw [BitVec.toNat_ofInt, IntKind.wrap_i64]
    omega
  show IntKind.i64.wrap ((BitVec.ofInt 64 (IntKind.i64.wrap S) ||| BitVec.ofInt 64 (IntKind.i64.wrap T)).toNat : Int) = _
  rw [BitVec.toNat_or, e S hS, e T hT]
theorem pack_step (l : List UInt8) (b : UInt8) (hl : l.length < 8) : bits .or .i64 (packI l) (IntKind.i64.wrap ((b.toNat : Int) * 2 ^ (8 * l.length))) = packI (l ++ [b]) := by
  have h1 := packN_lt l
  have hb := b.toNat_lt
  have e2 : (256 : Nat) ^ l.length = 2 ^ (8 * l.length) := by rw [Nat.pow_mul]
  rw [e2] at h1
  have e1 : (b.toNat : Int) * 2 ^ (8 * l.length) = ((2 ^ (8 * l.length) * b.toNat : Nat) : Int) := by
    rw [Int.natCast_mul, Int.natCast_pow, Int.mul_comm]; rfl
  have h2 : 2 ^ (8 * l.length) ≤ 2 ^ 56 := Nat.pow_le_pow_right (by decide) (by omega)
  have h3 : 2 ^ (8 * l.length) * b.toNat < 2 ^ 64 := by
    calc 2 ^ (8 * l.length) * b.toNat ≤ 2 ^ 56 * b.toNat := Nat.mul_le_mul_right _ h2
      _ < 2 ^ 64 := by omega
  unfold packI
  rw [e1, or_wrap _ _ (by omega) (by omega), Nat.or_comm, ← Nat.two_pow_add_eq_or_of_lt h1, packN_snoc, e2]
theorem wordsFor_any (n : Nat) (w : World) (hn : n ≤ 1000000000) : Calls Tryd.prog 22 #[.int .i64 n] w fun e w' => e = .returned (.int .i64 ((n + 7) / 8 : Nat)) ∧ w' = w := by
  go_enter Tryd.func22, Tryd.ntmps22
  go_wp2
  go_ret
  exact ⟨ret_int (by omega), rfl⟩
theorem Constant_any (i : Int) (w : World) (h0 : 0 ≤ i) (h1 : i ≤ 4611686018427387902) : Calls Tryd.prog 20 #[.int .i64 i] w fun e w' => e = .returned (.int .i64 (2 * i + 1)) ∧ w' = w := by
  go_enter Tryd.func20, Tryd.ntmps20
  go_wp2
  go_ret
  exact ⟨ret_int (by omega), rfl⟩
theorem toL_len (s : ByteArray) : s.toList.length = s.size := by rw [ByteArray.toList_eq]; rfl
theorem toL_take (s : ByteArray) (k : Nat) (h : k < s.size) : s.toList.take (k + 1) = s.toList.take k ++ [s[k]] := by
  have h1 : k < s.toList.length := by rw [toL_len]; exact h
  rw [List.take_succ_eq_append_getElem h1]
  congr 2
  simp [ByteArray.toList_eq]
  rfl
theorem wrap64_eq (z : Int) : wrap64 z = IntKind.i64.wrap z := by rw [IntKind.wrap_i64]; unfold wrap64; rfl
theorem pack_at (s : ByteArray) (k : Nat) (h : k < s.size) (hs : s.size ≤ 8) : bits BinOp.or IntKind.i64 (packI (List.take k s.toList)) (wrap64 (wrap64 ↑s[k].toNat * 2 ^ (8 * k))) = packI (List.take (k + 1) s.toList) := by
  have hl : (s.toList.take k).length = k := by rw [List.length_take, toL_len]; omega
  have hb := (s[k]).toNat_lt
  have e : wrap64 ((s[k]).toNat : Int) = (s[k]).toNat := by
    unfold wrap64; omega
  rw [e, toL_take s k h, ← pack_step _ _ (by omega), hl, wrap64_eq]
set_option maxRecDepth 100000 in
set_option maxHeartbeats 1000000 in
theorem pack_any (s : ByteArray) (w : World) (hs : s.size ≤ 8) : Calls Tryd.prog 23 #[.string s] w fun e w' => e = .returned (.int .i64 (packI s.toList)) ∧ w' = w := by
  have HP := hide (fun k h => pack_at s k h hs)
  go_enter Tryd.func23, Tryd.ntmps23
  go_wp2
  go_loop [3, 7] (fun v i => ∃ k : Nat, k ≤ s.size ∧ i = .int .i64 k ∧ v = .int .i64 (packI (s.toList.take k))) (fun _ i => s.size - (intOf i).toNat)
  case atStart => exact ⟨0, Nat.zero_le _, rfl, rfl⟩
  case round =>
    obtain ⟨k, hk, rfl, rfl⟩ := hrel
    by_cases hlt : k < s.size
    · go_wp2
      refine ⟨⟨k + 1, hlt, rfl, by rw [unhide HP k hlt]⟩, ?_⟩
      simp [intOf]
      omega
    · have hge : ¬ (k : Int) < s.size := by omega
      have hge2 : decide ((k : Int) < s.size) = false := decide_eq_false hge
      go_wp2
      go_ret
      exact ⟨ret_int (by rw [List.take_of_length_le (by rw [toL_len]; omega)]), rfl⟩
/-- The text of an odd word. -/
def constI (ss : List ByteArray) (z : Int) : ByteArray := if 0 < z then ss.getD (z / 2).toNat ByteArray.empty else ByteArray.empty
/-- A slice of strings in memory. -/
def StrsAt (X : World) (ao : Option Addr) (len : Nat) (ss : List ByteArray) : Prop :=
  ss.length = len ∧ ∀ j, j < len → ∃ b off, ao = some ⟨b, off, none⟩ ∧ b < X.heap.size ∧ X.cell? ⟨b, off + j, none⟩ = some (.string (ss.getD j ByteArray.empty))
theorem StrsAt.fr {X Y : World} {K : Nat → Prop} {ao : Option Addr} {len : Nat} {ss : List ByteArray} (h : StrsAt X ao len ss) (k : Fr K X Y) (hk : ∀ a, ao = some a → ¬ K a.block) : StrsAt Y ao len ss :=
  ⟨h.1, fun j hj => by
    obtain ⟨b, off, e, hlt, hc⟩ := h.2 j hj
    exact ⟨b, off, e, Nat.lt_of_lt_of_le hlt k.size, (World.cell?_of_block (w := X) (a := ⟨b, off + j, none⟩) (k.block b hlt (hk _ e))).trans hc⟩⟩
theorem StrsAt.nil (X : World) : StrsAt X none 0 [] := ⟨rfl, fun j hj => absurd hj (by omega)⟩
theorem constant_any (ao : Option Addr) (len cap : Nat) (ss : List ByteArray) (z : Int) (w : World) (hm : len ≤ maxLen) (h : StrsAt w ao len ss) (hz : -9223372036854775808 ≤ z ∧ z < 9223372036854775808) :
    Calls Tryd.prog 24 #[.slice ao len cap, .int .i64 z] w fun e w' => e = .returned (.string (constI ss z)) ∧ w' = w := by
  obtain ⟨hl, hc⟩ := h
  unfold maxLen at hm
  unfold constI
  by_cases h0 : 0 < z
  · rw [if_pos h0]
    obtain ⟨k, hk⟩ : ∃ k : Nat, z / 2 = k := ⟨(z / 2).toNat, by omega⟩
    have ht : z.tdiv 2 = k := by rw [Int.tdiv_eq_ediv_of_nonneg (by omega)]; exact hk
    rw [hk, Int.toNat_natCast]
    by_cases h1 : k < len
    · obtain ⟨b, off, rfl, hlt, hc1⟩ := hc k h1
      clear hc
      generalize ss.getD k ByteArray.empty = t at hc1 ⊢
      go_enter Tryd.func24, Tryd.ntmps24
      go_wp2
      go_ret
      exact ⟨rfl, rfl⟩
    · have e : ss.getD k ByteArray.empty = ByteArray.empty := by
        rw [List.getD_eq_getElem?_getD, List.getElem?_eq_none (by omega)]; rfl
      rw [e]
      clear hc
      go_enter Tryd.func24, Tryd.ntmps24
      go_wp2
      go_ret
      exact ⟨rfl, rfl⟩
  · rw [if_neg h0]
    clear hc
    go_enter Tryd.func24, Tryd.ntmps24
    go_wp2
    go_ret
    exact ⟨rfl, rfl⟩
end Go.Proofs.YthfccidjckbcbaaDoor
