/- HpP Bt HpM St Sp Hd HpR, in one text. -/
import Derived.Lib.TrailingZeros
import Derived.Lib.BitFns
import Derived.Test.YtjblmincldaklaaDoorChecked
import Derived.WalkKit
import Derived.WalkSpells
import Derived.WalkLawsBesides
import Derived.Deep.QuietTactic
import Derived.BigQuiet
import Derived.Laws.Bits64b
import Derived.Laws.BitsAllLaws
namespace Go.Proofs.YtjblmincldaklaaDoor.Hp

/-- The number whose bit j (j < k) is S j. -/
def wordN (S : Nat → Bool) : Nat → Nat
  | 0 => 0
  | k + 1 => wordN S k + (if S k then 2 ^ k else 0)
theorem wordN_lt (S : Nat → Bool) : ∀ k, wordN S k < 2 ^ k
  | 0 => by simp [wordN]
  | k + 1 => by
    have := wordN_lt S k
    simp only [wordN, Nat.pow_succ]
    split <;> omega
theorem wordN_bit (S : Nat → Bool) : ∀ k j, (wordN S k).testBit j = (decide (j < k) && S j)
  | 0, j => by simp [wordN]
  | k + 1, j => by
    have hl := wordN_lt S k
    have ih := wordN_bit S k
    simp only [wordN]
    split
    · rename_i hs
      rw [Nat.add_comm]
      rcases Nat.lt_trichotomy j k with h | h | h
      · rw [Nat.testBit_two_pow_add_gt h, ih, decide_eq_true h, decide_eq_true (show j < k + 1 by omega)]
      · subst h
        rw [Nat.testBit_two_pow_add_eq, ih]
        simp [hs]
      · rw [Nat.testBit_lt_two_pow (Nat.lt_of_lt_of_le (show 2 ^ k + wordN S k < 2 ^ (k + 1) by rw [Nat.pow_succ]; omega) (Nat.pow_le_pow_right (by decide) h)), decide_eq_false (show ¬ j < k + 1 by omega)]
        rfl
    · rename_i hs
      rw [Nat.add_zero, ih]
      by_cases h : j = k
      · subst h; simp [hs]
      · simp [show (j < k + 1) ↔ (j < k) by omega]
theorem wordN_ext {S T : Nat → Bool} : ∀ {k}, (∀ j, j < k → S j = T j) → wordN S k = wordN T k
  | 0, _ => rfl
  | k + 1, h => by
    rw [wordN, wordN, wordN_ext (fun j hj => h j (by omega)), h k (by omega)]
theorem wordN_zero {S : Nat → Bool} {k : Nat} : wordN S k = 0 ↔ ∀ j, j < k → S j = false := by
  constructor
  · intro h j hj
    have := wordN_bit S k j
    rw [h, decide_eq_true hj] at this
    simpa using this.symm
  · intro h
    rw [wordN_ext (T := fun _ => false) h]
    clear h
    induction k with
    | zero => rfl
    | succ k ih => simp [wordN, ih]
def upd {α : Type} (f : Nat → α) (i : Nat) (v : α) : Nat → α := fun j => if j = i then v else f j
theorem upd_same {α : Type} (f : Nat → α) (i : Nat) (v : α) : upd f i v i = v := by simp [upd]
theorem upd_ne {α : Type} (f : Nat → α) {i j : Nat} (v : α) (h : j ≠ i) : upd f i v j = f j := by simp [upd, h]
theorem wordN_or (S : Nat → Bool) (k i : Nat) (h : i < k) : wordN S k ||| 2 ^ i = wordN (upd S i true) k := by
  apply Nat.eq_of_testBit_eq
  intro j
  rw [Nat.testBit_or, wordN_bit, wordN_bit, Nat.testBit_two_pow]
  by_cases e : j = i
  · subst e; simp [upd, h]
  · simp [upd, e, Ne.symm e]
theorem wordN_andNot (S : Nat → Bool) (k i : Nat) (h : i < k) : wordN S k &&& (2 ^ k - 1 - 2 ^ i) = wordN (upd S i false) k := by
  apply Nat.eq_of_testBit_eq
  intro j
  have hp : 2 ^ i < 2 ^ k := Nat.pow_lt_pow_right (by decide) h
  rw [Nat.testBit_and, wordN_bit, wordN_bit, show 2 ^ k - 1 - 2 ^ i = 2 ^ k - (2 ^ i + 1) by omega, Nat.testBit_two_pow_sub_succ hp, Nat.testBit_two_pow]
  by_cases e : j = i
  · subst e; simp [upd]
  · simp [upd, e, Ne.symm e]
    by_cases hj : j < k <;> simp [hj]
theorem wordN_shr (S : Nat → Bool) (k i : Nat) (h : i < k) : wordN S k / 2 ^ i % 2 = if S i then 1 else 0 := by
  have := wordN_bit S k i
  rw [Nat.testBit_eq_decide_div_mod_eq, decide_eq_true h, Bool.true_and] at this
  cases hs : S i <;> simp [hs] at this ⊢ <;> omega

theorem ctz_lt {n x : Nat} (h0 : x ≠ 0) (h : x < 2 ^ n) : Lib.ctz n x < n := (Lib.lowest_bit n x h0 h).2
theorem ctz_spec {n x : Nat} (h0 : x ≠ 0) (h : x < 2 ^ n) : x.testBit (Lib.ctz n x) = true ∧ ∀ j, j < Lib.ctz n x → x.testBit j = false := by
  unfold Lib.ctz
  rw [if_neg h0]
  obtain ⟨m, hm, _⟩ := Lib.ctzFrom_spec n x (by omega) h
  generalize Lib.ctzFrom n x = k at hm
  subst hm
  constructor
  · rw [Nat.mul_comm, Nat.testBit_mul_two_pow]
    simp [Nat.testBit_zero]
  · intro j hj
    rw [Nat.mul_comm, Nat.testBit_mul_two_pow]
    simp; omega

/-- How many of the first k are in S. -/
def cntN (S : Nat → Bool) : Nat → Nat
  | 0 => 0
  | k + 1 => cntN S k + (if S k then 1 else 0)
theorem cntN_le (S : Nat → Bool) : ∀ k, cntN S k ≤ k
  | 0 => Nat.le_refl _
  | k + 1 => by have := cntN_le S k; simp only [cntN]; split <;> omega
theorem cntN_ext {S T : Nat → Bool} : ∀ {k}, (∀ j, j < k → S j = T j) → cntN S k = cntN T k
  | 0, _ => rfl
  | k + 1, h => by rw [cntN, cntN, cntN_ext (fun j hj => h j (by omega)), h k (by omega)]
theorem cntN_full (S : Nat → Bool) : ∀ {k}, cntN S k = k ↔ ∀ j, j < k → S j = true
  | 0 => by simp [cntN]
  | k + 1 => by
    have h1 := cntN_le S k
    have ih := cntN_full S (k := k)
    simp only [cntN]
    constructor
    · intro h j hj
      cases hs : S k <;> simp [hs] at h
      · omega
      · rcases Nat.lt_or_eq_of_le (Nat.le_of_lt_succ hj) with h' | h'
        · exact ih.1 (by omega) j h'
        · rw [h']; exact hs
    · intro h
      rw [h k (by omega), ih.2 (fun j hj => h j (by omega))]
      simp
theorem cntN_add (S : Nat → Bool) (a : Nat) : ∀ b, cntN S (a + b) = cntN S a + cntN (fun j => S (a + j)) b
  | 0 => by simp [cntN]
  | b + 1 => by rw [← Nat.add_assoc]; simp only [cntN]; rw [cntN_add S a b]; omega
/-- The bits of a number, counted. -/
def pop (x k : Nat) : Nat := cntN (fun j => x.testBit j) k
theorem popAux_cnt : ∀ (f x : Nat), Lib.popAux f x = pop x f
  | 0, x => rfl
  | f + 1, x => by
    rw [Lib.popAux, popAux_cnt f (x / 2)]
    unfold pop
    rw [show f + 1 = 1 + f from Nat.add_comm .., cntN_add]
    congr 1
    · simp only [cntN, Nat.testBit_zero, Nat.zero_add]
      rcases Nat.mod_two_eq_zero_or_one x with h | h <;> simp [h]
    · apply cntN_ext
      intro j _
      rw [Nat.add_comm, Nat.testBit_succ]
theorem pop_small (x a b : Nat) (h : x < 2 ^ a) : pop x (a + b) = pop x a := by
  unfold pop
  rw [cntN_add]
  have : cntN (fun j => x.testBit (a + j)) b = 0 := by
    rw [cntN_ext (T := fun _ => false) (fun j _ => Nat.testBit_lt_two_pow (Nat.lt_of_lt_of_le h (Nat.pow_le_pow_right (by decide) (by omega))))]
    induction b with
    | zero => rfl
    | succ b ih => simp [cntN, ih]
  omega
theorem pop_split (x a b : Nat) : pop x (a + b) = pop (x % 2 ^ a) a + pop (x / 2 ^ a) b := by
  unfold pop
  rw [cntN_add]
  congr 1
  · exact cntN_ext fun j hj => by rw [Nat.testBit_mod_two_pow]; simp [hj]
  · exact cntN_ext fun j _ => by rw [Nat.testBit_div_two_pow, Nat.add_comm]
theorem onesCount8 (x : Nat) (h : x < 256) : Lib.onesCount x = pop x 8 := by
  unfold Lib.onesCount
  rw [popAux_cnt, show 64 = 8 + 56 from rfl, pop_small x 8 56 h]
theorem pop_word (S : Nat → Bool) (k : Nat) : pop (wordN S k) k = cntN S k :=
  cntN_ext fun j hj => by rw [wordN_bit]; simp [hj]
end Go.Proofs.YtjblmincldaklaaDoor.Hp
namespace Go.Proofs.YtjblmincldaklaaDoor
open Go.RowKit Go.Proofs.YtjblmincldaklaaDoor.Hp

theorem hide {p : Prop} (h : p) : Hid p := h
theorem unhide {p : Prop} (h : Hid p) : p := h
theorem ret_bool {a b : Bool} (h : a = b) : Ending.returned (.bool a) = .returned (.bool b) := by rw [h]
theorem ret_int {k : IntKind} {a b : Int} (h : a = b) : Ending.returned (.int k a) = .returned (.int k b) := by rw [h]
/-- The two tables, as their initialisers lay them. -/
structure Vars (w : World) : Prop where
  t32 : ∀ j, j < 32 → w.cell? ⟨0, j, none⟩ = some (.int .u8 (Lib.deBruijn32tab.getD j 0))
  t64 : ∀ j, j < 64 → w.cell? ⟨1, j, none⟩ = some (.int .u8 (Lib.deBruijn64tab.getD j 0))

set_option maxHeartbeats 1000000 in
theorem tz64_core (x k idx : Nat) (w : World) (hx0 : ((x : Int) == 0) = false)
    (key : IntKind.u64.wrap (bits BinOp.and IntKind.u64 (x : Int) (IntKind.u64.wrap (-(x : Int))) * 285870213051353865) / 288230376151711744 = (idx : Int))
    (hi : idx < 64) (hk : k < 64) (hcell : w.cell? ⟨1, idx, none⟩ = some (.int .u8 k)) :
    Calls Tryd.prog 73 #[.int .u64 x] w fun e w' => e = .returned (.int .i64 k) ∧ w' = w := by
  go_enter Tryd.func73, Tryd.ntmps73
  go_wp2_with (simp only [key])
  go_ret
  exact ⟨rfl, rfl⟩
theorem tz64_key (x a : Nat) (hx : x < 18446744073709551616) (hlow : x &&& (18446744073709551616 - x) = a) (hx0 : x ≠ 0) :
    IntKind.u64.wrap (bits BinOp.and IntKind.u64 (x : Int) (IntKind.u64.wrap (-(x : Int))) * 285870213051353865) / 288230376151711744 = ((a * 285870213051353865 % 18446744073709551616 / 288230376151711744 : Nat) : Int) := by
  have e1 : IntKind.u64.wrap (-(x : Int)) = ((18446744073709551616 - x : Nat) : Int) := by rw [IntKind.wrap_u64]; omega
  rw [e1, bits_and_u64_nat x _ hx (by omega), hlow, IntKind.wrap_u64]
  omega
theorem tz64_any (x : Nat) (hx : x < 18446744073709551616) (hx0 : x ≠ 0) (w : World) (hv : Vars w) :
    Calls Tryd.prog 73 #[.int .u64 x] w fun e w' => e = .returned (.int .i64 (Lib.ctz 64 x)) ∧ w' = w := by
  obtain ⟨hlow, hk⟩ := Lib.lowest_bit 64 x hx0 hx
  obtain ⟨hi, htab⟩ := Lib.deBruijn64_at _ hk
  have hcell := hv.t64 _ hi
  rw [htab] at hcell
  exact tz64_core x _ _ w (by simp; omega) (tz64_key x _ hx hlow hx0) hi hk hcell

set_option maxHeartbeats 1000000 in
theorem tz32_core (x k idx : Nat) (w : World) (hx0 : ((x : Int) == 0) = false)
    (key : bits BinOp.and IntKind.u32 (x : Int) (-(x : Int) % 4294967296) * 125613361 % 4294967296 / 134217728 = (idx : Int))
    (hi : idx < 32) (hk : k < 32) (hcell : w.cell? ⟨0, idx, none⟩ = some (.int .u8 k)) :
    Calls Tryd.prog 49 #[.int .u32 x] w fun e w' => e = .returned (.int .i64 k) ∧ w' = w := by
  go_enter Tryd.func49, Tryd.ntmps49
  go_wp2_with (simp only [key])
  go_ret
  exact ⟨rfl, rfl⟩
theorem tz32_key (x a : Nat) (hx : x < 4294967296) (hlow : x &&& (4294967296 - x) = a) (hx0 : x ≠ 0) :
    bits BinOp.and IntKind.u32 (x : Int) (-(x : Int) % 4294967296) * 125613361 % 4294967296 / 134217728 = ((a * 125613361 % 4294967296 / 134217728 : Nat) : Int) := by
  have e1 : -(x : Int) % 4294967296 = ((4294967296 - x : Nat) : Int) := by omega
  rw [e1, u32_and_nat x _ hx (by omega), hlow]
  omega
theorem tz32_any (x : Nat) (hx : x < 4294967296) (hx0 : x ≠ 0) (w : World) (hv : Vars w) :
    Calls Tryd.prog 49 #[.int .u32 x] w fun e w' => e = .returned (.int .i64 (Lib.ctz 32 x)) ∧ w' = w := by
  obtain ⟨hlow, hk⟩ := Lib.lowest_bit 32 x hx0 hx
  obtain ⟨hi, htab⟩ := Lib.deBruijn32_at _ hk
  have hcell := hv.t32 _ hi
  rw [htab] at hcell
  exact tz32_core x _ _ w (by simp; omega) (tz32_key x _ hx hlow hx0) hi hk hcell
end Go.Proofs.YtjblmincldaklaaDoor
namespace Go.Proofs.YtjblmincldaklaaDoor
open Go.RowKit Go.Proofs.YtjblmincldaklaaDoor.Hp

/-- The first m cells of block b. -/
def Row (w : World) (b m : Nat) (f : Nat → Value) : Prop := ∀ i, i < m → w.cell? ⟨b, i, none⟩ = some (f i) ∧ w.frozen? ⟨b, i, none⟩ = false
theorem Row.set {w : World} {b m : Nat} {f : Nat → Value} (h : Row w b m f) (i : Nat) (v : Value) (hi : i < m) : Row (w.setCell ⟨b, i, none⟩ v) b m (upd f i v) := by
  intro j hj
  refine ⟨?_, by rw [World.frozen?_setCell]; exact (h j hj).2⟩
  by_cases e : j = i
  · subst e; rw [upd_same]; exact World.cell?_setCell_same _ _ _ (h j hj).1
  · rw [upd_ne _ _ e, World.cell?_setCell_other _ _ _ _ (by intro e'; exact e (by injection e' with _ e2; exact e2.symm))]; exact (h j hj).1
theorem Row.same {w w' : World} {b m : Nat} {f : Nat → Value} (h : Row w b m f) (e : w'.heap[b]? = w.heap[b]?) : Row w' b m f := by
  intro i hi
  exact ⟨(World.cell?_of_block (w := w) (a := ⟨b, i, none⟩) e).trans (h i hi).1, (World.frozen?_of_block (w := w) (a := ⟨b, i, none⟩) e).trans (h i hi).2⟩
theorem Row.ext {w : World} {b m : Nat} {f g : Nat → Value} (h : Row w b m f) (e : ∀ i, i < m → f i = g i) : Row w b m g := fun i hi => by rw [← e i hi]; exact h i hi
theorem Row.lt {w : World} {b m : Nat} {f : Nat → Value} (h : Row w b m f) (hm : 0 < m) : b < w.heap.size := World.block_lt_of_cell? w ⟨b, 0, none⟩ (h 0 hm).1

/-- All that was there is as it was, but for blocks of K. -/
structure Fr (K : Nat → Prop) (w w' : World) : Prop where
  os : w'.os = w.os
  tape : w'.tape = w.tape
  output : w'.output = w.output
  size : w.heap.size ≤ w'.heap.size
  block : ∀ k, k < w.heap.size → ¬ K k → w'.heap[k]? = w.heap[k]?
theorem Fr.refl (K : Nat → Prop) (w : World) : Fr K w w := ⟨rfl, rfl, rfl, Nat.le_refl _, fun _ _ _ => rfl⟩
theorem Fr.trans {K : Nat → Prop} {a b c : World} (h : Fr K a b) (k : Fr K b c) : Fr K a c :=
  ⟨k.os.trans h.os, k.tape.trans h.tape, k.output.trans h.output, Nat.le_trans h.size k.size, fun i hi hk => (k.block i (Nat.lt_of_lt_of_le hi h.size) hk).trans (h.block i hi hk)⟩
theorem Fr.mono {K L : Nat → Prop} {a b : World} (h : Fr K a b) (hk : ∀ i, K i → L i) : Fr L a b :=
  ⟨h.os, h.tape, h.output, h.size, fun i hi hl => h.block i hi fun x => hl (hk i x)⟩
theorem Fr.drew {K : Nat → Prop} {a w : World} (h : Fr K a w) : Fr K a w.drew := ⟨h.os, h.tape, h.output, h.size, h.block⟩
theorem Fr.alloc {K : Nat → Prop} {a w : World} (h : Fr K a w) (o : Obj) : Fr K a (w.alloc o) :=
  h.trans ⟨rfl, rfl, rfl, by simp, fun k hk _ => Below.heap_alloc _ _ _ hk⟩
theorem Fr.setCell {K : Nat → Prop} {a w : World} (h : Fr K a w) {p : Addr} (hp : K p.block) (u : Value) : Fr K a (w.setCell p u) :=
  h.trans ⟨rfl, rfl, rfl, by simp [World.setCell], fun k _ hk => Below.heap_setCell _ _ _ _ (fun e => hk (e ▸ hp))⟩
theorem Fr.below {K : Nat → Prop} {w w' : World} {n : Nat} (h : Fr K w w') (hn : n ≤ w.heap.size) (hk : ∀ k, K k → n ≤ k) : Below n w w' :=
  ⟨h.os, h.tape, h.output, h.size, fun k hkn => h.block k (by omega) fun x => by have := hk k x; omega⟩
theorem Row.fr {w w' : World} {b m : Nat} {f : Nat → Value} {K : Nat → Prop} (h : Row w b m f) (k : Fr K w w') (hb : ¬ K b) : Row w' b m f := by
  intro i hi
  exact h.same (k.block b (h.lt (by omega)) hb) i hi

/-- A set of spans, a bit each, in m words. -/
def SetAt (w : World) (b m : Nat) (S : Nat → Bool) : Prop := Row w b m (fun i => .int .u64 (wordN (fun j => S (64 * i + j)) 64))
theorem SetAt.upd {w : World} {b m : Nat} {S : Nat → Bool} (h : SetAt w b m S) (s : Nat) (v : Bool) (hs : s < 64 * m) :
    SetAt (w.setCell ⟨b, s / 64, none⟩ (.int .u64 (wordN (fun j => upd S s v (64 * (s / 64) + j)) 64))) b m (upd S s v) := by
  refine (Row.set h (s / 64) _ (by omega)).ext fun i hi => ?_
  by_cases e : i = s / 64
  · rw [e, upd_same]
  · rw [upd_ne _ _ e]
    congr 2
    exact wordN_ext fun j hj => by rw [upd_ne]; omega
theorem set_or (S : Nat → Bool) (s : Nat) : bits .or .u64 (wordN (fun j => S (64 * (s / 64) + j)) 64 : Nat) (IntKind.u64.wrap (2 ^ (s % 64))) = (wordN (fun j => upd S s true (64 * (s / 64) + j)) 64 : Nat) := by
  have hp : 2 ^ (s % 64) < 2 ^ 64 := Nat.pow_lt_pow_right (by decide) (show s % 64 < 64 by omega)
  have e : IntKind.u64.wrap (2 ^ (s % 64)) = ((2 ^ (s % 64) : Nat) : Int) := by
    rw [IntKind.wrap_u64, show (2 : Int) ^ (s % 64) = ((2 ^ (s % 64) : Nat) : Int) by simp]
    generalize 2 ^ (s % 64) = z at hp ⊢
    omega
  rw [e, u64_or_nat _ _ (wordN_lt _ 64) hp, wordN_or _ _ _ (by omega)]
  congr 1
  exact wordN_ext fun j hj => by
    unfold upd
    simp only [show (j = s % 64) ↔ (64 * (s / 64) + j = s) by omega]
theorem set_andNot (S : Nat → Bool) (s : Nat) : bits .andNot .u64 (wordN (fun j => S (64 * (s / 64) + j)) 64 : Nat) (IntKind.u64.wrap (2 ^ (s % 64))) = (wordN (fun j => upd S s false (64 * (s / 64) + j)) 64 : Nat) := by
  have hp : 2 ^ (s % 64) < 2 ^ 64 := Nat.pow_lt_pow_right (by decide) (show s % 64 < 64 by omega)
  have e : IntKind.u64.wrap (2 ^ (s % 64)) = ((2 ^ (s % 64) : Nat) : Int) := by
    rw [IntKind.wrap_u64, show (2 : Int) ^ (s % 64) = ((2 ^ (s % 64) : Nat) : Int) by simp]
    generalize 2 ^ (s % 64) = z at hp ⊢
    omega
  rw [e, u64_andNot_nat _ _ (wordN_lt _ 64) hp, show 18446744073709551615 - 2 ^ (s % 64) = 2 ^ 64 - 1 - 2 ^ (s % 64) from rfl, wordN_andNot _ _ _ (by omega)]
  congr 1
  exact wordN_ext fun j hj => by
    unfold upd
    simp only [show (j = s % 64) ↔ (64 * (s / 64) + j = s) by omega]
end Go.Proofs.YtjblmincldaklaaDoor
namespace Go.Proofs.YtjblmincldaklaaDoor
open Go.RowKit Go.Proofs.YtjblmincldaklaaDoor.Hp
set_option maxHeartbeats 1000000 in
theorem add_core (b m s v : Nat) (v' : Int) (w : World) (hm : m ≤ 1000) (hs : s < 64 * m) (hc : w.cell? ⟨b, s / 64, none⟩ = some (.int .u64 v)) (hf : w.frozen? ⟨b, s / 64, none⟩ = false)
    (hv : bits .or .u64 (v : Int) (IntKind.u64.wrap (2 ^ (s % 64))) = v') :
    Calls Tryd.prog 37 #[.slice (some ⟨b, 0, none⟩) m m, .int .i64 s] w fun e w' => e = .returned (.tuple #[]) ∧ w' = (w.setCell ⟨b, s / 64, none⟩ (.int .u64 v')).drew := by
  have HV := hide hv
  clear hv
  go_enter Tryd.func37, Tryd.ntmps37
  go_wp2
  go_region
  all_goals (try go_wp2)
  all_goals (go_end0; exact ⟨rfl, by rw [unhide HV]⟩)
theorem add_any (b m s : Nat) (S : Nat → Bool) (w : World) (hm : m ≤ 1000) (hs : s < 64 * m) (h : SetAt w b m S) :
    Calls Tryd.prog 37 #[.slice (some ⟨b, 0, none⟩) m m, .int .i64 s] w fun e w' => e = .returned (.tuple #[]) ∧ SetAt w' b m (upd S s true) ∧ Fr (· = b) w w' := by
  have hc := h (s / 64) (by omega)
  refine (add_core b m s _ _ w hm hs hc.1 hc.2 (set_or S s)).mono ?_
  rintro e w' ⟨rfl, rfl⟩
  exact ⟨rfl, (h.upd s true hs).same rfl, ((Fr.refl (· = b) w).setCell (p := ⟨b, s / 64, none⟩) rfl _).drew⟩
set_option maxHeartbeats 1000000 in
theorem remove_core (b m s v : Nat) (v' : Int) (w : World) (hm : m ≤ 1000) (hs : s < 64 * m) (hc : w.cell? ⟨b, s / 64, none⟩ = some (.int .u64 v)) (hf : w.frozen? ⟨b, s / 64, none⟩ = false)
    (hv : bits .andNot .u64 (v : Int) (IntKind.u64.wrap (2 ^ (s % 64))) = v') :
    Calls Tryd.prog 70 #[.slice (some ⟨b, 0, none⟩) m m, .int .i64 s] w fun e w' => e = .returned (.tuple #[]) ∧ w' = (w.setCell ⟨b, s / 64, none⟩ (.int .u64 v')).drew := by
  have HV := hide hv
  clear hv
  go_enter Tryd.func70, Tryd.ntmps70
  go_wp2
  go_region
  all_goals (try go_wp2)
  all_goals (go_end0; exact ⟨rfl, by rw [unhide HV]⟩)
theorem remove_any (b m s : Nat) (S : Nat → Bool) (w : World) (hm : m ≤ 1000) (hs : s < 64 * m) (h : SetAt w b m S) :
    Calls Tryd.prog 70 #[.slice (some ⟨b, 0, none⟩) m m, .int .i64 s] w fun e w' => e = .returned (.tuple #[]) ∧ SetAt w' b m (upd S s false) ∧ Fr (· = b) w w' := by
  have hc := h (s / 64) (by omega)
  refine (remove_core b m s _ _ w hm hs hc.1 hc.2 (set_andNot S s)).mono ?_
  rintro e w' ⟨rfl, rfl⟩
  exact ⟨rfl, (h.upd s false hs).same rfl, ((Fr.refl (· = b) w).setCell (p := ⟨b, s / 64, none⟩) rfl _).drew⟩
theorem set_has (S : Nat → Bool) (s : Nat) : (bits BinOp.and IntKind.u64 (((wordN (fun j => S (64 * (s / 64) + j)) 64 : Nat) : Int) / 2 ^ (s % 64)) 1 == 1) = S s := by
  have e : (((wordN (fun j => S (64 * (s / 64) + j)) 64 : Nat) : Int) / 2 ^ (s % 64)) = ((wordN (fun j => S (64 * (s / 64) + j)) 64 / 2 ^ (s % 64) : Nat) : Int) := by simp
  have hl := wordN_lt (fun j => S (64 * (s / 64) + j)) 64
  have hs := wordN_shr (fun j => S (64 * (s / 64) + j)) 64 (s % 64) (by omega)
  simp only [show 64 * (s / 64) + s % 64 = s by omega] at hs
  rw [e, show (1 : Int) = ((1 : Nat) : Int) from rfl, u64_and_nat _ _ (Nat.lt_of_le_of_lt (Nat.div_le_self _ _) hl) (by decide), nat_mask1, hs]
  cases S s <;> rfl
set_option maxHeartbeats 1000000 in
theorem has_core (b m s v : Nat) (r : Bool) (w : World) (hm : m ≤ 1000) (hs : s < 64 * m) (hc : w.cell? ⟨b, s / 64, none⟩ = some (.int .u64 v))
    (hr : (bits BinOp.and IntKind.u64 ((v : Int) / 2 ^ (s % 64)) 1 == 1) = r) :
    Calls Tryd.prog 71 #[.slice (some ⟨b, 0, none⟩) m m, .int .i64 s] w fun e w' => e = .returned (.bool r) ∧ w' = w := by
  have HR := hide hr
  clear hr
  go_enter Tryd.func71, Tryd.ntmps71
  go_wp2
  go_ret
  exact ⟨ret_bool (unhide HR), rfl⟩
theorem has_any (b m s : Nat) (S : Nat → Bool) (w : World) (hm : m ≤ 1000) (hs : s < 64 * m) (h : SetAt w b m S) :
    Calls Tryd.prog 71 #[.slice (some ⟨b, 0, none⟩) m m, .int .i64 s] w fun e w' => e = .returned (.bool (S s)) ∧ w' = w :=
  has_core b m s _ _ w hm hs (h (s / 64) (by omega)).1 (set_has S s)
theorem ret_two {a b c d : Value} (h1 : a = c) (h2 : b = d) : Ending.returned (.tuple #[a, b]) = .returned (.tuple #[c, d]) := by rw [h1, h2]
theorem val_int {k : IntKind} {a b : Int} (h : a = b) : Value.int k a = .int k b := by rw [h]
set_option maxHeartbeats 1000000 in
theorem least_any (b m : Nat) (S : Nat → Bool) (w : World) (hm : m ≤ 1000) (h : SetAt w b m S) (hV : Vars w) :
    Calls Tryd.prog 66 #[.slice (some ⟨b, 0, none⟩) m m] w fun e w' => w' = w ∧ ((∃ s : Nat, s < 64 * m ∧ S s = true ∧ (∀ t, t < s → S t = false) ∧ e = .returned (.tuple #[.int .i64 s, .bool true])) ∨ ((∀ t, t < 64 * m → S t = false) ∧ e = .returned (.tuple #[.int .i64 0, .bool false]))) := by
  have H := hide h
  have HV := hide hV
  clear h hV
  go_enter Tryd.func66, Tryd.ntmps66
  go_wp2
  go_loop [8] (fun t => ∃ i : Nat, i ≤ m ∧ t = .int .i64 i ∧ Hid (∀ s, s < 64 * i → S s = false)) (fun t => m - (intOf t).toNat)
  case atStart => exact ⟨0, Nat.zero_le _, rfl, hide fun s hs => by omega⟩
  case round =>
    obtain ⟨i, hi, rfl, hr⟩ := hrel
    by_cases hlt : i < m
    · obtain ⟨v, hv⟩ : ∃ v, v = wordN (fun j => S (64 * i + j)) 64 := ⟨_, rfl⟩
      have hc : w.cell? ⟨b, i, none⟩ = some (.int .u64 v) := by rw [hv]; exact (unhide H i hlt).1
      by_cases h0 : v = 0
      · have HV0 := hide (hv.symm.trans h0)
        subst h0
        clear hv
        go_wp2
        go_round
        case rel =>
          refine ⟨i + 1, by omega, by go_num, hide fun s hs => ?_⟩
          by_cases h1 : s < 64 * i
          · exact unhide hr s h1
          · have := wordN_zero.1 (unhide HV0) (s - 64 * i) (by omega)
            rw [show 64 * i + (s - 64 * i) = s by omega] at this
            exact this
        case measure => simp [intOf]; omega
      · have hl : v < 2 ^ 64 := by rw [hv]; exact wordN_lt _ _
        have hcl := ctz_lt h0 hl
        have hcs := ctz_spec h0 hl
        have HW := hide hv
        have h0' : ((v : Int) == 0) = false := by simp; omega
        have HC : Hid (Calls Tryd.prog 73 #[.int .u64 v] w fun e w' => e = .returned (.int .i64 (Lib.ctz 64 v)) ∧ w' = w) := hide (tz64_any v hl h0 w (unhide HV))
        have HS := hide hcs
        generalize Lib.ctz 64 v = k at hcl hcs HC HS
        clear hv hcs
        go_wp2_with (go_at_call 73; refine (unhide HC).mono ?_; rintro e w' ⟨rfl, rfl⟩)
        go_ret2
        refine ⟨rfl, .inl ⟨64 * i + k, by omega, ?_, fun t ht => ?_, ret_two (val_int (by omega)) rfl⟩⟩
        · have := (unhide HS).1
          rw [unhide HW, wordN_bit, decide_eq_true hcl] at this
          exact this
        · by_cases h1 : t < 64 * i
          · exact unhide hr t h1
          · have := (unhide HS).2 (t - 64 * i) (by omega)
            rw [unhide HW, wordN_bit, decide_eq_true (by omega)] at this
            rw [show 64 * i + (t - 64 * i) = t by omega] at this
            exact this
    · go_wp2
      go_ret2
      exact ⟨rfl, .inr ⟨fun t ht => unhide hr t (by omega), rfl⟩⟩
end Go.Proofs.YtjblmincldaklaaDoor
namespace Go.Proofs.YtjblmincldaklaaDoor
open Go.RowKit Go.Proofs.YtjblmincldaklaaDoor.Hp
theorem pop8_nat (b : Nat) (h : b < 256) : Lib.pop8 (b : Int) = (pop b 8 : Int) := by
  have := Lib.pop8_eq ⟨b, h⟩
  simp only at this
  rw [this, onesCount8 b h]
theorem pop_le (x k : Nat) : pop x k ≤ k := cntN_le _ _
theorem pop32 (x : Nat) : pop x 32 = pop (x / 16777216) 8 + pop (x / 65536 % 256) 8 + pop (x / 256 % 256) 8 + pop (x % 256) 8 := by
  have h1 := pop_split x 8 24
  have h2 := pop_split (x / 2 ^ 8) 8 16
  have h3 := pop_split (x / 2 ^ 8 / 2 ^ 8) 8 8
  rw [show (2 : Nat) ^ 8 = 256 from rfl] at h1 h2 h3
  rw [show 32 = 8 + 24 from rfl, h1, show 24 = 8 + 16 from rfl, h2, show 16 = 8 + 8 from rfl, h3, show x / 256 / 256 / 256 = x / 16777216 by omega, show x / 256 / 256 = x / 65536 by omega]
  omega
theorem and255 (x : Nat) (hx : x < 4294967296) : bits BinOp.and IntKind.u32 (x : Int) 255 = ((x % 256 : Nat) : Int) := by
  rw [show (255 : Int) = ((255 : Nat) : Int) from rfl, u32_and_nat _ _ hx (by decide)]
  congr 1
  exact Nat.and_two_pow_sub_one_eq_mod x 8
theorem and255' (x d : Nat) (hx : x < 4294967296) : bits BinOp.and IntKind.u32 ((x : Int) / (d : Int)) 255 = ((x / d % 256 : Nat) : Int) := by
  rw [← and255 _ (Nat.lt_of_le_of_lt (Nat.div_le_self x d) hx)]
  simp
set_option maxHeartbeats 1000000 in
set_option maxRecDepth 100000 in
theorem ones32 (x : Nat) (hx : x < 4294967296) (w : World) :
    Calls Tryd.prog 74 #[.int .u32 x] w fun e w' => e = .returned (.int .i64 (pop x 32)) ∧ w' = w.drew := by
  have a1 := and255 x hx
  have a2 : bits BinOp.and IntKind.u32 ((x : Int) / 256) 255 = ((x / 256 % 256 : Nat) : Int) := and255' x 256 hx
  have a3 : bits BinOp.and IntKind.u32 ((x : Int) / 65536) 255 = ((x / 65536 % 256 : Nat) : Int) := and255' x 65536 hx
  have d1 : (x : Int) / 16777216 = ((x / 16777216 : Nat) : Int) := by omega
  have HP := hide (pop32 x)
  have p0 := pop8_nat (x % 256) (by omega)
  have p1 := pop8_nat (x / 256 % 256) (by omega)
  have p2 := pop8_nat (x / 65536 % 256) (by omega)
  have p3 := pop8_nat (x / 16777216) (by omega)
  have l1 : ((x % 256 : Nat) : Int) ≤ 255 := by omega
  have l2 : ((x / 256 % 256 : Nat) : Int) ≤ 255 := by omega
  have l3 : ((x / 65536 % 256 : Nat) : Int) ≤ 255 := by omega
  have l4 : ((x / 16777216 : Nat) : Int) ≤ 255 := by omega
  have m1 : 0 ≤ ((x % 256 : Nat) : Int) := by omega
  have m2 : 0 ≤ ((x / 256 % 256 : Nat) : Int) := by omega
  have m3 : 0 ≤ ((x / 65536 % 256 : Nat) : Int) := by omega
  have m4 : 0 ≤ ((x / 16777216 : Nat) : Int) := by omega
  have q0 := pop_le (x % 256) 8
  have q1 := pop_le (x / 256 % 256) 8
  have q2 := pop_le (x / 65536 % 256) 8
  have q3 := pop_le (x / 16777216) 8
  generalize pop (x % 256) 8 = k0 at *
  generalize pop (x / 256 % 256) 8 = k1 at *
  generalize pop (x / 65536 % 256) 8 = k2 at *
  generalize pop (x / 16777216) 8 = k3 at *
  generalize ((x % 256 : Nat) : Int) = b0 at *
  generalize ((x / 256 % 256 : Nat) : Int) = b1 at *
  generalize ((x / 65536 % 256 : Nat) : Int) = b2 at *
  generalize ((x / 16777216 : Nat) : Int) = b3 at *
  go_enter Tryd.func74, Tryd.ntmps74
  go_wp2
  go_region
  all_goals (try go_wp2)
  all_goals (go_ret; exact ⟨ret_int (by rw [unhide HP]; omega), rfl⟩)
set_option maxHeartbeats 1000000 in
theorem roomOf_any (c : Nat) (w : World) (hc : c < 6) : Calls Tryd.prog 68 #[.int .i64 c] w fun e w' => e = .returned (.int .i64 ((2 ^ (c + 1) : Nat) : Int)) ∧ w' = w := by
  rcases (show c = 0 ∨ c = 1 ∨ c = 2 ∨ c = 3 ∨ c = 4 ∨ c = 5 by omega) with rfl | rfl | rfl | rfl | rfl | rfl <;> (go_enter Tryd.func68, Tryd.ntmps68; go_wp2; go_ret; exact ⟨rfl, rfl⟩)
/-- The least class that is enough for n words. -/
def clOf (n : Nat) : Nat := if n ≤ 2 then 0 else if n ≤ 4 then 1 else if n ≤ 8 then 2 else if n ≤ 16 then 3 else if n ≤ 32 then 4 else 5
theorem clOf_lt (n : Nat) : clOf n < 6 := by unfold clOf; (repeat' split) <;> omega
theorem clOf_iff (n c : Nat) (hn : n ≤ 64) (hc : c < 6) : 2 ^ (c + 1) < n ↔ c < clOf n := by
  rcases (show c = 0 ∨ c = 1 ∨ c = 2 ∨ c = 3 ∨ c = 4 ∨ c = 5 by omega) with rfl | rfl | rfl | rfl | rfl | rfl <;> (unfold clOf; (repeat' split) <;> simp <;> omega)
theorem clOf_room (c : Nat) (hc : c < 6) : clOf (2 ^ (c + 1)) = c := by
  rcases (show c = 0 ∨ c = 1 ∨ c = 2 ∨ c = 3 ∨ c = 4 ∨ c = 5 by omega) with rfl | rfl | rfl | rfl | rfl | rfl <;> rfl
set_option maxHeartbeats 1000000 in
theorem classOf_any (n : Nat) (w : World) (hn : n ≤ 64) : Calls Tryd.prog 56 #[.int .i64 n] w fun e w' => e = .returned (.int .i64 (clOf n)) ∧ w' = w := by
  have hl := clOf_lt n
  have HI := hide (fun c hc => clOf_iff n c hn hc)
  go_enter Tryd.func56, Tryd.ntmps56
  go_wp2
  go_loop [3] (fun t => ∃ c : Nat, c ≤ clOf n ∧ t = .int .i64 c) (fun t => 6 - (intOf t).toNat)
  case atStart => exact ⟨0, Nat.zero_le _, rfl⟩
  case round =>
    obtain ⟨c, hc, rfl⟩ := hrel
    have hc6 : c < 6 := by omega
    have HC := hide (roomOf_any c w hc6)
    have HJ := hide (unhide HI c hc6)
    obtain ⟨r, hr⟩ : ∃ r, r = 2 ^ (c + 1) := ⟨_, rfl⟩
    rw [← hr] at HC HJ
    have hr64 : r ≤ 64 := by rw [hr]; exact Nat.le_trans (Nat.pow_le_pow_right (by decide) (show c + 1 ≤ 6 by omega)) (by decide)
    clear hr HI
    by_cases hlt : c < clOf n
    · have h1 : r < n := (unhide HJ).2 hlt
      go_wp2_with (go_at_call 68; refine (unhide HC).mono ?_; rintro e w' ⟨rfl, rfl⟩)
      go_round
      case rel => exact ⟨c + 1, by omega, by go_num⟩
      case measure => simp [intOf]; omega
    · have h1 : ¬ r < n := fun h => hlt ((unhide HJ).1 h)
      go_wp2_with (go_at_call 68; refine (unhide HC).mono ?_; rintro e w' ⟨rfl, rfl⟩)
      go_ret
      exact ⟨ret_int (by omega), rfl⟩
theorem Fr.drewN {K : Nat → Prop} {a w : World} (h : Fr K a w) (n : Nat) : Fr K a (w.drewN n) := ⟨h.os, h.tape, h.output, h.size, h.block⟩
set_option maxHeartbeats 1000000 in
theorem full_any (r u : Nat) (w : World) (hr : 0 < r) (hr2 : r ≤ 100000) (hu : u < 4294967296) : Calls Tryd.prog 69 #[.agg #[.int .i64 r, .int .u32 u]] w fun e w' => e = .returned (.bool (decide (pop u 32 = 64 / r))) ∧ Fr (fun _ => False) w w' := by
  have HC := hide (fun w' => ones32 u hu w')
  have hp := pop_le u 32
  generalize pop u 32 = k at *
  have hr0 : (r : Int) ≠ 0 := by omega
  have hdv : Int.tdiv 64 (r : Int) = ((64 / r : Nat) : Int) := by
    rw [Int.tdiv_eq_ediv_of_nonneg (by omega)]; simp
  have hd0 : ((r : Int) == 0) = false := by simpa using hr0
  have hq : 64 / r ≤ 64 := Nat.div_le_self _ _
  generalize 64 / r = q at *
  go_enter Tryd.func69, Tryd.ntmps69
  go_wp2
  go_quiet (first | (go_at_call 74; exact Calls.quiet_of ((unhide HC _).mono fun _ _ x => ⟨x.1, 1, x.2⟩)))
  all_goals (try go_wp2)
  all_goals (go_ret; exact ⟨ret_bool (by by_cases h : k = q <;> simp [h] <;> omega), ((Fr.refl _ w).alloc _).drewN _⟩)
/-- The room of the block that begins o words behind a span's beginning. -/
def roomS (r u o : Nat) : Nat := if r = 0 then 0 else if o % r = 0 ∧ u.testBit (o / r) = true then r else 0
set_option maxHeartbeats 1000000 in
theorem roomAt_any (r u o : Nat) (w : World) (hr : r ≠ 1) (hr2 : r ≤ 100000) (hu : u < 4294967296) (ho : o < 64) : Calls Tryd.prog 58 #[.agg #[.int .i64 r, .int .u32 u], .int .i64 o] w fun e w' => e = .returned (.int .i64 (roomS r u o)) ∧ Fr (fun _ => False) w w' := by
  by_cases h0 : r = 0
  · subst h0
    go_enter Tryd.func58, Tryd.ntmps58
    go_wp2
    go_quiet (fail)
    all_goals (try go_wp2)
    all_goals (go_ret; exact ⟨rfl, ((Fr.refl _ w).alloc _).drewN _⟩)
  · have hr0 : (r : Int) ≠ 0 := by omega
    have hor : o / r < 32 := by
      have : o / r ≤ o / 2 := Nat.div_le_div_left (by omega) (by omega)
      omega
    have d0 : ((r : Int) == 0) = false := by simpa using hr0
    have tm : (o : Int).tmod (r : Int) = ((o % r : Nat) : Int) := by rw [Int.tmod_eq_emod_of_nonneg (by omega)]; simp
    have td : (o : Int).tdiv (r : Int) = ((o / r : Nat) : Int) := by rw [Int.tdiv_eq_ediv_of_nonneg (by omega)]; simp
    have HM : Hid (roomS r u o = if o % r = 0 ∧ u.testBit (o / r) = true then r else 0) := hide (by unfold roomS; rw [if_neg h0])
    have wq : IntKind.i64.wrap ((o / r : Nat) : Int) = ((o / r : Nat) : Int) := by
      rw [Go.IntKind.wrap_i64]
      clear td tm
      generalize o / r = q at hor ⊢
      omega
    by_cases h1 : o % r = 0
    · have d1 : ((o : Int).tmod (r : Int) != 0) = false := by rw [tm, h1]; rfl
      have HT : Hid ((bits .and .u32 ((u : Int) / 2 ^ (o / r)) 1 == 0) = !u.testBit (o / r)) := by
        refine hide ?_
        have e : (u : Int) / 2 ^ (o / r) = ((u / 2 ^ (o / r) : Nat) : Int) := by simp
        rw [e, show (1 : Int) = ((1 : Nat) : Int) from rfl, u32_and_nat _ _ (Nat.lt_of_le_of_lt (Nat.div_le_self _ _) hu) (by decide), nat_mask1, Nat.testBit_eq_decide_div_mod_eq]
        rcases Nat.mod_two_eq_zero_or_one (u / 2 ^ (o / r)) with h | h <;> simp [h]
      generalize o / r = q at *
      rw [h1] at HM
      clear tm h1
      cases hb : u.testBit q with
      | true =>
        rw [hb] at HT HM
        have ht : (bits .and .u32 ((u : Int) / 2 ^ q) 1 == 0) = false := unhide HT
        go_enter Tryd.func58, Tryd.ntmps58
        go_wp2
        go_quiet (fail)
        all_goals (try go_wp2)
        all_goals (go_ret; exact ⟨ret_int (by rw [unhide HM]; simp), ((Fr.refl _ w).alloc _).drewN _⟩)
      | false =>
        rw [hb] at HT HM
        have ht : (bits .and .u32 ((u : Int) / 2 ^ q) 1 == 0) = true := unhide HT
        go_enter Tryd.func58, Tryd.ntmps58
        go_wp2
        go_quiet (fail)
        all_goals (try go_wp2)
        all_goals (go_ret; exact ⟨ret_int (by rw [unhide HM]; simp), ((Fr.refl _ w).alloc _).drewN _⟩)
    · rw [if_neg (fun h => h1 h.1)] at HM
      generalize o % r = k at tm h1
      have d1 : ((k : Int) != 0) = true := by simp; omega
      clear td h1
      go_enter Tryd.func58, Tryd.ntmps58
      go_wp2
      go_quiet (fail)
      all_goals (try go_wp2)
      all_goals (go_ret; exact ⟨ret_int (by rw [unhide HM]; rfl), ((Fr.refl _ w).alloc _).drewN _⟩)
end Go.Proofs.YtjblmincldaklaaDoor
namespace Go.Proofs.YtjblmincldaklaaDoor
open Go.RowKit Go.Proofs.YtjblmincldaklaaDoor.Hp

theorem i64_low (n : Int) (k : Nat) (hk : k < 63) : bits .and .i64 n ((2 ^ k - 1 : Nat) : Int) = n % (2 ^ k : Nat) := by
  have hp : 2 ^ k < 2 ^ 63 := Nat.pow_lt_pow_right (by decide) hk
  have h0 : 0 < 2 ^ k := Nat.pow_pos (by decide)
  show IntKind.i64.wrap ((BitVec.ofInt 64 n &&& BitVec.ofInt 64 ((2 ^ k - 1 : Nat) : Int)).toNat : Nat) = _
  have e1 : (BitVec.ofInt 64 ((2 ^ k - 1 : Nat) : Int)).toNat = 2 ^ k - 1 := by
    rw [BitVec.ofInt_natCast, BitVec.toNat_ofNat]; exact Nat.mod_eq_of_lt (by omega)
  have e2 : (BitVec.ofInt 64 n).toNat = (n % 18446744073709551616).toNat := by rw [BitVec.toNat_ofInt]; rfl
  rw [BitVec.toNat_and, e1, Nat.and_two_pow_sub_one_eq_mod, e2, IntKind.wrap_i64]
  have e3 : (((n % 18446744073709551616).toNat % 2 ^ k : Nat) : Int) = n % (2 ^ k : Nat) := by
    rw [Int.natCast_emod, Int.toNat_of_nonneg (by omega)]
    exact Int.emod_emod_of_dvd _ (by
      refine ⟨((2 ^ (64 - k) : Nat) : Int), ?_⟩
      rw [← Int.natCast_mul, ← Nat.pow_add, show k + (64 - k) = 64 by omega]
      rfl)
  have h1 := Int.emod_nonneg n (show ((2 ^ k : Nat) : Int) ≠ 0 by omega)
  have h2 := Int.emod_lt_of_pos n (show (0 : Int) < ((2 ^ k : Nat) : Int) by omega)
  rw [e3]
  generalize n % ((2 ^ k : Nat) : Int) = z at h1 h2 ⊢
  generalize 2 ^ k = y at hp h1 h2
  omega
theorem i64_and65535 (n : Int) : bits .and .i64 n 65535 = n % 65536 := i64_low n 16 (by decide)
theorem i64_and32767 (n : Int) : bits .and .i64 n 32767 = n % 32768 := i64_low n 15 (by decide)
theorem i64_and1 (n : Int) : bits .and .i64 n 1 = n % 2 := i64_low n 1 (by decide)
theorem i64_or_nat (a b : Nat) (ha : a < 9223372036854775808) (hb : b < 9223372036854775808) : bits .or .i64 (a : Int) (b : Int) = ((a ||| b : Nat) : Int) := by
  have hx : a ||| b < 2 ^ 63 := Nat.or_lt_two_pow (by omega) (by omega)
  show IntKind.i64.wrap ((BitVec.ofInt 64 (a : Int) ||| BitVec.ofInt 64 (b : Int)).toNat : Int) = _
  have e : ∀ c : Nat, c < 9223372036854775808 → (BitVec.ofInt 64 (c : Int)).toNat = c := fun c hc => by
    rw [BitVec.ofInt_natCast, BitVec.toNat_ofNat]; exact Nat.mod_eq_of_lt (by omega)
  rw [BitVec.toNat_or, e a ha, e b hb, IntKind.wrap_i64]
  generalize a ||| b = z at hx ⊢
  omega
/-- A header's parts are right. -/
def Right (k s m : Int) : Prop := 1 ≤ k ∧ k ≤ 4 ∧ 0 ≤ s ∧ s ≤ 16447 ∧ 0 ≤ m ∧ m ≤ 65535
instance (k s m : Int) : Decidable (Right k s m) := inferInstanceAs (Decidable (_ ∧ _))
/-- Whether the word k behind a header may be a reference. -/
def tellsB (kd mk : Int) (k : Nat) : Bool := decide (kd = 2) || (decide (kd = 3) && decide (mk ≤ k)) || (decide (kd = 4) && decide (mk / 2 ^ k % 2 = 1))
def hdr (k s m : Int) : Int := if Right k s m then k * 2147483648 + m * 32768 + s else 0
/-- A word is a header. -/
def IsH (h : Int) : Prop := 2147483648 ≤ h ∧ h < 10737418240 ∧ h % 32768 ≤ 16447
instance (h : Int) : Decidable (IsH h) := inferInstanceAs (Decidable (_ ∧ _))
def hK (h : Int) : Int := h / 2147483648
def hM (h : Int) : Int := h / 32768 % 65536
def hS (h : Int) : Int := h % 32768
theorem right_is (h : Int) : Right (hK h) (hS h) (hM h) ↔ IsH h := by
  unfold Right IsH hK hS hM
  omega
theorem hdr_is (h : Int) : hdr (hK h) (hS h) (hM h) = (if IsH h then h else 0) := by
  unfold hdr
  by_cases h1 : IsH h
  · rw [if_pos h1, if_pos ((right_is h).2 h1)]
    unfold hK hS hM
    omega
  · rw [if_neg h1, if_neg (fun x => h1 ((right_is h).1 x))]
theorem hdr_ne (h : Int) : (h = 0 ∨ hdr (hK h) (hS h) (hM h) ≠ h) ↔ ¬ IsH h := by
  rw [hdr_is]
  by_cases h1 : IsH h
  · rw [if_pos h1]; unfold IsH at h1; constructor
    · rintro (e | e)
      · omega
      · exact absurd rfl e
    · intro e; exact absurd (show IsH h from h1) e
  · rw [if_neg h1]; constructor
    · intro _; exact h1
    · intro _; by_cases e : h = 0
      · exact .inl e
      · exact .inr (fun x => e x.symm)
theorem hdr_open {k s m : Int} (h : Right k s m) : IsH (hdr k s m) ∧ hK (hdr k s m) = k ∧ hS (hdr k s m) = s ∧ hM (hdr k s m) = m := by
  have e : hdr k s m = k * 2147483648 + m * 32768 + s := if_pos h
  rw [e]
  unfold Right at h
  unfold IsH hK hS hM
  omega
theorem hdr_zero {k s m : Int} : hdr k s m = 0 ↔ ¬ Right k s m := by
  unfold hdr
  by_cases h : Right k s m
  · rw [if_pos h]; unfold Right at *; constructor
    · intro _; omega
    · intro e; exact absurd h e
  · rw [if_neg h]; exact ⟨fun _ => h, fun _ => rfl⟩
theorem hdr_val {k s m : Int} (h : Right k s m) : bits .or .i64 (bits .or .i64 (k * 2147483648) (m * 32768)) s = hdr k s m := by
  have e : hdr k s m = k * 2147483648 + m * 32768 + s := if_pos h
  rw [e]
  unfold Right at h
  obtain ⟨a, rfl⟩ := Int.eq_ofNat_of_zero_le (show 0 ≤ k by omega)
  obtain ⟨b, rfl⟩ := Int.eq_ofNat_of_zero_le (show 0 ≤ m by omega)
  obtain ⟨c, rfl⟩ := Int.eq_ofNat_of_zero_le (show 0 ≤ s by omega)
  have e1 : (a : Int) * 2147483648 = ((2 ^ 31 * a : Nat) : Int) := by omega
  have e2 : (b : Int) * 32768 = ((b * 32768 : Nat) : Int) := by omega
  have e3 : 2 ^ 31 * a ||| b * 32768 = 2 ^ 31 * a + b * 32768 := (Nat.two_pow_add_eq_or_of_lt (by omega) a).symm
  have e4 : 2 ^ 31 * a + b * 32768 = 2 ^ 15 * (65536 * a + b) := by omega
  have e5 : 2 ^ 15 * (65536 * a + b) ||| c = 2 ^ 15 * (65536 * a + b) + c := (Nat.two_pow_add_eq_or_of_lt (by omega) _).symm
  rw [e1, e2, i64_or_nat _ _ (by omega) (by omega), e3, e4, i64_or_nat _ _ (by omega) (by omega), e5]
  omega
set_option maxHeartbeats 1000000 in
theorem Header_any (k s m : Int) (w : World) : Calls Tryd.prog 26 #[.int .i64 k, .int .i64 s, .int .i64 m] w fun e w' => e = .returned (.int .i64 (hdr k s m)) ∧ w' = w := by
  by_cases h : Right k s m
  · have HV := hide (hdr_val h)
    have h' := h
    unfold Right at h'
    obtain ⟨h1, h2, h3, h4, h5, h6⟩ := h'
    have s1 : IntKind.i64.wrap (k * 2 ^ 31) = k * 2147483648 := by rw [IntKind.wrap_i64]; omega
    have s2 : IntKind.i64.wrap (m * 2 ^ 15) = m * 32768 := by rw [IntKind.wrap_i64]; omega
    go_enter Tryd.func26, Tryd.ntmps26
    go_wp2
    go_ret
    exact ⟨ret_int (unhide HV), rfl⟩
  · have e : hdr k s m = 0 := hdr_zero.2 h
    rw [e]
    unfold Right at h
    clear e
    go_enter Tryd.func26, Tryd.ntmps26
    go_wp2
    all_goals first | omega | (go_ret; exact ⟨rfl, rfl⟩)
theorem results_tmp4 {fn : Func} {t u v x : Tmp} (h : fn.results = #[.tmp t, .tmp u, .tmp v, .tmp x]) (tmps : Array Value) (P : Program) (w : World) :
    (results fn tmps).run P w = .ok (.tuple #[tmps.getD t undef, tmps.getD u undef, tmps.getD v undef, tmps.getD x undef]) w := by
  simp [results, h]
def opnV (h : Int) : Value := if IsH h then .tuple #[.int .i64 (hK h), .int .i64 (hS h), .int .i64 (hM h), .bool true] else .tuple #[.int .i64 0, .int .i64 0, .int .i64 0, .bool false]
set_option maxHeartbeats 1000000 in
theorem Open_yes (h : Int) (w : World) (hh : IsH h) : Calls Tryd.prog 35 #[.int .i64 h] w fun e w' => e = .returned (.tuple #[.int .i64 (h / 2147483648), .int .i64 (h % 32768), .int .i64 (h / 32768 % 65536), .bool true]) ∧ w' = w := by
  have e1 := i64_and65535 (h / 32768)
  have e2 := i64_and32767 h
  have HC : Calls Tryd.prog 26 #[.int .i64 (h / 2147483648), .int .i64 (h % 32768), .int .i64 (h / 32768 % 65536)] w fun e w' => e = .returned (.int .i64 h) ∧ w' = w := by
    have := Header_any (hK h) (hS h) (hM h) w
    rw [hdr_is, if_pos hh] at this
    exact this
  have HD := hide HC
  clear HC
  have h0 : (h == 0) = false := by unfold IsH at hh; simp; omega
  clear hh
  go_enter Tryd.func35, Tryd.ntmps35
  go_wp2_with (first | (go_at_call 26; refine (unhide HD).mono ?_; rintro e w' ⟨rfl, rfl⟩))
  all_goals ((try simp only [Exit.inBlock, Exit.then]); refine bodyPost_ret (results_tmp4 rfl _ _ _) rfl ?_)
  all_goals exact ⟨rfl, rfl⟩
set_option maxHeartbeats 1000000 in
theorem Open_no (h : Int) (w : World) (hh : ¬ IsH h) : Calls Tryd.prog 35 #[.int .i64 h] w fun e w' => e = .returned (.tuple #[.int .i64 0, .int .i64 0, .int .i64 0, .bool false]) ∧ w' = w := by
  have e1 := i64_and65535 (h / 32768)
  have e2 := i64_and32767 h
  have HC : Calls Tryd.prog 26 #[.int .i64 (h / 2147483648), .int .i64 (h % 32768), .int .i64 (h / 32768 % 65536)] w fun e w' => e = .returned (.int .i64 0) ∧ w' = w := by
    have := Header_any (hK h) (hS h) (hM h) w
    rw [hdr_is, if_neg hh] at this
    exact this
  have HD := hide HC
  clear HC hh
  by_cases hz : h = 0
  · subst hz
    go_enter Tryd.func35, Tryd.ntmps35
    go_wp2
    all_goals ((try simp only [Exit.inBlock, Exit.then]); refine bodyPost_ret (results_tmp4 rfl _ _ _) rfl ?_)
    all_goals exact ⟨rfl, rfl⟩
  · have h0 : (h == 0) = false := by simpa using hz
    have h1 : ((0 : Int) != h) = true := by simp; omega
    clear hz
    go_enter Tryd.func35, Tryd.ntmps35
    go_wp2_with (first | (go_at_call 26; refine (unhide HD).mono ?_; rintro e w' ⟨rfl, rfl⟩))
    all_goals ((try simp only [Exit.inBlock, Exit.then]); refine bodyPost_ret (results_tmp4 rfl _ _ _) rfl ?_)
    all_goals exact ⟨rfl, rfl⟩
theorem Open_any (h : Int) (w : World) : Calls Tryd.prog 35 #[.int .i64 h] w fun e w' => e = .returned (opnV h) ∧ w' = w := by
  unfold opnV
  by_cases hh : IsH h
  · rw [if_pos hh]; exact Open_yes h w hh
  · rw [if_neg hh]; exact Open_no h w hh
theorem shr_min (mk : Int) (k : Nat) (h0 : 0 ≤ mk) (h1 : mk ≤ 65535) : mk / 2 ^ min k 64 = mk / 2 ^ k := by
  by_cases h : k ≤ 64
  · rw [Nat.min_eq_left h]
  · rw [Nat.min_eq_right (by omega)]
    have h2 : (2 : Int) ^ 64 ≤ 2 ^ k := by
      have := Nat.pow_le_pow_right (show 0 < 2 by decide) (show 64 ≤ k by omega)
      exact_mod_cast this
    rw [Int.ediv_eq_zero_of_lt h0 (by omega), Int.ediv_eq_zero_of_lt h0 (by omega)]
set_option maxHeartbeats 1000000 in
theorem tells_any (kd mk : Int) (k : Nat) (w : World) (hm : 0 ≤ mk) (hm2 : mk ≤ 65535) : Calls Tryd.prog 72 #[.int .i64 kd, .int .i64 mk, .int .i64 k] w fun e w' => e = .returned (.bool (tellsB kd mk k)) ∧ w' = w := by
  have e1 := i64_and1 (mk / 2 ^ k)
  unfold tellsB
  by_cases h2 : kd = 2
  · subst h2
    go_enter Tryd.func72, Tryd.ntmps72
    go_wp2
    go_ret
    exact ⟨rfl, rfl⟩
  · by_cases h3 : kd = 3
    · subst h3
      go_enter Tryd.func72, Tryd.ntmps72
      go_wp2
      go_ret
      exact ⟨ret_bool (by simp), rfl⟩
    · by_cases h4 : kd = 4
      · subst h4
        go_enter Tryd.func72, Tryd.ntmps72
        go_wp2
        go_ret
        exact ⟨ret_bool (by simp [shr_min mk k hm hm2, e1]; by_cases h : mk / 2 ^ k % 2 = 1 <;> simp [h]), rfl⟩
      · have d2 : (kd == 2) = false := by simpa using h2
        have d3 : (kd == 3) = false := by simpa using h3
        have d4 : (kd == 4) = false := by simpa using h4
        have HE : Hid ((decide (kd = 2) || (decide (kd = 3) && decide (mk ≤ k)) || (decide (kd = 4) && decide (mk / 2 ^ k % 2 = 1))) = false) := hide (by simp [h2, h3, h4])
        clear h2 h3 h4
        go_enter Tryd.func72, Tryd.ntmps72
        go_wp2
        go_ret
        exact ⟨ret_bool (unhide HE).symm, rfl⟩
end Go.Proofs.YtjblmincldaklaaDoor
namespace Go.Proofs.YtjblmincldaklaaDoor
open Go.RowKit Go.Proofs.YtjblmincldaklaaDoor.Hp
/-- The blocks of a heap: its struct, its words, its spans, the set of free spans, the sets of open ones. -/
structure HB where
  p : Nat
  bw : Nat
  bs : Nat
  bf : Nat
  bo : Nat → Nat
def HB.mem (B : HB) (k : Nat) : Prop := k = B.p ∨ k = B.bw ∨ k = B.bs ∨ k = B.bf ∨ ∃ c, c < 6 ∧ k = B.bo c
structure HB.Ok (B : HB) : Prop where
  pw : B.p ≠ B.bw
  ps : B.p ≠ B.bs
  pf : B.p ≠ B.bf
  ws : B.bw ≠ B.bs
  wf : B.bw ≠ B.bf
  sf : B.bs ≠ B.bf
  op : ∀ c, c < 6 → B.bo c ≠ B.p ∧ B.bo c ≠ B.bw ∧ B.bo c ≠ B.bs ∧ B.bo c ≠ B.bf
  oo : ∀ c d, c < 6 → d < 6 → c ≠ d → B.bo c ≠ B.bo d
/-- What they hold. -/
structure HR where
  rm : Nat → Nat
  us : Nat → Nat
  fr : Nat → Bool
  op : Nat → Nat → Bool
  wd : Nat → Int
def setM (n : Nat) : Nat := (n + 63) / 64
def HB.cell (B : HB) (n : Nat) (i : Nat) : Value :=
  if i = 0 then .slice (some ⟨B.bw, 0, none⟩) (64 * n) (64 * n) else if i = 1 then .slice (some ⟨B.bs, 0, none⟩) n n else if i = 2 then .slice (some ⟨B.bf, 0, none⟩) (setM n) (setM n) else .slice (some ⟨B.bo (i - 3), 0, none⟩) (setM n) (setM n)
def spanCell (rm us : Nat → Nat) (i : Nat) : Value := if i % 2 = 0 then .int .i64 (rm (i / 2)) else .int .u32 (us (i / 2))
structure At (w : World) (B : HB) (n : Nat) (R : HR) : Prop where
  ok : B.Ok
  lo : 2 ≤ n
  hi : n ≤ 16384
  st : Row w B.p 9 (B.cell n)
  wo : Row w B.bw (64 * n) (fun i => .int .i64 (R.wd i))
  sp : Row w B.bs (2 * n) (spanCell R.rm R.us)
  fr : SetAt w B.bf (setM n) R.fr
  op : ∀ c, c < 6 → SetAt w (B.bo c) (setM n) (R.op c)
section
variable {w w' : World} {B : HB} {n : Nat} {R : HR}
theorem setM_le (h : n ≤ 16384) : setM n ≤ 1000 := by unfold setM; omega
theorem setM_lt {s : Nat} (h : s < n) : s < 64 * setM n := by unfold setM; omega
theorem setM_pos (h : 2 ≤ n) : 0 < setM n := by unfold setM; omega
theorem At.c0 (h : At w B n R) : w.cell? ⟨B.p, 0, none⟩ = some (.slice (some ⟨B.bw, 0, none⟩) (64 * n) (64 * n)) := (h.st 0 (by omega)).1
theorem At.c1 (h : At w B n R) : w.cell? ⟨B.p, 1, none⟩ = some (.slice (some ⟨B.bs, 0, none⟩) n n) := (h.st 1 (by omega)).1
theorem At.c2 (h : At w B n R) : w.cell? ⟨B.p, 2, none⟩ = some (.slice (some ⟨B.bf, 0, none⟩) (setM n) (setM n)) := (h.st 2 (by omega)).1
theorem At.c3 (h : At w B n R) (c : Nat) (hc : c < 6) : w.cell? ⟨B.p, 3 + c, none⟩ = some (.slice (some ⟨B.bo c, 0, none⟩) (setM n) (setM n)) := by
  rw [(h.st (3 + c) (by omega)).1, HB.cell, if_neg (by omega), if_neg (by omega), if_neg (by omega), show 3 + c - 3 = c by omega]
theorem At.cr (h : At w B n R) (s : Nat) (hs : s < n) : w.cell? ⟨B.bs, s * 2, none⟩ = some (.int .i64 (R.rm s)) := by
  rw [(h.sp (s * 2) (by omega)).1, spanCell, if_pos (by omega), show s * 2 / 2 = s by omega]
theorem At.cu (h : At w B n R) (s : Nat) (hs : s < n) : w.cell? ⟨B.bs, s * 2 + 1, none⟩ = some (.int .u32 (R.us s)) := by
  rw [(h.sp (s * 2 + 1) (by omega)).1, spanCell, if_neg (by omega), show (s * 2 + 1) / 2 = s by omega]
theorem At.fz (h : At w B n R) (i : Nat) (hi : i < 2 * n) : w.frozen? ⟨B.bs, i, none⟩ = false := (h.sp i hi).2
theorem At.cw (h : At w B n R) (i : Nat) (hi : i < 64 * n) : w.cell? ⟨B.bw, i, none⟩ = some (.int .i64 (R.wd i)) := (h.wo i hi).1
theorem At.fw (h : At w B n R) (i : Nat) (hi : i < 64 * n) : w.frozen? ⟨B.bw, i, none⟩ = false := (h.wo i hi).2
theorem At.lts (h : At w B n R) : B.p < w.heap.size ∧ B.bw < w.heap.size ∧ B.bs < w.heap.size ∧ B.bf < w.heap.size ∧ ∀ c, c < 6 → B.bo c < w.heap.size := by
  have := h.lo
  exact ⟨h.st.lt (by omega), h.wo.lt (by omega), h.sp.lt (by omega), h.fr.lt (setM_pos h.lo), fun c hc => (h.op c hc).lt (setM_pos h.lo)⟩
theorem At.lt (h : At w B n R) {k : Nat} (hk : B.mem k) : k < w.heap.size := by
  obtain ⟨h1, h2, h3, h4, h5⟩ := h.lts
  rcases hk with rfl | rfl | rfl | rfl | ⟨c, hc, rfl⟩
  · exact h1
  · exact h2
  · exact h3
  · exact h4
  · exact h5 c hc
/-- Behind what leaves the heap's blocks alone. -/
theorem At.fr' {K : Nat → Prop} (h : At w B n R) (k : Fr K w w') (hk : ∀ b, B.mem b → ¬ K b) : At w' B n R :=
  ⟨h.ok, h.lo, h.hi, h.st.fr k (hk _ (.inl rfl)), h.wo.fr k (hk _ (.inr (.inl rfl))), h.sp.fr k (hk _ (.inr (.inr (.inl rfl)))), h.fr.fr k (hk _ (.inr (.inr (.inr (.inl rfl))))), fun c hc => Row.fr (h.op c hc) k (hk _ (.inr (.inr (.inr (.inr ⟨c, hc, rfl⟩)))))⟩
theorem At.quiet (h : At w B n R) (k : Fr (fun _ => False) w w') : At w' B n R := h.fr' k fun _ _ x => x
/-- Behind a turn of the set of the free spans. -/
theorem At.setF {S : Nat → Bool} (h : At w B n R) (k : Fr (· = B.bf) w w') (hs : SetAt w' B.bf (setM n) S) : At w' B n { R with fr := S } :=
  ⟨h.ok, h.lo, h.hi, h.st.fr k h.ok.pf, h.wo.fr k h.ok.wf, h.sp.fr k h.ok.sf, hs, fun c hc => Row.fr (h.op c hc) k (h.ok.op c hc).2.2.2⟩
/-- Behind a turn of the set of a class. -/
theorem At.setO {S : Nat → Bool} {c : Nat} (h : At w B n R) (hc : c < 6) (k : Fr (· = B.bo c) w w') (hs : SetAt w' (B.bo c) (setM n) S) : At w' B n { R with op := upd R.op c S } := by
  have := h.ok.op c hc
  refine ⟨h.ok, h.lo, h.hi, h.st.fr k (Ne.symm this.1), h.wo.fr k (Ne.symm this.2.1), h.sp.fr k (Ne.symm this.2.2.1), h.fr.fr k (Ne.symm this.2.2.2), fun d hd => ?_⟩
  by_cases e : d = c
  · subst e; simp only [upd_same]; exact hs
  · simp only [upd_ne _ _ e]; exact Row.fr (h.op d hd) k (h.ok.oo d c hd hc e)
/-- Behind a store into the spans. -/
theorem At.setS {rm us : Nat → Nat} (h : At w B n R) (k : Fr (· = B.bs) w w') (hs : Row w' B.bs (2 * n) (spanCell rm us)) : At w' B n { R with rm := rm, us := us } :=
  ⟨h.ok, h.lo, h.hi, h.st.fr k h.ok.ps, h.wo.fr k h.ok.ws, hs, h.fr.fr k (Ne.symm h.ok.sf), fun c hc => Row.fr (h.op c hc) k (h.ok.op c hc).2.2.1⟩
theorem At.setW {wd : Nat → Int} (h : At w B n R) (k : Fr (· = B.bw) w w') (hs : Row w' B.bw (64 * n) (fun i => .int .i64 (wd i))) : At w' B n { R with wd := wd } :=
  ⟨h.ok, h.lo, h.hi, h.st.fr k h.ok.pw, hs, h.sp.fr k (Ne.symm h.ok.ws), h.fr.fr k (Ne.symm h.ok.wf), fun c hc => Row.fr (h.op c hc) k (h.ok.op c hc).2.1⟩
theorem At.storeR (h : At w B n R) (s v : Nat) (hs : s < n) : At (w.setCell ⟨B.bs, s * 2, none⟩ (.int .i64 v)) B n { R with rm := upd R.rm s v } := by
  refine h.setS ((Fr.refl (· = B.bs) w).setCell (p := ⟨B.bs, s * 2, none⟩) rfl _) ((h.sp.set (s * 2) _ (by omega)).ext fun i hi => ?_)
  by_cases e : i = s * 2
  · rw [e, upd_same, spanCell, if_pos (by omega), show s * 2 / 2 = s by omega, upd_same]
  · rw [upd_ne _ _ e, spanCell, spanCell]
    by_cases e2 : i % 2 = 0
    · rw [if_pos e2, if_pos e2, upd_ne _ _ (by omega)]
    · rw [if_neg e2, if_neg e2]
theorem At.storeU (h : At w B n R) (s v : Nat) (hs : s < n) : At (w.setCell ⟨B.bs, s * 2 + 1, none⟩ (.int .u32 v)) B n { R with us := upd R.us s v } := by
  refine h.setS ((Fr.refl (· = B.bs) w).setCell (p := ⟨B.bs, s * 2 + 1, none⟩) rfl _) ((h.sp.set (s * 2 + 1) _ (by omega)).ext fun i hi => ?_)
  by_cases e : i = s * 2 + 1
  · rw [e, upd_same, spanCell, if_neg (by omega), show (s * 2 + 1) / 2 = s by omega, upd_same]
  · rw [upd_ne _ _ e, spanCell, spanCell]
    by_cases e2 : i % 2 = 0
    · rw [if_pos e2, if_pos e2]
    · rw [if_neg e2, if_neg e2, upd_ne _ _ (by omega)]
theorem At.storeW (h : At w B n R) (i : Nat) (v : Int) (hi : i < 64 * n) : At (w.setCell ⟨B.bw, i, none⟩ (.int .i64 v)) B n { R with wd := upd R.wd i v } := by
  refine h.setW ((Fr.refl (· = B.bw) w).setCell (p := ⟨B.bw, i, none⟩) rfl _) ((h.wo.set i _ hi).ext fun j hj => ?_)
  by_cases e : j = i
  · rw [e, upd_same, upd_same]
  · rw [upd_ne _ _ e, upd_ne _ _ e]
theorem At.congr {R' : HR} (h : At w B n R) (e1 : ∀ s, s < n → R.rm s = R'.rm s) (e2 : ∀ s, s < n → R.us s = R'.us s) (e3 : ∀ s, R.fr s = R'.fr s) (e4 : ∀ c, c < 6 → ∀ s, R.op c s = R'.op c s) (e5 : ∀ i, i < 64 * n → R.wd i = R'.wd i) : At w B n R' :=
  ⟨h.ok, h.lo, h.hi, h.st, h.wo.ext fun i hi => by rw [e5 i hi], h.sp.ext fun i hi => by rw [spanCell, spanCell, e1 _ (by omega), e2 _ (by omega)], (funext e3) ▸ h.fr, fun c hc => (funext (e4 c hc)) ▸ h.op c hc⟩
end
def HB.ptr (B : HB) : Value := .pointer (some ⟨B.p, 0, none⟩)
theorem Fr.toMem {B : HB} {w w' : World} (h : Fr (fun _ => False) w w') : Fr B.mem w w' := h.mono fun _ x => x.elim
theorem Fr.fMem {B : HB} {w w' : World} (h : Fr (· = B.bf) w w') : Fr B.mem w w' := h.mono fun _ x => .inr (.inr (.inr (.inl x)))
theorem Fr.sMem {B : HB} {w w' : World} (h : Fr (· = B.bs) w w') : Fr B.mem w w' := h.mono fun _ x => .inr (.inr (.inl x))
theorem Fr.wMem {B : HB} {w w' : World} (h : Fr (· = B.bw) w w') : Fr B.mem w w' := h.mono fun _ x => .inr (.inl x)
theorem Fr.oMem {B : HB} {w w' : World} {c : Nat} (hc : c < 6) (h : Fr (· = B.bo c) w w') : Fr B.mem w w' := h.mono fun _ x => .inr (.inr (.inr (.inr ⟨c, hc, x⟩)))
end Go.Proofs.YtjblmincldaklaaDoor
