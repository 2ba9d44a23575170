import Derived.Test.YtfkfccpjfagamaaGreatDoorZy
import Derived.Test.YtfkfccpjfagamaaGreatDoorProg
import Derived.Lib.Strings
import Derived.WalkKit
import Derived.WalkSpells
import Derived.WalkLawsBesides
import Derived.Laws.IdiomStrings
import Derived.Laws.Concat
set_option linter.all false
namespace Go.Proofs.YtfkfccpjfagamaaGreatDoor
open Go Go.RowKit Ex
theorem hide {p : Prop} (h : p) : Hid p := h
theorem unhide {p : Prop} (h : Hid p) : p := h
theorem ret_bool {a b : Bool} (h : a = b) : Ending.returned (.bool a) = .returned (.bool b) := by rw [h]
/-- Does p stand in a list of bytes? -/
def hit (p : List UInt8) : List UInt8 → Bool
  | [] => false
  | c :: r => p.isPrefixOf (c :: r) || hit p r
def padS (s : List UInt8) : List UInt8 := 32 :: (s ++ [32])
def inF (s l : List UInt8) : Bool := !s.isEmpty && hit (padS s) l
theorem pre_len {p l : List UInt8} (h : p.isPrefixOf l = true) : p.length ≤ l.length := (List.isPrefixOf_iff_prefix.1 h).length_le
theorem hit_short (p : List UInt8) : ∀ l : List UInt8, l.length < p.length → hit p l = false
  | [], _ => rfl
  | c :: r, h => by
    unfold hit
    rw [hit_short p r (by simp at h; omega)]
    cases hp : p.isPrefixOf (c :: r) with
    | false => rfl
    | true => have := pre_len hp; omega
theorem hit_drop (p l : List UInt8) (i : Nat) (h : i < l.length) : hit p (l.drop i) = (p.isPrefixOf (l.drop i) || hit p (l.drop (i + 1))) := by
  rw [List.drop_eq_getElem_cons h]; rfl
theorem pre_take (p l : List UInt8) : p.isPrefixOf l = (l.take p.length == p) := by
  cases h : p.isPrefixOf l with
  | true =>
    obtain ⟨t, rfl⟩ := List.isPrefixOf_iff_prefix.1 h
    simp
  | false =>
    symm
    rw [beq_eq_false_iff_ne]
    intro e
    have h2 := List.take_append_drop p.length l
    rw [e] at h2
    have : p <+: l := ⟨_, h2⟩
    rw [List.isPrefixOf_iff_prefix.2 this] at h
    cases h
theorem toL_len (s : ByteArray) : s.toList.length = s.size := by
  rw [ByteArray.toList_eq, Array.length_toList]; rfl
theorem ext_toL (s : ByteArray) (a b : Nat) : (s.extract a b).toList = (s.toList.drop a).take (b - a) := by
  rw [ByteArray.toList_eq, ByteArray.toList_eq, Lib.extract_data]
theorem pad_toL (s : ByteArray) : ((⟨#[32]⟩ : ByteArray) ++ s ++ ⟨#[32]⟩).toList = padS s.toList := by
  simp [padS, ByteArray.toList_eq]
theorem pad_size (s : ByteArray) : ((⟨#[32]⟩ : ByteArray) ++ s ++ ⟨#[32]⟩).size = s.size + 2 := by
  rw [← toL_len, pad_toL]; simp [padS, toL_len]
theorem pre_ext (t l : ByteArray) (i : Nat) : t.toList.isPrefixOf (l.toList.drop i) = ((l.extract i (i + t.size)).toList == t.toList) := by
  rw [pre_take, ext_toL, toL_len, Nat.add_sub_cancel_left]
set_option maxRecDepth 100000 in
set_option maxHeartbeats 1000000 in
theorem In_r (s l : ByteArray) (w : World) (hs : s.size ≤ 100000) (hl : l.size ≤ 100000) : Calls Tryz.prog 56 #[.string s, .string l] w fun e w' => e = .returned (.bool (inF s.toList l.toList)) ∧ w = w' := by
  obtain ⟨t, ht⟩ : ∃ t, t = ((⟨#[32]⟩ : ByteArray) ++ s ++ ⟨#[32]⟩) := ⟨_, rfl⟩
  have htl : t.toList = padS s.toList := by rw [ht, pad_toL]
  have hts : t.size = s.size + 2 := by rw [ht, pad_size]
  have HTs := hide hts
  obtain ⟨n, hn⟩ : ∃ n, n = t.size := ⟨_, rfl⟩
  have HN : Hid (t.size = n) := hide hn.symm
  have hnb : n ≤ 200000 ∧ 2 ≤ n := by omega
  have HP : Hid (∀ k, t.toList.isPrefixOf (l.toList.drop k) = ((l.extract k (k + n)).toList == t.toList)) := hide fun k => by rw [pre_ext, hn]
  have HSh : Hid (∀ k, ¬ k + n ≤ l.size → hit t.toList (l.toList.drop k) = false) := hide fun k hk => hit_short _ _ (by rw [List.length_drop, toL_len, toL_len]; omega)
  have hsz : (t.size : Int) = (n : Int) := by omega
  clear hts
  have fin : ∀ b : Bool, Hid (inF s.toList l.toList = (b && hit t.toList l.toList)) → (s.toList == []) = !b → Calls Tryz.prog 56 #[.string s, .string l] w fun e w' => e = .returned (.bool (inF s.toList l.toList)) ∧ w = w' := by
    intro b HY hb
    clear htl hn
    cases b with
    | false =>
      have HY2 : Hid (inF s.toList l.toList = false) := hide (by rw [unhide HY]; rfl)
      have hb' : (s.toList == []) = true := hb
      clear HY hb
      go_enter Tryz.func56, Tryz.ntmps56
      go_wp2
      rw [← ht]
      generalize ({ data := #[32] } ++ s : ByteArray) = s1 at *
      clear ht
      go_loopw [6] (fun i wr => ∃ k : Nat, k ≤ l.size ∧ i = .int .i64 k ∧ w = wr) (fun i _ => l.size - (intOf i).toNat)
      case atStart => exact ⟨0, by omega, rfl, rfl⟩
      case round =>
        obtain ⟨k, hk, rfl, rfl⟩ := hrel
        by_cases hlt : k + n ≤ l.size
        · go_wp2
          go_roundw
          case rel => exact ⟨k + 1, by omega, by go_num, trivial⟩
          case measure => simp [intOf]; omega
        · go_wp2
          go_ret
          exact ⟨ret_bool (unhide HY2).symm, rfl⟩
    | true =>
      have hb' : (s.toList == []) = false := hb
      have HY2 : Hid (inF s.toList l.toList = hit t.toList l.toList) := hide (by rw [unhide HY]; rfl)
      clear HY hb
      go_enter Tryz.func56, Tryz.ntmps56
      go_wp2
      rw [← ht]
      generalize ({ data := #[32] } ++ s : ByteArray) = s1 at *
      clear ht
      go_loopw [6] (fun i wr => ∃ k : Nat, k ≤ l.size ∧ i = .int .i64 k ∧ w = wr ∧ Hid (hit t.toList (l.toList.drop k) = hit t.toList l.toList)) (fun i _ => l.size - (intOf i).toNat)
      case atStart => exact ⟨0, by omega, rfl, rfl, hide (by simp)⟩
      case round =>
        obtain ⟨k, hk, rfl, rfl, hH⟩ := hrel
        by_cases hlt : k + n ≤ l.size
        · have HD : Hid (hit t.toList (l.toList.drop k) = (((l.extract k (k + n)).toList == t.toList) || hit t.toList (l.toList.drop (k + 1)))) := hide (by rw [hit_drop _ _ _ (by rw [toL_len]; omega), unhide HP])
          cases hp : ((l.extract k (k + n)).toList == t.toList) with
          | true =>
            have HY3 : Hid (inF s.toList l.toList = true) := hide (by rw [unhide HY2, ← unhide hH, unhide HD, hp]; rfl)
            clear hH HY2 HD
            go_wp2
            go_ret
            exact ⟨ret_bool (unhide HY3).symm, rfl⟩
          | false =>
            have HH2 : Hid (hit t.toList (l.toList.drop (k + 1)) = hit t.toList l.toList) := hide (by rw [← unhide hH, unhide HD, hp]; rfl)
            clear hH HD
            go_wp2
            go_roundw
            case rel => exact ⟨k + 1, by omega, by go_num, trivial, HH2⟩
            case measure => simp [intOf]; omega
        · have HY3 : Hid (inF s.toList l.toList = false) := hide (by rw [unhide HY2, ← unhide hH, unhide HSh k hlt])
          clear hH HY2
          go_wp2
          go_ret
          exact ⟨ret_bool (unhide HY3).symm, rfl⟩
  cases h0 : s.toList with
  | nil => rw [← h0]; exact fin false (hide (by rw [h0]; rfl)) (by rw [h0]; rfl)
  | cons c r => rw [← h0]; exact fin true (hide (by unfold inF; rw [htl, h0]; rfl)) (by rw [h0]; rfl)
theorem beq8 (a b : Nat) : Nat.beq (Nat.mod a 256) (Nat.mod b 256) = (UInt8.ofNat a == UInt8.ofNat b) := by
  have h : (UInt8.ofNat a = UInt8.ofNat b) ↔ a % 256 = b % 256 := by
    rw [← UInt8.toNat_inj, UInt8.toNat_ofNat', UInt8.toNat_ofNat']
  rw [Bool.eq_iff_iff, beq_iff_eq, h, Nat.beq_eq]; rfl
theorem preN_eq : ∀ (t l : List Nat), preN t l = (t.map UInt8.ofNat).isPrefixOf (l.map UInt8.ofNat)
  | [], l => by cases l <;> rfl
  | a :: t, [] => rfl
  | a :: t, b :: s => by
    show (bif Nat.beq (Nat.mod a 256) (Nat.mod b 256) then preN t s else false) = _
    rw [beq8, preN_eq t s]
    cases h : (UInt8.ofNat a == UInt8.ofNat b) <;> simp [List.isPrefixOf, h]
theorem hitN_eq (t : List Nat) (ht : t ≠ []) : ∀ l : List Nat, hitN t l = hit (t.map UInt8.ofNat) (l.map UInt8.ofNat)
  | [] => by
    show preN t [] = _
    rw [preN_eq]
    cases t with
    | nil => exact absurd rfl ht
    | cons a r => rfl
  | a :: r => by
    show (bif preN t (a :: r) then true else hitN t r) = _
    rw [preN_eq, hitN_eq t ht r]
    show _ = ((t.map UInt8.ofNat).isPrefixOf ((a :: r).map UInt8.ofNat) || hit (t.map UInt8.ofNat) (r.map UInt8.ofNat))
    cases (t.map UInt8.ofNat).isPrefixOf ((a :: r).map UInt8.ofNat) <;> rfl
theorem bsL' (s : List Nat) : (bs s).toList = s.map UInt8.ofNat := by rw [ByteArray.toList_eq]; unfold bs; simp
theorem bsZ (s : List Nat) : (bs s).size = s.length := by rw [← toL_len, bsL', List.length_map]
theorem appL' : ∀ (s t : List Nat), appL s t = s ++ t
  | [], _ => rfl
  | a :: s, t => by rw [List.cons_append, ← appL' s t]; rfl
theorem inN_eq (s l : List Nat) : inN s l = inF (bs s).toList (bs l).toList := by
  rw [bsL', bsL']
  unfold inN inF
  cases s with
  | nil => rfl
  | cons a r =>
    show hitN _ l = _
    rw [hitN_eq _ (by simp), appL']
    simp [padS]
theorem In_any (s l : List Nat) (hs : s.length ≤ 1000) (hl : l.length ≤ 1000) (w : World) : Calls Tryz.prog 56 #[.string (bs s), .string (bs l)] w fun e w' => e = .returned (.bool (inN s l)) ∧ w = w' := by
  rw [inN_eq]
  exact In_r _ _ w (by rw [bsZ]; omega) (by rw [bsZ]; omega)
end Go.Proofs.YtfkfccpjfagamaaGreatDoor
