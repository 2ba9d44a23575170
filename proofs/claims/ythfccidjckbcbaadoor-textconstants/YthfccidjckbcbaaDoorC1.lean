/- TextConstants, walked. -/
import Derived.Test.YthfccidjckbcbaaDoorX6
namespace Go.Proofs.YthfccidjckbcbaaDoor
open Go.RowKit Go.Proofs.YthfccidjckbcbaaDoor.Hp
theorem const_own (ss : List ByteArray) (i : Int) (h0 : 0 ≤ i) : constI ss (2 * i + 1) = ss.getD i.toNat ByteArray.empty := by
  unfold constI
  rw [if_pos (by omega), show (2 * i + 1) / 2 = i by omega]
theorem const_neg (ss : List ByteArray) (z : Int) (h0 : z ≤ 0) : constI ss z = ByteArray.empty := by
  unfold constI
  rw [if_neg (by omega)]
theorem const_nil (z : Int) : constI [] z = ByteArray.empty := by
  unfold constI
  split <;> simp
theorem told_256 : (blkL (emptyA (256 / 64)) (256 / 64)).length = 0 := by decide
set_option maxRecDepth 100000 in
set_option maxHeartbeats 4000000 in
theorem constants_any (ao : Option Addr) (len cap : Nat) (ss : List ByteArray) (i : Int) (w : World) (hV : Vars w) (hm : len ≤ maxLen) (hS : StrsAt w ao len ss) (_ : ∀ s ∈ ss, s.size ≤ maxLen) (hi : -9223372036854775808 ≤ i ∧ i < 9223372036854775808) :
    Calls Tryd.prog 7 #[.slice ao len cap, .int .i64 i] w fun e w' => e = .returned (.bool true) ∧ Below w.heap.size w w' := by
  have HA := hide (anchor_any w hV)
  have HSt := hide hS
  have hmx := hm
  unfold maxLen at hmx
  by_cases hbig : 100 < len ∨ i < 0 ∨ 1099511627776 < i
  · have HB : Hid (∀ W, Fr (fun _ => False) w W → Below w.heap.size w W) := hide fun W k => k.below (Nat.le_refl _) (fun _ x => x.elim)
    clear hV hS
    rcases Nat.lt_or_ge 100 len with h1 | h1
    · have h1' : (100 : Int) < len := by omega
      clear hbig
      go_enter Tryd.func7, Tryd.ntmps7
      go_wp2_with (first | (go_at_call 8; refine (unhide HA).mono ?_; rintro e w1 ⟨rfl, hF1, _⟩; have HF1 := hide hF1; clear hF1))
      go_ret
      exact ⟨rfl, unhide HB _ (unhide HF1)⟩
    · have h1' : ¬ (100 : Int) < len := by omega
      have h1'' : decide ((100 : Int) < len) = false := decide_eq_false h1'
      rcases (show i < 0 ∨ 1099511627776 < i by omega) with h2 | h2
      · clear hbig
        go_enter Tryd.func7, Tryd.ntmps7
        go_wp2_with (first | (go_at_call 8; refine (unhide HA).mono ?_; rintro e w1 ⟨rfl, hF1, _⟩; have HF1 := hide hF1; clear hF1))
        go_ret
        exact ⟨rfl, unhide HB _ (unhide HF1)⟩
      · have h3 : ¬ i < 0 := by omega
        clear hbig
        go_enter Tryd.func7, Tryd.ntmps7
        go_wp2_with (first | (go_at_call 8; refine (unhide HA).mono ?_; rintro e w1 ⟨rfl, hF1, _⟩; have HF1 := hide hF1; clear hF1))
        go_ret
        exact ⟨rfl, unhide HB _ (unhide HF1)⟩
  · have h1 : len ≤ 100 := by omega
    have h1' : ¬ (100 : Int) < len := by omega
    have h1'' : decide ((100 : Int) < len) = false := decide_eq_false h1'
    have h2 : 0 ≤ i := by omega
    have h3 : i ≤ 1099511627776 := by omega
    obtain ⟨k, rfl⟩ := Int.eq_ofNat_of_zero_le h2
    have HC : Hid (∀ W, Calls Tryd.prog 20 #[.int .i64 k] W fun e w' => e = .returned (.int .i64 (2 * (k : Int) + 1)) ∧ W = w') := hide fun W => (Constant_any k W h2 (by omega)).mono fun _ _ h => ⟨h.1, h.2.symm⟩
    clear hbig hV hS
    by_cases hk : k < len
    · obtain ⟨b, off, rfl, hbl, hcl⟩ := (unhide HSt).2 k hk
      generalize hT : ss.getD k ByteArray.empty = t at *
      have HTt := hide hT
      clear hT
      go_enter Tryd.func7, Tryd.ntmps7
      go_wp2_with fail
      refine (unhide HA).mono ?_
      rintro e w1 ⟨rfl, hF1, hV1⟩
      have HF1 := hide hF1
      have HN := hide (SNew_any 256 w1 (by omega) (by omega) hV1)
      clear hF1 hV1
      go_wp2_with fail
      refine (unhide HN).mono ?_
      rintro e w2 ⟨B, p, rfl, hL⟩
      have HL := hide hL
      clear hL
      go_wp2_with fail
      refine (unhide HC _).mono ?_
      rintro e w' ⟨rfl, rfl⟩
      have c1 : w2.cell? ⟨b, off + k, none⟩ = some (.string t) := (World.cell?_of_block (w := w) (a := ⟨b, off + k, none⟩) (((unhide HF1).trans (unhide HL).far).block b hbl id)).trans hcl
      have HT := hide (Told_any (unhide HL).sp)
      rw [told_256] at HT
      have HBy : Hid (∀ W ao1 len1 cap1 ss1 z t1, Fr (fun _ => False) w2 W → len1 ≤ maxLen → StrsAt W ao1 len1 ss1 → (-2199023255553 ≤ z ∧ z ≤ 2199023255553) → z % 2 ≠ 0 → constI ss1 z = t1 → Calls Tryd.prog 12 #[.pointer (some ⟨p, 0, none⟩), .slice ao1 len1 cap1, .int .i64 z] W fun e w' => e = .returned (.string t1) ∧ Fr (fun _ => False) w2 w') := hide fun W ao1 len1 cap1 ss1 z t1 hF hl hS hz ho e => by
        subst e
        exact (Bytes_odd ((unhide HL).quiet hF) ao1 len1 cap1 ss1 z hl hS (by omega) ho).mono fun _ _ h => ⟨h.1, hF.trans h.2⟩
      have HSW : Hid (∀ W, Fr (fun _ => False) w2 W → StrsAt W (some ⟨b, off, none⟩) len ss) := hide fun W hF => (unhide HSt).fr (((unhide HF1).trans (unhide HL).far).trans hF) fun _ _ x => x
      have HEnd : Hid (∀ W, Fr (fun _ => False) w2 W → Below w.heap.size w W) := hide fun W hF => (((unhide HF1).trans (unhide HL).far).trans hF).below (Nat.le_refl _) (fun _ x => x.elim)
      have HK1 := hide (const_own ss (k : Int) (by omega))
      have HK3 := hide (const_neg ss (-(2 * (k : Int) + 1)) (by omega))
      have m1 : (2 * (k : Int) + 1).tmod 2 = 1 := by rw [Int.tmod_eq_emod_of_nonneg (by omega)]; omega
      generalize cntN (fun s => frK (emptyA (256 / 64) s)) (64 * setM (256 / 64)) = cn at *
      go_wp2_with fail
      refine (unhide HT).mono ?_
      rintro e w3 ⟨rfl, hF3⟩
      have HF3 := hide hF3
      clear hF3
      go_wp2_with fail
      refine (unhide HBy _ (some ⟨b, off, none⟩) len cap ss _ t (unhide HF3) hm (unhide HSW _ (unhide HF3)) (by omega) (by omega) ((unhide HK1).trans (by rw [Int.toNat_natCast]; exact unhide HTt))).mono ?_
      rintro e w4 ⟨rfl, hF4⟩
      have HF4 := hide hF4
      clear hF4
      go_wp2_with fail
      refine (unhide HBy _ none 0 0 [] _ ByteArray.empty (unhide HF4) (Nat.zero_le _) (StrsAt.nil _) (by omega) (by omega) (const_nil _)).mono ?_
      rintro e w5 ⟨rfl, hF5⟩
      have HF5 := hide hF5
      clear hF5
      go_wp2_with fail
      refine (unhide HBy _ (some ⟨b, off, none⟩) len cap ss _ ByteArray.empty (unhide HF5) hm (unhide HSW _ (unhide HF5)) (by omega) (by omega) (const_neg _ _ (by omega))).mono ?_
      rintro e w6 ⟨rfl, hF6⟩
      have HF6 := hide hF6
      clear hF6
      go_wp2
      go_ret
      exact ⟨rfl, unhide HEnd _ (unhide HF6)⟩
    · have hk' : ¬ (k : Int) < len := by omega
      have hk'' : decide ((k : Int) < len) = false := decide_eq_false hk'
      go_enter Tryd.func7, Tryd.ntmps7
      go_wp2_with fail
      refine (unhide HA).mono ?_
      rintro e w1 ⟨rfl, hF1, hV1⟩
      have HF1 := hide hF1
      have HN := hide (SNew_any 256 w1 (by omega) (by omega) hV1)
      clear hF1 hV1
      go_wp2_with fail
      refine (unhide HN).mono ?_
      rintro e w2 ⟨B, p, rfl, hL⟩
      have HL := hide hL
      clear hL
      go_wp2_with fail
      refine (unhide HC _).mono ?_
      rintro e w' ⟨rfl, rfl⟩
      have HT := hide (Told_any (unhide HL).sp)
      rw [told_256] at HT
      have HBy : Hid (∀ W ao1 len1 cap1 ss1 z t1, Fr (fun _ => False) w2 W → len1 ≤ maxLen → StrsAt W ao1 len1 ss1 → (-2199023255553 ≤ z ∧ z ≤ 2199023255553) → z % 2 ≠ 0 → constI ss1 z = t1 → Calls Tryd.prog 12 #[.pointer (some ⟨p, 0, none⟩), .slice ao1 len1 cap1, .int .i64 z] W fun e w' => e = .returned (.string t1) ∧ Fr (fun _ => False) w2 w') := hide fun W ao1 len1 cap1 ss1 z t1 hF hl hS hz ho e => by
        subst e
        exact (Bytes_odd ((unhide HL).quiet hF) ao1 len1 cap1 ss1 z hl hS (by omega) ho).mono fun _ _ h => ⟨h.1, hF.trans h.2⟩
      have HSW : Hid (∀ W, Fr (fun _ => False) w2 W → StrsAt W ao len ss) := hide fun W hF => (unhide HSt).fr (((unhide HF1).trans (unhide HL).far).trans hF) fun _ _ x => x
      have HEnd : Hid (∀ W, Fr (fun _ => False) w2 W → Below w.heap.size w W) := hide fun W hF => (((unhide HF1).trans (unhide HL).far).trans hF).below (Nat.le_refl _) (fun _ x => x.elim)
      have HK1 := hide (const_own ss (k : Int) (by omega))
      have HK3 := hide (const_neg ss (-(2 * (k : Int) + 1)) (by omega))
      have m1 : (2 * (k : Int) + 1).tmod 2 = 1 := by rw [Int.tmod_eq_emod_of_nonneg (by omega)]; omega
      generalize cntN (fun s => frK (emptyA (256 / 64) s)) (64 * setM (256 / 64)) = cn at *
      go_wp2_with fail
      refine (unhide HT).mono ?_
      rintro e w3 ⟨rfl, hF3⟩
      have HF3 := hide hF3
      clear hF3
      go_wp2_with fail
      refine (unhide HBy _ ao len cap ss _ ByteArray.empty (unhide HF3) hm (unhide HSW _ (unhide HF3)) (by omega) (by omega) ((unhide HK1).trans (by rw [Int.toNat_natCast, List.getD_eq_getElem?_getD, List.getElem?_eq_none (by have := (unhide HSt).1; omega)]; rfl))).mono ?_
      rintro e w4 ⟨rfl, hF4⟩
      have HF4 := hide hF4
      clear hF4
      go_wp2_with fail
      refine (unhide HBy _ none 0 0 [] _ ByteArray.empty (unhide HF4) (Nat.zero_le _) (StrsAt.nil _) (by omega) (by omega) (const_nil _)).mono ?_
      rintro e w5 ⟨rfl, hF5⟩
      have HF5 := hide hF5
      clear hF5
      go_wp2_with fail
      refine (unhide HBy _ ao len cap ss _ ByteArray.empty (unhide HF5) hm (unhide HSW _ (unhide HF5)) (by omega) (by omega) (const_neg _ _ (by omega))).mono ?_
      rintro e w6 ⟨rfl, hF6⟩
      have HF6 := hide hF6
      clear hF6
      go_wp2
      go_ret
      exact ⟨rfl, unhide HEnd _ (unhide HF6)⟩
end Go.Proofs.YthfccidjckbcbaaDoor
