import Derived.Test.YtheknbfbneghgaaGreatDoorMarkM
import Derived.Test.YtheknbfbneghgaaGreatDoorTxtP
set_option maxHeartbeats 400000
set_option maxRecDepth 100000
namespace Go.Proofs.YtheknbfbneghgaaGreatDoor
open Go.RowKit Lx
theorem number_long (b k E : Nat) (s : ByteArray) (w : World) (hs : s.size ≤ 8192) (hc : w.cell? ⟨b, 0, none⟩ = some (.string s)) (ha : w.cell? ⟨b, 1, none⟩ = some (.int .i64 k)) (hE : Hid (yL isDig s.toList k = E)) (h1 : k < E) (h2 : E ≤ s.size) (hb : 18 < E - k) :
 Calls Tryz.prog 49 #[.pointer (some ⟨b, 0, none⟩)] w fun ev w' => ev = .returned (.iface 57 (.agg #[.int .i64 k])) ∧ ∃ n, w' = w.drewN n := by
 have H1 := zm (run_isDig b k s w hs om hc)
 rw [zk hE] at H1
 have h3 : (k : Int) ≤ E := om
 have h4 : (E : Int) ≤ s.size := om
 have h5 : (0 : Int) ≤ k := om
 have hz : (s.extract k E).size = E - k := ext_size s k E h2
 have h6 : (18 : Int) < ((E - k : Nat) : Int) := om
 go_enter Tryz.func49, Tryz.ntmps49
 go_wp2_with (first | (go_at_call 43; refine (zk H1).mono ?_; rintro e w' ⟨rfl, rfl⟩))
 go_quiet (fail)
 go_wp2_with fail
 go_ret
 exact ⟨rfl, _, rfl⟩
theorem number_zero (b k E : Nat) (s : ByteArray) (w : World) (hs : s.size ≤ 8192) (hc : w.cell? ⟨b, 0, none⟩ = some (.string s)) (ha : w.cell? ⟨b, 1, none⟩ = some (.int .i64 k)) (hE : Hid (yL isDig s.toList k = E)) (h1 : 1 < E - k) (h2 : E ≤ s.size) (hb : E - k ≤ 18)
 (h0 : 0 < (s.extract k E).size) (hd : (((s.extract k E)[0].toNat : Int) == 48) = true) :
 Calls Tryz.prog 49 #[.pointer (some ⟨b, 0, none⟩)] w fun ev w' => ev = .returned (.iface 57 (.agg #[.int .i64 k])) ∧ ∃ n, w' = w.drewN n := by
 have H1 := zm (run_isDig b k s w hs om hc)
 rw [zk hE] at H1
 have h3 : (k : Int) ≤ E := om
 have h4 : (E : Int) ≤ s.size := om
 have h5 : (0 : Int) ≤ k := om
 have hz : (s.extract k E).size = E - k := ext_size s k E h2
 have h6 : ((E - k : Nat) : Int) ≤ 18 := om
 have h7 : 1 < ((E - k : Nat) : Int) := om
 have h8 : 0 < E - k := om
 go_enter Tryz.func49, Tryz.ntmps49
 go_wp2_with (first | (go_at_call 43; refine (zk H1).mono ?_; rintro e w' ⟨rfl, rfl⟩))
 go_quiet (fail)
 go_wp2_with fail
 go_ret
 exact ⟨rfl, _, rfl⟩
theorem number_let_one (b k E : Nat) (s : ByteArray) (w : World) (hs : s.size ≤ 8192) (hc : w.cell? ⟨b, 0, none⟩ = some (.string s)) (ha : w.cell? ⟨b, 1, none⟩ = some (.int .i64 k)) (hE : Hid (yL isDig s.toList k = E)) (h2 : E ≤ s.size) (h1 : E - k = 1) (hlt : E < s.size) (hl : isLet s[E] = true) :
 Calls Tryz.prog 49 #[.pointer (some ⟨b, 0, none⟩)] w fun ev w' => ev = .returned (.iface 57 (.agg #[.int .i64 E])) ∧ ∃ n, w' = w.drewN n := by
 have H1 := zm (run_isDig b k s w hs om hc)
 rw [zk hE] at H1
 have h3 : (k : Int) ≤ E := om
 have h4 : (E : Int) ≤ s.size := om
 have h5 : (0 : Int) ≤ k := om
 have hz : (s.extract k E).size = E - k := ext_size s k E h2
 have h6 : ((E - k : Nat) : Int) ≤ 18 := om
 have h8 : 0 < E - k := om
 have h7 : ((E - k : Nat) : Int) ≤ 1 := om
 have h9 : (E : Int) < s.size := om
 go_enter Tryz.func49, Tryz.ntmps49
 go_wp2_with (first | (go_at_call 43; refine (zk H1).mono ?_; rintro e w' ⟨rfl, rfl⟩))
 go_quiet (fail)
 go_wp2_with (first | (go_at_call 45; refine (isLetter_b _ _).mono ?_; rintro e w' ⟨rfl, rfl⟩))
 go_ret
 exact ⟨rfl, _, rfl⟩
theorem number_let_more (b k E : Nat) (s : ByteArray) (w : World) (hs : s.size ≤ 8192) (hc : w.cell? ⟨b, 0, none⟩ = some (.string s)) (ha : w.cell? ⟨b, 1, none⟩ = some (.int .i64 k)) (hE : Hid (yL isDig s.toList k = E)) (h2 : E ≤ s.size) (h1 : 1 < E - k) (hb : E - k ≤ 18) (h0 : 0 < (s.extract k E).size) (hd : (((s.extract k E)[0].toNat : Int) == 48) = false) (hlt : E < s.size) (hl : isLet s[E] = true) :
 Calls Tryz.prog 49 #[.pointer (some ⟨b, 0, none⟩)] w fun ev w' => ev = .returned (.iface 57 (.agg #[.int .i64 E])) ∧ ∃ n, w' = w.drewN n := by
 have H1 := zm (run_isDig b k s w hs om hc)
 rw [zk hE] at H1
 have h3 : (k : Int) ≤ E := om
 have h4 : (E : Int) ≤ s.size := om
 have h5 : (0 : Int) ≤ k := om
 have hz : (s.extract k E).size = E - k := ext_size s k E h2
 have h6 : ((E - k : Nat) : Int) ≤ 18 := om
 have h8 : 0 < E - k := om
 have h7 : 1 < ((E - k : Nat) : Int) := om
 have h9 : (E : Int) < s.size := om
 go_enter Tryz.func49, Tryz.ntmps49
 go_wp2_with (first | (go_at_call 43; refine (zk H1).mono ?_; rintro e w' ⟨rfl, rfl⟩))
 go_quiet (fail)
 go_wp2_with (first | (go_at_call 45; refine (isLetter_b _ _).mono ?_; rintro e w' ⟨rfl, rfl⟩))
 go_ret
 exact ⟨rfl, _, rfl⟩
end Go.Proofs.YtheknbfbneghgaaGreatDoor
