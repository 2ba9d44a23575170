import Derived.Test.YtheknbfbneghgaaGreatDoorEndLine
set_option maxHeartbeats 800000
set_option maxRecDepth 100000
namespace Go.Proofs.YtheknbfbneghgaaGreatDoor
open Go.RowKit Lx
def nmKind (t : List UInt8) : Int := if isWd t = true then 4 else 1
theorem run_le (p : UInt8 → Bool) (s : ByteArray) (k : Nat) (h : k ≤ s.size) : yL p s.toList k ≤ s.size := by
 have := re_le p s.toList k (by rw [yx]; exact h)
 rwa [yx] at this
theorem name_long (b k : Nat) (s : ByteArray) (w : World) (hs : s.size ≤ 8192) (hk : k ≤ s.size) (hc : w.cell? ⟨b, 0, none⟩ = some (.string s)) (ha : w.cell? ⟨b, 1, none⟩ = some (.int .i64 k)) (hl : 24 < yL isNam s.toList k - k) :
 Calls Tryz.prog 47 #[.pointer (some ⟨b, 0, none⟩)] w fun ev w' => ev = .returned (.iface 57 (.agg #[.int .i64 k])) ∧ w' = w := by
 have H1 := zm (run_isNam b k s w hs hk hc)
 have h2 := run_le isNam s k hk
 generalize yL isNam s.toList k = E at *
 have h3 : (24 : Int) < (E : Int) - k := om
 go_enter Tryz.func47, Tryz.ntmps47
 go_wp2_with (first | (go_at_call 43; refine (zk H1).mono ?_; rintro e w' ⟨rfl, rfl⟩))
 go_ret
 exact ⟨rfl, rfl⟩
theorem name_ok (b k : Nat) (s : ByteArray) (sv : Value) (ts : List Tok) (w : World) (h : St w b s k sv ts) (hn : ts.length ≤ 100000) (hs : s.size ≤ 8192) (hk : k ≤ s.size) (hl : yL isNam s.toList k - k ≤ 24) :
 Calls Tryz.prog 47 #[.pointer (some ⟨b, 0, none⟩)] w fun ev w' => ev = .returned .nilIface ∧ ∃ sv', St w' b s (yL isNam s.toList k) sv' (ts ++ [⟨nmKind (sub s.toList k (yL isNam s.toList k)), sub s.toList k (yL isNam s.toList k), 0, k⟩]) ∧ Below b w w' := by
 have hc : w.cell? ⟨b, 0, none⟩ = some (.string s) := zv h.blk 0
 have ha : w.cell? ⟨b, 1, none⟩ = some (.int .i64 k) := zv h.blk 1
 have H1 := zm (run_isNam b k s w hs hk hc)
 have h1 := re_ge isNam s.toList k
 have h2 := run_le isNam s k hk
 generalize yL isNam s.toList k = E at *
 have H := zm h
 have HC : Hid (b < w.heap.size) := blk_lt h.blk
 have n0 := World.new_ne w ⟨b, 0, none⟩ hc
 have n1 := World.new_ne w ⟨b, 1, none⟩ ha
 clear h
 rw [← ext_toL]
 have h3 : (E : Int) - k ≤ 24 := om
 have h4 : (k : Int) ≤ E := om
 have h5 : (E : Int) ≤ s.size := om
 have h6 : (0 : Int) ≤ k := om
 by_cases hw : isWd (s.extract k E).toList = true
 ·have HI : Hid (nmKind (s.extract k E).toList = 4) := if_pos hw
  go_enter Tryz.func47, Tryz.ntmps47
  go_wp2_with (first | (go_at_call 43; refine (zk H1).mono ?_; rintro e w' ⟨rfl, rfl⟩))
  go_region_held3 (fun w' => w'.cell? ⟨b, 0, none⟩ = some (.string s) ∧ w'.cell? ⟨b, 1, none⟩ = some (.int .i64 k)) (go_keep) (fail)
  go_wp2_with (first | (go_at_call 69; refine (IsWord_any _ _).mono ?_; rintro e w' ⟨rfl, rfl⟩))
  refine (add_any b k E s sv ts _ 0 k (s.extract k E) _ (by exact ((zk H).alloc _).heap rfl) hn).mono ?_
  rintro e w' ⟨rfl, sv', hst, hbl⟩
  have HS := zm hst
  have HBL := zm hbl
  clear hst hbl
  go_wp2
  go_ret
  exact ⟨rfl, sv', by rw [zk HI]; exact zk HS, (((Below.refl b _).alloc (Nat.le_of_lt (zk HC)) _).drew).trans (zk HBL)⟩
 ·have HI : Hid (nmKind (s.extract k E).toList = 1) := if_neg hw
  have hf : isWd (s.extract k E).toList = false := by simpa using hw
  clear hw
  go_enter Tryz.func47, Tryz.ntmps47
  go_wp2_with (first | (go_at_call 43; refine (zk H1).mono ?_; rintro e w' ⟨rfl, rfl⟩))
  go_region_held3 (fun w' => w'.cell? ⟨b, 0, none⟩ = some (.string s) ∧ w'.cell? ⟨b, 1, none⟩ = some (.int .i64 k)) (go_keep) (fail)
  go_wp2_with (first | (go_at_call 69; refine (IsWord_any _ _).mono ?_; rintro e w' ⟨rfl, rfl⟩))
  refine (add_any b k E s sv ts _ 0 k (s.extract k E) _ (by exact ((zk H).alloc _).heap rfl) hn).mono ?_
  rintro e w' ⟨rfl, sv', hst, hbl⟩
  have HS := zm hst
  have HBL := zm hbl
  clear hst hbl
  go_wp2
  go_ret
  exact ⟨rfl, sv', by rw [zk HI]; exact zk HS, (((Below.refl b _).alloc (Nat.le_of_lt (zk HC)) _).drew).trans (zk HBL)⟩
end Go.Proofs.YtheknbfbneghgaaGreatDoor
