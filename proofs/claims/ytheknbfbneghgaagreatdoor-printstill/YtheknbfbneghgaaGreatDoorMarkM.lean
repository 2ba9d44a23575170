import Derived.Test.YtheknbfbneghgaaGreatDoorName
import Derived.StillTailTactics
set_option maxHeartbeats 800000
set_option maxRecDepth 100000
namespace Go.Proofs.YtheknbfbneghgaaGreatDoor
open Go.RowKit Lx
theorem region_tail {P : Program} {id : Nat} {Q : Exit → Act → World → Prop} {a : Act} {w : World} {l : List Oper} (n : Nat) (hm : P.follows .mixedOrders = true) (hB : Region.lexTailB .any l.toArray n = true)
 (h : wpStill P l.toArray w.drew (fun a' => wpList P l.toArray Q (l.drop n) a' w.drew) (l.take n) a) : (Code.region id l.toArray true).wp P Q a w := wp_region_still_tail n hm hB h
theorem ext_drop (s : ByteArray) (k : Nat) : (s.extract k s.size).toList = s.toList.drop k := by
 rw [ext_toL, sub, List.take_of_length_le]
 rw [List.length_drop, yx]; omega
theorem ext_size (s : ByteArray) (a b : Nat) (h : b ≤ s.size) : (s.extract a b).size = b - a := by
 rw [← yx, ext_toL, sub, List.length_take, List.length_drop, yx]; omega
theorem add_int (b k e : Nat) (ei : Int) (he : ei = (e : Int)) (s : ByteArray) (sv : Value) (ts : List Tok) (kd nm ps : Int) (x : ByteArray) (w : World) (h : St w b s k sv ts) (hn : ts.length ≤ 100000) :
 Calls Tryz.prog 29 #[.pointer (some ⟨b, 0, none⟩), .agg #[.int .i64 kd, .string x, .int .i64 nm, .int .i64 ps], .int .i64 ei] w fun ev w' => ev = .returned (.tuple #[]) ∧
  ∃ sv', St w' b s e sv' (ts ++ [⟨kd, x.toList, nm, ps⟩]) ∧ Below b w w' := by
 subst he; exact add_any b k e s sv ts kd nm ps x w h hn
theorem mlen_le (l : List UInt8) : mLen l ≤ 2 := by
 unfold mLen
 split
 ·omega
 ·split
  ·split
   ·omega
   ·split <;> omega
  ·split <;> omega
theorem mlen_len (l : List UInt8) : mLen l ≤ l.length := by
 unfold mLen
 split
 ·omega
 ·rename_i c r
  split
  ·split
   ·rename_i h
    have := pr_len _ h
    rw [List.length_take] at this
    omega
   ·split <;> simp
  ·split <;> simp
theorem mark_no (b k : Nat) (s : ByteArray) (w : World) (hs : s.size ≤ 8192) (hk : k < s.size) (hc : w.cell? ⟨b, 0, none⟩ = some (.string s)) (ha : w.cell? ⟨b, 1, none⟩ = some (.int .i64 k))
 (HG : Hid (∀ i, i < 128 → w.cell? ⟨1, i, none⟩ = some (.int .i8 (mTab i)))) (hm : mLen (s.toList.drop k) = 0) :
 Calls Tryz.prog 51 #[.pointer (some ⟨b, 0, none⟩)] w fun ev w' => ev = .returned (.iface 57 (.agg #[.int .i64 k])) ∧ ∃ n, w' = w.drewN n := by
 have H1 := zm (fun X hg => markLength_any (s.extract k s.size) X (by rw [ext_size _ _ _ lr]; omega) (by rw [ext_size _ _ _ lr]; omega) hg)
 rw [ext_drop, hm] at H1
 clear hm
 have h5 : (k : Int) ≤ s.size := om
 have h6 : (0 : Int) ≤ k := om
 go_enter Tryz.func51, Tryz.ntmps51
 go_wp2
 go_quiet ((go_at_call 72; exact Calls.quiet_of_same (zk H1 _ (zk HG))))
 go_wp2
 go_ret
 exact ⟨rfl, _, rfl⟩
theorem mark_ok (b k m : Nat) (s : ByteArray) (sv : Value) (ts : List Tok) (w : World) (h : St w b s k sv ts) (hn : ts.length ≤ 100000) (hs : s.size ≤ 8192) (hk : k < s.size)
 (HG : Hid (∀ i, i < 128 → w.cell? ⟨1, i, none⟩ = some (.int .i8 (mTab i)))) (hm : mLen (s.toList.drop k) = m) (hm0 : 0 < m) :
 Calls Tryz.prog 51 #[.pointer (some ⟨b, 0, none⟩)] w fun ev w' => ev = .returned .nilIface ∧ ∃ sv', St w' b s (k + m) sv' (ts ++ [⟨5, sub s.toList k (k + m), 0, k⟩]) ∧ Below b w w' := by
 have hc : w.cell? ⟨b, 0, none⟩ = some (.string s) := zv h.blk 0
 have ha : w.cell? ⟨b, 1, none⟩ = some (.int .i64 k) := zv h.blk 1
 have H1 := zm (fun X hg => markLength_any (s.extract k s.size) X (by rw [ext_size _ _ _ lr]; omega) (by rw [ext_size _ _ _ lr]; omega) hg)
 rw [ext_drop, hm] at H1
 have h2 : k + m ≤ s.size := by
  have := mlen_len (s.toList.drop k)
  rw [hm, List.length_drop, yx] at this
  omega
 have h7 : m ≤ 2 := by rw [← hm]; exact mlen_le _
 clear hm
 have H := zm h
 have HC : Hid (b < w.heap.size) := blk_lt h.blk
 clear h
 rw [← ext_toL]
 have h5 : (k : Int) ≤ s.size := om
 have h6 : (0 : Int) ≤ k := om
 have h8 : ((m : Int) == 0) = false := beq_eq_false_iff_ne.2 om
 have h9 : (k : Int) + m ≤ s.size := om
 have hx : IntKind.i64.wrap ((k : Int) + m) = (k : Int) + m := by rw [IntKind.wrap_i64]; omega
 have hy : (k : Int) ≤ (k : Int) + m := om
 have ht : ((k : Int) + m).toNat = k + m := om
 go_enter Tryz.func51, Tryz.ntmps51
 go_wp2
 go_quiet ((go_at_call 72; exact Calls.quiet_of_same (zk H1 _ (zk HG))))
 go_wp2
 refine region_tail 27 zG zG ?_
 simp only [List.take_succ_cons, List.take_zero, List.drop_succ_cons, List.drop_zero]
 repeat still_step
 refine wpStill_nil ?_
 go_wp2_with fail
 refine (add_int b k (k + m) _ om s sv ts 5 0 k (s.extract k (k + m)) _ zW hn).mono ?_
 rintro e w' ⟨rfl, sv', hst, hbl⟩
 have HS := zm hst
 have HBL := zm hbl
 clear hst hbl
 go_wp2
 go_ret
 exact ⟨rfl, sv', zk HS, (below_drewN (Below.refl b w) _).trans (zk HBL)⟩
end Go.Proofs.YtheknbfbneghgaaGreatDoor
