import Derived.Test.YtheknbfbneghgaaGreatDoorPart
import Derived.Test.YtheknbfbneghgaaGreatDoorLexP
import Derived.Deep.LoopGhost
set_option maxHeartbeats 1000000
set_option maxRecDepth 100000
namespace Go.Proofs.YtheknbfbneghgaaGreatDoor
open Go.RowKit Lx
theorem beqT {c n : UInt8} (h : c = n) : ((c.toNat : Int) == (n.toNat : Int)) = true := by subst h; simp
theorem beqS {c n : UInt8} (h : ¬ c = n) : ((c.toNat : Int) == (n.toNat : Int)) = false := beq_eq_false_iff_ne.2 fun e => h (byte_of e)
theorem part_any (b k : Nat) (s : ByteArray) (sv : Value) (ts : List Tok) (w : World) (h : St w b s k sv ts) (hn : ts.length ≤ 100000) (hs : s.size ≤ 8192) (hk : k < s.size) (hg : ∀ i, i < 128 → w.cell? ⟨1, i, none⟩ = some (.int .i8 (mTab i))) :
 Calls Tryz.prog 27 #[.pointer (some ⟨b, 0, none⟩)] w (PartPost b s w (partF s.toList k ts)) := by
 unfold partF
 rw [toL_get s k hk]
 simp only
 by_cases h1 : s[k] = 32
 ·rw [if_pos (Or.inl h1)]
  exact part_sp b k s sv ts w h hs hk (beqT h1)
 ·by_cases h2 : s[k] = 9
  ·rw [if_pos (Or.inr h2)]
   exact part_tab b k s sv ts w h hs hk (beqS h1) (beqT h2)
  ·rw [if_neg (by intro e; rcases e with e | e; exact h1 e; exact h2 e)]
   by_cases h3 : s[k] = 10
   ·rw [if_pos h3]
    exact part_nl b k s sv ts w h hn hs hk (beqS h1) (beqS h2) (beqT h3)
   ·rw [if_neg h3]
    cases h4 : cmt s.toList k with
    | true =>
      rw [if_pos rfl]
      exact part_cmt b k s sv ts w h hs hk (beqS h1) (beqS h2) (beqS h3) h4
    | false =>
      rw [if_neg zK]
      cases h5 : isLet s[k] with
      | true =>
        rw [if_pos rfl]
        cases hr : nameF s.toList k ts with
        | inl p => rw [← hr]; exact part_name_no b k s sv ts w h hn hs hk (beqS h1) (beqS h2) (beqS h3) h4 h5 p hr
        | inr q => rw [← hr]; exact part_name_ok b k s sv ts w h hn hs hk (beqS h1) (beqS h2) (beqS h3) h4 h5 q hr
      | false =>
        rw [if_neg zK]
        cases h6 : isDig s[k] with
        | true =>
          rw [if_pos rfl]
          cases hr : numF s.toList k ts with
          | inl p => rw [← hr]; exact part_num_no b k s sv ts w h hn hs hk (beqS h1) (beqS h2) (beqS h3) h4 h5 h6 p hr
          | inr q => rw [← hr]; exact part_num_ok b k s sv ts w h hn hs hk (beqS h1) (beqS h2) (beqS h3) h4 h5 h6 q hr
        | false =>
          rw [if_neg zK]
          by_cases h7 : s[k] = 34
          ·rw [if_pos h7]
           cases hr : textF s.toList k ts with
           | inl p => rw [← hr]; exact part_text_no b k s sv ts w h hn hs hk (beqS h1) (beqS h2) (beqS h3) h4 h5 h6 (beqT h7) p hr
           | inr q => rw [← hr]; exact part_text_ok b k s sv ts w h hn hs hk (beqS h1) (beqS h2) (beqS h3) h4 h5 h6 (beqT h7) q hr
          ·rw [if_neg h7]
           cases hr : markF s.toList k ts with
           | inl p => rw [← hr]; exact part_mark_no b k s sv ts w h hn hs hk (beqS h1) (beqS h2) (beqS h3) h4 h5 h6 (beqS h7) hg p hr
           | inr q => rw [← hr]; exact part_mark_ok b k s sv ts w h hn hs hk (beqS h1) (beqS h2) (beqS h3) h4 h5 h6 (beqS h7) hg q hr
def allT (ts : List Tok) (n : Nat) : List Tok := endT ts n ++ [⟨6, [], 0, n⟩]
def ScanPost (b : Nat) (s : ByteArray) (w : World) (r : Sum Nat (List Tok)) (ev : Ending) (w' : World) : Prop :=
 match r with
 | .inl p => (∃ nm, ev = .returned (.iface 118 (.agg #[.string nm, .iface 57 (.agg #[.int .i64 (p : Int)])]))) ∧ Below b w w'
 | .inr ts => ev = .returned .nilIface ∧ ∃ sv', St w' b s s.size sv' (allT ts s.size) ∧ Below b w w'
theorem scan_any (b : Nat) (s : ByteArray) (sv : Value) (w : World) (h : St w b s 0 sv []) (hs : s.size ≤ 8192) (h1b : 1 < b) (hg : ∀ i, i < 128 → w.cell? ⟨1, i, none⟩ = some (.int .i8 (mTab i))) :
 Calls Tryz.prog 16 #[.pointer (some ⟨b, 0, none⟩)] w (ScanPost b s w (scanAll s.toList 0 [])) := by
 have H := zm h
 have HG := zm hg
 clear h hg
 have HZ : Hid ((ByteArray.mk #[]).toList = []) := ByteArray.toList_mk []
 go_enter Tryz.func16, Tryz.ntmps16
 go_wp2
 go_loopg [3] (s.size) (fun gk _ wr => ∃ (k : Nat) (ts : List Tok) (sv : Value), gk = s.size - k ∧ St wr b s k sv ts ∧ k ≤ s.size ∧ ts.length ≤ k ∧ Below b w wr ∧ scanAll s.toList k ts = scanAll s.toList 0 [])
 case atStart => exact ⟨0, [], sv, rfl, zk H, Nat.zero_le _, Nat.le_refl _, Below.refl _ _, rfl⟩
 case round =>
  obtain ⟨k, ts, sv1, rfl, hst, hk, hl, hb, hsc⟩ := hrel
  have c0 : wr.cell? ⟨b, 0, none⟩ = some (.string s) := zv hst.blk 0
  have c1 : wr.cell? ⟨b, 1, none⟩ = some (.int .i64 k) := zv hst.blk 1
  have HG1 : Hid (∀ i, i < 128 → wr.cell? ⟨1, i, none⟩ = some (.int .i8 (mTab i))) := fun i hi => (hb.cell (p := ⟨1, i, none⟩) h1b).trans (zk HG i hi)
  have HS := zm hst
  have HB := zm hb
  have HC := zm hsc
  clear hst hb hsc
  by_cases hlt : k < s.size
  ·have h4 : (k : Int) < s.size := om
   have hll : k < s.toList.length := by rw [yx]; exact hlt
   cases hp : partF s.toList k ts with
   | inl p =>
     have HP := zm hp
     clear hp
     go_wp2_with fail
     go_quiet (fail)
     go_wp2_with fail
     refine (part_any b k s sv1 ts _ (by exact (zk HS).heap rfl) om hs hlt (by exact zk HG1)).mono ?_
     intro e w1 hpp
     rw [zk HP] at hpp
     obtain ⟨⟨nm, rfl⟩, hbl⟩ := hpp
     have HBL := zm hbl
     clear hbl
     go_wp2
     go_ret
     rw [← zk HC, scanAll_inl _ _ _ _ hll (zk HP)]
     exact ⟨⟨nm, rfl⟩, ((zk HB).trans (yf b _ _)).trans (zk HBL)⟩
   | inr q =>
     have HP := zm hp
     clear hp
     go_wp2_with fail
     go_quiet (fail)
     go_wp2_with fail
     refine (part_any b k s sv1 ts _ (by exact (zk HS).heap rfl) om hs hlt (by exact zk HG1)).mono ?_
     intro e w1 hpp
     rw [zk HP] at hpp
     obtain ⟨rfl, sv2, hst2, hbl⟩ := hpp
     have HS2 := zm hst2
     have HBL := zm hbl
     clear hst2 hbl
     go_wp2
     go_roundg (s.size - q.1)
     case measure =>
      have := partF_prog s.toList k ts hll q.1 q.2 (zk HP)
      omega
     case rel =>
      have hpr := partF_prog s.toList k ts hll q.1 q.2 (zk HP)
      rw [yx] at hpr
      refine ⟨q.1, q.2, sv2, rfl, zk HS2, hpr.2.1, om, ((zk HB).trans (yf b _ _)).trans (zk HBL), ?_⟩
      rw [← zk HC, scanAll_inr _ _ _ _ _ hll (zk HP)]
  ·have h4 : decide ((k : Int) < s.size) = false := by simp; omega
   obtain rfl : k = s.size := om
   go_wp2_with fail
   go_quiet (fail)
   go_wp2_with fail
   refine (endLine_any b s.size s sv1 ts _ (by exact (zk HS).heap rfl) om).mono ?_
   rintro e w1 ⟨rfl, sv2, hst2, hbl⟩
   have d1 : w1.cell? ⟨b, 1, none⟩ = some (.int .i64 s.size) := zv hst2.blk 1
   have HS2 := zm hst2
   have HBL := zm hbl
   clear hst2 hbl
   go_wp2_with fail
   refine region_tail 10 zG zG ?_
   simp only [List.take_succ_cons, List.take_zero, List.drop_succ_cons, List.drop_zero]
   repeat still_step
   refine wpStill_nil ?_
   go_wp2_with fail
   refine (add_any b s.size s.size s sv2 _ 6 0 s.size ⟨#[]⟩ _ (by exact (zk HS2).heap rfl) (by have := endT_len ts s.size; rw [endL_eq]; omega)).mono ?_
   rintro e w2 ⟨rfl, sv3, hst3, hbl3⟩
   have HS3 := zm hst3
   have HBL3 := zm hbl3
   clear hst3 hbl3
   go_wp2
   go_ret
   rw [← zk HC, scanAll_end _ _ _ (by rw [yx]; exact Nat.le_refl _)]
   refine ⟨rfl, sv3, ?_, (((zk HB).trans (yf b _ _)).trans (zk HBL)).drew.trans (zk HBL3)⟩
   have := zk HS3
   rw [zk HZ] at this
   exact this
end Go.Proofs.YtheknbfbneghgaaGreatDoor
