/- The reader: lists of functions. -/
import Derived.Test.YtfkjjljhabjcjaaDoorCsa
namespace Go.Proofs.YtfkjjljhabjcjaaDoor
open Go.RowKit Go.Proofs.YtfkjjljhabjcjaaDoor.Cx
theorem funcs_r_info : (Tryd.prog.info? 38).map (fun i => (i.zero, i.size, i.bytes)) = some (some (.agg #[.string ⟨#[]⟩, .slice none 0 0, .int .i64 0, .int .i64 0, .bool false, .slice none 0 0]), 6, 88) := by kernel_rfl
set_option maxRecDepth 100000 in
set_option maxHeartbeats 4000000 in
theorem funcs_r (pe pf : Addr) (rp lo : Nat) (b : List UInt8) (a : Option Addr) (cap : Nat) (st : Option Nat) (w : World) (h : Rd pe pf w rp lo b a cap st) :
    Calls Tryd.prog 24 #[.pointer (some ⟨rp, 0, none⟩), .func (.func 25) #[.pointer (some ⟨rp, 0, none⟩)] #[]] w fun e w' => ∃ a' n cap', e = .returned (.slice a' n cap') ∧ RdP pe pf rp lo b a cap st (encL encF) (okL okF) (fun W l => l.length = n ∧ RowOf fncC 6 (fun k => w.heap.size ≤ k ∧ k < W.heap.size) W l a') w w' := by
  have HT := hide (size_r pe pf rp lo b a cap st w h)
  have hlo := h.size
  have hfew := h.few
  clear h
  obtain ⟨i1, hi, hz0, hz1, hz2⟩ := info_parts funcs_r_info
  go_enter Tryd.func24, Tryd.ntmps24
  go_wp2_with fail
  refine (unhide HT).mono ?_
  rintro e w1 ⟨N, hN, rfl, hP⟩
  have HL := hide (LI.start (C := fncC) (size := 6) (ET := 38) (enc := encF) (ok := okF) hlo hP)
  clear hP HT
  go_wp2
  go_loopw [5, 6] (fun v t wr => ∃ (m : Nat) (ao : Option Addr) (nn cp : Nat), m < 18446744073709551616 ∧ t = .int .u64 m ∧ v = .slice ao nn cp ∧ Hid (∃ st', LI fncC 6 38 encF okF pe pf rp lo b a cap st w wr N m ao nn cp st')) (fun _ t _ => (intOf t).toNat)
  case atStart => exact ⟨N, none, 0, 0, hN, rfl, rfl, HL⟩
  case round =>
    obtain ⟨m, ao, nn, cp, hm, rfl, rfl, hI⟩ := hrel
    obtain ⟨st', hI⟩ := unhide hI
    have HI := hide hI
    have hRd := hI.2.2.1
    have hsz := hI.2.1.size
    clear hI
    rcases Nat.eq_zero_or_pos m with h0 | h0
    · subst h0
      have HD := hide ((unhide HI).done fncG encF_ne fun _ _ => rfl)
      cases st' with
      | none =>
        obtain ⟨_, q, _, _, c2⟩ := hRd.st
        clear hRd HI
        go_wp2
        go_ret
        exact ⟨_, _, _, rfl, unhide HD⟩
      | some i' =>
        obtain ⟨_, _, c2⟩ := hRd.at
        clear hRd HI
        go_wp2
        go_ret
        exact ⟨_, _, _, rfl, unhide HD⟩
    · cases st' with
      | none =>
        have HD := hide ((unhide HI).done fncG encF_ne fun _ e => by cases e)
        obtain ⟨_, q, _, _, c2⟩ := hRd.st
        have hpos : (0 : Int) < (m : Int) := by omega
        clear hRd HI
        go_wp2
        go_ret
        exact ⟨_, _, _, rfl, unhide HD⟩
      | some i' =>
        obtain ⟨_, _, c2⟩ := hRd.at
        have hpos : (0 : Int) < (m : Int) := by omega
        obtain ⟨m', rfl⟩ : ∃ m', m = m' + 1 := ⟨m - 1, by omega⟩
        have HX := hide (function_r pe pf rp lo b a cap (some i') wr hRd)
        have hnn := (unhide HI).items_le encF_ne
        have hrl := hRd.rlo
        clear hRd
        go_wp2_with fail
        refine (unhide HX).mono ?_
        rintro e w2 ⟨x0, ia1, il1, ic1, x2, x3, x4, ia5, il5, ic5, rfl, hP⟩
        have hR2 : RdP pe pf rp lo b a cap (some i') encF okF (fun W y => fncC (fun k => wr.heap.size ≤ k ∧ k < W.heap.size) W y [.string x0, .slice ia1 il1 ic1, .int .i64 x2, .int .i64 x3, .bool x4, .slice ia5 il5 ic5]) wr w2 := hP
        have hFw := hP.1
        have hs2 := hFw.size
        obtain ⟨xs, hown⟩ := (unhide HI).own
        have hown2 : w2.ownsRow w.heap.size 38 6 (.slice ao nn cp) nn xs := own_blk hown fun k hk => hFw.block k (hown.lt k hk).2 (fun e => by have := (hown.lt k hk).1; omega)
        have HO := hide hown2
        have HS := hide (fun W2 g cap2 o ho hg hat => LI.step (W2 := W2) (g := g) (cap2 := cap2) (o := o) fncG encF_pf (unhide HI) rfl hR2 ho hg hat)
        clear hP hR2 hFw hown hown2 HX c2
        go_wp2_with (first | (at_builtin; refine wpList_append_lies _ rfl (.tmp 20) (.tmp 23) 25 rfl w.heap.size 38 i1 (.agg #[.string ⟨#[]⟩, .slice none 0 0, .int .i64 0, .int .i64 0, .bool false, .slice none 0 0]) 6 88 Tryd.underlying25 hi hz0 hz1 hz2 rfl (by decide) (.slice ao nn cp) nn xs rfl ((unhide HO).alloc _) ⟨w2.heap.size, 0, none⟩ 1 1 [.string x0, .slice ia1 il1 ic1, .int .i64 x2, .int .i64 x3, .bool x4, .slice ia5 il5 ic5] rfl rfl (by intro j u hj; rw [Go.WideShapes.add_plain, Nat.zero_add, World.cell?_alloc_at _ _ _ _ rfl]; simpa using hj) (by intro u hu; simp only [List.mem_cons, List.not_mem_nil, or_false] at hu; rcases hu with rfl | rfl | rfl | rfl | rfl | rfl <;> rfl) (by decide) (by unfold maxLen; omega) (by omega) (by simp; omega) _ rfl ?_; intro g cap2 w3 hown3 hgrow3 hat3 _; have HN := hide (unhide HS w3 g cap2 _ (fun xs' hx' => by rw [own_uniq hx' (unhide HO)]; exact hown3) hgrow3 (by simpa using hat3)); clear hown3 hgrow3 hat3))
        go_roundw
        case rel => exact ⟨m', _, _, _, by omega, by first | rfl | (congr 1; omega), rfl, HN⟩
        case measure => (simp [intOf] <;> omega)
end Go.Proofs.YtfkjjljhabjcjaaDoor
