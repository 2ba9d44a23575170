/- The reader: lists of numbers, texts, lists of flags. -/
import Derived.Test.YtfkjjljhabjcjaaDoorCr6
namespace Go.Proofs.YtfkjjljhabjcjaaDoor
open Go.RowKit Go.Proofs.YtfkjjljhabjcjaaDoor.Cx
theorem resOk {α : Type} {b : List UInt8} {st st' : Option Nat} {enc : α → List UInt8} {ok G G' : α → Prop} (h : Res b st st' enc ok G) (hg : ∀ x, ok x → G x → G' x) : Res b st st' enc ok G' := by
  cases st <;> cases st' <;> simp only [Res] at h ⊢
  · exact h
  · obtain ⟨x, h1, h2, h3, h4⟩ := h
    exact ⟨x, h1, h2, h3, hg x h1 h4⟩
theorem ints_r_info : (Tryd.prog.info? 3).map (fun i => (i.zero, i.size, i.bytes)) = some (some (.int .i64 0), 1, 8) := by kernel_rfl
set_option maxRecDepth 100000 in
set_option maxHeartbeats 4000000 in
theorem ints_r (pe pf : Addr) (rp lo : Nat) (b : List UInt8) (a : Option Addr) (cap : Nat) (st : Option Nat) (w : World) (h : Rd pe pf w rp lo b a cap st) :
    Calls Tryd.prog 49 #[.pointer (some ⟨rp, 0, none⟩), .func (.func 26) #[.pointer (some ⟨rp, 0, none⟩)] #[]] w fun e w' => ∃ a' n cap', e = .returned (.slice a' n cap') ∧ RdP pe pf rp lo b a cap st (encL encN) (okL okN) (fun W l => l.length = n ∧ RowOf numC 1 (fun k => w.heap.size ≤ k ∧ k < W.heap.size) W l a') w w' := by
  have HT := hide (size_r pe pf rp lo b a cap st w h)
  have hlo := h.size
  have hfew := h.few
  clear h
  obtain ⟨i1, hi, hz0, hz1, hz2⟩ := info_parts ints_r_info
  go_enter Tryd.func49, Tryd.ntmps49
  go_wp2_with fail
  refine (unhide HT).mono ?_
  rintro e w1 ⟨N, hN, rfl, hP⟩
  have HL := hide (LI.start (C := numC) (size := 1) (ET := 3) (enc := encN) (ok := okN) hlo hP)
  clear hP HT
  go_wp2
  go_loopw [5, 6] (fun v t wr => ∃ (m : Nat) (ao : Option Addr) (nn cp : Nat), m < 18446744073709551616 ∧ t = .int .u64 m ∧ v = .slice ao nn cp ∧ Hid (∃ st', LI numC 1 3 encN okN pe pf rp lo b a cap st w wr N m ao nn cp st')) (fun _ t _ => (intOf t).toNat)
  case atStart => exact ⟨N, none, 0, 0, hN, rfl, rfl, HL⟩
  case round =>
    obtain ⟨m, ao, nn, cp, hm, rfl, rfl, hI⟩ := hrel
    obtain ⟨st', hI⟩ := unhide hI
    have HI := hide hI
    have hRd := hI.2.2.1
    have hsz := hI.2.1.size
    clear hI
    rcases Nat.eq_zero_or_pos m with h0 | h0
    · subst h0
      have HD := hide ((unhide HI).done numG encN_ne fun _ _ => rfl)
      cases st' with
      | none =>
        obtain ⟨_, q, _, _, c2⟩ := hRd.st
        clear hRd HI
        go_wp2
        go_ret
        exact ⟨_, _, _, rfl, unhide HD⟩
      | some i' =>
        obtain ⟨_, _, c2⟩ := hRd.at
        clear hRd HI
        go_wp2
        go_ret
        exact ⟨_, _, _, rfl, unhide HD⟩
    · cases st' with
      | none =>
        have HD := hide ((unhide HI).done numG encN_ne fun _ e => by cases e)
        obtain ⟨_, q, _, _, c2⟩ := hRd.st
        have hpos : (0 : Int) < (m : Int) := by omega
        clear hRd HI
        go_wp2
        go_ret
        exact ⟨_, _, _, rfl, unhide HD⟩
      | some i' =>
        obtain ⟨_, _, c2⟩ := hRd.at
        have hpos : (0 : Int) < (m : Int) := by omega
        obtain ⟨m', rfl⟩ : ∃ m', m = m' + 1 := ⟨m - 1, by omega⟩
        have HX := hide (number_r pe pf rp lo b a cap (some i') wr hRd)
        have hnn := (unhide HI).items_le encN_ne
        have hrl := hRd.rlo
        clear hRd
        go_wp2_with fail
        refine (unhide HX).mono ?_
        rintro e w2 ⟨x, rfl, hP⟩
        have hR2 : RdP pe pf rp lo b a cap (some i') encN okN (fun W y => numC (fun k => wr.heap.size ≤ k ∧ k < W.heap.size) W y [.int .i64 x]) wr w2 := ⟨hP.1, hP.2.choose, hP.2.choose_spec.1, resOk hP.2.choose_spec.2 fun y ho hy => ⟨ho, by rw [hy]⟩⟩
        have hFw := hP.1
        have hs2 := hFw.size
        obtain ⟨xs, hown⟩ := (unhide HI).own
        have hown2 : w2.ownsRow w.heap.size 3 1 (.slice ao nn cp) nn xs := own_blk hown fun k hk => hFw.block k (hown.lt k hk).2 (fun e => by have := (hown.lt k hk).1; omega)
        have HO := hide hown2
        have HS := hide (fun W2 g cap2 o ho hg hat => LI.step (W2 := W2) (g := g) (cap2 := cap2) (o := o) numG encN_pf (unhide HI) rfl hR2 ho hg hat)
        clear hP hR2 hFw hown hown2 HX c2
        go_wp2_with (first | (at_builtin; refine wpList_append_lies _ rfl (.tmp 20) (.tmp 23) 41 rfl w.heap.size 3 i1 (.int .i64 0) 1 8 Tryd.underlying41 hi hz0 hz1 hz2 rfl (by decide) (.slice ao nn cp) nn xs rfl ((unhide HO).alloc _) ⟨w2.heap.size, 0, none⟩ 1 1 [.int .i64 x] rfl rfl (by intro j u hj; rw [Go.WideShapes.add_plain, Nat.zero_add, World.cell?_alloc_at _ _ _ _ rfl]; simpa using hj) (by intro u hu; simp only [List.mem_cons, List.not_mem_nil, or_false] at hu; subst hu; rfl) (by decide) (by unfold maxLen; omega) (by omega) (by simp; omega) _ rfl ?_; intro g cap2 w3 hown3 hgrow3 hat3 _; have HN := hide (unhide HS w3 g cap2 _ (fun xs' hx' => by rw [own_uniq hx' (unhide HO)]; exact hown3) hgrow3 (by simpa using hat3)); clear hown3 hgrow3 hat3))
        go_roundw
        case rel => exact ⟨m', _, _, _, by omega, by first | rfl | (congr 1; omega), rfl, HN⟩
        case measure => (simp [intOf] <;> omega)
theorem texts_r_info : (Tryd.prog.info? 9).map (fun i => (i.zero, i.size, i.bytes)) = some (some (.string ⟨#[]⟩), 1, 16) := by kernel_rfl
set_option maxRecDepth 100000 in
set_option maxHeartbeats 4000000 in
theorem texts_r (pe pf : Addr) (rp lo : Nat) (b : List UInt8) (a : Option Addr) (cap : Nat) (st : Option Nat) (w : World) (h : Rd pe pf w rp lo b a cap st) :
    Calls Tryd.prog 20 #[.pointer (some ⟨rp, 0, none⟩), .func (.func 21) #[.pointer (some ⟨rp, 0, none⟩)] #[]] w fun e w' => ∃ a' n cap', e = .returned (.slice a' n cap') ∧ RdP pe pf rp lo b a cap st (encL encT) (okL okT) (fun W l => l.length = n ∧ RowOf textC 1 (fun k => w.heap.size ≤ k ∧ k < W.heap.size) W l a') w w' := by
  have HT := hide (size_r pe pf rp lo b a cap st w h)
  have hlo := h.size
  have hfew := h.few
  clear h
  obtain ⟨i1, hi, hz0, hz1, hz2⟩ := info_parts texts_r_info
  go_enter Tryd.func20, Tryd.ntmps20
  go_wp2_with fail
  refine (unhide HT).mono ?_
  rintro e w1 ⟨N, hN, rfl, hP⟩
  have HL := hide (LI.start (C := textC) (size := 1) (ET := 9) (enc := encT) (ok := okT) hlo hP)
  clear hP HT
  go_wp2
  go_loopw [5, 6] (fun v t wr => ∃ (m : Nat) (ao : Option Addr) (nn cp : Nat), m < 18446744073709551616 ∧ t = .int .u64 m ∧ v = .slice ao nn cp ∧ Hid (∃ st', LI textC 1 9 encT okT pe pf rp lo b a cap st w wr N m ao nn cp st')) (fun _ t _ => (intOf t).toNat)
  case atStart => exact ⟨N, none, 0, 0, hN, rfl, rfl, HL⟩
  case round =>
    obtain ⟨m, ao, nn, cp, hm, rfl, rfl, hI⟩ := hrel
    obtain ⟨st', hI⟩ := unhide hI
    have HI := hide hI
    have hRd := hI.2.2.1
    have hsz := hI.2.1.size
    clear hI
    rcases Nat.eq_zero_or_pos m with h0 | h0
    · subst h0
      have HD := hide ((unhide HI).done textG encT_ne fun _ _ => rfl)
      cases st' with
      | none =>
        obtain ⟨_, q, _, _, c2⟩ := hRd.st
        clear hRd HI
        go_wp2
        go_ret
        exact ⟨_, _, _, rfl, unhide HD⟩
      | some i' =>
        obtain ⟨_, _, c2⟩ := hRd.at
        clear hRd HI
        go_wp2
        go_ret
        exact ⟨_, _, _, rfl, unhide HD⟩
    · cases st' with
      | none =>
        have HD := hide ((unhide HI).done textG encT_ne fun _ e => by cases e)
        obtain ⟨_, q, _, _, c2⟩ := hRd.st
        have hpos : (0 : Int) < (m : Int) := by omega
        clear hRd HI
        go_wp2
        go_ret
        exact ⟨_, _, _, rfl, unhide HD⟩
      | some i' =>
        obtain ⟨_, _, c2⟩ := hRd.at
        have hpos : (0 : Int) < (m : Int) := by omega
        obtain ⟨m', rfl⟩ : ∃ m', m = m' + 1 := ⟨m - 1, by omega⟩
        have HX := hide (text_r pe pf rp lo b a cap (some i') wr hRd)
        have hnn := (unhide HI).items_le encT_ne
        have hrl := hRd.rlo
        clear hRd
        go_wp2_with fail
        refine (unhide HX).mono ?_
        rintro e w2 ⟨x, rfl, hP⟩
        have hR2 : RdP pe pf rp lo b a cap (some i') encT okT (fun W y => textC (fun k => wr.heap.size ≤ k ∧ k < W.heap.size) W y [.string x]) wr w2 := ⟨hP.1, hP.2.choose, hP.2.choose_spec.1, resOk hP.2.choose_spec.2 fun y ho hy => ⟨by rw [hy.1]; exact hy.2, by rw [hy.1]⟩⟩
        have hFw := hP.1
        have hs2 := hFw.size
        obtain ⟨xs, hown⟩ := (unhide HI).own
        have hown2 : w2.ownsRow w.heap.size 9 1 (.slice ao nn cp) nn xs := own_blk hown fun k hk => hFw.block k (hown.lt k hk).2 (fun e => by have := (hown.lt k hk).1; omega)
        have HO := hide hown2
        have HS := hide (fun W2 g cap2 o ho hg hat => LI.step (W2 := W2) (g := g) (cap2 := cap2) (o := o) textG encT_pf (unhide HI) rfl hR2 ho hg hat)
        clear hP hR2 hFw hown hown2 HX c2
        go_wp2_with (first | (at_builtin; refine wpList_append_lies _ rfl (.tmp 20) (.tmp 23) 22 rfl w.heap.size 9 i1 (.string ⟨#[]⟩) 1 16 Tryd.underlying22 hi hz0 hz1 hz2 rfl (by decide) (.slice ao nn cp) nn xs rfl ((unhide HO).alloc _) ⟨w2.heap.size, 0, none⟩ 1 1 [.string x] rfl rfl (by intro j u hj; rw [Go.WideShapes.add_plain, Nat.zero_add, World.cell?_alloc_at _ _ _ _ rfl]; simpa using hj) (by intro u hu; simp only [List.mem_cons, List.not_mem_nil, or_false] at hu; subst hu; rfl) (by decide) (by unfold maxLen; omega) (by omega) (by simp; omega) _ rfl ?_; intro g cap2 w3 hown3 hgrow3 hat3 _; have HN := hide (unhide HS w3 g cap2 _ (fun xs' hx' => by rw [own_uniq hx' (unhide HO)]; exact hown3) hgrow3 (by simpa using hat3)); clear hown3 hgrow3 hat3))
        go_roundw
        case rel => exact ⟨m', _, _, _, by omega, by first | rfl | (congr 1; omega), rfl, HN⟩
        case measure => (simp [intOf] <;> omega)
set_option maxRecDepth 100000 in
set_option maxHeartbeats 1000000 in
theorem flags_r (pe pf : Addr) (rp lo : Nat) (b : List UInt8) (a : Option Addr) (cap : Nat) (st : Option Nat) (w : World) (h : Rd pe pf w rp lo b a cap st) :
    Calls Tryd.prog 22 #[.pointer (some ⟨rp, 0, none⟩)] w fun e w' => ∃ a' n cap', e = .returned (.slice a' n cap') ∧ RdP pe pf rp lo b a cap st (encL encB) (okL okB) (fun W l => l.length = n ∧ RowOf flagC 1 (fun k => w.heap.size ≤ k ∧ k < W.heap.size) W l a') w w' := by
  have HC := hide (bools_r pe pf rp lo b a cap st w h)
  clear h
  go_enter Tryd.func22, Tryd.ntmps22
  go_wp2_with fail
  refine (unhide HC).mono ?_
  rintro e w1 ⟨a', n, cap', rfl, hP⟩
  have HP := hide hP
  clear hP HC
  go_wp2
  go_ret
  exact ⟨_, _, _, rfl, unhide HP⟩
theorem structs_r_info : (Tryd.prog.info? 23).map (fun i => (i.zero, i.size, i.bytes)) = some (some (.slice none 0 0), 1, 24) := by kernel_rfl
set_option maxRecDepth 100000 in
set_option maxHeartbeats 4000000 in
theorem structs_r (pe pf : Addr) (rp lo : Nat) (b : List UInt8) (a : Option Addr) (cap : Nat) (st : Option Nat) (w : World) (h : Rd pe pf w rp lo b a cap st) :
    Calls Tryd.prog 23 #[.pointer (some ⟨rp, 0, none⟩), .func (.func 22) #[.pointer (some ⟨rp, 0, none⟩)] #[]] w fun e w' => ∃ a' n cap', e = .returned (.slice a' n cap') ∧ RdP pe pf rp lo b a cap st (encL (encL encB)) (okL (okL okB)) (fun W l => l.length = n ∧ RowOf (listC flagC 1) 1 (fun k => w.heap.size ≤ k ∧ k < W.heap.size) W l a') w w' := by
  have HT := hide (size_r pe pf rp lo b a cap st w h)
  have hlo := h.size
  have hfew := h.few
  clear h
  obtain ⟨i1, hi, hz0, hz1, hz2⟩ := info_parts structs_r_info
  go_enter Tryd.func23, Tryd.ntmps23
  go_wp2_with fail
  refine (unhide HT).mono ?_
  rintro e w1 ⟨N, hN, rfl, hP⟩
  have HL := hide (LI.start (C := (listC flagC 1)) (size := 1) (ET := 23) (enc := (encL encB)) (ok := (okL okB)) hlo hP)
  clear hP HT
  go_wp2
  go_loopw [5, 6] (fun v t wr => ∃ (m : Nat) (ao : Option Addr) (nn cp : Nat), m < 18446744073709551616 ∧ t = .int .u64 m ∧ v = .slice ao nn cp ∧ Hid (∃ st', LI (listC flagC 1) 1 23 (encL encB) (okL okB) pe pf rp lo b a cap st w wr N m ao nn cp st')) (fun _ t _ => (intOf t).toNat)
  case atStart => exact ⟨N, none, 0, 0, hN, rfl, rfl, HL⟩
  case round =>
    obtain ⟨m, ao, nn, cp, hm, rfl, rfl, hI⟩ := hrel
    obtain ⟨st', hI⟩ := unhide hI
    have HI := hide hI
    have hRd := hI.2.2.1
    have hsz := hI.2.1.size
    clear hI
    rcases Nat.eq_zero_or_pos m with h0 | h0
    · subst h0
      have HD := hide ((unhide HI).done (listG flagG 1) (encL_ne encB) fun _ _ => rfl)
      cases st' with
      | none =>
        obtain ⟨_, q, _, _, c2⟩ := hRd.st
        clear hRd HI
        go_wp2
        go_ret
        exact ⟨_, _, _, rfl, unhide HD⟩
      | some i' =>
        obtain ⟨_, _, c2⟩ := hRd.at
        clear hRd HI
        go_wp2
        go_ret
        exact ⟨_, _, _, rfl, unhide HD⟩
    · cases st' with
      | none =>
        have HD := hide ((unhide HI).done (listG flagG 1) (encL_ne encB) fun _ e => by cases e)
        obtain ⟨_, q, _, _, c2⟩ := hRd.st
        have hpos : (0 : Int) < (m : Int) := by omega
        clear hRd HI
        go_wp2
        go_ret
        exact ⟨_, _, _, rfl, unhide HD⟩
      | some i' =>
        obtain ⟨_, _, c2⟩ := hRd.at
        have hpos : (0 : Int) < (m : Int) := by omega
        obtain ⟨m', rfl⟩ : ∃ m', m = m' + 1 := ⟨m - 1, by omega⟩
        have HX := hide (flags_r pe pf rp lo b a cap (some i') wr hRd)
        have hnn := (unhide HI).items_le (encL_ne encB)
        have hrl := hRd.rlo
        clear hRd
        go_wp2_with fail
        refine (unhide HX).mono ?_
        rintro e w2 ⟨ia, il, ic, rfl, hP⟩
        have hR2 : RdP pe pf rp lo b a cap (some i') (encL encB) (okL okB) (fun W y => (listC flagC 1) (fun k => wr.heap.size ≤ k ∧ k < W.heap.size) W y [.slice ia il ic]) wr w2 := ⟨hP.1, hP.2.choose, hP.2.choose_spec.1, resOk hP.2.choose_spec.2 fun y ho hy => ⟨ia, ic, by rw [hy.1], hy.2⟩⟩
        have hFw := hP.1
        have hs2 := hFw.size
        obtain ⟨xs, hown⟩ := (unhide HI).own
        have hown2 : w2.ownsRow w.heap.size 23 1 (.slice ao nn cp) nn xs := own_blk hown fun k hk => hFw.block k (hown.lt k hk).2 (fun e => by have := (hown.lt k hk).1; omega)
        have HO := hide hown2
        have HS := hide (fun W2 g cap2 o ho hg hat => LI.step (W2 := W2) (g := g) (cap2 := cap2) (o := o) (listG flagG 1) (encL_pf encB_pf) (unhide HI) rfl hR2 ho hg hat)
        clear hP hR2 hFw hown hown2 HX c2
        go_wp2_with (first | (at_builtin; refine wpList_append_lies _ rfl (.tmp 20) (.tmp 23) 24 rfl w.heap.size 23 i1 (.slice none 0 0) 1 24 Tryd.underlying24 hi hz0 hz1 hz2 rfl (by decide) (.slice ao nn cp) nn xs rfl ((unhide HO).alloc _) ⟨w2.heap.size, 0, none⟩ 1 1 [.slice ia il ic] rfl rfl (by intro j u hj; rw [Go.WideShapes.add_plain, Nat.zero_add, World.cell?_alloc_at _ _ _ _ rfl]; simpa using hj) (by intro u hu; simp only [List.mem_cons, List.not_mem_nil, or_false] at hu; subst hu; rfl) (by decide) (by unfold maxLen; omega) (by omega) (by simp; omega) _ rfl ?_; intro g cap2 w3 hown3 hgrow3 hat3 _; have HN := hide (unhide HS w3 g cap2 _ (fun xs' hx' => by rw [own_uniq hx' (unhide HO)]; exact hown3) hgrow3 (by simpa using hat3)); clear hown3 hgrow3 hat3))
        go_roundw
        case rel => exact ⟨m', _, _, _, by omega, by first | rfl | (congr 1; omega), rfl, HN⟩
        case measure => (simp [intOf] <;> omega)
end Go.Proofs.YtfkjjljhabjcjaaDoor
