/- The reader: lists of flags. -/
import Derived.Test.YtfkjjljhabjcjaaDoorCr5
namespace Go.Proofs.YtfkjjljhabjcjaaDoor
open Go.RowKit Go.Proofs.YtfkjjljhabjcjaaDoor.Cx
theorem encB_ne (x : Bool) : 0 < (encB x).length := Nat.one_pos
theorem encN_ne (x : Int) : 0 < (encN x).length := sz_pos _
theorem encL_ne {α : Type} (f : α → List UInt8) (l : List α) : 0 < (encL f l).length := by rw [encL, List.length_append]; have := sz_pos l.length; omega
theorem encT_ne (x : ByteArray) : 0 < (encT x).length := by rw [encT, List.length_append]; have := sz_pos x.size; omega
theorem encI_ne (x : Ins) : 0 < (encI x).length := by show 0 < (encN x.op ++ _).length; rw [List.length_append]; have := encN_ne x.op; omega
theorem encF_ne (x : Fnc) : 0 < (encF x).length := by show 0 < (encT x.name ++ _).length; rw [List.length_append]; have := encT_ne x.name; omega
theorem own_uniq {w : World} {base e size n : Nat} {v : Value} {xs ys : List Value} (h : w.ownsRow base e size v n xs) (k : w.ownsRow base e size v n ys) : xs = ys := by
  rcases h.2 with ⟨rfl, h2⟩ | ⟨g, cap, cur, rfl, _, h3, _, _, _, h4⟩
  · have h1 := h.1
    have k1 := k.1
    rw [h2, Nat.zero_mul] at h1 k1
    rw [List.length_eq_zero_iff.1 h1, List.length_eq_zero_iff.1 k1]
  · rcases k.2 with ⟨k2, _⟩ | ⟨g', cap', cur', k2, _, k3, _, _, _, k4⟩
    · cases k2
    · cases k2
      rw [h3] at k3
      cases k3
      rw [← h4, ← k4]
theorem bools_r_info : (Tryd.prog.info? 4).map (fun i => (i.zero, i.size, i.bytes)) = some (some (.bool false), 1, 1) := by kernel_rfl
set_option maxRecDepth 100000 in
set_option maxHeartbeats 4000000 in
theorem bools_r (pe pf : Addr) (rp lo : Nat) (b : List UInt8) (a : Option Addr) (cap : Nat) (st : Option Nat) (w : World) (h : Rd pe pf w rp lo b a cap st) :
    Calls Tryd.prog 40 #[.pointer (some ⟨rp, 0, none⟩), .func (.func 41) #[.pointer (some ⟨rp, 0, none⟩)] #[]] w fun e w' => ∃ a' n cap', e = .returned (.slice a' n cap') ∧ RdP pe pf rp lo b a cap st (encL encB) (okL okB) (fun W l => l.length = n ∧ RowOf flagC 1 (fun k => w.heap.size ≤ k ∧ k < W.heap.size) W l a') w w' := by
  have HT := hide (size_r pe pf rp lo b a cap st w h)
  have hlo := h.size
  have hfew := h.few
  clear h
  obtain ⟨i1, hi, hz0, hz1, hz2⟩ := info_parts bools_r_info
  go_enter Tryd.func40, Tryd.ntmps40
  go_wp2_with fail
  refine (unhide HT).mono ?_
  rintro e w1 ⟨N, hN, rfl, hP⟩
  have HL := hide (LI.start (C := flagC) (size := 1) (ET := 4) (enc := encB) (ok := okB) hlo hP)
  clear hP HT
  go_wp2
  go_loopw [5, 6] (fun v t wr => ∃ (m : Nat) (ao : Option Addr) (nn cp : Nat), m < 18446744073709551616 ∧ t = .int .u64 m ∧ v = .slice ao nn cp ∧ Hid (∃ st', LI flagC 1 4 encB okB pe pf rp lo b a cap st w wr N m ao nn cp st')) (fun _ t _ => (intOf t).toNat)
  case atStart => exact ⟨N, none, 0, 0, hN, rfl, rfl, HL⟩
  case round =>
    obtain ⟨m, ao, nn, cp, hm, rfl, rfl, hI⟩ := hrel
    obtain ⟨st', hI⟩ := unhide hI
    have HI := hide hI
    have hRd := hI.2.2.1
    have hsz := hI.2.1.size
    clear hI
    rcases Nat.eq_zero_or_pos m with h0 | h0
    · subst h0
      have HD := hide ((unhide HI).done flagG encB_ne fun _ _ => rfl)
      cases st' with
      | none =>
        obtain ⟨_, q, _, _, c2⟩ := hRd.st
        clear hRd HI
        go_wp2
        go_ret
        exact ⟨_, _, _, rfl, unhide HD⟩
      | some i' =>
        obtain ⟨_, _, c2⟩ := hRd.at
        clear hRd HI
        go_wp2
        go_ret
        exact ⟨_, _, _, rfl, unhide HD⟩
    · cases st' with
      | none =>
        have HD := hide ((unhide HI).done flagG encB_ne fun _ e => by cases e)
        obtain ⟨_, q, _, _, c2⟩ := hRd.st
        have hpos : (0 : Int) < (m : Int) := by omega
        clear hRd HI
        go_wp2
        go_ret
        exact ⟨_, _, _, rfl, unhide HD⟩
      | some i' =>
        obtain ⟨_, _, c2⟩ := hRd.at
        have hpos : (0 : Int) < (m : Int) := by omega
        obtain ⟨m', rfl⟩ : ∃ m', m = m' + 1 := ⟨m - 1, by omega⟩
        have HX := hide (flag_r pe pf rp lo b a cap (some i') wr hRd)
        have hnn := (unhide HI).items_le encB_ne
        have hrl := hRd.rlo
        clear hRd
        go_wp2_with fail
        refine (unhide HX).mono ?_
        rintro e w2 ⟨x, rfl, hP⟩
        have hR2 : RdP pe pf rp lo b a cap (some i') encB okB (fun W y => flagC (fun k => wr.heap.size ≤ k ∧ k < W.heap.size) W y [.bool x]) wr w2 := ⟨hP.1, hP.2.choose, hP.2.choose_spec.1, hP.2.choose_spec.2.mono fun y hy => by rw [hy]; rfl⟩
        have hFw := hP.1
        have hs2 := hFw.size
        obtain ⟨xs, hown⟩ := (unhide HI).own
        have hown2 : w2.ownsRow w.heap.size 4 1 (.slice ao nn cp) nn xs := own_blk hown fun k hk => hFw.block k (hown.lt k hk).2 (fun e => by have := (hown.lt k hk).1; omega)
        have HO := hide hown2
        have HS := hide (fun W2 g cap2 o ho hg hat => LI.step (W2 := W2) (g := g) (cap2 := cap2) (o := o) flagG encB_pf (unhide HI) rfl hR2 ho hg hat)
        clear hP hR2 hFw hown hown2 HX c2
        go_wp2_with (first | (at_builtin; refine wpList_append_lies _ rfl (.tmp 20) (.tmp 23) 23 rfl w.heap.size 4 i1 (.bool false) 1 1 Tryd.underlying23 hi hz0 hz1 hz2 rfl (by decide) (.slice ao nn cp) nn xs rfl ((unhide HO).alloc _) ⟨w2.heap.size, 0, none⟩ 1 1 [.bool x] rfl rfl (by intro j u hj; rw [Go.WideShapes.add_plain, Nat.zero_add, World.cell?_alloc_at _ _ _ _ rfl]; simpa using hj) (by intro u hu; simp only [List.mem_cons, List.not_mem_nil, or_false] at hu; subst hu; rfl) (by decide) (by unfold maxLen; omega) (by omega) (by simp; omega) _ rfl ?_; intro g cap2 w3 hown3 hgrow3 hat3 _; have HN := hide (unhide HS w3 g cap2 _ (fun xs' hx' => by rw [own_uniq hx' (unhide HO)]; exact hown3) hgrow3 (by simpa using hat3)); clear hown3 hgrow3 hat3))
        go_roundw
        case rel => exact ⟨m', _, _, _, by omega, by first | rfl | (congr 1; omega), rfl, HN⟩
        case measure => (simp [intOf] <;> omega)
end Go.Proofs.YtfkjjljhabjcjaaDoor
