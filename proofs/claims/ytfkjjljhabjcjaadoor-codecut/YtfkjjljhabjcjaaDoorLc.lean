/- CodeCut, walked. -/
import Derived.Test.YtfkjjljhabjcjaaDoorLr2
namespace Go.Proofs.YtfkjjljhabjcjaaDoor
open Go.RowKit Go.Proofs.YtfkjjljhabjcjaaDoor.Cx
theorem cut_no {x y : Prg} {m : Nat} (hm : m < (encP x).length) (h : (encP x).take m = encP y) : False := by
  have h1 := encP_pf y x ((encP x).drop m) [] (by rw [← h, List.append_nil, List.take_append_drop])
  have h2 := congrArg List.length h1.2
  rw [List.length_drop, List.length_nil] at h2
  omega
theorem go_no {x y : Prg} {more : List UInt8} (hm : 0 < more.length) (h : encP x ++ more = encP y) : False := by
  have h1 := encP_pf x y more [] (by rw [h, List.append_nil])
  rw [h1.2] at hm
  simp at hm
theorem BytesAt.take {w : World} {b : List UInt8} {a : Option Addr} (h : BytesAt w b a) (m : Nat) : BytesAt w (b.take m) a := fun j hj => by
  have hj' : j < b.length := by simp at hj; omega
  obtain ⟨bk, off, h1, h2⟩ := h j hj'
  exact ⟨bk, off, h1, by rw [List.getElem_take]; exact h2⟩
theorem bytes_src {w : World} {b : List UInt8} {bk off : Nat} (h : BytesAt w b (some ⟨bk, off, none⟩)) : ∀ j u, (b.map byteV)[j]? = some u → w.cell? ((⟨bk, off, none⟩ : Addr).add j) = some u := fun j u hj => by
  rw [Go.WideShapes.add_plain]
  have hjl : j < b.length := by
    rcases Nat.lt_or_ge j b.length with h | h
    · exact h
    · rw [List.getElem?_eq_none (by simpa using h)] at hj; cases hj
  obtain ⟨bk', off', e, hc⟩ := h j hjl
  cases e
  rw [hc, ← hj]
  simp [List.getElem?_eq_getElem hjl]
set_option maxRecDepth 100000 in
set_option maxHeartbeats 8000000 in
theorem cut_w (pe pf : Addr) (x : Prg) (cx : List Value) (at_ : Int) (more : List UInt8) (ma : Option Addr) (mcap : Nat) (w : World) (hv : Vars w pe pf) (hX : prgC (· < w.heap.size) w x cx) (hat : okN at_) (_hml : more.length ≤ mcap) (hM : RowOf byteC 1 (· < w.heap.size) w more ma) :
    Calls Tryd.prog 4 #[.agg cx.toArray, .int .i64 at_, .slice ma more.length mcap] w fun e w' => e = .returned (.bool true) ∧ Below w.heap.size w w' := by
  have HX := hide hX
  have HV := hide hv
  have HK := hide (prg_ok hX)
  have HM := hide (row_bytes hM)
  have hmm := hM.1
  obtain ⟨ht1, ht2⟩ := hat
  obtain ⟨_, a1, c1, a2, c2, a3, c3, a4, c4, rfl, _, _, _, _⟩ := hX
  clear hv hM
  have HF0 : Hid (Fr (fun _ => False) w (w.alloc (.cells #[.slice a1 x.texts.length c1, .slice a2 x.globals.length c2, .slice a3 x.structs.length c3, .slice a4 x.funcs.length c4, .int .i64 x.main] 27))) := hide ((Fr.refl _ w).alloc _)
  have HBX : Hid (Box (w.alloc (.cells #[.slice a1 x.texts.length c1, .slice a2 x.globals.length c2, .slice a3 x.structs.length c3, .slice a4 x.funcs.length c4, .int .i64 x.main] 27)) w.heap.size [.slice a1 x.texts.length c1, .slice a2 x.globals.length c2, .slice a3 x.structs.length c3, .slice a4 x.funcs.length c4, .int .i64 x.main]) := hide (Box.new w [.slice a1 x.texts.length c1, .slice a2 x.globals.length c2, .slice a3 x.structs.length c3, .slice a4 x.funcs.length c4, .int .i64 x.main] 27)
  have HA := hide (anchor_any pe pf (w.alloc (.cells #[.slice a1 x.texts.length c1, .slice a2 x.globals.length c2, .slice a3 x.structs.length c3, .slice a4 x.funcs.length c4, .int .i64 x.main] 27)) ((unhide HV).fr (unhide HF0)))
  go_enter Tryd.func4, Tryd.ntmps4
  go_wp2_with fail
  generalize w.alloc (.cells #[.slice a1 x.texts.length c1, .slice a2 x.globals.length c2, .slice a3 x.structs.length c3, .slice a4 x.funcs.length c4, .int .i64 x.main] 27) = W0 at *
  refine (unhide HA).mono ?_
  rintro e w1 ⟨rfl, hF1⟩
  have HF1 := hide hF1
  obtain ⟨d0, d1, d2, d3, d4⟩ := ((unhide HBX).fr hF1).five
  have HP1 := hide (prg_fr (unhide HX) (Nat.le_refl _) ((unhide HF0).trans hF1))
  have HW := hide (few_any x _ w1 (unhide HP1))
  clear hF1 HA HX
  go_wp2_with fail
  refine (unhide HW).mono ?_
  rintro e w2 ⟨hF2, r, rfl, hr⟩
  have HF2 := hide ((unhide HF1).trans hF2)
  have HP2 := hide (prg_fr (unhide HP1) (Nat.le_refl _) hF2)
  have HE := hide (((unhide HF0).trans (unhide HF2)).below (Nat.le_refl _) fun _ h => h.elim)
  clear hF2 HW d0 d1 d2 d3 d4 HP1 HF1
  cases r with
  | false =>
    clear hr
    go_wp2
    go_ret
    exact ⟨rfl, unhide HE⟩
  | true =>
    have hsx : (encP x).length ≤ 1000000 := by have := hr rfl; have := encP_le (unhide HK); omega
    have hl0 := encP_pos x
    clear hr
    by_cases t0 : at_ < 0
    · go_wp2
      go_ret
      exact ⟨rfl, unhide HE⟩
    · by_cases m0 : more.length = 0
      · have m0' : ((more.length : Int) == 0) = true := by simp; exact List.length_eq_zero_iff.1 m0
        go_wp2
        all_goals (go_ret; exact ⟨rfl, unhide HE⟩)
      · have m0' : ((more.length : Int) == 0) = false := by simp; intro e; rw [e] at m0; simp at m0
        by_cases m1 : more.length ≤ 1000
        · obtain ⟨n, rfl⟩ : ∃ n : Nat, at_ = (n : Int) := ⟨at_.toNat, by omega⟩
          have hm0 : 0 < more.length := by omega
          obtain ⟨mb, mo, rfl, _⟩ := (unhide HM) 0 hm0
          have m1' : ¬ (1000 : Int) < (more.length : Int) := by omega
          obtain ⟨d0, d1, d2, d3, d4⟩ := ((unhide HBX).fr (unhide HF2)).five
          have HEn := hide (Encode_any x _ w2 (unhide HP2) (by omega))
          go_wp2_with fail
          refine (unhide HEn).mono ?_
          rintro e w3 ⟨ao, cp, rfl, ho, hF3⟩
          have hcap := own_cap ho
          obtain ⟨ao', cp', e, hg⟩ := own_form ho
          cases e
          obtain ⟨g0, rfl⟩ := hg hl0
          have HO := hide ho
          have HF3 := hide ((unhide HF2).trans hF3)
          have hq : n % (encP x).length < (encP x).length := Nat.mod_lt _ hl0
          have hlz : ((encP x).length : Int) ≠ 0 := by omega
          have hlz2 : ¬ (encP x).length = 0 := by omega
          have hl0' : (((encP x).length : Int) == 0) = false := by simp; intro e; rw [e] at hl0; simp at hl0
          have hbt : ((encP x).take (n % (encP x).length)).length = n % (encP x).length := by rw [List.length_take]; omega
          have HD := hide (Decode_any pe pf ((encP x).take (n % (encP x).length)) (some ⟨g0, 0, none⟩) cp w3 ((unhide HV).fr ((unhide HF0).trans (unhide HF3))) ((own_bytes ho).take _) (by rw [hbt]; omega) (by rw [hbt]; omega))
          rw [hbt] at HD
          have HBT := hide hbt
          clear hF3 ho HEn hg d0 d1 d2 d3 d4 hbt HE
          have hmod : (n : Int).tmod ((encP x).length : Int) = ((n % (encP x).length : Nat) : Int) := by rw [Int.tmod_eq_emod_of_nonneg (by omega)]; simp
          go_wp2_with fail
          refine (unhide HD).mono ?_
          rintro e w4 ⟨hF4, ⟨y, cy, _, hy2, _, _⟩ | ⟨_, rfl⟩⟩
          · exact (cut_no hq hy2).elim
          · have HFw4 := hide (((unhide HF0).trans (unhide HF3)).trans hF4)
            have HSm : Hid (∀ W, Fr (fun _ => False) w W → ∀ j u, (more.map byteV)[j]? = some u → W.cell? ((⟨mb, mo, none⟩ : Addr).add j) = some u) := hide fun W h => bytes_src ((unhide HM).fr h)
            have HSx : Hid (∀ W, Fr (fun _ => False) w4 W → ∀ j u, ((encP x).map byteV)[j]? = some u → W.cell? ((⟨g0, 0, none⟩ : Addr).add j) = some u) := hide fun W h => bytes_src ((own_bytes (unhide HO)).fr (hF4.trans h))
            have HOwn : Hid (∀ o, ((w4.alloc o).alloc (.cells #[] 5)).ownsRow (w4.heap.size + 1) 5 1 (.slice (some ⟨w4.heap.size + 1, 0, none⟩) 0 0) 0 []) := hide fun o => by
              have := World.ownsRow_made (base := w4.heap.size + 1) (e := 5) (size := 1) (w4.alloc o) #[] 0 (by simp) (by decide) rfl
              simpa using this
            obtain ⟨i1, hi, hz0, hz1, hz2⟩ := info_parts Tryd.info5
            have HZ : Hid (∀ W, Fr (fun _ => False) (w4.alloc (.cells #[.slice none 0 0, .slice none 0 0, .slice none 0 0, .slice none 0 0, .int .i64 0] 27)) W → Box W w4.heap.size [.slice none 0 0, .slice none 0 0, .slice none 0 0, .slice none 0 0, .int .i64 0]) := hide fun W h => (Box.new w4 [.slice none 0 0, .slice none 0 0, .slice none 0 0, .slice none 0 0, .int .i64 0] 27).fr h
            clear hF4 HD hmod
            unfold zero5
            go_wp2_with (first | (at_builtin; refine wpList_append_lies _ rfl (.tmp 49) (.tmp 50) 32 rfl (w4.heap.size + 1) 5 i1 (.int .u8 0) 1 1 Tryd.underlying32 hi hz0 hz1 hz2 rfl (by decide) (.slice (some ⟨g5, 0, none⟩) (encP x).length cap5) (encP x).length ((encP x).map byteV) rfl (unhide HO5) ⟨mb, mo, none⟩ more.length mcap (more.map byteV) rfl (by simp) (unhide HSm _ ((unhide HFw4).trans ((((Fr.refl _ w4).alloc _)).trans (unhide HF5)))) (bytes_one more) hm0 (by unfold maxLen; omega) (by omega) (by omega) _ rfl ?_; intro g6 cap6 w6 hown6 hgrow6 _ _; have HO6 := hide hown6; have HF6 : Hid (Fr (fun _ => False) (w4.alloc (.cells #[.slice none 0 0, .slice none 0 0, .slice none 0 0, .slice none 0 0, .int .i64 0] 27)) w6) := hide ((unhide HF5).up (Fr.grown hgrow6) fun k hk => .inr (by have := ((unhide HO5).lt g5 rfl).1; have hk' : k = g5 := Option.some.inj hk; first | (simp; done) | (simp; omega))); clear hown6 hgrow6) | (at_builtin; refine wpList_append_lies _ rfl (.tmp 47) (.tmp 48) 32 rfl (w4.heap.size + 1) 5 i1 (.int .u8 0) 1 1 Tryd.underlying32 hi hz0 hz1 hz2 rfl (by decide) (.slice (some ⟨w4.heap.size + 1, 0, none⟩) 0 0) 0 [] rfl (unhide HOwn _) ⟨g0, 0, none⟩ (encP x).length cp ((encP x).map byteV) rfl (by simp) (unhide HSx _ (((Fr.refl _ w4).alloc _).alloc _)) (bytes_one _) hl0 (by unfold maxLen; omega) (by omega) (by first | (simp; done) | (simp; omega)) _ rfl ?_; intro g5 cap5 w5 hown5 hgrow5 _ _; simp only [Nat.zero_add, List.nil_append] at hown5; have HO5 := hide hown5; have HF5 : Hid (Fr (fun _ => False) (w4.alloc (.cells #[.slice none 0 0, .slice none 0 0, .slice none 0 0, .slice none 0 0, .int .i64 0] 27)) w5) := hide (((Fr.refl _ _).alloc _).up (Fr.grown hgrow5) fun k hk => .inr (by have hk' : k = w4.heap.size + 1 := Option.some.inj hk; first | (simp; done) | (simp; omega))); have hs5 : w4.heap.size + 1 ≤ w5.heap.size := (by have := (unhide HF5).size; simpa using this); clear hown5 hgrow5))
            have hB1 : (encP x ++ more).length = (encP x).length + more.length := by simp
            have ho6 : w6.ownsRow (w4.heap.size + 1) 5 1 (.slice (some ⟨g6, 0, none⟩) (encP x ++ more).length cap6) (encP x ++ more).length ((encP x ++ more).map byteV) := by
              rw [hB1, List.map_append]; exact unhide HO6
            have HD2 := hide (Decode_any pe pf (encP x ++ more) (some ⟨g6, 0, none⟩) cap6 w6 ((unhide HV).fr ((unhide HFw4).trans (((Fr.refl _ _).alloc _).trans (unhide HF6)))) (own_bytes ho6) (by rw [hB1]; omega) (own_cap ho6))
            rw [hB1] at HD2
            clear ho6 hB1
            refine (unhide HD2).mono ?_
            rintro e w7 ⟨hF7, ⟨y, cy, _, hy2, _, _⟩ | ⟨_, rfl⟩⟩
            · exact (go_no hm0 hy2).elim
            · have zb : ∀ o, _ := fun o => (unhide HZ _ (((unhide HF6).trans hF7).alloc o)).five
              have z0 := fun o => (zb o).1
              have z1 := fun o => (zb o).2.1
              have z2 := fun o => (zb o).2.2.1
              have z3 := fun o => (zb o).2.2.2.1
              have z4 := fun o => (zb o).2.2.2.2
              have HF7 : Hid (∀ o, Fr (fun _ => False) w (w7.alloc o)) := hide fun o => (((unhide HFw4).trans (((Fr.refl _ _).alloc _).trans (unhide HF6))).trans hF7).alloc o
              have HS : Hid (∀ W, Calls Tryd.prog 12 #[.agg zero5.toArray, .agg zero5.toArray] W fun e w' => SameP prg0 prg0 W e w') := hide fun W => same_any prg0 prg0 _ _ W (prg0_at _ _) (prg0_at _ _)
              have HB7 : Hid (Box (w7.alloc (.cells #[.slice none 0 0, .slice none 0 0, .slice none 0 0, .slice none 0 0, .int .i64 0] 27)) w7.heap.size [.slice none 0 0, .slice none 0 0, .slice none 0 0, .slice none 0 0, .int .i64 0]) := hide (Box.new w7 [.slice none 0 0, .slice none 0 0, .slice none 0 0, .slice none 0 0, .int .i64 0] 27)
              clear zb hF7 HD2 HO6 HF6 HO5 HF5 HZ HFw4 HSm HSx HOwn
              unfold zero5 at HS
              unfold zero5
              go_wp2_with fail
              refine ((unhide HS) _).mono ?_
              rintro e w8 ⟨hF8, q, rfl, hq8⟩
              obtain rfl : q = true := hq8.2 rfl
              obtain ⟨y0, y1, y2, y3, y4⟩ := ((unhide HB7).fr hF8).five
              have HF8 := hide (((unhide HF7) _).trans hF8)
              clear hF8 hq8 z0 z1 z2 z3 z4
              go_wp2_with fail
              refine ((unhide HS) _).mono ?_
              rintro e w9 ⟨hF9, q, rfl, hq9⟩
              obtain rfl : q = true := hq9.2 rfl
              have HE := hide (((unhide HF8).trans hF9).below (Nat.le_refl _) fun _ h => h.elim)
              clear hF9 hq9 y0 y1 y2 y3 y4
              go_wp2
              go_ret
              exact ⟨rfl, unhide HE⟩
        · have m1' : (1000 : Int) < (more.length : Int) := by omega
          go_wp2
          all_goals (go_ret; exact ⟨rfl, unhide HE⟩)
end Go.Proofs.YtfkjjljhabjcjaaDoor
