/- CodeGrows, walked. -/
import Derived.Test.YtfkjjljhabjcjaaDoorLg5
import Derived.Deep.CutRange
namespace Go.Proofs.YtfkjjljhabjcjaaDoor
open Go.RowKit Go.Proofs.YtfkjjljhabjcjaaDoor.Cx
theorem Tryd.info9 : (Tryd.prog.info? 9).map (fun i => (i.zero, i.size, i.bytes)) = some (some (.string ⟨#[]⟩), 1, 16) := by kernel_rfl
theorem ty1 (w : World) (o : Obj) (cs : Array Value) (t : Nat) : Ty ((w.alloc o).alloc (.cells cs t)) (w.heap.size + 1) t := by
  have h := Ty.new (w.alloc o) cs t
  have e : (w.alloc o).heap.size = w.heap.size + 1 := by simp
  rwa [e] at h
theorem texts_flat : ∀ (l : List ByteArray) (s : ByteArray), ((l ++ [s]).map fun t => (t, [Value.string t])).flatMap (·.2) = l.map Value.string ++ [.string s]
  | [], _ => rfl
  | t :: l, s => by
    have := texts_flat l s
    simp only [List.cons_append, List.map_cons, List.flatMap_cons] at this ⊢
    rw [this]
    rfl
set_option maxRecDepth 100000 in
set_option maxHeartbeats 64000000 in
theorem grows_w (pe pf : Addr) (x : Prg) (cx : List Value) (s : ByteArray) (z : Int) (l : List Int) (la : Option Addr) (lcap : Nat) (w : World) (hv : Vars w pe pf) (hX : prgC (· < w.heap.size) w x cx) (hs : s.size ≤ 281474976710656) (hz : okN z) (_hll : l.length ≤ lcap) (hL : RowOf numC 1 (· < w.heap.size) w l la) :
    Calls Tryd.prog 7 #[.agg cx.toArray, .string s, .int .i64 z, .slice la l.length lcap] w fun e w' => e = .returned (.bool true) ∧ Below w.heap.size w w' := by
  have HX := hide hX
  have HV := hide hv
  have HK := hide (prg_ok hX)
  have HL := hide hL
  have HZ := hide hz
  have hln := hL.1
  obtain ⟨hz1_, hz2_⟩ := hz
  obtain ⟨hmain, a1, c1, a2, c2, a3, c3, a4, c4, rfl, _, _, _, _⟩ := hX
  clear hv hL
  have HF0 : Hid (Fr (fun _ => False) w (w.alloc (.cells #[.slice a1 x.texts.length c1, .slice a2 x.globals.length c2, .slice a3 x.structs.length c3, .slice a4 x.funcs.length c4, .int .i64 x.main] 27))) := hide ((Fr.refl _ w).alloc _)
  have HBX : Hid (Box (w.alloc (.cells #[.slice a1 x.texts.length c1, .slice a2 x.globals.length c2, .slice a3 x.structs.length c3, .slice a4 x.funcs.length c4, .int .i64 x.main] 27)) w.heap.size [.slice a1 x.texts.length c1, .slice a2 x.globals.length c2, .slice a3 x.structs.length c3, .slice a4 x.funcs.length c4, .int .i64 x.main]) := hide (Box.new w [.slice a1 x.texts.length c1, .slice a2 x.globals.length c2, .slice a3 x.structs.length c3, .slice a4 x.funcs.length c4, .int .i64 x.main] 27)
  have HA := hide (anchor_any pe pf (w.alloc (.cells #[.slice a1 x.texts.length c1, .slice a2 x.globals.length c2, .slice a3 x.structs.length c3, .slice a4 x.funcs.length c4, .int .i64 x.main] 27)) ((unhide HV).fr (unhide HF0)))
  go_enter Tryd.func7, Tryd.ntmps7
  go_wp2_with fail
  generalize w.alloc (.cells #[.slice a1 x.texts.length c1, .slice a2 x.globals.length c2, .slice a3 x.structs.length c3, .slice a4 x.funcs.length c4, .int .i64 x.main] 27) = W0 at *
  refine (unhide HA).mono ?_
  rintro e w1 ⟨rfl, hF1⟩
  have HF1 := hide hF1
  obtain ⟨d0, d1, d2, d3, d4⟩ := ((unhide HBX).fr hF1).five
  have HP1 := hide (prg_fr (unhide HX) (Nat.le_refl _) ((unhide HF0).trans hF1))
  have HW := hide (few_any x _ w1 (unhide HP1))
  clear hF1 HA HX
  go_wp2_with fail
  refine (unhide HW).mono ?_
  rintro e w2 ⟨hF2, r, rfl, hr⟩
  have HF2 := hide ((unhide HF1).trans hF2)
  have HP2 := hide (prg_fr (unhide HP1) (Nat.le_refl _) hF2)
  have HE := hide (((unhide HF0).trans (unhide HF2)).below (Nat.le_refl _) fun _ h => h.elim)
  clear hF2 HW d0 d1 d2 d3 d4 HP1 HF1
  cases r with
  | false =>
    clear hr
    go_wp2
    all_goals (go_ret; exact ⟨rfl, unhide HE⟩)
  | true =>
    have htot := hr rfl
    have htx : x.texts.length ≤ 5000 ∧ x.funcs.length ≤ 5000 := by unfold tot at htot; omega
    have HT := hide htot
    obtain ⟨htx1, htx2⟩ := htx
    clear hr htot
    by_cases s0 : s.size ≤ 500
    · by_cases n0 : l.length ≤ 500
      · have s0' : ¬ (500 : Int) < (s.size : Int) := by omega
        have n0' : ¬ (500 : Int) < (l.length : Int) := by omega
        obtain ⟨d0, d1, d2, d3, d4⟩ := ((unhide HBX).fr (unhide HF2)).five
        have hlt : w.heap.size < w2.heap.size := World.block_lt_of_cell? w2 ⟨w.heap.size, 0, none⟩ d0
        obtain ⟨_, b1, k1, b2, k2, b3, k3, b4, k4, hcs, R1, R2, R3, R4⟩ := unhide HP2
        simp only [List.cons.injEq, Value.slice.injEq, and_true, true_and] at hcs
        obtain ⟨⟨rfl, rfl⟩, ⟨rfl, rfl⟩, ⟨rfl, rfl⟩, ⟨rfl, rfl⟩⟩ := hcs
        have HR1 := hide R1
        have HR2 := hide R2
        have HR3 := hide R3
        have HR4 := hide R4
        have HQ : Hid (Box ((w2.alloc (.cells #[.int .i64 z, .int .i64 (wrap64 (-z)), .int .i64 l.length, .int .i64 4611686018427387904, .int .i64 (-4611686018427387904), .slice la l.length lcap] 43)).alloc (.cells #[.slice a1 x.texts.length c1, .slice a2 x.globals.length c2, .slice a3 x.structs.length c3, .slice a4 x.funcs.length c4, .int .i64 x.main] 27)) (w2.heap.size + 1) [.slice a1 x.texts.length c1, .slice a2 x.globals.length c2, .slice a3 x.structs.length c3, .slice a4 x.funcs.length c4, .int .i64 x.main]) := hide (Box.new1 w2 _ [.slice a1 x.texts.length c1, .slice a2 x.globals.length c2, .slice a3 x.structs.length c3, .slice a4 x.funcs.length c4, .int .i64 x.main] 27)
        have HQf : Hid (∀ W, Fr (fun _ => False) ((w2.alloc (.cells #[.int .i64 z, .int .i64 (wrap64 (-z)), .int .i64 l.length, .int .i64 4611686018427387904, .int .i64 (-4611686018427387904), .slice la l.length lcap] 43)).alloc (.cells #[.slice a1 x.texts.length c1, .slice a2 x.globals.length c2, .slice a3 x.structs.length c3, .slice a4 x.funcs.length c4, .int .i64 x.main] 27)) W → ∀ j, j < 5 → W.frozen? ⟨w2.heap.size + 1, j, none⟩ = false) := hide fun W h j _ => h.frozen (show w2.heap.size + 1 < _ by simp) (World.frozen?_alloc_at _ _ _ _ (by simp)) id
        have HBI : Hid (Box ((w2.alloc (.cells #[.int .i64 z, .int .i64 (wrap64 (-z)), .int .i64 l.length, .int .i64 4611686018427387904, .int .i64 (-4611686018427387904), .slice la l.length lcap] 43)).alloc (.cells #[.slice a1 x.texts.length c1, .slice a2 x.globals.length c2, .slice a3 x.structs.length c3, .slice a4 x.funcs.length c4, .int .i64 x.main] 27)) w2.heap.size [.int .i64 z, .int .i64 (wrap64 (-z)), .int .i64 l.length, .int .i64 4611686018427387904, .int .i64 (-4611686018427387904), .slice la l.length lcap]) := hide ((Box.new w2 [.int .i64 z, .int .i64 (wrap64 (-z)), .int .i64 l.length, .int .i64 4611686018427387904, .int .i64 (-4611686018427387904), .slice la l.length lcap] 43).fr ((Fr.refl _ _).alloc _))
        have HSt : Hid (∀ W, Fr (fun _ => False) w2 W → ∀ j u, (x.texts.map Value.string)[j]? = some u → ∃ b off, a1 = some ⟨b, off, none⟩ ∧ W.cell? ⟨b, off + j, none⟩ = some u) := hide fun W h j u hj => by
          have hjl : j < x.texts.length := by
            rcases Nat.lt_or_ge j x.texts.length with h1 | h1
            · exact h1
            · rw [List.getElem?_eq_none (by simpa using h1)] at hj; cases hj
          obtain ⟨b, off, cs, e1, _, hc, hcell⟩ := row_get textG (unhide HR1) (fun k hk => hk) h hjl
          obtain ⟨_, rfl⟩ := hc
          refine ⟨b, off, e1, ?_⟩
          have := hcell 0 _ rfl
          simp only [Nat.mul_one, Nat.add_zero] at this
          rw [this, ← hj]
          simp [List.getElem?_eq_getElem hjl]
        have HOne : Hid (∀ u ∈ x.texts.map Value.string, u.oneCell' = true) := hide fun u hu => by
          obtain ⟨_, _, rfl⟩ := List.mem_map.1 hu
          rfl
        have HOwn : Hid (∀ o o', (((w2.alloc o).alloc o').alloc (.cells #[] 9)).ownsRow (w2.heap.size + 2) 9 1 (.slice (some ⟨w2.heap.size + 1 + 1, 0, none⟩) 0 0) 0 []) := hide fun o o' => by
          have := World.ownsRow_made (base := w2.heap.size + 2) (e := 9) (size := 1) ((w2.alloc o).alloc o') #[] 0 (by simp) (by decide) rfl
          simpa using this
        obtain ⟨i1, hi, hz0, hz1, hz2⟩ := info_parts Tryd.info9
        have e0 := fun o o' o'' => ((((Fr.refl (fun _ => False) w2).alloc o).alloc o').alloc o'').cell d0 id
        clear R1 R2 R3 R4 HE
        go_wp2_with (first | (at_builtin; refine wpList_append_lies _ rfl (.tmp 42) (.tmp 44) 22 rfl (w2.heap.size + 2) 9 i1 (.string ⟨#[]⟩) 1 16 Tryd.underlying22 hi hz0 hz1 hz2 rfl (by decide) (.slice (some ⟨g3, 0, none⟩) x.texts.length cap3) x.texts.length (x.texts.map Value.string) rfl ((unhide HO3).alloc _) ⟨w3.heap.size, 0, none⟩ 1 1 [.string s] rfl rfl (by intro j u hj; rw [Go.WideShapes.add_plain, Nat.zero_add, World.cell?_alloc_at _ _ _ _ rfl]; simpa using hj) (by intro u hu; simp only [List.mem_cons, List.not_mem_nil, or_false] at hu; subst hu; rfl) (by decide) (by unfold maxLen; omega) (by omega) (by first | (simp; done) | (simp; omega)) _ rfl ?_; intro g4 cap4 w4 hown4 hgrow4 hat4 _; have HO4 := hide hown4; have HF4 : Hid (Fr (fun _ => False) ((w2.alloc (.cells #[.int .i64 z, .int .i64 (wrap64 (-z)), .int .i64 l.length, .int .i64 4611686018427387904, .int .i64 (-4611686018427387904), .slice la l.length lcap] 43)).alloc (.cells #[.slice a1 x.texts.length c1, .slice a2 x.globals.length c2, .slice a3 x.structs.length c3, .slice a4 x.funcs.length c4, .int .i64 x.main] 27)) w4) := hide (((unhide HF3).alloc _).up (Fr.grown hgrow4) fun k hk => .inr (by have := ((unhide HO3).lt g3 rfl).1; have hk' : k = g3 := Option.some.inj hk; first | (simp; done) | (simp; omega))); have hs4 : w2.heap.size + 2 ≤ w4.heap.size := (by have := (unhide HF4).size; simpa using this); have q0 := (unhide HF4).cell ((unhide HQ) 0 _ rfl) id; have qf0 := (unhide HQf) w4 (unhide HF4) 0 (by decide); clear hown4 hgrow4 hat4) | (at_builtin; refine wpList_append_any _ rfl (.tmp 39) (.tmp 41) 22 rfl (w2.heap.size + 2) 9 i1 (.string ⟨#[]⟩) 1 16 Tryd.underlying22 hi hz0 hz1 hz2 rfl (by decide) (w2.heap.size + 1 + 1) 0 0 [] rfl (unhide HOwn _ _) a1 x.texts.length c1 (x.texts.map Value.string) rfl (by simp) (unhide HSt _ ((((Fr.refl _ w2).alloc _).alloc _).alloc _)) (unhide HOne) (by omega) (by decide) (by first | (simp; done) | (simp; omega)) ?_; intro g3 cap3 w3 hown3 hgrow3 hat3; simp only [Nat.zero_add, List.nil_append] at hown3; have HO3 := hide hown3; have HF3 : Hid (Fr (fun _ => False) ((w2.alloc (.cells #[.int .i64 z, .int .i64 (wrap64 (-z)), .int .i64 l.length, .int .i64 4611686018427387904, .int .i64 (-4611686018427387904), .slice la l.length lcap] 43)).alloc (.cells #[.slice a1 x.texts.length c1, .slice a2 x.globals.length c2, .slice a3 x.structs.length c3, .slice a4 x.funcs.length c4, .int .i64 x.main] 27)) w3) := hide (((Fr.refl _ _).alloc _).up (Fr.grown hgrow3) fun k hk => .inr (by have hk' : k = w2.heap.size + 2 := Option.some.inj hk; first | (simp; done) | (simp; omega))); have hs3 : w2.heap.size + 2 ≤ w3.heap.size := (by have := (unhide HF3).size; simpa using this); clear hown3 hgrow3 hat3))
        have hmW : (w4.setCell ⟨w2.heap.size + 1, 0, none⟩ (.slice (some ⟨g4, 0, none⟩) (x.texts.length + 1) cap4)).heap.size = w4.heap.size := by simp [World.setCell]
        have hF24 : Fr (fun _ => False) w2 w4 := (((Fr.refl _ w2).alloc _).alloc _).trans (unhide HF4)
        have hSet : Fr (· = w2.heap.size + 1) w4 (w4.setCell ⟨w2.heap.size + 1, 0, none⟩ (.slice (some ⟨g4, 0, none⟩) (x.texts.length + 1) cap4)) := (Fr.refl (· = w2.heap.size + 1) w4).setCell (p := ⟨w2.heap.size + 1, 0, none⟩) rfl _
        have HF27 : Hid (Fr (fun _ => False) w2 (w4.setCell ⟨w2.heap.size + 1, 0, none⟩ (.slice (some ⟨g4, 0, none⟩) (x.texts.length + 1) cap4))) := hide (hF24.up hSet fun k hk => .inr (by have hk' : k = w2.heap.size + 1 := hk; omega))
        have hQ4 := (unhide HQ).fr (unhide HF4)
        have HQ7 : Hid (Box (w4.setCell ⟨w2.heap.size + 1, 0, none⟩ (.slice (some ⟨g4, 0, none⟩) (x.texts.length + 1) cap4)) (w2.heap.size + 1) [.slice (some ⟨g4, 0, none⟩) (x.texts.length + 1) cap4, .slice a2 x.globals.length c2, .slice a3 x.structs.length c3, .slice a4 x.funcs.length c4, .int .i64 x.main]) := hide (fun j v hj => by
          match j, hj with
          | 0, hj => cases hj; exact World.cell?_setCell_same _ _ _ q0
          | 1, hj => cases hj; rw [cell_ne (by intro e; injection e with _ e; cases e)]; exact hQ4 1 _ rfl
          | 2, hj => cases hj; rw [cell_ne (by intro e; injection e with _ e; cases e)]; exact hQ4 2 _ rfl
          | 3, hj => cases hj; rw [cell_ne (by intro e; injection e with _ e; cases e)]; exact hQ4 3 _ rfl
          | 4, hj => cases hj; rw [cell_ne (by intro e; injection e with _ e; cases e)]; exact hQ4 4 _ rfl)
        have HTB : Hid (Ty (w4.setCell ⟨w2.heap.size + 1, 0, none⟩ (.slice (some ⟨g4, 0, none⟩) (x.texts.length + 1) cap4)) (w2.heap.size + 1) 27) := hide (Ty.setCell (Ty.same (w := ((w2.alloc (.cells #[.int .i64 z, .int .i64 (wrap64 (-z)), .int .i64 l.length, .int .i64 4611686018427387904, .int .i64 (-4611686018427387904), .slice la l.length lcap] 43)).alloc (.cells #[.slice a1 x.texts.length c1, .slice a2 x.globals.length c2, .slice a3 x.structs.length c3, .slice a4 x.funcs.length c4, .int .i64 x.main] 27))) (ty1 w2 _ _ 27) ((unhide HF4).block _ (by simp) id)) _ _)
        have qf7 : (w4.setCell ⟨w2.heap.size + 1, 0, none⟩ (.slice (some ⟨g4, 0, none⟩) (x.texts.length + 1) cap4)).frozen? ⟨w2.heap.size + 1, 3, none⟩ = false := by rw [World.frozen?_setCell]; exact (unhide HQf) w4 (unhide HF4) 3 (by decide)
        have hBW : w2.heap.size + 1 < (w4.setCell ⟨w2.heap.size + 1, 0, none⟩ (.slice (some ⟨g4, 0, none⟩) (x.texts.length + 1) cap4)).heap.size := by rw [hmW]; omega
        have HI7 : Hid (Box (w4.setCell ⟨w2.heap.size + 1, 0, none⟩ (.slice (some ⟨g4, 0, none⟩) (x.texts.length + 1) cap4)) w2.heap.size [.int .i64 z, .int .i64 (wrap64 (-z)), .int .i64 l.length, .int .i64 4611686018427387904, .int .i64 (-4611686018427387904), .slice la l.length lcap]) := hide (fun j v hj => hSet.cell (((unhide HBI).fr (unhide HF4)) j v hj) (show ¬ w2.heap.size = w2.heap.size + 1 by omega))
        have HP7 : Hid (Box (w4.setCell ⟨w2.heap.size + 1, 0, none⟩ (.slice (some ⟨g4, 0, none⟩) (x.texts.length + 1) cap4)) w.heap.size [.slice a1 x.texts.length c1, .slice a2 x.globals.length c2, .slice a3 x.structs.length c3, .slice a4 x.funcs.length c4, .int .i64 x.main]) := hide (((unhide HBX).fr (unhide HF2)).fr (unhide HF27))
        have hg4 := (unhide HO4).lt g4 rfl
        have HTx : Hid (RowOf textC 1 (fun k => k < (w4.setCell ⟨w2.heap.size + 1, 0, none⟩ (.slice (some ⟨g4, 0, none⟩) (x.texts.length + 1) cap4)).heap.size ∧ k ≠ w2.heap.size + 1) (w4.setCell ⟨w2.heap.size + 1, 0, none⟩ (.slice (some ⟨g4, 0, none⟩) (x.texts.length + 1) cap4)) (x.texts ++ [s]) (some ⟨g4, 0, none⟩)) := hide (by
          have hr := row_owned (C := textC) (S := fun k => k < (w4.setCell ⟨w2.heap.size + 1, 0, none⟩ (.slice (some ⟨g4, 0, none⟩) (x.texts.length + 1) cap4)).heap.size ∧ k ≠ w2.heap.size + 1) (w := (w4.setCell ⟨w2.heap.size + 1, 0, none⟩ (.slice (some ⟨g4, 0, none⟩) (x.texts.length + 1) cap4))) (items := (x.texts ++ [s]).map fun t => (t, [Value.string t])) (size := 1) (base := w2.heap.size + 2) (e := 9) (g := g4) (cap := cap4) (by
            have e2 : ((x.texts ++ [s]).map fun t => (t, [Value.string t])).flatMap (·.2) = x.texts.map Value.string ++ [.string s] := texts_flat x.texts s
            rw [e2]
            simp only [List.length_map, List.length_append, List.length_cons, List.length_nil]
            exact own_blk (unhide HO4) fun k hk => hSet.block k ((unhide HO4).lt k hk).2 (fun e => by have := ((unhide HO4).lt k hk).1; have e' : k = w2.heap.size + 1 := e; omega)) (by rw [hmW]; exact ⟨hg4.2, by omega⟩) (fun p hp => by
            obtain ⟨t, ht, rfl⟩ := List.mem_map.1 hp
            refine ⟨⟨?_, rfl⟩, rfl⟩
            rcases List.mem_append.1 ht with ht | ht
            · exact row_all (unhide HR1) (fun y _ hy => hy.1) t ht
            · rw [List.mem_singleton.1 ht]; exact hs) (by simp; omega)
          rw [List.map_map] at hr
          have e3 : (fun p : ByteArray × List Value => p.1) ∘ (fun t => (t, [Value.string t])) = id := rfl
          rw [e3, List.map_id] at hr
          exact hr)
        obtain ⟨items, hit, hIC, hsrc⟩ := row_chunks (unhide HR4)
        have HIt := hide hit
        have HIC := hide hIC
        have HIl : Hid ((items.flatMap (·.2)).length = x.funcs.length * 6) := hide (by rw [chunks_len items fun p hp => (hIC p hp).2, ← hit, List.length_map])
        have HIo := hide (items_one hIC)
        have HSf : Hid (∀ W, Fr (fun _ => False) w2 W → ∀ j u, (items.flatMap (·.2))[j]? = some u → ∃ b off, a4 = some ⟨b, off, none⟩ ∧ W.cell? ⟨b, off + j, none⟩ = some u) := hide fun W h j u hj => by
          obtain ⟨b, off, h1, h2⟩ := hsrc j u hj
          exact ⟨b, off, h1, h.cell h2 id⟩
        have HLl : Hid (RowOf numC 1 (· < w2.heap.size) w2 l la) := hide (numG.row (fun k hk => Nat.lt_trans hk hlt) (row_at numG (unhide HL) (Nat.le_refl _) ((unhide HF0).trans (unhide HF2))))
        clear hit hIC hsrc hSet hF24 hQ4 hmW hg4 q0 qf0 e0 d0 d1 d2 d3 d4 HO3 HF3 HO4 HF4 HQ HQf HBI HSt HOwn hs3 hs4
        generalize (w4.setCell ⟨w2.heap.size + 1, 0, none⟩ (.slice (some ⟨g4, 0, none⟩) (x.texts.length + 1) cap4)) = W7 at *
        have HS7 : Hid (∀ W, Fr (fun _ => False) W7 W → (fun w' => w'.cell? ⟨w.heap.size, 3, none⟩ = some (.slice a4 x.funcs.length c4) ∧ w'.cell? ⟨w2.heap.size, 0, none⟩ = some (.int .i64 z) ∧ w'.cell? ⟨w2.heap.size, 1, none⟩ = some (.int .i64 (wrap64 (-z))) ∧ w'.cell? ⟨w2.heap.size, 2, none⟩ = some (.int .i64 l.length) ∧ w'.cell? ⟨w2.heap.size, 3, none⟩ = some (.int .i64 4611686018427387904) ∧ w'.cell? ⟨w2.heap.size, 4, none⟩ = some (.int .i64 (-4611686018427387904)) ∧ w'.cell? ⟨w2.heap.size, 5, none⟩ = some (.slice la l.length lcap)) W) := hide fun W h => ⟨((unhide HP7).fr h) 3 _ rfl, ((unhide HI7).fr h) 0 _ rfl, ((unhide HI7).fr h) 1 _ rfl, ((unhide HI7).fr h) 2 _ rfl, ((unhide HI7).fr h) 3 _ rfl, ((unhide HI7).fr h) 4 _ rfl, ((unhide HI7).fr h) 5 _ rfl⟩
        have HS8 : Hid (∀ W, Fr (· = w2.heap.size + 1) W7 W → (fun w' => w'.cell? ⟨w.heap.size, 3, none⟩ = some (.slice a4 x.funcs.length c4) ∧ w'.cell? ⟨w2.heap.size, 0, none⟩ = some (.int .i64 z) ∧ w'.cell? ⟨w2.heap.size, 1, none⟩ = some (.int .i64 (wrap64 (-z))) ∧ w'.cell? ⟨w2.heap.size, 2, none⟩ = some (.int .i64 l.length) ∧ w'.cell? ⟨w2.heap.size, 3, none⟩ = some (.int .i64 4611686018427387904) ∧ w'.cell? ⟨w2.heap.size, 4, none⟩ = some (.int .i64 (-4611686018427387904)) ∧ w'.cell? ⟨w2.heap.size, 5, none⟩ = some (.slice la l.length lcap)) W) := hide fun W h => by
          have c1 : ∀ (j : Nat) (v : Value), [.int .i64 z, .int .i64 (wrap64 (-z)), .int .i64 l.length, .int .i64 4611686018427387904, .int .i64 (-4611686018427387904), .slice la l.length lcap][j]? = some v → W.cell? ⟨w2.heap.size, j, none⟩ = some v := fun j v hj => h.cell ((unhide HI7) j v hj) (show ¬ w2.heap.size = w2.heap.size + 1 by omega)
          exact ⟨h.cell ((unhide HP7) 3 _ rfl) (show ¬ w.heap.size = w2.heap.size + 1 by omega), c1 0 _ rfl, c1 1 _ rfl, c1 2 _ rfl, c1 3 _ rfl, c1 4 _ rfl, c1 5 _ rfl⟩
        obtain ⟨i2, hi2, hy0, hy1, hy2⟩ := info_parts Tryd.info38
        go_cut [] from 47 to 60 (fun wc => Hid (GrR x s z l (w2.heap.size + 1) (x.texts.length + 1) g4 cap4 (.slice a2 x.globals.length c2) (.slice a3 x.structs.length c3) (.int .i64 x.main) W7 wc))
        case first =>
          refine wp_region_held_drew (S := (fun w' => w'.cell? ⟨w.heap.size, 3, none⟩ = some (.slice a4 x.funcs.length c4) ∧ w'.cell? ⟨w2.heap.size, 0, none⟩ = some (.int .i64 z) ∧ w'.cell? ⟨w2.heap.size, 1, none⟩ = some (.int .i64 (wrap64 (-z))) ∧ w'.cell? ⟨w2.heap.size, 2, none⟩ = some (.int .i64 l.length) ∧ w'.cell? ⟨w2.heap.size, 3, none⟩ = some (.int .i64 4611686018427387904) ∧ w'.cell? ⟨w2.heap.size, 4, none⟩ = some (.int .i64 (-4611686018427387904)) ∧ w'.cell? ⟨w2.heap.size, 5, none⟩ = some (.slice la l.length lcap))) (by kernel_rfl) (unhide HS7 _ (Fr.refl _ _).drew) (fun hHeld => ?_)
          refine wpAnyH_take (i := 1) (oi := { dst := some 48, op := _, type := _, pos := _, after := _, guard := _ }) (v := .pointer (some ⟨w.heap.size, 3, none⟩)) rfl (by kernel_rfl) (by kernel_rfl) (by kernel_rfl) (fun _ _ _ h => h) (Or.inl ⟨by rfl, ?_⟩) hHeld ?_
          · intro w' hSw
            (try dsimp only at hSw)
            go_simp
          (try simp only [Act.put, List.setIfInBounds_toArray, List.set_cons_zero, List.set_cons_succ])
          refine wpAnyH_take (i := 2) (oi := { dst := some 49, op := _, type := _, pos := _, after := _, guard := _ }) (v := .slice a4 x.funcs.length c4) rfl (by kernel_rfl) (by kernel_rfl) (by kernel_rfl) (fun _ _ _ h => h) (Or.inl ⟨by rfl, ?_⟩) hHeld ?_
          · intro w' hSw
            (try dsimp only at hSw)
            go_simp
          (try simp only [Act.put, List.setIfInBounds_toArray, List.set_cons_zero, List.set_cons_succ])
          refine wpAnyH_take (i := 4) (oi := { dst := some 51, op := _, type := _, pos := _, after := _, guard := _ }) (v := .string s) rfl (by kernel_rfl) (by kernel_rfl) (by kernel_rfl) (fun _ _ _ h => h) (Or.inl ⟨by rfl, ?_⟩) hHeld ?_
          · intro w' hSw
            (try dsimp only at hSw)
            go_simp
          (try simp only [Act.put, List.setIfInBounds_toArray, List.set_cons_zero, List.set_cons_succ])
          refine wpAnyH_take (i := 6) (oi := { dst := some 53, op := _, type := _, pos := _, after := _, guard := _ }) (v := (.agg #[.int .i64 z, .int .i64 (wrap64 (-z)), .int .i64 l.length, .int .i64 4611686018427387904, .int .i64 (-4611686018427387904), .slice la l.length lcap])) rfl (by kernel_rfl) (by kernel_rfl) (by kernel_rfl) (fun _ _ _ h => h) (Or.inl ⟨by rfl, ?_⟩) hHeld ?_
          · intro w' hSw
            (try dsimp only at hSw)
            go_simp
          (try simp only [Act.put, List.setIfInBounds_toArray, List.set_cons_zero, List.set_cons_succ])
          refine wpAnyH_take (i := 7) (oi := { dst := some 54, op := _, type := _, pos := _, after := _, guard := _ }) (v := (.agg #[.int .i64 0, .int .i64 0, .int .i64 0, .int .i64 0, .int .i64 0, .slice none 0 0])) rfl (by kernel_rfl) (by kernel_rfl) (by kernel_rfl) (fun _ _ _ h => h) (Or.inl ⟨by rfl, ?_⟩) hHeld ?_
          · intro w' hSw
            (try dsimp only at hSw)
            go_simp
          (try simp only [Act.put, List.setIfInBounds_toArray, List.set_cons_zero, List.set_cons_succ])
          refine wpAnyH_take (i := 8) (oi := { dst := some 55, op := _, type := _, pos := _, after := _, guard := _ }) (v := (.agg #[.int .i64 z, .int .i64 (wrap64 (-z)), .int .i64 l.length, .int .i64 4611686018427387904, .int .i64 (-4611686018427387904), .slice la l.length lcap])) rfl (by kernel_rfl) (by kernel_rfl) (by kernel_rfl) (fun _ _ _ h => h) (Or.inl ⟨by rfl, ?_⟩) hHeld ?_
          · intro w' hSw
            (try dsimp only at hSw)
            go_simp
          (try simp only [Act.put, List.setIfInBounds_toArray, List.set_cons_zero, List.set_cons_succ])
          have HF : Hid (Fr (fun _ => False) W7 W7.drew) := hide (Fr.refl _ _).drew
          generalize W7.drew = V at *
          refine wpAnyH_ready (rs := [0, 5, 9]) (by kernel_rfl) (by simp) ?_
          refine AllReadyH.cons (o := { dst := some 47, op := _, type := _, pos := _, after := _, guard := _ }) rfl (fun K hK => ?_) ?_
          · go_simp
            clear hHeld
            refine hK.out _ _ (unhide HS7 _ ((unhide HF).alloc _)) (fun hHeld => ?_)
            clear hK K
            (try simp only [Act.put, List.setIfInBounds_toArray, List.set_cons_zero, List.set_cons_succ])
            have HAn := hide (made0 (b := W7.heap.size) V (unhide HF).size)
            have HF' := hide ((unhide HF).alloc (.cells #[] 38))
            clear HF
            have HF := HF'
            clear HF'
            have HA := HAn
            clear HAn
            generalize V.alloc (.cells #[] 38) = V' at *
            generalize V.heap.size = g at *
            clear V
            obtain ⟨V, rfl⟩ : ∃ V, V = V' := ⟨_, rfl⟩
            refine wpAnyH_ready (rs := [3, 5, 9]) (by kernel_rfl) (by simp) ?_
            refine AllReadyH.cons (o := { dst := some 50, op := _, type := _, pos := _, after := _, guard := _ }) rfl (fun K hK => ?_) ?_
            · refine step_append_any _ rfl (.tmp 47) (.tmp 49) 25 rfl W7.heap.size 38 i2 (.agg #[.string ⟨#[]⟩, .slice none 0 0, .int .i64 0, .int .i64 0, .bool false, .slice none 0 0]) 6 88 Tryd.underlying25 hi2 hy0 hy1 hy2 rfl (by decide) g 0 0 [] rfl (unhide HA) a4 x.funcs.length c4 (items.flatMap (·.2)) rfl (unhide HIl) (unhide HSf _ ((unhide HF27).trans (unhide HF))) (unhide HIo) (by omega) (by decide) (unhide HF).size ?_
              intro g' cg V' hown hgrow hat
              simp only [Nat.zero_add, List.nil_append] at hown
              have hFn : Fr (fun _ => False) W7 V' := (unhide HF).up (Fr.grown hgrow) fun k hk => .inr (by have := ((unhide HA).lt g rfl).1; have hk' : k = g := Option.some.inj hk; omega)
              clear hHeld
              refine hK.out _ _ (unhide HS7 _ hFn) (fun hHeld => ?_)
              clear hK K
              (try simp only [Act.put, List.setIfInBounds_toArray, List.set_cons_zero, List.set_cons_succ])
              (try simp only [Nat.zero_add])
              clear HA HF
              have HA := hide hown
              have HF := hide hFn
              clear hown hFn hgrow hat
              (try clear V)
              obtain ⟨g, rfl⟩ : ∃ g, g = g' := ⟨_, rfl⟩
              obtain ⟨V, rfl⟩ : ∃ V, V = V' := ⟨_, rfl⟩
              refine wpAnyH_ready (rs := [5, 9]) (by kernel_rfl) (by simp) ?_
              refine AllReadyH.cons (o := { dst := some 52, op := _, type := _, pos := _, after := _, guard := _ }) rfl (fun K hK => ?_) ?_
              · go_simp
                clear hHeld
                refine hK.out _ _ (unhide HS7 _ ((unhide HF).alloc _)) (fun hHeld => ?_)
                clear hK K
                (try simp only [Act.put, List.setIfInBounds_toArray, List.set_cons_zero, List.set_cons_succ])
                have HBn : Hid (Blk (V.alloc (.cells #[.bool true, .bool false] 4)) V.heap.size [.bool true, .bool false] 4) := hide (Blk.new V _ _)
                have HA' := hide ((unhide HA).alloc (.cells #[.bool true, .bool false] 4))
                clear HA
                have HA := HA'
                clear HA'
                have HF' := hide ((unhide HF).alloc (.cells #[.bool true, .bool false] 4))
                clear HF
                have HF := HF'
                clear HF'
                have HB := HBn
                clear HBn
                generalize V.alloc (.cells #[.bool true, .bool false] 4) = V' at *
                generalize V.heap.size = rb at *
                clear V
                obtain ⟨V, rfl⟩ : ∃ V, V = V' := ⟨_, rfl⟩
                refine wpAnyH_ready (rs := [9]) (by kernel_rfl) (by simp) ?_
                refine AllReadyH.cons (o := { dst := some 56, op := _, type := _, pos := _, after := _, guard := _ }) rfl (fun K hK => ?_) ?_
                · go_simp
                  clear hHeld
                  refine hK.out _ _ (unhide HS7 _ ((unhide HF).alloc _)) (fun hHeld => ?_)
                  clear hK K
                  (try simp only [Act.put, List.setIfInBounds_toArray, List.set_cons_zero, List.set_cons_succ])
                  have HCn : Hid (Blk (V.alloc (.cells #[.int .i64 z, .int .i64 (wrap64 (-z)), .int .i64 l.length, .int .i64 4611686018427387904, .int .i64 (-4611686018427387904), .slice la l.length lcap, .int .i64 0, .int .i64 0, .int .i64 0, .int .i64 0, .int .i64 0, .slice none 0 0, .int .i64 z, .int .i64 (wrap64 (-z)), .int .i64 l.length, .int .i64 4611686018427387904, .int .i64 (-4611686018427387904), .slice la l.length lcap] 43)) V.heap.size [.int .i64 z, .int .i64 (wrap64 (-z)), .int .i64 l.length, .int .i64 4611686018427387904, .int .i64 (-4611686018427387904), .slice la l.length lcap, .int .i64 0, .int .i64 0, .int .i64 0, .int .i64 0, .int .i64 0, .slice none 0 0, .int .i64 z, .int .i64 (wrap64 (-z)), .int .i64 l.length, .int .i64 4611686018427387904, .int .i64 (-4611686018427387904), .slice la l.length lcap] 43) := hide (Blk.new V _ _)
                  have HA' := hide ((unhide HA).alloc (.cells #[.int .i64 z, .int .i64 (wrap64 (-z)), .int .i64 l.length, .int .i64 4611686018427387904, .int .i64 (-4611686018427387904), .slice la l.length lcap, .int .i64 0, .int .i64 0, .int .i64 0, .int .i64 0, .int .i64 0, .slice none 0 0, .int .i64 z, .int .i64 (wrap64 (-z)), .int .i64 l.length, .int .i64 4611686018427387904, .int .i64 (-4611686018427387904), .slice la l.length lcap] 43))
                  clear HA
                  have HA := HA'
                  clear HA'
                  have HB' := hide ((unhide HB).alloc (.cells #[.int .i64 z, .int .i64 (wrap64 (-z)), .int .i64 l.length, .int .i64 4611686018427387904, .int .i64 (-4611686018427387904), .slice la l.length lcap, .int .i64 0, .int .i64 0, .int .i64 0, .int .i64 0, .int .i64 0, .slice none 0 0, .int .i64 z, .int .i64 (wrap64 (-z)), .int .i64 l.length, .int .i64 4611686018427387904, .int .i64 (-4611686018427387904), .slice la l.length lcap] 43))
                  clear HB
                  have HB := HB'
                  clear HB'
                  have HF' := hide ((unhide HF).alloc (.cells #[.int .i64 z, .int .i64 (wrap64 (-z)), .int .i64 l.length, .int .i64 4611686018427387904, .int .i64 (-4611686018427387904), .slice la l.length lcap, .int .i64 0, .int .i64 0, .int .i64 0, .int .i64 0, .int .i64 0, .slice none 0 0, .int .i64 z, .int .i64 (wrap64 (-z)), .int .i64 l.length, .int .i64 4611686018427387904, .int .i64 (-4611686018427387904), .slice la l.length lcap] 43))
                  clear HF
                  have HF := HF'
                  clear HF'
                  have HC := HCn
                  clear HCn
                  generalize V.alloc (.cells #[.int .i64 z, .int .i64 (wrap64 (-z)), .int .i64 l.length, .int .i64 4611686018427387904, .int .i64 (-4611686018427387904), .slice la l.length lcap, .int .i64 0, .int .i64 0, .int .i64 0, .int .i64 0, .int .i64 0, .slice none 0 0, .int .i64 z, .int .i64 (wrap64 (-z)), .int .i64 l.length, .int .i64 4611686018427387904, .int .i64 (-4611686018427387904), .slice la l.length lcap] 43) = V' at *
                  generalize V.heap.size = cb at *
                  clear V
                  obtain ⟨V, rfl⟩ : ∃ V, V = V' := ⟨_, rfl⟩
                  refine wpAnyH_take (i := 10) (oi := { dst := some 57, op := _, type := _, pos := _, after := _, guard := _ }) (v := (.agg #[.string s, .slice (some ⟨rb, 0, none⟩) 2 2, .int .i64 0, .int .i64 0, .bool false, .slice (some ⟨cb, 0, none⟩) 3 3])) rfl (by kernel_rfl) (by kernel_rfl) (by kernel_rfl) (fun _ _ _ h => h) (Or.inl ⟨by rfl, ?_⟩) hHeld ?_
                  · intro w' hSw
                    (try dsimp only at hSw)
                    go_simp
                  (try simp only [Act.put, List.setIfInBounds_toArray, List.set_cons_zero, List.set_cons_succ])
                  refine wpAnyH_ready (rs := [11]) (by kernel_rfl) (by simp) ?_
                  refine AllReadyH.cons (o := { dst := some 58, op := _, type := _, pos := _, after := _, guard := _ }) rfl (fun K hK => ?_) ?_
                  · go_simp
                    clear hHeld
                    refine hK.out _ _ (unhide HS7 _ ((unhide HF).alloc _)) (fun hHeld => ?_)
                    clear hK K
                    (try simp only [Act.put, List.setIfInBounds_toArray, List.set_cons_zero, List.set_cons_succ])
                    have HDn : Hid (Blk (V.alloc (.cells #[.string s, .slice (some ⟨rb, 0, none⟩) 2 2, .int .i64 0, .int .i64 0, .bool false, .slice (some ⟨cb, 0, none⟩) 3 3] 38)) V.heap.size [.string s, .slice (some ⟨rb, 0, none⟩) 2 2, .int .i64 0, .int .i64 0, .bool false, .slice (some ⟨cb, 0, none⟩) 3 3] 38) := hide (Blk.new V _ _)
                    have HN : Hid (V.heap.size ≠ g) := hide (fun e => by have := ((unhide HA).lt g rfl).2; omega)
                    have HA' := hide ((unhide HA).alloc (.cells #[.string s, .slice (some ⟨rb, 0, none⟩) 2 2, .int .i64 0, .int .i64 0, .bool false, .slice (some ⟨cb, 0, none⟩) 3 3] 38))
                    clear HA
                    have HA := HA'
                    clear HA'
                    have HB' := hide ((unhide HB).alloc (.cells #[.string s, .slice (some ⟨rb, 0, none⟩) 2 2, .int .i64 0, .int .i64 0, .bool false, .slice (some ⟨cb, 0, none⟩) 3 3] 38))
                    clear HB
                    have HB := HB'
                    clear HB'
                    have HC' := hide ((unhide HC).alloc (.cells #[.string s, .slice (some ⟨rb, 0, none⟩) 2 2, .int .i64 0, .int .i64 0, .bool false, .slice (some ⟨cb, 0, none⟩) 3 3] 38))
                    clear HC
                    have HC := HC'
                    clear HC'
                    have HF' := hide ((unhide HF).alloc (.cells #[.string s, .slice (some ⟨rb, 0, none⟩) 2 2, .int .i64 0, .int .i64 0, .bool false, .slice (some ⟨cb, 0, none⟩) 3 3] 38))
                    clear HF
                    have HF := HF'
                    clear HF'
                    have HD := HDn
                    clear HDn
                    generalize V.alloc (.cells #[.string s, .slice (some ⟨rb, 0, none⟩) 2 2, .int .i64 0, .int .i64 0, .bool false, .slice (some ⟨cb, 0, none⟩) 3 3] 38) = V' at *
                    generalize V.heap.size = fb at *
                    clear V
                    obtain ⟨V, rfl⟩ : ∃ V, V = V' := ⟨_, rfl⟩
                    refine wpAnyH_ready (rs := [12]) (by kernel_rfl) (by simp) ?_
                    refine AllReadyH.cons (o := { dst := some 59, op := _, type := _, pos := _, after := _, guard := _ }) rfl (fun K hK => ?_) ?_
                    · refine step_append_any _ rfl (.tmp 50) (.tmp 58) 25 rfl W7.heap.size 38 i2 (.agg #[.string ⟨#[]⟩, .slice none 0 0, .int .i64 0, .int .i64 0, .bool false, .slice none 0 0]) 6 88 Tryd.underlying25 hi2 hy0 hy1 hy2 rfl (by decide) g x.funcs.length cg (items.flatMap (·.2)) rfl (unhide HA) (some ⟨fb, 0, none⟩) 1 1 [.string s, .slice (some ⟨rb, 0, none⟩) 2 2, .int .i64 0, .int .i64 0, .bool false, .slice (some ⟨cb, 0, none⟩) 3 3] rfl rfl (box_src (unhide HD).1) six_one (by omega) (by decide) (unhide HF).size ?_
                      intro g6 c6 V' hown hgrow hat
                      have hFn : Fr (fun _ => False) W7 V' := (unhide HF).up (Fr.grown hgrow) fun k hk => .inr (by have := ((unhide HA).lt g rfl).1; have hk' : k = g := Option.some.inj hk; omega)
                      have HGR := hide (GrR.of (unhide HQ7) (unhide HIt) (unhide HIC) (by omega) (Nat.le_refl _) (unhide HF27) hFn hown ((unhide HB).grown hgrow ((unhide HB).ne (unhide HA) (by decide))) ((unhide HC).grown hgrow ((unhide HC).ne (unhide HA) (by decide))) hBW (unhide HTB) (by omega) (unhide HZ) n0 (unhide HLl) htx2)
                      have q3 := hFn.cell ((unhide HQ7) 3 _ rfl) id
                      have qf3 : V'.frozen? ⟨w2.heap.size + 1, 3, none⟩ = false := hFn.frozen (show w2.heap.size + 1 < _ from hBW) qf7 id
                      have HS9 := hide (unhide HS8 _ (((hFn.mono fun _ h => h.elim).trans ((Fr.refl (· = w2.heap.size + 1) V').setCell (p := ⟨w2.heap.size + 1, 3, none⟩) rfl (.slice (some ⟨g6, 0, none⟩) (x.funcs.length + 1) c6)))))
                      clear hHeld
                      refine hK.out _ _ (unhide HS7 _ hFn) (fun hHeld => ?_)
                      clear hK K hFn hown hgrow hat
                      (try simp only [Act.put, List.setIfInBounds_toArray, List.set_cons_zero, List.set_cons_succ])
                      refine wpAnyH_take (i := 13) (oi := { dst := some 60, op := _, type := _, pos := _, after := _, guard := _ }) (v := .pointer (some ⟨w2.heap.size + 1, 3, none⟩)) rfl (by kernel_rfl) (by kernel_rfl) (by kernel_rfl) (fun _ _ _ h => h) (Or.inl ⟨by rfl, ?_⟩) hHeld ?_
                      · intro w' hSw
                        (try dsimp only at hSw)
                        go_simp
                      (try simp only [Act.put, List.setIfInBounds_toArray, List.set_cons_zero, List.set_cons_succ])
                      refine wpAnyH_ready (rs := [14]) (by kernel_rfl) (by simp) ?_
                      refine AllReadyH.cons (o := { dst := none, op := _, type := _, pos := _, after := _, guard := _ }) rfl (fun K hK => ?_) AllReadyH.nil
                      go_simp
                      clear hHeld
                      refine hK.out _ _ (unhide HS9) (fun hHeld => ?_)
                      clear hK K
                      (try simp only [Act.put, List.setIfInBounds_toArray, List.set_cons_zero, List.set_cons_succ])
                      refine wpAnyH_done (by kernel_rfl) ?_ _
                      go_wp2_with fail
                      go_meet
                      case rel => exact HGR
                    exact AllReadyH.nil
                  exact AllReadyH.nil
                exact AllReadyH.nil
              refine AllReadyH.cons (o := { dst := some 56, op := _, type := _, pos := _, after := _, guard := _ }) rfl (fun K hK => ?_) ?_
              · go_simp
                clear hHeld
                refine hK.out _ _ (unhide HS7 _ ((unhide HF).alloc _)) (fun hHeld => ?_)
                clear hK K
                (try simp only [Act.put, List.setIfInBounds_toArray, List.set_cons_zero, List.set_cons_succ])
                have HCn : Hid (Blk (V.alloc (.cells #[.int .i64 z, .int .i64 (wrap64 (-z)), .int .i64 l.length, .int .i64 4611686018427387904, .int .i64 (-4611686018427387904), .slice la l.length lcap, .int .i64 0, .int .i64 0, .int .i64 0, .int .i64 0, .int .i64 0, .slice none 0 0, .int .i64 z, .int .i64 (wrap64 (-z)), .int .i64 l.length, .int .i64 4611686018427387904, .int .i64 (-4611686018427387904), .slice la l.length lcap] 43)) V.heap.size [.int .i64 z, .int .i64 (wrap64 (-z)), .int .i64 l.length, .int .i64 4611686018427387904, .int .i64 (-4611686018427387904), .slice la l.length lcap, .int .i64 0, .int .i64 0, .int .i64 0, .int .i64 0, .int .i64 0, .slice none 0 0, .int .i64 z, .int .i64 (wrap64 (-z)), .int .i64 l.length, .int .i64 4611686018427387904, .int .i64 (-4611686018427387904), .slice la l.length lcap] 43) := hide (Blk.new V _ _)
                have HA' := hide ((unhide HA).alloc (.cells #[.int .i64 z, .int .i64 (wrap64 (-z)), .int .i64 l.length, .int .i64 4611686018427387904, .int .i64 (-4611686018427387904), .slice la l.length lcap, .int .i64 0, .int .i64 0, .int .i64 0, .int .i64 0, .int .i64 0, .slice none 0 0, .int .i64 z, .int .i64 (wrap64 (-z)), .int .i64 l.length, .int .i64 4611686018427387904, .int .i64 (-4611686018427387904), .slice la l.length lcap] 43))
                clear HA
                have HA := HA'
                clear HA'
                have HF' := hide ((unhide HF).alloc (.cells #[.int .i64 z, .int .i64 (wrap64 (-z)), .int .i64 l.length, .int .i64 4611686018427387904, .int .i64 (-4611686018427387904), .slice la l.length lcap, .int .i64 0, .int .i64 0, .int .i64 0, .int .i64 0, .int .i64 0, .slice none 0 0, .int .i64 z, .int .i64 (wrap64 (-z)), .int .i64 l.length, .int .i64 4611686018427387904, .int .i64 (-4611686018427387904), .slice la l.length lcap] 43))
                clear HF
                have HF := HF'
                clear HF'
                have HC := HCn
                clear HCn
                generalize V.alloc (.cells #[.int .i64 z, .int .i64 (wrap64 (-z)), .int .i64 l.length, .int .i64 4611686018427387904, .int .i64 (-4611686018427387904), .slice la l.length lcap, .int .i64 0, .int .i64 0, .int .i64 0, .int .i64 0, .int .i64 0, .slice none 0 0, .int .i64 z, .int .i64 (wrap64 (-z)), .int .i64 l.length, .int .i64 4611686018427387904, .int .i64 (-4611686018427387904), .slice la l.length lcap] 43) = V' at *
                generalize V.heap.size = cb at *
                clear V
                obtain ⟨V, rfl⟩ : ∃ V, V = V' := ⟨_, rfl⟩
                refine wpAnyH_ready (rs := [5]) (by kernel_rfl) (by simp) ?_
                refine AllReadyH.cons (o := { dst := some 52, op := _, type := _, pos := _, after := _, guard := _ }) rfl (fun K hK => ?_) ?_
                · go_simp
                  clear hHeld
                  refine hK.out _ _ (unhide HS7 _ ((unhide HF).alloc _)) (fun hHeld => ?_)
                  clear hK K
                  (try simp only [Act.put, List.setIfInBounds_toArray, List.set_cons_zero, List.set_cons_succ])
                  have HBn : Hid (Blk (V.alloc (.cells #[.bool true, .bool false] 4)) V.heap.size [.bool true, .bool false] 4) := hide (Blk.new V _ _)
                  have HA' := hide ((unhide HA).alloc (.cells #[.bool true, .bool false] 4))
                  clear HA
                  have HA := HA'
                  clear HA'
                  have HC' := hide ((unhide HC).alloc (.cells #[.bool true, .bool false] 4))
                  clear HC
                  have HC := HC'
                  clear HC'
                  have HF' := hide ((unhide HF).alloc (.cells #[.bool true, .bool false] 4))
                  clear HF
                  have HF := HF'
                  clear HF'
                  have HB := HBn
                  clear HBn
                  generalize V.alloc (.cells #[.bool true, .bool false] 4) = V' at *
                  generalize V.heap.size = rb at *
                  clear V
                  obtain ⟨V, rfl⟩ : ∃ V, V = V' := ⟨_, rfl⟩
                  refine wpAnyH_take (i := 10) (oi := { dst := some 57, op := _, type := _, pos := _, after := _, guard := _ }) (v := (.agg #[.string s, .slice (some ⟨rb, 0, none⟩) 2 2, .int .i64 0, .int .i64 0, .bool false, .slice (some ⟨cb, 0, none⟩) 3 3])) rfl (by kernel_rfl) (by kernel_rfl) (by kernel_rfl) (fun _ _ _ h => h) (Or.inl ⟨by rfl, ?_⟩) hHeld ?_
                  · intro w' hSw
                    (try dsimp only at hSw)
                    go_simp
                  (try simp only [Act.put, List.setIfInBounds_toArray, List.set_cons_zero, List.set_cons_succ])
                  refine wpAnyH_ready (rs := [11]) (by kernel_rfl) (by simp) ?_
                  refine AllReadyH.cons (o := { dst := some 58, op := _, type := _, pos := _, after := _, guard := _ }) rfl (fun K hK => ?_) ?_
                  · go_simp
                    clear hHeld
                    refine hK.out _ _ (unhide HS7 _ ((unhide HF).alloc _)) (fun hHeld => ?_)
                    clear hK K
                    (try simp only [Act.put, List.setIfInBounds_toArray, List.set_cons_zero, List.set_cons_succ])
                    have HDn : Hid (Blk (V.alloc (.cells #[.string s, .slice (some ⟨rb, 0, none⟩) 2 2, .int .i64 0, .int .i64 0, .bool false, .slice (some ⟨cb, 0, none⟩) 3 3] 38)) V.heap.size [.string s, .slice (some ⟨rb, 0, none⟩) 2 2, .int .i64 0, .int .i64 0, .bool false, .slice (some ⟨cb, 0, none⟩) 3 3] 38) := hide (Blk.new V _ _)
                    have HN : Hid (V.heap.size ≠ g) := hide (fun e => by have := ((unhide HA).lt g rfl).2; omega)
                    have HA' := hide ((unhide HA).alloc (.cells #[.string s, .slice (some ⟨rb, 0, none⟩) 2 2, .int .i64 0, .int .i64 0, .bool false, .slice (some ⟨cb, 0, none⟩) 3 3] 38))
                    clear HA
                    have HA := HA'
                    clear HA'
                    have HB' := hide ((unhide HB).alloc (.cells #[.string s, .slice (some ⟨rb, 0, none⟩) 2 2, .int .i64 0, .int .i64 0, .bool false, .slice (some ⟨cb, 0, none⟩) 3 3] 38))
                    clear HB
                    have HB := HB'
                    clear HB'
                    have HC' := hide ((unhide HC).alloc (.cells #[.string s, .slice (some ⟨rb, 0, none⟩) 2 2, .int .i64 0, .int .i64 0, .bool false, .slice (some ⟨cb, 0, none⟩) 3 3] 38))
                    clear HC
                    have HC := HC'
                    clear HC'
                    have HF' := hide ((unhide HF).alloc (.cells #[.string s, .slice (some ⟨rb, 0, none⟩) 2 2, .int .i64 0, .int .i64 0, .bool false, .slice (some ⟨cb, 0, none⟩) 3 3] 38))
                    clear HF
                    have HF := HF'
                    clear HF'
                    have HD := HDn
                    clear HDn
                    generalize V.alloc (.cells #[.string s, .slice (some ⟨rb, 0, none⟩) 2 2, .int .i64 0, .int .i64 0, .bool false, .slice (some ⟨cb, 0, none⟩) 3 3] 38) = V' at *
                    generalize V.heap.size = fb at *
                    clear V
                    obtain ⟨V, rfl⟩ : ∃ V, V = V' := ⟨_, rfl⟩
                    refine wpAnyH_ready (rs := [12]) (by kernel_rfl) (by simp) ?_
                    refine AllReadyH.cons (o := { dst := some 59, op := _, type := _, pos := _, after := _, guard := _ }) rfl (fun K hK => ?_) ?_
                    · refine step_append_any _ rfl (.tmp 50) (.tmp 58) 25 rfl W7.heap.size 38 i2 (.agg #[.string ⟨#[]⟩, .slice none 0 0, .int .i64 0, .int .i64 0, .bool false, .slice none 0 0]) 6 88 Tryd.underlying25 hi2 hy0 hy1 hy2 rfl (by decide) g x.funcs.length cg (items.flatMap (·.2)) rfl (unhide HA) (some ⟨fb, 0, none⟩) 1 1 [.string s, .slice (some ⟨rb, 0, none⟩) 2 2, .int .i64 0, .int .i64 0, .bool false, .slice (some ⟨cb, 0, none⟩) 3 3] rfl rfl (box_src (unhide HD).1) six_one (by omega) (by decide) (unhide HF).size ?_
                      intro g6 c6 V' hown hgrow hat
                      have hFn : Fr (fun _ => False) W7 V' := (unhide HF).up (Fr.grown hgrow) fun k hk => .inr (by have := ((unhide HA).lt g rfl).1; have hk' : k = g := Option.some.inj hk; omega)
                      have HGR := hide (GrR.of (unhide HQ7) (unhide HIt) (unhide HIC) (by omega) (Nat.le_refl _) (unhide HF27) hFn hown ((unhide HB).grown hgrow ((unhide HB).ne (unhide HA) (by decide))) ((unhide HC).grown hgrow ((unhide HC).ne (unhide HA) (by decide))) hBW (unhide HTB) (by omega) (unhide HZ) n0 (unhide HLl) htx2)
                      have q3 := hFn.cell ((unhide HQ7) 3 _ rfl) id
                      have qf3 : V'.frozen? ⟨w2.heap.size + 1, 3, none⟩ = false := hFn.frozen (show w2.heap.size + 1 < _ from hBW) qf7 id
                      have HS9 := hide (unhide HS8 _ (((hFn.mono fun _ h => h.elim).trans ((Fr.refl (· = w2.heap.size + 1) V').setCell (p := ⟨w2.heap.size + 1, 3, none⟩) rfl (.slice (some ⟨g6, 0, none⟩) (x.funcs.length + 1) c6)))))
                      clear hHeld
                      refine hK.out _ _ (unhide HS7 _ hFn) (fun hHeld => ?_)
                      clear hK K hFn hown hgrow hat
                      (try simp only [Act.put, List.setIfInBounds_toArray, List.set_cons_zero, List.set_cons_succ])
                      refine wpAnyH_take (i := 13) (oi := { dst := some 60, op := _, type := _, pos := _, after := _, guard := _ }) (v := .pointer (some ⟨w2.heap.size + 1, 3, none⟩)) rfl (by kernel_rfl) (by kernel_rfl) (by kernel_rfl) (fun _ _ _ h => h) (Or.inl ⟨by rfl, ?_⟩) hHeld ?_
                      · intro w' hSw
                        (try dsimp only at hSw)
                        go_simp
                      (try simp only [Act.put, List.setIfInBounds_toArray, List.set_cons_zero, List.set_cons_succ])
                      refine wpAnyH_ready (rs := [14]) (by kernel_rfl) (by simp) ?_
                      refine AllReadyH.cons (o := { dst := none, op := _, type := _, pos := _, after := _, guard := _ }) rfl (fun K hK => ?_) AllReadyH.nil
                      go_simp
                      clear hHeld
                      refine hK.out _ _ (unhide HS9) (fun hHeld => ?_)
                      clear hK K
                      (try simp only [Act.put, List.setIfInBounds_toArray, List.set_cons_zero, List.set_cons_succ])
                      refine wpAnyH_done (by kernel_rfl) ?_ _
                      go_wp2_with fail
                      go_meet
                      case rel => exact HGR
                    exact AllReadyH.nil
                  exact AllReadyH.nil
                exact AllReadyH.nil
              exact AllReadyH.nil
            refine AllReadyH.cons (o := { dst := some 52, op := _, type := _, pos := _, after := _, guard := _ }) rfl (fun K hK => ?_) ?_
            · go_simp
              clear hHeld
              refine hK.out _ _ (unhide HS7 _ ((unhide HF).alloc _)) (fun hHeld => ?_)
              clear hK K
              (try simp only [Act.put, List.setIfInBounds_toArray, List.set_cons_zero, List.set_cons_succ])
              have HBn : Hid (Blk (V.alloc (.cells #[.bool true, .bool false] 4)) V.heap.size [.bool true, .bool false] 4) := hide (Blk.new V _ _)
              have HA' := hide ((unhide HA).alloc (.cells #[.bool true, .bool false] 4))
              clear HA
              have HA := HA'
              clear HA'
              have HF' := hide ((unhide HF).alloc (.cells #[.bool true, .bool false] 4))
              clear HF
              have HF := HF'
              clear HF'
              have HB := HBn
              clear HBn
              generalize V.alloc (.cells #[.bool true, .bool false] 4) = V' at *
              generalize V.heap.size = rb at *
              clear V
              obtain ⟨V, rfl⟩ : ∃ V, V = V' := ⟨_, rfl⟩
              refine wpAnyH_ready (rs := [3, 9]) (by kernel_rfl) (by simp) ?_
              refine AllReadyH.cons (o := { dst := some 50, op := _, type := _, pos := _, after := _, guard := _ }) rfl (fun K hK => ?_) ?_
              · refine step_append_any _ rfl (.tmp 47) (.tmp 49) 25 rfl W7.heap.size 38 i2 (.agg #[.string ⟨#[]⟩, .slice none 0 0, .int .i64 0, .int .i64 0, .bool false, .slice none 0 0]) 6 88 Tryd.underlying25 hi2 hy0 hy1 hy2 rfl (by decide) g 0 0 [] rfl (unhide HA) a4 x.funcs.length c4 (items.flatMap (·.2)) rfl (unhide HIl) (unhide HSf _ ((unhide HF27).trans (unhide HF))) (unhide HIo) (by omega) (by decide) (unhide HF).size ?_
                intro g' cg V' hown hgrow hat
                simp only [Nat.zero_add, List.nil_append] at hown
                have hFn : Fr (fun _ => False) W7 V' := (unhide HF).up (Fr.grown hgrow) fun k hk => .inr (by have := ((unhide HA).lt g rfl).1; have hk' : k = g := Option.some.inj hk; omega)
                clear hHeld
                refine hK.out _ _ (unhide HS7 _ hFn) (fun hHeld => ?_)
                clear hK K
                (try simp only [Act.put, List.setIfInBounds_toArray, List.set_cons_zero, List.set_cons_succ])
                (try simp only [Nat.zero_add])
                have HB' := hide ((unhide HB).grown hgrow ((unhide HB).ne (unhide HA) (by decide)))
                clear HB
                have HB := HB'
                clear HB'
                clear HA HF
                have HA := hide hown
                have HF := hide hFn
                clear hown hFn hgrow hat
                (try clear V)
                obtain ⟨g, rfl⟩ : ∃ g, g = g' := ⟨_, rfl⟩
                obtain ⟨V, rfl⟩ : ∃ V, V = V' := ⟨_, rfl⟩
                refine wpAnyH_ready (rs := [9]) (by kernel_rfl) (by simp) ?_
                refine AllReadyH.cons (o := { dst := some 56, op := _, type := _, pos := _, after := _, guard := _ }) rfl (fun K hK => ?_) ?_
                · go_simp
                  clear hHeld
                  refine hK.out _ _ (unhide HS7 _ ((unhide HF).alloc _)) (fun hHeld => ?_)
                  clear hK K
                  (try simp only [Act.put, List.setIfInBounds_toArray, List.set_cons_zero, List.set_cons_succ])
                  have HCn : Hid (Blk (V.alloc (.cells #[.int .i64 z, .int .i64 (wrap64 (-z)), .int .i64 l.length, .int .i64 4611686018427387904, .int .i64 (-4611686018427387904), .slice la l.length lcap, .int .i64 0, .int .i64 0, .int .i64 0, .int .i64 0, .int .i64 0, .slice none 0 0, .int .i64 z, .int .i64 (wrap64 (-z)), .int .i64 l.length, .int .i64 4611686018427387904, .int .i64 (-4611686018427387904), .slice la l.length lcap] 43)) V.heap.size [.int .i64 z, .int .i64 (wrap64 (-z)), .int .i64 l.length, .int .i64 4611686018427387904, .int .i64 (-4611686018427387904), .slice la l.length lcap, .int .i64 0, .int .i64 0, .int .i64 0, .int .i64 0, .int .i64 0, .slice none 0 0, .int .i64 z, .int .i64 (wrap64 (-z)), .int .i64 l.length, .int .i64 4611686018427387904, .int .i64 (-4611686018427387904), .slice la l.length lcap] 43) := hide (Blk.new V _ _)
                  have HA' := hide ((unhide HA).alloc (.cells #[.int .i64 z, .int .i64 (wrap64 (-z)), .int .i64 l.length, .int .i64 4611686018427387904, .int .i64 (-4611686018427387904), .slice la l.length lcap, .int .i64 0, .int .i64 0, .int .i64 0, .int .i64 0, .int .i64 0, .slice none 0 0, .int .i64 z, .int .i64 (wrap64 (-z)), .int .i64 l.length, .int .i64 4611686018427387904, .int .i64 (-4611686018427387904), .slice la l.length lcap] 43))
                  clear HA
                  have HA := HA'
                  clear HA'
                  have HB' := hide ((unhide HB).alloc (.cells #[.int .i64 z, .int .i64 (wrap64 (-z)), .int .i64 l.length, .int .i64 4611686018427387904, .int .i64 (-4611686018427387904), .slice la l.length lcap, .int .i64 0, .int .i64 0, .int .i64 0, .int .i64 0, .int .i64 0, .slice none 0 0, .int .i64 z, .int .i64 (wrap64 (-z)), .int .i64 l.length, .int .i64 4611686018427387904, .int .i64 (-4611686018427387904), .slice la l.length lcap] 43))
                  clear HB
                  have HB := HB'
                  clear HB'
                  have HF' := hide ((unhide HF).alloc (.cells #[.int .i64 z, .int .i64 (wrap64 (-z)), .int .i64 l.length, .int .i64 4611686018427387904, .int .i64 (-4611686018427387904), .slice la l.length lcap, .int .i64 0, .int .i64 0, .int .i64 0, .int .i64 0, .int .i64 0, .slice none 0 0, .int .i64 z, .int .i64 (wrap64 (-z)), .int .i64 l.length, .int .i64 4611686018427387904, .int .i64 (-4611686018427387904), .slice la l.length lcap] 43))
                  clear HF
                  have HF := HF'
                  clear HF'
                  have HC := HCn
                  clear HCn
                  generalize V.alloc (.cells #[.int .i64 z, .int .i64 (wrap64 (-z)), .int .i64 l.length, .int .i64 4611686018427387904, .int .i64 (-4611686018427387904), .slice la l.length lcap, .int .i64 0, .int .i64 0, .int .i64 0, .int .i64 0, .int .i64 0, .slice none 0 0, .int .i64 z, .int .i64 (wrap64 (-z)), .int .i64 l.length, .int .i64 4611686018427387904, .int .i64 (-4611686018427387904), .slice la l.length lcap] 43) = V' at *
                  generalize V.heap.size = cb at *
                  clear V
                  obtain ⟨V, rfl⟩ : ∃ V, V = V' := ⟨_, rfl⟩
                  refine wpAnyH_take (i := 10) (oi := { dst := some 57, op := _, type := _, pos := _, after := _, guard := _ }) (v := (.agg #[.string s, .slice (some ⟨rb, 0, none⟩) 2 2, .int .i64 0, .int .i64 0, .bool false, .slice (some ⟨cb, 0, none⟩) 3 3])) rfl (by kernel_rfl) (by kernel_rfl) (by kernel_rfl) (fun _ _ _ h => h) (Or.inl ⟨by rfl, ?_⟩) hHeld ?_
                  · intro w' hSw
                    (try dsimp only at hSw)
                    go_simp
                  (try simp only [Act.put, List.setIfInBounds_toArray, List.set_cons_zero, List.set_cons_succ])
                  refine wpAnyH_ready (rs := [11]) (by kernel_rfl) (by simp) ?_
                  refine AllReadyH.cons (o := { dst := some 58, op := _, type := _, pos := _, after := _, guard := _ }) rfl (fun K hK => ?_) ?_
                  · go_simp
                    clear hHeld
                    refine hK.out _ _ (unhide HS7 _ ((unhide HF).alloc _)) (fun hHeld => ?_)
                    clear hK K
                    (try simp only [Act.put, List.setIfInBounds_toArray, List.set_cons_zero, List.set_cons_succ])
                    have HDn : Hid (Blk (V.alloc (.cells #[.string s, .slice (some ⟨rb, 0, none⟩) 2 2, .int .i64 0, .int .i64 0, .bool false, .slice (some ⟨cb, 0, none⟩) 3 3] 38)) V.heap.size [.string s, .slice (some ⟨rb, 0, none⟩) 2 2, .int .i64 0, .int .i64 0, .bool false, .slice (some ⟨cb, 0, none⟩) 3 3] 38) := hide (Blk.new V _ _)
                    have HN : Hid (V.heap.size ≠ g) := hide (fun e => by have := ((unhide HA).lt g rfl).2; omega)
                    have HA' := hide ((unhide HA).alloc (.cells #[.string s, .slice (some ⟨rb, 0, none⟩) 2 2, .int .i64 0, .int .i64 0, .bool false, .slice (some ⟨cb, 0, none⟩) 3 3] 38))
                    clear HA
                    have HA := HA'
                    clear HA'
                    have HB' := hide ((unhide HB).alloc (.cells #[.string s, .slice (some ⟨rb, 0, none⟩) 2 2, .int .i64 0, .int .i64 0, .bool false, .slice (some ⟨cb, 0, none⟩) 3 3] 38))
                    clear HB
                    have HB := HB'
                    clear HB'
                    have HC' := hide ((unhide HC).alloc (.cells #[.string s, .slice (some ⟨rb, 0, none⟩) 2 2, .int .i64 0, .int .i64 0, .bool false, .slice (some ⟨cb, 0, none⟩) 3 3] 38))
                    clear HC
                    have HC := HC'
                    clear HC'
                    have HF' := hide ((unhide HF).alloc (.cells #[.string s, .slice (some ⟨rb, 0, none⟩) 2 2, .int .i64 0, .int .i64 0, .bool false, .slice (some ⟨cb, 0, none⟩) 3 3] 38))
                    clear HF
                    have HF := HF'
                    clear HF'
                    have HD := HDn
                    clear HDn
                    generalize V.alloc (.cells #[.string s, .slice (some ⟨rb, 0, none⟩) 2 2, .int .i64 0, .int .i64 0, .bool false, .slice (some ⟨cb, 0, none⟩) 3 3] 38) = V' at *
                    generalize V.heap.size = fb at *
                    clear V
                    obtain ⟨V, rfl⟩ : ∃ V, V = V' := ⟨_, rfl⟩
                    refine wpAnyH_ready (rs := [12]) (by kernel_rfl) (by simp) ?_
                    refine AllReadyH.cons (o := { dst := some 59, op := _, type := _, pos := _, after := _, guard := _ }) rfl (fun K hK => ?_) ?_
                    · refine step_append_any _ rfl (.tmp 50) (.tmp 58) 25 rfl W7.heap.size 38 i2 (.agg #[.string ⟨#[]⟩, .slice none 0 0, .int .i64 0, .int .i64 0, .bool false, .slice none 0 0]) 6 88 Tryd.underlying25 hi2 hy0 hy1 hy2 rfl (by decide) g x.funcs.length cg (items.flatMap (·.2)) rfl (unhide HA) (some ⟨fb, 0, none⟩) 1 1 [.string s, .slice (some ⟨rb, 0, none⟩) 2 2, .int .i64 0, .int .i64 0, .bool false, .slice (some ⟨cb, 0, none⟩) 3 3] rfl rfl (box_src (unhide HD).1) six_one (by omega) (by decide) (unhide HF).size ?_
                      intro g6 c6 V' hown hgrow hat
                      have hFn : Fr (fun _ => False) W7 V' := (unhide HF).up (Fr.grown hgrow) fun k hk => .inr (by have := ((unhide HA).lt g rfl).1; have hk' : k = g := Option.some.inj hk; omega)
                      have HGR := hide (GrR.of (unhide HQ7) (unhide HIt) (unhide HIC) (by omega) (Nat.le_refl _) (unhide HF27) hFn hown ((unhide HB).grown hgrow ((unhide HB).ne (unhide HA) (by decide))) ((unhide HC).grown hgrow ((unhide HC).ne (unhide HA) (by decide))) hBW (unhide HTB) (by omega) (unhide HZ) n0 (unhide HLl) htx2)
                      have q3 := hFn.cell ((unhide HQ7) 3 _ rfl) id
                      have qf3 : V'.frozen? ⟨w2.heap.size + 1, 3, none⟩ = false := hFn.frozen (show w2.heap.size + 1 < _ from hBW) qf7 id
                      have HS9 := hide (unhide HS8 _ (((hFn.mono fun _ h => h.elim).trans ((Fr.refl (· = w2.heap.size + 1) V').setCell (p := ⟨w2.heap.size + 1, 3, none⟩) rfl (.slice (some ⟨g6, 0, none⟩) (x.funcs.length + 1) c6)))))
                      clear hHeld
                      refine hK.out _ _ (unhide HS7 _ hFn) (fun hHeld => ?_)
                      clear hK K hFn hown hgrow hat
                      (try simp only [Act.put, List.setIfInBounds_toArray, List.set_cons_zero, List.set_cons_succ])
                      refine wpAnyH_take (i := 13) (oi := { dst := some 60, op := _, type := _, pos := _, after := _, guard := _ }) (v := .pointer (some ⟨w2.heap.size + 1, 3, none⟩)) rfl (by kernel_rfl) (by kernel_rfl) (by kernel_rfl) (fun _ _ _ h => h) (Or.inl ⟨by rfl, ?_⟩) hHeld ?_
                      · intro w' hSw
                        (try dsimp only at hSw)
                        go_simp
                      (try simp only [Act.put, List.setIfInBounds_toArray, List.set_cons_zero, List.set_cons_succ])
                      refine wpAnyH_ready (rs := [14]) (by kernel_rfl) (by simp) ?_
                      refine AllReadyH.cons (o := { dst := none, op := _, type := _, pos := _, after := _, guard := _ }) rfl (fun K hK => ?_) AllReadyH.nil
                      go_simp
                      clear hHeld
                      refine hK.out _ _ (unhide HS9) (fun hHeld => ?_)
                      clear hK K
                      (try simp only [Act.put, List.setIfInBounds_toArray, List.set_cons_zero, List.set_cons_succ])
                      refine wpAnyH_done (by kernel_rfl) ?_ _
                      go_wp2_with fail
                      go_meet
                      case rel => exact HGR
                    exact AllReadyH.nil
                  exact AllReadyH.nil
                exact AllReadyH.nil
              refine AllReadyH.cons (o := { dst := some 56, op := _, type := _, pos := _, after := _, guard := _ }) rfl (fun K hK => ?_) ?_
              · go_simp
                clear hHeld
                refine hK.out _ _ (unhide HS7 _ ((unhide HF).alloc _)) (fun hHeld => ?_)
                clear hK K
                (try simp only [Act.put, List.setIfInBounds_toArray, List.set_cons_zero, List.set_cons_succ])
                have HCn : Hid (Blk (V.alloc (.cells #[.int .i64 z, .int .i64 (wrap64 (-z)), .int .i64 l.length, .int .i64 4611686018427387904, .int .i64 (-4611686018427387904), .slice la l.length lcap, .int .i64 0, .int .i64 0, .int .i64 0, .int .i64 0, .int .i64 0, .slice none 0 0, .int .i64 z, .int .i64 (wrap64 (-z)), .int .i64 l.length, .int .i64 4611686018427387904, .int .i64 (-4611686018427387904), .slice la l.length lcap] 43)) V.heap.size [.int .i64 z, .int .i64 (wrap64 (-z)), .int .i64 l.length, .int .i64 4611686018427387904, .int .i64 (-4611686018427387904), .slice la l.length lcap, .int .i64 0, .int .i64 0, .int .i64 0, .int .i64 0, .int .i64 0, .slice none 0 0, .int .i64 z, .int .i64 (wrap64 (-z)), .int .i64 l.length, .int .i64 4611686018427387904, .int .i64 (-4611686018427387904), .slice la l.length lcap] 43) := hide (Blk.new V _ _)
                have HA' := hide ((unhide HA).alloc (.cells #[.int .i64 z, .int .i64 (wrap64 (-z)), .int .i64 l.length, .int .i64 4611686018427387904, .int .i64 (-4611686018427387904), .slice la l.length lcap, .int .i64 0, .int .i64 0, .int .i64 0, .int .i64 0, .int .i64 0, .slice none 0 0, .int .i64 z, .int .i64 (wrap64 (-z)), .int .i64 l.length, .int .i64 4611686018427387904, .int .i64 (-4611686018427387904), .slice la l.length lcap] 43))
                clear HA
                have HA := HA'
                clear HA'
                have HB' := hide ((unhide HB).alloc (.cells #[.int .i64 z, .int .i64 (wrap64 (-z)), .int .i64 l.length, .int .i64 4611686018427387904, .int .i64 (-4611686018427387904), .slice la l.length lcap, .int .i64 0, .int .i64 0, .int .i64 0, .int .i64 0, .int .i64 0, .slice none 0 0, .int .i64 z, .int .i64 (wrap64 (-z)), .int .i64 l.length, .int .i64 4611686018427387904, .int .i64 (-4611686018427387904), .slice la l.length lcap] 43))
                clear HB
                have HB := HB'
                clear HB'
                have HF' := hide ((unhide HF).alloc (.cells #[.int .i64 z, .int .i64 (wrap64 (-z)), .int .i64 l.length, .int .i64 4611686018427387904, .int .i64 (-4611686018427387904), .slice la l.length lcap, .int .i64 0, .int .i64 0, .int .i64 0, .int .i64 0, .int .i64 0, .slice none 0 0, .int .i64 z, .int .i64 (wrap64 (-z)), .int .i64 l.length, .int .i64 4611686018427387904, .int .i64 (-4611686018427387904), .slice la l.length lcap] 43))
                clear HF
                have HF := HF'
                clear HF'
                have HC := HCn
                clear HCn
                generalize V.alloc (.cells #[.int .i64 z, .int .i64 (wrap64 (-z)), .int .i64 l.length, .int .i64 4611686018427387904, .int .i64 (-4611686018427387904), .slice la l.length lcap, .int .i64 0, .int .i64 0, .int .i64 0, .int .i64 0, .int .i64 0, .slice none 0 0, .int .i64 z, .int .i64 (wrap64 (-z)), .int .i64 l.length, .int .i64 4611686018427387904, .int .i64 (-4611686018427387904), .slice la l.length lcap] 43) = V' at *
                generalize V.heap.size = cb at *
                clear V
                obtain ⟨V, rfl⟩ : ∃ V, V = V' := ⟨_, rfl⟩
                refine wpAnyH_take (i := 10) (oi := { dst := some 57, op := _, type := _, pos := _, after := _, guard := _ }) (v := (.agg #[.string s, .slice (some ⟨rb, 0, none⟩) 2 2, .int .i64 0, .int .i64 0, .bool false, .slice (some ⟨cb, 0, none⟩) 3 3])) rfl (by kernel_rfl) (by kernel_rfl) (by kernel_rfl) (fun _ _ _ h => h) (Or.inl ⟨by rfl, ?_⟩) hHeld ?_
                · intro w' hSw
                  (try dsimp only at hSw)
                  go_simp
                (try simp only [Act.put, List.setIfInBounds_toArray, List.set_cons_zero, List.set_cons_succ])
                refine wpAnyH_ready (rs := [3, 11]) (by kernel_rfl) (by simp) ?_
                refine AllReadyH.cons (o := { dst := some 50, op := _, type := _, pos := _, after := _, guard := _ }) rfl (fun K hK => ?_) ?_
                · refine step_append_any _ rfl (.tmp 47) (.tmp 49) 25 rfl W7.heap.size 38 i2 (.agg #[.string ⟨#[]⟩, .slice none 0 0, .int .i64 0, .int .i64 0, .bool false, .slice none 0 0]) 6 88 Tryd.underlying25 hi2 hy0 hy1 hy2 rfl (by decide) g 0 0 [] rfl (unhide HA) a4 x.funcs.length c4 (items.flatMap (·.2)) rfl (unhide HIl) (unhide HSf _ ((unhide HF27).trans (unhide HF))) (unhide HIo) (by omega) (by decide) (unhide HF).size ?_
                  intro g' cg V' hown hgrow hat
                  simp only [Nat.zero_add, List.nil_append] at hown
                  have hFn : Fr (fun _ => False) W7 V' := (unhide HF).up (Fr.grown hgrow) fun k hk => .inr (by have := ((unhide HA).lt g rfl).1; have hk' : k = g := Option.some.inj hk; omega)
                  clear hHeld
                  refine hK.out _ _ (unhide HS7 _ hFn) (fun hHeld => ?_)
                  clear hK K
                  (try simp only [Act.put, List.setIfInBounds_toArray, List.set_cons_zero, List.set_cons_succ])
                  (try simp only [Nat.zero_add])
                  have HB' := hide ((unhide HB).grown hgrow ((unhide HB).ne (unhide HA) (by decide)))
                  clear HB
                  have HB := HB'
                  clear HB'
                  have HC' := hide ((unhide HC).grown hgrow ((unhide HC).ne (unhide HA) (by decide)))
                  clear HC
                  have HC := HC'
                  clear HC'
                  clear HA HF
                  have HA := hide hown
                  have HF := hide hFn
                  clear hown hFn hgrow hat
                  (try clear V)
                  obtain ⟨g, rfl⟩ : ∃ g, g = g' := ⟨_, rfl⟩
                  obtain ⟨V, rfl⟩ : ∃ V, V = V' := ⟨_, rfl⟩
                  refine wpAnyH_ready (rs := [11]) (by kernel_rfl) (by simp) ?_
                  refine AllReadyH.cons (o := { dst := some 58, op := _, type := _, pos := _, after := _, guard := _ }) rfl (fun K hK => ?_) ?_
                  · go_simp
                    clear hHeld
                    refine hK.out _ _ (unhide HS7 _ ((unhide HF).alloc _)) (fun hHeld => ?_)
                    clear hK K
                    (try simp only [Act.put, List.setIfInBounds_toArray, List.set_cons_zero, List.set_cons_succ])
                    have HDn : Hid (Blk (V.alloc (.cells #[.string s, .slice (some ⟨rb, 0, none⟩) 2 2, .int .i64 0, .int .i64 0, .bool false, .slice (some ⟨cb, 0, none⟩) 3 3] 38)) V.heap.size [.string s, .slice (some ⟨rb, 0, none⟩) 2 2, .int .i64 0, .int .i64 0, .bool false, .slice (some ⟨cb, 0, none⟩) 3 3] 38) := hide (Blk.new V _ _)
                    have HN : Hid (V.heap.size ≠ g) := hide (fun e => by have := ((unhide HA).lt g rfl).2; omega)
                    have HA' := hide ((unhide HA).alloc (.cells #[.string s, .slice (some ⟨rb, 0, none⟩) 2 2, .int .i64 0, .int .i64 0, .bool false, .slice (some ⟨cb, 0, none⟩) 3 3] 38))
                    clear HA
                    have HA := HA'
                    clear HA'
                    have HB' := hide ((unhide HB).alloc (.cells #[.string s, .slice (some ⟨rb, 0, none⟩) 2 2, .int .i64 0, .int .i64 0, .bool false, .slice (some ⟨cb, 0, none⟩) 3 3] 38))
                    clear HB
                    have HB := HB'
                    clear HB'
                    have HC' := hide ((unhide HC).alloc (.cells #[.string s, .slice (some ⟨rb, 0, none⟩) 2 2, .int .i64 0, .int .i64 0, .bool false, .slice (some ⟨cb, 0, none⟩) 3 3] 38))
                    clear HC
                    have HC := HC'
                    clear HC'
                    have HF' := hide ((unhide HF).alloc (.cells #[.string s, .slice (some ⟨rb, 0, none⟩) 2 2, .int .i64 0, .int .i64 0, .bool false, .slice (some ⟨cb, 0, none⟩) 3 3] 38))
                    clear HF
                    have HF := HF'
                    clear HF'
                    have HD := HDn
                    clear HDn
                    generalize V.alloc (.cells #[.string s, .slice (some ⟨rb, 0, none⟩) 2 2, .int .i64 0, .int .i64 0, .bool false, .slice (some ⟨cb, 0, none⟩) 3 3] 38) = V' at *
                    generalize V.heap.size = fb at *
                    clear V
                    obtain ⟨V, rfl⟩ : ∃ V, V = V' := ⟨_, rfl⟩
                    refine wpAnyH_ready (rs := [12]) (by kernel_rfl) (by simp) ?_
                    refine AllReadyH.cons (o := { dst := some 59, op := _, type := _, pos := _, after := _, guard := _ }) rfl (fun K hK => ?_) ?_
                    · refine step_append_any _ rfl (.tmp 50) (.tmp 58) 25 rfl W7.heap.size 38 i2 (.agg #[.string ⟨#[]⟩, .slice none 0 0, .int .i64 0, .int .i64 0, .bool false, .slice none 0 0]) 6 88 Tryd.underlying25 hi2 hy0 hy1 hy2 rfl (by decide) g x.funcs.length cg (items.flatMap (·.2)) rfl (unhide HA) (some ⟨fb, 0, none⟩) 1 1 [.string s, .slice (some ⟨rb, 0, none⟩) 2 2, .int .i64 0, .int .i64 0, .bool false, .slice (some ⟨cb, 0, none⟩) 3 3] rfl rfl (box_src (unhide HD).1) six_one (by omega) (by decide) (unhide HF).size ?_
                      intro g6 c6 V' hown hgrow hat
                      have hFn : Fr (fun _ => False) W7 V' := (unhide HF).up (Fr.grown hgrow) fun k hk => .inr (by have := ((unhide HA).lt g rfl).1; have hk' : k = g := Option.some.inj hk; omega)
                      have HGR := hide (GrR.of (unhide HQ7) (unhide HIt) (unhide HIC) (by omega) (Nat.le_refl _) (unhide HF27) hFn hown ((unhide HB).grown hgrow ((unhide HB).ne (unhide HA) (by decide))) ((unhide HC).grown hgrow ((unhide HC).ne (unhide HA) (by decide))) hBW (unhide HTB) (by omega) (unhide HZ) n0 (unhide HLl) htx2)
                      have q3 := hFn.cell ((unhide HQ7) 3 _ rfl) id
                      have qf3 : V'.frozen? ⟨w2.heap.size + 1, 3, none⟩ = false := hFn.frozen (show w2.heap.size + 1 < _ from hBW) qf7 id
                      have HS9 := hide (unhide HS8 _ (((hFn.mono fun _ h => h.elim).trans ((Fr.refl (· = w2.heap.size + 1) V').setCell (p := ⟨w2.heap.size + 1, 3, none⟩) rfl (.slice (some ⟨g6, 0, none⟩) (x.funcs.length + 1) c6)))))
                      clear hHeld
                      refine hK.out _ _ (unhide HS7 _ hFn) (fun hHeld => ?_)
                      clear hK K hFn hown hgrow hat
                      (try simp only [Act.put, List.setIfInBounds_toArray, List.set_cons_zero, List.set_cons_succ])
                      refine wpAnyH_take (i := 13) (oi := { dst := some 60, op := _, type := _, pos := _, after := _, guard := _ }) (v := .pointer (some ⟨w2.heap.size + 1, 3, none⟩)) rfl (by kernel_rfl) (by kernel_rfl) (by kernel_rfl) (fun _ _ _ h => h) (Or.inl ⟨by rfl, ?_⟩) hHeld ?_
                      · intro w' hSw
                        (try dsimp only at hSw)
                        go_simp
                      (try simp only [Act.put, List.setIfInBounds_toArray, List.set_cons_zero, List.set_cons_succ])
                      refine wpAnyH_ready (rs := [14]) (by kernel_rfl) (by simp) ?_
                      refine AllReadyH.cons (o := { dst := none, op := _, type := _, pos := _, after := _, guard := _ }) rfl (fun K hK => ?_) AllReadyH.nil
                      go_simp
                      clear hHeld
                      refine hK.out _ _ (unhide HS9) (fun hHeld => ?_)
                      clear hK K
                      (try simp only [Act.put, List.setIfInBounds_toArray, List.set_cons_zero, List.set_cons_succ])
                      refine wpAnyH_done (by kernel_rfl) ?_ _
                      go_wp2_with fail
                      go_meet
                      case rel => exact HGR
                    exact AllReadyH.nil
                  exact AllReadyH.nil
                refine AllReadyH.cons (o := { dst := some 58, op := _, type := _, pos := _, after := _, guard := _ }) rfl (fun K hK => ?_) ?_
                · go_simp
                  clear hHeld
                  refine hK.out _ _ (unhide HS7 _ ((unhide HF).alloc _)) (fun hHeld => ?_)
                  clear hK K
                  (try simp only [Act.put, List.setIfInBounds_toArray, List.set_cons_zero, List.set_cons_succ])
                  have HDn : Hid (Blk (V.alloc (.cells #[.string s, .slice (some ⟨rb, 0, none⟩) 2 2, .int .i64 0, .int .i64 0, .bool false, .slice (some ⟨cb, 0, none⟩) 3 3] 38)) V.heap.size [.string s, .slice (some ⟨rb, 0, none⟩) 2 2, .int .i64 0, .int .i64 0, .bool false, .slice (some ⟨cb, 0, none⟩) 3 3] 38) := hide (Blk.new V _ _)
                  have HN : Hid (V.heap.size ≠ g) := hide (fun e => by have := ((unhide HA).lt g rfl).2; omega)
                  have HA' := hide ((unhide HA).alloc (.cells #[.string s, .slice (some ⟨rb, 0, none⟩) 2 2, .int .i64 0, .int .i64 0, .bool false, .slice (some ⟨cb, 0, none⟩) 3 3] 38))
                  clear HA
                  have HA := HA'
                  clear HA'
                  have HB' := hide ((unhide HB).alloc (.cells #[.string s, .slice (some ⟨rb, 0, none⟩) 2 2, .int .i64 0, .int .i64 0, .bool false, .slice (some ⟨cb, 0, none⟩) 3 3] 38))
                  clear HB
                  have HB := HB'
                  clear HB'
                  have HC' := hide ((unhide HC).alloc (.cells #[.string s, .slice (some ⟨rb, 0, none⟩) 2 2, .int .i64 0, .int .i64 0, .bool false, .slice (some ⟨cb, 0, none⟩) 3 3] 38))
                  clear HC
                  have HC := HC'
                  clear HC'
                  have HF' := hide ((unhide HF).alloc (.cells #[.string s, .slice (some ⟨rb, 0, none⟩) 2 2, .int .i64 0, .int .i64 0, .bool false, .slice (some ⟨cb, 0, none⟩) 3 3] 38))
                  clear HF
                  have HF := HF'
                  clear HF'
                  have HD := HDn
                  clear HDn
                  generalize V.alloc (.cells #[.string s, .slice (some ⟨rb, 0, none⟩) 2 2, .int .i64 0, .int .i64 0, .bool false, .slice (some ⟨cb, 0, none⟩) 3 3] 38) = V' at *
                  generalize V.heap.size = fb at *
                  clear V
                  obtain ⟨V, rfl⟩ : ∃ V, V = V' := ⟨_, rfl⟩
                  refine wpAnyH_ready (rs := [3]) (by kernel_rfl) (by simp) ?_
                  refine AllReadyH.cons (o := { dst := some 50, op := _, type := _, pos := _, after := _, guard := _ }) rfl (fun K hK => ?_) ?_
                  · refine step_append_any _ rfl (.tmp 47) (.tmp 49) 25 rfl W7.heap.size 38 i2 (.agg #[.string ⟨#[]⟩, .slice none 0 0, .int .i64 0, .int .i64 0, .bool false, .slice none 0 0]) 6 88 Tryd.underlying25 hi2 hy0 hy1 hy2 rfl (by decide) g 0 0 [] rfl (unhide HA) a4 x.funcs.length c4 (items.flatMap (·.2)) rfl (unhide HIl) (unhide HSf _ ((unhide HF27).trans (unhide HF))) (unhide HIo) (by omega) (by decide) (unhide HF).size ?_
                    intro g' cg V' hown hgrow hat
                    simp only [Nat.zero_add, List.nil_append] at hown
                    have hFn : Fr (fun _ => False) W7 V' := (unhide HF).up (Fr.grown hgrow) fun k hk => .inr (by have := ((unhide HA).lt g rfl).1; have hk' : k = g := Option.some.inj hk; omega)
                    clear hHeld
                    refine hK.out _ _ (unhide HS7 _ hFn) (fun hHeld => ?_)
                    clear hK K
                    (try simp only [Act.put, List.setIfInBounds_toArray, List.set_cons_zero, List.set_cons_succ])
                    (try simp only [Nat.zero_add])
                    have HB' := hide ((unhide HB).grown hgrow ((unhide HB).ne (unhide HA) (by decide)))
                    clear HB
                    have HB := HB'
                    clear HB'
                    have HC' := hide ((unhide HC).grown hgrow ((unhide HC).ne (unhide HA) (by decide)))
                    clear HC
                    have HC := HC'
                    clear HC'
                    have HN' : Hid (fb ≠ g') := hide (fun e => by
                      rcases hat with h | h
                      · exact unhide HN (e.trans h)
                      · have := (unhide HD).lt
                        omega)
                    have HD' := hide ((unhide HD).grown hgrow (unhide HN))
                    clear HD
                    have HD := HD'
                    clear HD'
                    clear HN
                    have HN := HN'
                    clear HN'
                    clear HA HF
                    have HA := hide hown
                    have HF := hide hFn
                    clear hown hFn hgrow hat
                    (try clear V)
                    obtain ⟨g, rfl⟩ : ∃ g, g = g' := ⟨_, rfl⟩
                    obtain ⟨V, rfl⟩ : ∃ V, V = V' := ⟨_, rfl⟩
                    refine wpAnyH_ready (rs := [12]) (by kernel_rfl) (by simp) ?_
                    refine AllReadyH.cons (o := { dst := some 59, op := _, type := _, pos := _, after := _, guard := _ }) rfl (fun K hK => ?_) ?_
                    · refine step_append_any _ rfl (.tmp 50) (.tmp 58) 25 rfl W7.heap.size 38 i2 (.agg #[.string ⟨#[]⟩, .slice none 0 0, .int .i64 0, .int .i64 0, .bool false, .slice none 0 0]) 6 88 Tryd.underlying25 hi2 hy0 hy1 hy2 rfl (by decide) g x.funcs.length cg (items.flatMap (·.2)) rfl (unhide HA) (some ⟨fb, 0, none⟩) 1 1 [.string s, .slice (some ⟨rb, 0, none⟩) 2 2, .int .i64 0, .int .i64 0, .bool false, .slice (some ⟨cb, 0, none⟩) 3 3] rfl rfl (box_src (unhide HD).1) six_one (by omega) (by decide) (unhide HF).size ?_
                      intro g6 c6 V' hown hgrow hat
                      have hFn : Fr (fun _ => False) W7 V' := (unhide HF).up (Fr.grown hgrow) fun k hk => .inr (by have := ((unhide HA).lt g rfl).1; have hk' : k = g := Option.some.inj hk; omega)
                      have HGR := hide (GrR.of (unhide HQ7) (unhide HIt) (unhide HIC) (by omega) (Nat.le_refl _) (unhide HF27) hFn hown ((unhide HB).grown hgrow ((unhide HB).ne (unhide HA) (by decide))) ((unhide HC).grown hgrow ((unhide HC).ne (unhide HA) (by decide))) hBW (unhide HTB) (by omega) (unhide HZ) n0 (unhide HLl) htx2)
                      have q3 := hFn.cell ((unhide HQ7) 3 _ rfl) id
                      have qf3 : V'.frozen? ⟨w2.heap.size + 1, 3, none⟩ = false := hFn.frozen (show w2.heap.size + 1 < _ from hBW) qf7 id
                      have HS9 := hide (unhide HS8 _ (((hFn.mono fun _ h => h.elim).trans ((Fr.refl (· = w2.heap.size + 1) V').setCell (p := ⟨w2.heap.size + 1, 3, none⟩) rfl (.slice (some ⟨g6, 0, none⟩) (x.funcs.length + 1) c6)))))
                      clear hHeld
                      refine hK.out _ _ (unhide HS7 _ hFn) (fun hHeld => ?_)
                      clear hK K hFn hown hgrow hat
                      (try simp only [Act.put, List.setIfInBounds_toArray, List.set_cons_zero, List.set_cons_succ])
                      refine wpAnyH_take (i := 13) (oi := { dst := some 60, op := _, type := _, pos := _, after := _, guard := _ }) (v := .pointer (some ⟨w2.heap.size + 1, 3, none⟩)) rfl (by kernel_rfl) (by kernel_rfl) (by kernel_rfl) (fun _ _ _ h => h) (Or.inl ⟨by rfl, ?_⟩) hHeld ?_
                      · intro w' hSw
                        (try dsimp only at hSw)
                        go_simp
                      (try simp only [Act.put, List.setIfInBounds_toArray, List.set_cons_zero, List.set_cons_succ])
                      refine wpAnyH_ready (rs := [14]) (by kernel_rfl) (by simp) ?_
                      refine AllReadyH.cons (o := { dst := none, op := _, type := _, pos := _, after := _, guard := _ }) rfl (fun K hK => ?_) AllReadyH.nil
                      go_simp
                      clear hHeld
                      refine hK.out _ _ (unhide HS9) (fun hHeld => ?_)
                      clear hK K
                      (try simp only [Act.put, List.setIfInBounds_toArray, List.set_cons_zero, List.set_cons_succ])
                      refine wpAnyH_done (by kernel_rfl) ?_ _
                      go_wp2_with fail
                      go_meet
                      case rel => exact HGR
                    exact AllReadyH.nil
                  exact AllReadyH.nil
                exact AllReadyH.nil
              exact AllReadyH.nil
            refine AllReadyH.cons (o := { dst := some 56, op := _, type := _, pos := _, after := _, guard := _ }) rfl (fun K hK => ?_) ?_
            · go_simp
              clear hHeld
              refine hK.out _ _ (unhide HS7 _ ((unhide HF).alloc _)) (fun hHeld => ?_)
              clear hK K
              (try simp only [Act.put, List.setIfInBounds_toArray, List.set_cons_zero, List.set_cons_succ])
              have HCn : Hid (Blk (V.alloc (.cells #[.int .i64 z, .int .i64 (wrap64 (-z)), .int .i64 l.length, .int .i64 4611686018427387904, .int .i64 (-4611686018427387904), .slice la l.length lcap, .int .i64 0, .int .i64 0, .int .i64 0, .int .i64 0, .int .i64 0, .slice none 0 0, .int .i64 z, .int .i64 (wrap64 (-z)), .int .i64 l.length, .int .i64 4611686018427387904, .int .i64 (-4611686018427387904), .slice la l.length lcap] 43)) V.heap.size [.int .i64 z, .int .i64 (wrap64 (-z)), .int .i64 l.length, .int .i64 4611686018427387904, .int .i64 (-4611686018427387904), .slice la l.length lcap, .int .i64 0, .int .i64 0, .int .i64 0, .int .i64 0, .int .i64 0, .slice none 0 0, .int .i64 z, .int .i64 (wrap64 (-z)), .int .i64 l.length, .int .i64 4611686018427387904, .int .i64 (-4611686018427387904), .slice la l.length lcap] 43) := hide (Blk.new V _ _)
              have HA' := hide ((unhide HA).alloc (.cells #[.int .i64 z, .int .i64 (wrap64 (-z)), .int .i64 l.length, .int .i64 4611686018427387904, .int .i64 (-4611686018427387904), .slice la l.length lcap, .int .i64 0, .int .i64 0, .int .i64 0, .int .i64 0, .int .i64 0, .slice none 0 0, .int .i64 z, .int .i64 (wrap64 (-z)), .int .i64 l.length, .int .i64 4611686018427387904, .int .i64 (-4611686018427387904), .slice la l.length lcap] 43))
              clear HA
              have HA := HA'
              clear HA'
              have HF' := hide ((unhide HF).alloc (.cells #[.int .i64 z, .int .i64 (wrap64 (-z)), .int .i64 l.length, .int .i64 4611686018427387904, .int .i64 (-4611686018427387904), .slice la l.length lcap, .int .i64 0, .int .i64 0, .int .i64 0, .int .i64 0, .int .i64 0, .slice none 0 0, .int .i64 z, .int .i64 (wrap64 (-z)), .int .i64 l.length, .int .i64 4611686018427387904, .int .i64 (-4611686018427387904), .slice la l.length lcap] 43))
              clear HF
              have HF := HF'
              clear HF'
              have HC := HCn
              clear HCn
              generalize V.alloc (.cells #[.int .i64 z, .int .i64 (wrap64 (-z)), .int .i64 l.length, .int .i64 4611686018427387904, .int .i64 (-4611686018427387904), .slice la l.length lcap, .int .i64 0, .int .i64 0, .int .i64 0, .int .i64 0, .int .i64 0, .slice none 0 0, .int .i64 z, .int .i64 (wrap64 (-z)), .int .i64 l.length, .int .i64 4611686018427387904, .int .i64 (-4611686018427387904), .slice la l.length lcap] 43) = V' at *
              generalize V.heap.size = cb at *
              clear V
              obtain ⟨V, rfl⟩ : ∃ V, V = V' := ⟨_, rfl⟩
              refine wpAnyH_ready (rs := [3, 5]) (by kernel_rfl) (by simp) ?_
              refine AllReadyH.cons (o := { dst := some 50, op := _, type := _, pos := _, after := _, guard := _ }) rfl (fun K hK => ?_) ?_
              · refine step_append_any _ rfl (.tmp 47) (.tmp 49) 25 rfl W7.heap.size 38 i2 (.agg #[.string ⟨#[]⟩, .slice none 0 0, .int .i64 0, .int .i64 0, .bool false, .slice none 0 0]) 6 88 Tryd.underlying25 hi2 hy0 hy1 hy2 rfl (by decide) g 0 0 [] rfl (unhide HA) a4 x.funcs.length c4 (items.flatMap (·.2)) rfl (unhide HIl) (unhide HSf _ ((unhide HF27).trans (unhide HF))) (unhide HIo) (by omega) (by decide) (unhide HF).size ?_
                intro g' cg V' hown hgrow hat
                simp only [Nat.zero_add, List.nil_append] at hown
                have hFn : Fr (fun _ => False) W7 V' := (unhide HF).up (Fr.grown hgrow) fun k hk => .inr (by have := ((unhide HA).lt g rfl).1; have hk' : k = g := Option.some.inj hk; omega)
                clear hHeld
                refine hK.out _ _ (unhide HS7 _ hFn) (fun hHeld => ?_)
                clear hK K
                (try simp only [Act.put, List.setIfInBounds_toArray, List.set_cons_zero, List.set_cons_succ])
                (try simp only [Nat.zero_add])
                have HC' := hide ((unhide HC).grown hgrow ((unhide HC).ne (unhide HA) (by decide)))
                clear HC
                have HC := HC'
                clear HC'
                clear HA HF
                have HA := hide hown
                have HF := hide hFn
                clear hown hFn hgrow hat
                (try clear V)
                obtain ⟨g, rfl⟩ : ∃ g, g = g' := ⟨_, rfl⟩
                obtain ⟨V, rfl⟩ : ∃ V, V = V' := ⟨_, rfl⟩
                refine wpAnyH_ready (rs := [5]) (by kernel_rfl) (by simp) ?_
                refine AllReadyH.cons (o := { dst := some 52, op := _, type := _, pos := _, after := _, guard := _ }) rfl (fun K hK => ?_) ?_
                · go_simp
                  clear hHeld
                  refine hK.out _ _ (unhide HS7 _ ((unhide HF).alloc _)) (fun hHeld => ?_)
                  clear hK K
                  (try simp only [Act.put, List.setIfInBounds_toArray, List.set_cons_zero, List.set_cons_succ])
                  have HBn : Hid (Blk (V.alloc (.cells #[.bool true, .bool false] 4)) V.heap.size [.bool true, .bool false] 4) := hide (Blk.new V _ _)
                  have HA' := hide ((unhide HA).alloc (.cells #[.bool true, .bool false] 4))
                  clear HA
                  have HA := HA'
                  clear HA'
                  have HC' := hide ((unhide HC).alloc (.cells #[.bool true, .bool false] 4))
                  clear HC
                  have HC := HC'
                  clear HC'
                  have HF' := hide ((unhide HF).alloc (.cells #[.bool true, .bool false] 4))
                  clear HF
                  have HF := HF'
                  clear HF'
                  have HB := HBn
                  clear HBn
                  generalize V.alloc (.cells #[.bool true, .bool false] 4) = V' at *
                  generalize V.heap.size = rb at *
                  clear V
                  obtain ⟨V, rfl⟩ : ∃ V, V = V' := ⟨_, rfl⟩
                  refine wpAnyH_take (i := 10) (oi := { dst := some 57, op := _, type := _, pos := _, after := _, guard := _ }) (v := (.agg #[.string s, .slice (some ⟨rb, 0, none⟩) 2 2, .int .i64 0, .int .i64 0, .bool false, .slice (some ⟨cb, 0, none⟩) 3 3])) rfl (by kernel_rfl) (by kernel_rfl) (by kernel_rfl) (fun _ _ _ h => h) (Or.inl ⟨by rfl, ?_⟩) hHeld ?_
                  · intro w' hSw
                    (try dsimp only at hSw)
                    go_simp
                  (try simp only [Act.put, List.setIfInBounds_toArray, List.set_cons_zero, List.set_cons_succ])
                  refine wpAnyH_ready (rs := [11]) (by kernel_rfl) (by simp) ?_
                  refine AllReadyH.cons (o := { dst := some 58, op := _, type := _, pos := _, after := _, guard := _ }) rfl (fun K hK => ?_) ?_
                  · go_simp
                    clear hHeld
                    refine hK.out _ _ (unhide HS7 _ ((unhide HF).alloc _)) (fun hHeld => ?_)
                    clear hK K
                    (try simp only [Act.put, List.setIfInBounds_toArray, List.set_cons_zero, List.set_cons_succ])
                    have HDn : Hid (Blk (V.alloc (.cells #[.string s, .slice (some ⟨rb, 0, none⟩) 2 2, .int .i64 0, .int .i64 0, .bool false, .slice (some ⟨cb, 0, none⟩) 3 3] 38)) V.heap.size [.string s, .slice (some ⟨rb, 0, none⟩) 2 2, .int .i64 0, .int .i64 0, .bool false, .slice (some ⟨cb, 0, none⟩) 3 3] 38) := hide (Blk.new V _ _)
                    have HN : Hid (V.heap.size ≠ g) := hide (fun e => by have := ((unhide HA).lt g rfl).2; omega)
                    have HA' := hide ((unhide HA).alloc (.cells #[.string s, .slice (some ⟨rb, 0, none⟩) 2 2, .int .i64 0, .int .i64 0, .bool false, .slice (some ⟨cb, 0, none⟩) 3 3] 38))
                    clear HA
                    have HA := HA'
                    clear HA'
                    have HB' := hide ((unhide HB).alloc (.cells #[.string s, .slice (some ⟨rb, 0, none⟩) 2 2, .int .i64 0, .int .i64 0, .bool false, .slice (some ⟨cb, 0, none⟩) 3 3] 38))
                    clear HB
                    have HB := HB'
                    clear HB'
                    have HC' := hide ((unhide HC).alloc (.cells #[.string s, .slice (some ⟨rb, 0, none⟩) 2 2, .int .i64 0, .int .i64 0, .bool false, .slice (some ⟨cb, 0, none⟩) 3 3] 38))
                    clear HC
                    have HC := HC'
                    clear HC'
                    have HF' := hide ((unhide HF).alloc (.cells #[.string s, .slice (some ⟨rb, 0, none⟩) 2 2, .int .i64 0, .int .i64 0, .bool false, .slice (some ⟨cb, 0, none⟩) 3 3] 38))
                    clear HF
                    have HF := HF'
                    clear HF'
                    have HD := HDn
                    clear HDn
                    generalize V.alloc (.cells #[.string s, .slice (some ⟨rb, 0, none⟩) 2 2, .int .i64 0, .int .i64 0, .bool false, .slice (some ⟨cb, 0, none⟩) 3 3] 38) = V' at *
                    generalize V.heap.size = fb at *
                    clear V
                    obtain ⟨V, rfl⟩ : ∃ V, V = V' := ⟨_, rfl⟩
                    refine wpAnyH_ready (rs := [12]) (by kernel_rfl) (by simp) ?_
                    refine AllReadyH.cons (o := { dst := some 59, op := _, type := _, pos := _, after := _, guard := _ }) rfl (fun K hK => ?_) ?_
                    · refine step_append_any _ rfl (.tmp 50) (.tmp 58) 25 rfl W7.heap.size 38 i2 (.agg #[.string ⟨#[]⟩, .slice none 0 0, .int .i64 0, .int .i64 0, .bool false, .slice none 0 0]) 6 88 Tryd.underlying25 hi2 hy0 hy1 hy2 rfl (by decide) g x.funcs.length cg (items.flatMap (·.2)) rfl (unhide HA) (some ⟨fb, 0, none⟩) 1 1 [.string s, .slice (some ⟨rb, 0, none⟩) 2 2, .int .i64 0, .int .i64 0, .bool false, .slice (some ⟨cb, 0, none⟩) 3 3] rfl rfl (box_src (unhide HD).1) six_one (by omega) (by decide) (unhide HF).size ?_
                      intro g6 c6 V' hown hgrow hat
                      have hFn : Fr (fun _ => False) W7 V' := (unhide HF).up (Fr.grown hgrow) fun k hk => .inr (by have := ((unhide HA).lt g rfl).1; have hk' : k = g := Option.some.inj hk; omega)
                      have HGR := hide (GrR.of (unhide HQ7) (unhide HIt) (unhide HIC) (by omega) (Nat.le_refl _) (unhide HF27) hFn hown ((unhide HB).grown hgrow ((unhide HB).ne (unhide HA) (by decide))) ((unhide HC).grown hgrow ((unhide HC).ne (unhide HA) (by decide))) hBW (unhide HTB) (by omega) (unhide HZ) n0 (unhide HLl) htx2)
                      have q3 := hFn.cell ((unhide HQ7) 3 _ rfl) id
                      have qf3 : V'.frozen? ⟨w2.heap.size + 1, 3, none⟩ = false := hFn.frozen (show w2.heap.size + 1 < _ from hBW) qf7 id
                      have HS9 := hide (unhide HS8 _ (((hFn.mono fun _ h => h.elim).trans ((Fr.refl (· = w2.heap.size + 1) V').setCell (p := ⟨w2.heap.size + 1, 3, none⟩) rfl (.slice (some ⟨g6, 0, none⟩) (x.funcs.length + 1) c6)))))
                      clear hHeld
                      refine hK.out _ _ (unhide HS7 _ hFn) (fun hHeld => ?_)
                      clear hK K hFn hown hgrow hat
                      (try simp only [Act.put, List.setIfInBounds_toArray, List.set_cons_zero, List.set_cons_succ])
                      refine wpAnyH_take (i := 13) (oi := { dst := some 60, op := _, type := _, pos := _, after := _, guard := _ }) (v := .pointer (some ⟨w2.heap.size + 1, 3, none⟩)) rfl (by kernel_rfl) (by kernel_rfl) (by kernel_rfl) (fun _ _ _ h => h) (Or.inl ⟨by rfl, ?_⟩) hHeld ?_
                      · intro w' hSw
                        (try dsimp only at hSw)
                        go_simp
                      (try simp only [Act.put, List.setIfInBounds_toArray, List.set_cons_zero, List.set_cons_succ])
                      refine wpAnyH_ready (rs := [14]) (by kernel_rfl) (by simp) ?_
                      refine AllReadyH.cons (o := { dst := none, op := _, type := _, pos := _, after := _, guard := _ }) rfl (fun K hK => ?_) AllReadyH.nil
                      go_simp
                      clear hHeld
                      refine hK.out _ _ (unhide HS9) (fun hHeld => ?_)
                      clear hK K
                      (try simp only [Act.put, List.setIfInBounds_toArray, List.set_cons_zero, List.set_cons_succ])
                      refine wpAnyH_done (by kernel_rfl) ?_ _
                      go_wp2_with fail
                      go_meet
                      case rel => exact HGR
                    exact AllReadyH.nil
                  exact AllReadyH.nil
                exact AllReadyH.nil
              refine AllReadyH.cons (o := { dst := some 52, op := _, type := _, pos := _, after := _, guard := _ }) rfl (fun K hK => ?_) ?_
              · go_simp
                clear hHeld
                refine hK.out _ _ (unhide HS7 _ ((unhide HF).alloc _)) (fun hHeld => ?_)
                clear hK K
                (try simp only [Act.put, List.setIfInBounds_toArray, List.set_cons_zero, List.set_cons_succ])
                have HBn : Hid (Blk (V.alloc (.cells #[.bool true, .bool false] 4)) V.heap.size [.bool true, .bool false] 4) := hide (Blk.new V _ _)
                have HA' := hide ((unhide HA).alloc (.cells #[.bool true, .bool false] 4))
                clear HA
                have HA := HA'
                clear HA'
                have HC' := hide ((unhide HC).alloc (.cells #[.bool true, .bool false] 4))
                clear HC
                have HC := HC'
                clear HC'
                have HF' := hide ((unhide HF).alloc (.cells #[.bool true, .bool false] 4))
                clear HF
                have HF := HF'
                clear HF'
                have HB := HBn
                clear HBn
                generalize V.alloc (.cells #[.bool true, .bool false] 4) = V' at *
                generalize V.heap.size = rb at *
                clear V
                obtain ⟨V, rfl⟩ : ∃ V, V = V' := ⟨_, rfl⟩
                refine wpAnyH_take (i := 10) (oi := { dst := some 57, op := _, type := _, pos := _, after := _, guard := _ }) (v := (.agg #[.string s, .slice (some ⟨rb, 0, none⟩) 2 2, .int .i64 0, .int .i64 0, .bool false, .slice (some ⟨cb, 0, none⟩) 3 3])) rfl (by kernel_rfl) (by kernel_rfl) (by kernel_rfl) (fun _ _ _ h => h) (Or.inl ⟨by rfl, ?_⟩) hHeld ?_
                · intro w' hSw
                  (try dsimp only at hSw)
                  go_simp
                (try simp only [Act.put, List.setIfInBounds_toArray, List.set_cons_zero, List.set_cons_succ])
                refine wpAnyH_ready (rs := [3, 11]) (by kernel_rfl) (by simp) ?_
                refine AllReadyH.cons (o := { dst := some 50, op := _, type := _, pos := _, after := _, guard := _ }) rfl (fun K hK => ?_) ?_
                · refine step_append_any _ rfl (.tmp 47) (.tmp 49) 25 rfl W7.heap.size 38 i2 (.agg #[.string ⟨#[]⟩, .slice none 0 0, .int .i64 0, .int .i64 0, .bool false, .slice none 0 0]) 6 88 Tryd.underlying25 hi2 hy0 hy1 hy2 rfl (by decide) g 0 0 [] rfl (unhide HA) a4 x.funcs.length c4 (items.flatMap (·.2)) rfl (unhide HIl) (unhide HSf _ ((unhide HF27).trans (unhide HF))) (unhide HIo) (by omega) (by decide) (unhide HF).size ?_
                  intro g' cg V' hown hgrow hat
                  simp only [Nat.zero_add, List.nil_append] at hown
                  have hFn : Fr (fun _ => False) W7 V' := (unhide HF).up (Fr.grown hgrow) fun k hk => .inr (by have := ((unhide HA).lt g rfl).1; have hk' : k = g := Option.some.inj hk; omega)
                  clear hHeld
                  refine hK.out _ _ (unhide HS7 _ hFn) (fun hHeld => ?_)
                  clear hK K
                  (try simp only [Act.put, List.setIfInBounds_toArray, List.set_cons_zero, List.set_cons_succ])
                  (try simp only [Nat.zero_add])
                  have HB' := hide ((unhide HB).grown hgrow ((unhide HB).ne (unhide HA) (by decide)))
                  clear HB
                  have HB := HB'
                  clear HB'
                  have HC' := hide ((unhide HC).grown hgrow ((unhide HC).ne (unhide HA) (by decide)))
                  clear HC
                  have HC := HC'
                  clear HC'
                  clear HA HF
                  have HA := hide hown
                  have HF := hide hFn
                  clear hown hFn hgrow hat
                  (try clear V)
                  obtain ⟨g, rfl⟩ : ∃ g, g = g' := ⟨_, rfl⟩
                  obtain ⟨V, rfl⟩ : ∃ V, V = V' := ⟨_, rfl⟩
                  refine wpAnyH_ready (rs := [11]) (by kernel_rfl) (by simp) ?_
                  refine AllReadyH.cons (o := { dst := some 58, op := _, type := _, pos := _, after := _, guard := _ }) rfl (fun K hK => ?_) ?_
                  · go_simp
                    clear hHeld
                    refine hK.out _ _ (unhide HS7 _ ((unhide HF).alloc _)) (fun hHeld => ?_)
                    clear hK K
                    (try simp only [Act.put, List.setIfInBounds_toArray, List.set_cons_zero, List.set_cons_succ])
                    have HDn : Hid (Blk (V.alloc (.cells #[.string s, .slice (some ⟨rb, 0, none⟩) 2 2, .int .i64 0, .int .i64 0, .bool false, .slice (some ⟨cb, 0, none⟩) 3 3] 38)) V.heap.size [.string s, .slice (some ⟨rb, 0, none⟩) 2 2, .int .i64 0, .int .i64 0, .bool false, .slice (some ⟨cb, 0, none⟩) 3 3] 38) := hide (Blk.new V _ _)
                    have HN : Hid (V.heap.size ≠ g) := hide (fun e => by have := ((unhide HA).lt g rfl).2; omega)
                    have HA' := hide ((unhide HA).alloc (.cells #[.string s, .slice (some ⟨rb, 0, none⟩) 2 2, .int .i64 0, .int .i64 0, .bool false, .slice (some ⟨cb, 0, none⟩) 3 3] 38))
                    clear HA
                    have HA := HA'
                    clear HA'
                    have HB' := hide ((unhide HB).alloc (.cells #[.string s, .slice (some ⟨rb, 0, none⟩) 2 2, .int .i64 0, .int .i64 0, .bool false, .slice (some ⟨cb, 0, none⟩) 3 3] 38))
                    clear HB
                    have HB := HB'
                    clear HB'
                    have HC' := hide ((unhide HC).alloc (.cells #[.string s, .slice (some ⟨rb, 0, none⟩) 2 2, .int .i64 0, .int .i64 0, .bool false, .slice (some ⟨cb, 0, none⟩) 3 3] 38))
                    clear HC
                    have HC := HC'
                    clear HC'
                    have HF' := hide ((unhide HF).alloc (.cells #[.string s, .slice (some ⟨rb, 0, none⟩) 2 2, .int .i64 0, .int .i64 0, .bool false, .slice (some ⟨cb, 0, none⟩) 3 3] 38))
                    clear HF
                    have HF := HF'
                    clear HF'
                    have HD := HDn
                    clear HDn
                    generalize V.alloc (.cells #[.string s, .slice (some ⟨rb, 0, none⟩) 2 2, .int .i64 0, .int .i64 0, .bool false, .slice (some ⟨cb, 0, none⟩) 3 3] 38) = V' at *
                    generalize V.heap.size = fb at *
                    clear V
                    obtain ⟨V, rfl⟩ : ∃ V, V = V' := ⟨_, rfl⟩
                    refine wpAnyH_ready (rs := [12]) (by kernel_rfl) (by simp) ?_
                    refine AllReadyH.cons (o := { dst := some 59, op := _, type := _, pos := _, after := _, guard := _ }) rfl (fun K hK => ?_) ?_
                    · refine step_append_any _ rfl (.tmp 50) (.tmp 58) 25 rfl W7.heap.size 38 i2 (.agg #[.string ⟨#[]⟩, .slice none 0 0, .int .i64 0, .int .i64 0, .bool false, .slice none 0 0]) 6 88 Tryd.underlying25 hi2 hy0 hy1 hy2 rfl (by decide) g x.funcs.length cg (items.flatMap (·.2)) rfl (unhide HA) (some ⟨fb, 0, none⟩) 1 1 [.string s, .slice (some ⟨rb, 0, none⟩) 2 2, .int .i64 0, .int .i64 0, .bool false, .slice (some ⟨cb, 0, none⟩) 3 3] rfl rfl (box_src (unhide HD).1) six_one (by omega) (by decide) (unhide HF).size ?_
                      intro g6 c6 V' hown hgrow hat
                      have hFn : Fr (fun _ => False) W7 V' := (unhide HF).up (Fr.grown hgrow) fun k hk => .inr (by have := ((unhide HA).lt g rfl).1; have hk' : k = g := Option.some.inj hk; omega)
                      have HGR := hide (GrR.of (unhide HQ7) (unhide HIt) (unhide HIC) (by omega) (Nat.le_refl _) (unhide HF27) hFn hown ((unhide HB).grown hgrow ((unhide HB).ne (unhide HA) (by decide))) ((unhide HC).grown hgrow ((unhide HC).ne (unhide HA) (by decide))) hBW (unhide HTB) (by omega) (unhide HZ) n0 (unhide HLl) htx2)
                      have q3 := hFn.cell ((unhide HQ7) 3 _ rfl) id
                      have qf3 : V'.frozen? ⟨w2.heap.size + 1, 3, none⟩ = false := hFn.frozen (show w2.heap.size + 1 < _ from hBW) qf7 id
                      have HS9 := hide (unhide HS8 _ (((hFn.mono fun _ h => h.elim).trans ((Fr.refl (· = w2.heap.size + 1) V').setCell (p := ⟨w2.heap.size + 1, 3, none⟩) rfl (.slice (some ⟨g6, 0, none⟩) (x.funcs.length + 1) c6)))))
                      clear hHeld
                      refine hK.out _ _ (unhide HS7 _ hFn) (fun hHeld => ?_)
                      clear hK K hFn hown hgrow hat
                      (try simp only [Act.put, List.setIfInBounds_toArray, List.set_cons_zero, List.set_cons_succ])
                      refine wpAnyH_take (i := 13) (oi := { dst := some 60, op := _, type := _, pos := _, after := _, guard := _ }) (v := .pointer (some ⟨w2.heap.size + 1, 3, none⟩)) rfl (by kernel_rfl) (by kernel_rfl) (by kernel_rfl) (fun _ _ _ h => h) (Or.inl ⟨by rfl, ?_⟩) hHeld ?_
                      · intro w' hSw
                        (try dsimp only at hSw)
                        go_simp
                      (try simp only [Act.put, List.setIfInBounds_toArray, List.set_cons_zero, List.set_cons_succ])
                      refine wpAnyH_ready (rs := [14]) (by kernel_rfl) (by simp) ?_
                      refine AllReadyH.cons (o := { dst := none, op := _, type := _, pos := _, after := _, guard := _ }) rfl (fun K hK => ?_) AllReadyH.nil
                      go_simp
                      clear hHeld
                      refine hK.out _ _ (unhide HS9) (fun hHeld => ?_)
                      clear hK K
                      (try simp only [Act.put, List.setIfInBounds_toArray, List.set_cons_zero, List.set_cons_succ])
                      refine wpAnyH_done (by kernel_rfl) ?_ _
                      go_wp2_with fail
                      go_meet
                      case rel => exact HGR
                    exact AllReadyH.nil
                  exact AllReadyH.nil
                refine AllReadyH.cons (o := { dst := some 58, op := _, type := _, pos := _, after := _, guard := _ }) rfl (fun K hK => ?_) ?_
                · go_simp
                  clear hHeld
                  refine hK.out _ _ (unhide HS7 _ ((unhide HF).alloc _)) (fun hHeld => ?_)
                  clear hK K
                  (try simp only [Act.put, List.setIfInBounds_toArray, List.set_cons_zero, List.set_cons_succ])
                  have HDn : Hid (Blk (V.alloc (.cells #[.string s, .slice (some ⟨rb, 0, none⟩) 2 2, .int .i64 0, .int .i64 0, .bool false, .slice (some ⟨cb, 0, none⟩) 3 3] 38)) V.heap.size [.string s, .slice (some ⟨rb, 0, none⟩) 2 2, .int .i64 0, .int .i64 0, .bool false, .slice (some ⟨cb, 0, none⟩) 3 3] 38) := hide (Blk.new V _ _)
                  have HN : Hid (V.heap.size ≠ g) := hide (fun e => by have := ((unhide HA).lt g rfl).2; omega)
                  have HA' := hide ((unhide HA).alloc (.cells #[.string s, .slice (some ⟨rb, 0, none⟩) 2 2, .int .i64 0, .int .i64 0, .bool false, .slice (some ⟨cb, 0, none⟩) 3 3] 38))
                  clear HA
                  have HA := HA'
                  clear HA'
                  have HB' := hide ((unhide HB).alloc (.cells #[.string s, .slice (some ⟨rb, 0, none⟩) 2 2, .int .i64 0, .int .i64 0, .bool false, .slice (some ⟨cb, 0, none⟩) 3 3] 38))
                  clear HB
                  have HB := HB'
                  clear HB'
                  have HC' := hide ((unhide HC).alloc (.cells #[.string s, .slice (some ⟨rb, 0, none⟩) 2 2, .int .i64 0, .int .i64 0, .bool false, .slice (some ⟨cb, 0, none⟩) 3 3] 38))
                  clear HC
                  have HC := HC'
                  clear HC'
                  have HF' := hide ((unhide HF).alloc (.cells #[.string s, .slice (some ⟨rb, 0, none⟩) 2 2, .int .i64 0, .int .i64 0, .bool false, .slice (some ⟨cb, 0, none⟩) 3 3] 38))
                  clear HF
                  have HF := HF'
                  clear HF'
                  have HD := HDn
                  clear HDn
                  generalize V.alloc (.cells #[.string s, .slice (some ⟨rb, 0, none⟩) 2 2, .int .i64 0, .int .i64 0, .bool false, .slice (some ⟨cb, 0, none⟩) 3 3] 38) = V' at *
                  generalize V.heap.size = fb at *
                  clear V
                  obtain ⟨V, rfl⟩ : ∃ V, V = V' := ⟨_, rfl⟩
                  refine wpAnyH_ready (rs := [3]) (by kernel_rfl) (by simp) ?_
                  refine AllReadyH.cons (o := { dst := some 50, op := _, type := _, pos := _, after := _, guard := _ }) rfl (fun K hK => ?_) ?_
                  · refine step_append_any _ rfl (.tmp 47) (.tmp 49) 25 rfl W7.heap.size 38 i2 (.agg #[.string ⟨#[]⟩, .slice none 0 0, .int .i64 0, .int .i64 0, .bool false, .slice none 0 0]) 6 88 Tryd.underlying25 hi2 hy0 hy1 hy2 rfl (by decide) g 0 0 [] rfl (unhide HA) a4 x.funcs.length c4 (items.flatMap (·.2)) rfl (unhide HIl) (unhide HSf _ ((unhide HF27).trans (unhide HF))) (unhide HIo) (by omega) (by decide) (unhide HF).size ?_
                    intro g' cg V' hown hgrow hat
                    simp only [Nat.zero_add, List.nil_append] at hown
                    have hFn : Fr (fun _ => False) W7 V' := (unhide HF).up (Fr.grown hgrow) fun k hk => .inr (by have := ((unhide HA).lt g rfl).1; have hk' : k = g := Option.some.inj hk; omega)
                    clear hHeld
                    refine hK.out _ _ (unhide HS7 _ hFn) (fun hHeld => ?_)
                    clear hK K
                    (try simp only [Act.put, List.setIfInBounds_toArray, List.set_cons_zero, List.set_cons_succ])
                    (try simp only [Nat.zero_add])
                    have HB' := hide ((unhide HB).grown hgrow ((unhide HB).ne (unhide HA) (by decide)))
                    clear HB
                    have HB := HB'
                    clear HB'
                    have HC' := hide ((unhide HC).grown hgrow ((unhide HC).ne (unhide HA) (by decide)))
                    clear HC
                    have HC := HC'
                    clear HC'
                    have HN' : Hid (fb ≠ g') := hide (fun e => by
                      rcases hat with h | h
                      · exact unhide HN (e.trans h)
                      · have := (unhide HD).lt
                        omega)
                    have HD' := hide ((unhide HD).grown hgrow (unhide HN))
                    clear HD
                    have HD := HD'
                    clear HD'
                    clear HN
                    have HN := HN'
                    clear HN'
                    clear HA HF
                    have HA := hide hown
                    have HF := hide hFn
                    clear hown hFn hgrow hat
                    (try clear V)
                    obtain ⟨g, rfl⟩ : ∃ g, g = g' := ⟨_, rfl⟩
                    obtain ⟨V, rfl⟩ : ∃ V, V = V' := ⟨_, rfl⟩
                    refine wpAnyH_ready (rs := [12]) (by kernel_rfl) (by simp) ?_
                    refine AllReadyH.cons (o := { dst := some 59, op := _, type := _, pos := _, after := _, guard := _ }) rfl (fun K hK => ?_) ?_
                    · refine step_append_any _ rfl (.tmp 50) (.tmp 58) 25 rfl W7.heap.size 38 i2 (.agg #[.string ⟨#[]⟩, .slice none 0 0, .int .i64 0, .int .i64 0, .bool false, .slice none 0 0]) 6 88 Tryd.underlying25 hi2 hy0 hy1 hy2 rfl (by decide) g x.funcs.length cg (items.flatMap (·.2)) rfl (unhide HA) (some ⟨fb, 0, none⟩) 1 1 [.string s, .slice (some ⟨rb, 0, none⟩) 2 2, .int .i64 0, .int .i64 0, .bool false, .slice (some ⟨cb, 0, none⟩) 3 3] rfl rfl (box_src (unhide HD).1) six_one (by omega) (by decide) (unhide HF).size ?_
                      intro g6 c6 V' hown hgrow hat
                      have hFn : Fr (fun _ => False) W7 V' := (unhide HF).up (Fr.grown hgrow) fun k hk => .inr (by have := ((unhide HA).lt g rfl).1; have hk' : k = g := Option.some.inj hk; omega)
                      have HGR := hide (GrR.of (unhide HQ7) (unhide HIt) (unhide HIC) (by omega) (Nat.le_refl _) (unhide HF27) hFn hown ((unhide HB).grown hgrow ((unhide HB).ne (unhide HA) (by decide))) ((unhide HC).grown hgrow ((unhide HC).ne (unhide HA) (by decide))) hBW (unhide HTB) (by omega) (unhide HZ) n0 (unhide HLl) htx2)
                      have q3 := hFn.cell ((unhide HQ7) 3 _ rfl) id
                      have qf3 : V'.frozen? ⟨w2.heap.size + 1, 3, none⟩ = false := hFn.frozen (show w2.heap.size + 1 < _ from hBW) qf7 id
                      have HS9 := hide (unhide HS8 _ (((hFn.mono fun _ h => h.elim).trans ((Fr.refl (· = w2.heap.size + 1) V').setCell (p := ⟨w2.heap.size + 1, 3, none⟩) rfl (.slice (some ⟨g6, 0, none⟩) (x.funcs.length + 1) c6)))))
                      clear hHeld
                      refine hK.out _ _ (unhide HS7 _ hFn) (fun hHeld => ?_)
                      clear hK K hFn hown hgrow hat
                      (try simp only [Act.put, List.setIfInBounds_toArray, List.set_cons_zero, List.set_cons_succ])
                      refine wpAnyH_take (i := 13) (oi := { dst := some 60, op := _, type := _, pos := _, after := _, guard := _ }) (v := .pointer (some ⟨w2.heap.size + 1, 3, none⟩)) rfl (by kernel_rfl) (by kernel_rfl) (by kernel_rfl) (fun _ _ _ h => h) (Or.inl ⟨by rfl, ?_⟩) hHeld ?_
                      · intro w' hSw
                        (try dsimp only at hSw)
                        go_simp
                      (try simp only [Act.put, List.setIfInBounds_toArray, List.set_cons_zero, List.set_cons_succ])
                      refine wpAnyH_ready (rs := [14]) (by kernel_rfl) (by simp) ?_
                      refine AllReadyH.cons (o := { dst := none, op := _, type := _, pos := _, after := _, guard := _ }) rfl (fun K hK => ?_) AllReadyH.nil
                      go_simp
                      clear hHeld
                      refine hK.out _ _ (unhide HS9) (fun hHeld => ?_)
                      clear hK K
                      (try simp only [Act.put, List.setIfInBounds_toArray, List.set_cons_zero, List.set_cons_succ])
                      refine wpAnyH_done (by kernel_rfl) ?_ _
                      go_wp2_with fail
                      go_meet
                      case rel => exact HGR
                    exact AllReadyH.nil
                  exact AllReadyH.nil
                exact AllReadyH.nil
              exact AllReadyH.nil
            exact AllReadyH.nil
          refine AllReadyH.cons (o := { dst := some 52, op := _, type := _, pos := _, after := _, guard := _ }) rfl (fun K hK => ?_) ?_
          · go_simp
            clear hHeld
            refine hK.out _ _ (unhide HS7 _ ((unhide HF).alloc _)) (fun hHeld => ?_)
            clear hK K
            (try simp only [Act.put, List.setIfInBounds_toArray, List.set_cons_zero, List.set_cons_succ])
            have HBn : Hid (Blk (V.alloc (.cells #[.bool true, .bool false] 4)) V.heap.size [.bool true, .bool false] 4) := hide (Blk.new V _ _)
            have HF' := hide ((unhide HF).alloc (.cells #[.bool true, .bool false] 4))
            clear HF
            have HF := HF'
            clear HF'
            have HB := HBn
            clear HBn
            generalize V.alloc (.cells #[.bool true, .bool false] 4) = V' at *
            generalize V.heap.size = rb at *
            clear V
            obtain ⟨V, rfl⟩ : ∃ V, V = V' := ⟨_, rfl⟩
            refine wpAnyH_ready (rs := [0, 9]) (by kernel_rfl) (by simp) ?_
            refine AllReadyH.cons (o := { dst := some 47, op := _, type := _, pos := _, after := _, guard := _ }) rfl (fun K hK => ?_) ?_
            · go_simp
              clear hHeld
              refine hK.out _ _ (unhide HS7 _ ((unhide HF).alloc _)) (fun hHeld => ?_)
              clear hK K
              (try simp only [Act.put, List.setIfInBounds_toArray, List.set_cons_zero, List.set_cons_succ])
              have HAn := hide (made0 (b := W7.heap.size) V (unhide HF).size)
              have HB' := hide ((unhide HB).alloc (.cells #[] 38))
              clear HB
              have HB := HB'
              clear HB'
              have HF' := hide ((unhide HF).alloc (.cells #[] 38))
              clear HF
              have HF := HF'
              clear HF'
              have HA := HAn
              clear HAn
              generalize V.alloc (.cells #[] 38) = V' at *
              generalize V.heap.size = g at *
              clear V
              obtain ⟨V, rfl⟩ : ∃ V, V = V' := ⟨_, rfl⟩
              refine wpAnyH_ready (rs := [3, 9]) (by kernel_rfl) (by simp) ?_
              refine AllReadyH.cons (o := { dst := some 50, op := _, type := _, pos := _, after := _, guard := _ }) rfl (fun K hK => ?_) ?_
              · refine step_append_any _ rfl (.tmp 47) (.tmp 49) 25 rfl W7.heap.size 38 i2 (.agg #[.string ⟨#[]⟩, .slice none 0 0, .int .i64 0, .int .i64 0, .bool false, .slice none 0 0]) 6 88 Tryd.underlying25 hi2 hy0 hy1 hy2 rfl (by decide) g 0 0 [] rfl (unhide HA) a4 x.funcs.length c4 (items.flatMap (·.2)) rfl (unhide HIl) (unhide HSf _ ((unhide HF27).trans (unhide HF))) (unhide HIo) (by omega) (by decide) (unhide HF).size ?_
                intro g' cg V' hown hgrow hat
                simp only [Nat.zero_add, List.nil_append] at hown
                have hFn : Fr (fun _ => False) W7 V' := (unhide HF).up (Fr.grown hgrow) fun k hk => .inr (by have := ((unhide HA).lt g rfl).1; have hk' : k = g := Option.some.inj hk; omega)
                clear hHeld
                refine hK.out _ _ (unhide HS7 _ hFn) (fun hHeld => ?_)
                clear hK K
                (try simp only [Act.put, List.setIfInBounds_toArray, List.set_cons_zero, List.set_cons_succ])
                (try simp only [Nat.zero_add])
                have HB' := hide ((unhide HB).grown hgrow ((unhide HB).ne (unhide HA) (by decide)))
                clear HB
                have HB := HB'
                clear HB'
                clear HA HF
                have HA := hide hown
                have HF := hide hFn
                clear hown hFn hgrow hat
                (try clear V)
                obtain ⟨g, rfl⟩ : ∃ g, g = g' := ⟨_, rfl⟩
                obtain ⟨V, rfl⟩ : ∃ V, V = V' := ⟨_, rfl⟩
                refine wpAnyH_ready (rs := [9]) (by kernel_rfl) (by simp) ?_
                refine AllReadyH.cons (o := { dst := some 56, op := _, type := _, pos := _, after := _, guard := _ }) rfl (fun K hK => ?_) ?_
                · go_simp
                  clear hHeld
                  refine hK.out _ _ (unhide HS7 _ ((unhide HF).alloc _)) (fun hHeld => ?_)
                  clear hK K
                  (try simp only [Act.put, List.setIfInBounds_toArray, List.set_cons_zero, List.set_cons_succ])
                  have HCn : Hid (Blk (V.alloc (.cells #[.int .i64 z, .int .i64 (wrap64 (-z)), .int .i64 l.length, .int .i64 4611686018427387904, .int .i64 (-4611686018427387904), .slice la l.length lcap, .int .i64 0, .int .i64 0, .int .i64 0, .int .i64 0, .int .i64 0, .slice none 0 0, .int .i64 z, .int .i64 (wrap64 (-z)), .int .i64 l.length, .int .i64 4611686018427387904, .int .i64 (-4611686018427387904), .slice la l.length lcap] 43)) V.heap.size [.int .i64 z, .int .i64 (wrap64 (-z)), .int .i64 l.length, .int .i64 4611686018427387904, .int .i64 (-4611686018427387904), .slice la l.length lcap, .int .i64 0, .int .i64 0, .int .i64 0, .int .i64 0, .int .i64 0, .slice none 0 0, .int .i64 z, .int .i64 (wrap64 (-z)), .int .i64 l.length, .int .i64 4611686018427387904, .int .i64 (-4611686018427387904), .slice la l.length lcap] 43) := hide (Blk.new V _ _)
                  have HA' := hide ((unhide HA).alloc (.cells #[.int .i64 z, .int .i64 (wrap64 (-z)), .int .i64 l.length, .int .i64 4611686018427387904, .int .i64 (-4611686018427387904), .slice la l.length lcap, .int .i64 0, .int .i64 0, .int .i64 0, .int .i64 0, .int .i64 0, .slice none 0 0, .int .i64 z, .int .i64 (wrap64 (-z)), .int .i64 l.length, .int .i64 4611686018427387904, .int .i64 (-4611686018427387904), .slice la l.length lcap] 43))
                  clear HA
                  have HA := HA'
                  clear HA'
                  have HB' := hide ((unhide HB).alloc (.cells #[.int .i64 z, .int .i64 (wrap64 (-z)), .int .i64 l.length, .int .i64 4611686018427387904, .int .i64 (-4611686018427387904), .slice la l.length lcap, .int .i64 0, .int .i64 0, .int .i64 0, .int .i64 0, .int .i64 0, .slice none 0 0, .int .i64 z, .int .i64 (wrap64 (-z)), .int .i64 l.length, .int .i64 4611686018427387904, .int .i64 (-4611686018427387904), .slice la l.length lcap] 43))
                  clear HB
                  have HB := HB'
                  clear HB'
                  have HF' := hide ((unhide HF).alloc (.cells #[.int .i64 z, .int .i64 (wrap64 (-z)), .int .i64 l.length, .int .i64 4611686018427387904, .int .i64 (-4611686018427387904), .slice la l.length lcap, .int .i64 0, .int .i64 0, .int .i64 0, .int .i64 0, .int .i64 0, .slice none 0 0, .int .i64 z, .int .i64 (wrap64 (-z)), .int .i64 l.length, .int .i64 4611686018427387904, .int .i64 (-4611686018427387904), .slice la l.length lcap] 43))
                  clear HF
                  have HF := HF'
                  clear HF'
                  have HC := HCn
                  clear HCn
                  generalize V.alloc (.cells #[.int .i64 z, .int .i64 (wrap64 (-z)), .int .i64 l.length, .int .i64 4611686018427387904, .int .i64 (-4611686018427387904), .slice la l.length lcap, .int .i64 0, .int .i64 0, .int .i64 0, .int .i64 0, .int .i64 0, .slice none 0 0, .int .i64 z, .int .i64 (wrap64 (-z)), .int .i64 l.length, .int .i64 4611686018427387904, .int .i64 (-4611686018427387904), .slice la l.length lcap] 43) = V' at *
                  generalize V.heap.size = cb at *
                  clear V
                  obtain ⟨V, rfl⟩ : ∃ V, V = V' := ⟨_, rfl⟩
                  refine wpAnyH_take (i := 10) (oi := { dst := some 57, op := _, type := _, pos := _, after := _, guard := _ }) (v := (.agg #[.string s, .slice (some ⟨rb, 0, none⟩) 2 2, .int .i64 0, .int .i64 0, .bool false, .slice (some ⟨cb, 0, none⟩) 3 3])) rfl (by kernel_rfl) (by kernel_rfl) (by kernel_rfl) (fun _ _ _ h => h) (Or.inl ⟨by rfl, ?_⟩) hHeld ?_
                  · intro w' hSw
                    (try dsimp only at hSw)
                    go_simp
                  (try simp only [Act.put, List.setIfInBounds_toArray, List.set_cons_zero, List.set_cons_succ])
                  refine wpAnyH_ready (rs := [11]) (by kernel_rfl) (by simp) ?_
                  refine AllReadyH.cons (o := { dst := some 58, op := _, type := _, pos := _, after := _, guard := _ }) rfl (fun K hK => ?_) ?_
                  · go_simp
                    clear hHeld
                    refine hK.out _ _ (unhide HS7 _ ((unhide HF).alloc _)) (fun hHeld => ?_)
                    clear hK K
                    (try simp only [Act.put, List.setIfInBounds_toArray, List.set_cons_zero, List.set_cons_succ])
                    have HDn : Hid (Blk (V.alloc (.cells #[.string s, .slice (some ⟨rb, 0, none⟩) 2 2, .int .i64 0, .int .i64 0, .bool false, .slice (some ⟨cb, 0, none⟩) 3 3] 38)) V.heap.size [.string s, .slice (some ⟨rb, 0, none⟩) 2 2, .int .i64 0, .int .i64 0, .bool false, .slice (some ⟨cb, 0, none⟩) 3 3] 38) := hide (Blk.new V _ _)
                    have HN : Hid (V.heap.size ≠ g) := hide (fun e => by have := ((unhide HA).lt g rfl).2; omega)
                    have HA' := hide ((unhide HA).alloc (.cells #[.string s, .slice (some ⟨rb, 0, none⟩) 2 2, .int .i64 0, .int .i64 0, .bool false, .slice (some ⟨cb, 0, none⟩) 3 3] 38))
                    clear HA
                    have HA := HA'
                    clear HA'
                    have HB' := hide ((unhide HB).alloc (.cells #[.string s, .slice (some ⟨rb, 0, none⟩) 2 2, .int .i64 0, .int .i64 0, .bool false, .slice (some ⟨cb, 0, none⟩) 3 3] 38))
                    clear HB
                    have HB := HB'
                    clear HB'
                    have HC' := hide ((unhide HC).alloc (.cells #[.string s, .slice (some ⟨rb, 0, none⟩) 2 2, .int .i64 0, .int .i64 0, .bool false, .slice (some ⟨cb, 0, none⟩) 3 3] 38))
                    clear HC
                    have HC := HC'
                    clear HC'
                    have HF' := hide ((unhide HF).alloc (.cells #[.string s, .slice (some ⟨rb, 0, none⟩) 2 2, .int .i64 0, .int .i64 0, .bool false, .slice (some ⟨cb, 0, none⟩) 3 3] 38))
                    clear HF
                    have HF := HF'
                    clear HF'
                    have HD := HDn
                    clear HDn
                    generalize V.alloc (.cells #[.string s, .slice (some ⟨rb, 0, none⟩) 2 2, .int .i64 0, .int .i64 0, .bool false, .slice (some ⟨cb, 0, none⟩) 3 3] 38) = V' at *
                    generalize V.heap.size = fb at *
                    clear V
                    obtain ⟨V, rfl⟩ : ∃ V, V = V' := ⟨_, rfl⟩
                    refine wpAnyH_ready (rs := [12]) (by kernel_rfl) (by simp) ?_
                    refine AllReadyH.cons (o := { dst := some 59, op := _, type := _, pos := _, after := _, guard := _ }) rfl (fun K hK => ?_) ?_
                    · refine step_append_any _ rfl (.tmp 50) (.tmp 58) 25 rfl W7.heap.size 38 i2 (.agg #[.string ⟨#[]⟩, .slice none 0 0, .int .i64 0, .int .i64 0, .bool false, .slice none 0 0]) 6 88 Tryd.underlying25 hi2 hy0 hy1 hy2 rfl (by decide) g x.funcs.length cg (items.flatMap (·.2)) rfl (unhide HA) (some ⟨fb, 0, none⟩) 1 1 [.string s, .slice (some ⟨rb, 0, none⟩) 2 2, .int .i64 0, .int .i64 0, .bool false, .slice (some ⟨cb, 0, none⟩) 3 3] rfl rfl (box_src (unhide HD).1) six_one (by omega) (by decide) (unhide HF).size ?_
                      intro g6 c6 V' hown hgrow hat
                      have hFn : Fr (fun _ => False) W7 V' := (unhide HF).up (Fr.grown hgrow) fun k hk => .inr (by have := ((unhide HA).lt g rfl).1; have hk' : k = g := Option.some.inj hk; omega)
                      have HGR := hide (GrR.of (unhide HQ7) (unhide HIt) (unhide HIC) (by omega) (Nat.le_refl _) (unhide HF27) hFn hown ((unhide HB).grown hgrow ((unhide HB).ne (unhide HA) (by decide))) ((unhide HC).grown hgrow ((unhide HC).ne (unhide HA) (by decide))) hBW (unhide HTB) (by omega) (unhide HZ) n0 (unhide HLl) htx2)
                      have q3 := hFn.cell ((unhide HQ7) 3 _ rfl) id
                      have qf3 : V'.frozen? ⟨w2.heap.size + 1, 3, none⟩ = false := hFn.frozen (show w2.heap.size + 1 < _ from hBW) qf7 id
                      have HS9 := hide (unhide HS8 _ (((hFn.mono fun _ h => h.elim).trans ((Fr.refl (· = w2.heap.size + 1) V').setCell (p := ⟨w2.heap.size + 1, 3, none⟩) rfl (.slice (some ⟨g6, 0, none⟩) (x.funcs.length + 1) c6)))))
                      clear hHeld
                      refine hK.out _ _ (unhide HS7 _ hFn) (fun hHeld => ?_)
                      clear hK K hFn hown hgrow hat
                      (try simp only [Act.put, List.setIfInBounds_toArray, List.set_cons_zero, List.set_cons_succ])
                      refine wpAnyH_take (i := 13) (oi := { dst := some 60, op := _, type := _, pos := _, after := _, guard := _ }) (v := .pointer (some ⟨w2.heap.size + 1, 3, none⟩)) rfl (by kernel_rfl) (by kernel_rfl) (by kernel_rfl) (fun _ _ _ h => h) (Or.inl ⟨by rfl, ?_⟩) hHeld ?_
                      · intro w' hSw
                        (try dsimp only at hSw)
                        go_simp
                      (try simp only [Act.put, List.setIfInBounds_toArray, List.set_cons_zero, List.set_cons_succ])
                      refine wpAnyH_ready (rs := [14]) (by kernel_rfl) (by simp) ?_
                      refine AllReadyH.cons (o := { dst := none, op := _, type := _, pos := _, after := _, guard := _ }) rfl (fun K hK => ?_) AllReadyH.nil
                      go_simp
                      clear hHeld
                      refine hK.out _ _ (unhide HS9) (fun hHeld => ?_)
                      clear hK K
                      (try simp only [Act.put, List.setIfInBounds_toArray, List.set_cons_zero, List.set_cons_succ])
                      refine wpAnyH_done (by kernel_rfl) ?_ _
                      go_wp2_with fail
                      go_meet
                      case rel => exact HGR
                    exact AllReadyH.nil
                  exact AllReadyH.nil
                exact AllReadyH.nil
              refine AllReadyH.cons (o := { dst := some 56, op := _, type := _, pos := _, after := _, guard := _ }) rfl (fun K hK => ?_) ?_
              · go_simp
                clear hHeld
                refine hK.out _ _ (unhide HS7 _ ((unhide HF).alloc _)) (fun hHeld => ?_)
                clear hK K
                (try simp only [Act.put, List.setIfInBounds_toArray, List.set_cons_zero, List.set_cons_succ])
                have HCn : Hid (Blk (V.alloc (.cells #[.int .i64 z, .int .i64 (wrap64 (-z)), .int .i64 l.length, .int .i64 4611686018427387904, .int .i64 (-4611686018427387904), .slice la l.length lcap, .int .i64 0, .int .i64 0, .int .i64 0, .int .i64 0, .int .i64 0, .slice none 0 0, .int .i64 z, .int .i64 (wrap64 (-z)), .int .i64 l.length, .int .i64 4611686018427387904, .int .i64 (-4611686018427387904), .slice la l.length lcap] 43)) V.heap.size [.int .i64 z, .int .i64 (wrap64 (-z)), .int .i64 l.length, .int .i64 4611686018427387904, .int .i64 (-4611686018427387904), .slice la l.length lcap, .int .i64 0, .int .i64 0, .int .i64 0, .int .i64 0, .int .i64 0, .slice none 0 0, .int .i64 z, .int .i64 (wrap64 (-z)), .int .i64 l.length, .int .i64 4611686018427387904, .int .i64 (-4611686018427387904), .slice la l.length lcap] 43) := hide (Blk.new V _ _)
                have HA' := hide ((unhide HA).alloc (.cells #[.int .i64 z, .int .i64 (wrap64 (-z)), .int .i64 l.length, .int .i64 4611686018427387904, .int .i64 (-4611686018427387904), .slice la l.length lcap, .int .i64 0, .int .i64 0, .int .i64 0, .int .i64 0, .int .i64 0, .slice none 0 0, .int .i64 z, .int .i64 (wrap64 (-z)), .int .i64 l.length, .int .i64 4611686018427387904, .int .i64 (-4611686018427387904), .slice la l.length lcap] 43))
                clear HA
                have HA := HA'
                clear HA'
                have HB' := hide ((unhide HB).alloc (.cells #[.int .i64 z, .int .i64 (wrap64 (-z)), .int .i64 l.length, .int .i64 4611686018427387904, .int .i64 (-4611686018427387904), .slice la l.length lcap, .int .i64 0, .int .i64 0, .int .i64 0, .int .i64 0, .int .i64 0, .slice none 0 0, .int .i64 z, .int .i64 (wrap64 (-z)), .int .i64 l.length, .int .i64 4611686018427387904, .int .i64 (-4611686018427387904), .slice la l.length lcap] 43))
                clear HB
                have HB := HB'
                clear HB'
                have HF' := hide ((unhide HF).alloc (.cells #[.int .i64 z, .int .i64 (wrap64 (-z)), .int .i64 l.length, .int .i64 4611686018427387904, .int .i64 (-4611686018427387904), .slice la l.length lcap, .int .i64 0, .int .i64 0, .int .i64 0, .int .i64 0, .int .i64 0, .slice none 0 0, .int .i64 z, .int .i64 (wrap64 (-z)), .int .i64 l.length, .int .i64 4611686018427387904, .int .i64 (-4611686018427387904), .slice la l.length lcap] 43))
                clear HF
                have HF := HF'
                clear HF'
                have HC := HCn
                clear HCn
                generalize V.alloc (.cells #[.int .i64 z, .int .i64 (wrap64 (-z)), .int .i64 l.length, .int .i64 4611686018427387904, .int .i64 (-4611686018427387904), .slice la l.length lcap, .int .i64 0, .int .i64 0, .int .i64 0, .int .i64 0, .int .i64 0, .slice none 0 0, .int .i64 z, .int .i64 (wrap64 (-z)), .int .i64 l.length, .int .i64 4611686018427387904, .int .i64 (-4611686018427387904), .slice la l.length lcap] 43) = V' at *
                generalize V.heap.size = cb at *
                clear V
                obtain ⟨V, rfl⟩ : ∃ V, V = V' := ⟨_, rfl⟩
                refine wpAnyH_take (i := 10) (oi := { dst := some 57, op := _, type := _, pos := _, after := _, guard := _ }) (v := (.agg #[.string s, .slice (some ⟨rb, 0, none⟩) 2 2, .int .i64 0, .int .i64 0, .bool false, .slice (some ⟨cb, 0, none⟩) 3 3])) rfl (by kernel_rfl) (by kernel_rfl) (by kernel_rfl) (fun _ _ _ h => h) (Or.inl ⟨by rfl, ?_⟩) hHeld ?_
                · intro w' hSw
                  (try dsimp only at hSw)
                  go_simp
                (try simp only [Act.put, List.setIfInBounds_toArray, List.set_cons_zero, List.set_cons_succ])
                refine wpAnyH_ready (rs := [3, 11]) (by kernel_rfl) (by simp) ?_
                refine AllReadyH.cons (o := { dst := some 50, op := _, type := _, pos := _, after := _, guard := _ }) rfl (fun K hK => ?_) ?_
                · refine step_append_any _ rfl (.tmp 47) (.tmp 49) 25 rfl W7.heap.size 38 i2 (.agg #[.string ⟨#[]⟩, .slice none 0 0, .int .i64 0, .int .i64 0, .bool false, .slice none 0 0]) 6 88 Tryd.underlying25 hi2 hy0 hy1 hy2 rfl (by decide) g 0 0 [] rfl (unhide HA) a4 x.funcs.length c4 (items.flatMap (·.2)) rfl (unhide HIl) (unhide HSf _ ((unhide HF27).trans (unhide HF))) (unhide HIo) (by omega) (by decide) (unhide HF).size ?_
                  intro g' cg V' hown hgrow hat
                  simp only [Nat.zero_add, List.nil_append] at hown
                  have hFn : Fr (fun _ => False) W7 V' := (unhide HF).up (Fr.grown hgrow) fun k hk => .inr (by have := ((unhide HA).lt g rfl).1; have hk' : k = g := Option.some.inj hk; omega)
                  clear hHeld
                  refine hK.out _ _ (unhide HS7 _ hFn) (fun hHeld => ?_)
                  clear hK K
                  (try simp only [Act.put, List.setIfInBounds_toArray, List.set_cons_zero, List.set_cons_succ])
                  (try simp only [Nat.zero_add])
                  have HB' := hide ((unhide HB).grown hgrow ((unhide HB).ne (unhide HA) (by decide)))
                  clear HB
                  have HB := HB'
                  clear HB'
                  have HC' := hide ((unhide HC).grown hgrow ((unhide HC).ne (unhide HA) (by decide)))
                  clear HC
                  have HC := HC'
                  clear HC'
                  clear HA HF
                  have HA := hide hown
                  have HF := hide hFn
                  clear hown hFn hgrow hat
                  (try clear V)
                  obtain ⟨g, rfl⟩ : ∃ g, g = g' := ⟨_, rfl⟩
                  obtain ⟨V, rfl⟩ : ∃ V, V = V' := ⟨_, rfl⟩
                  refine wpAnyH_ready (rs := [11]) (by kernel_rfl) (by simp) ?_
                  refine AllReadyH.cons (o := { dst := some 58, op := _, type := _, pos := _, after := _, guard := _ }) rfl (fun K hK => ?_) ?_
                  · go_simp
                    clear hHeld
                    refine hK.out _ _ (unhide HS7 _ ((unhide HF).alloc _)) (fun hHeld => ?_)
                    clear hK K
                    (try simp only [Act.put, List.setIfInBounds_toArray, List.set_cons_zero, List.set_cons_succ])
                    have HDn : Hid (Blk (V.alloc (.cells #[.string s, .slice (some ⟨rb, 0, none⟩) 2 2, .int .i64 0, .int .i64 0, .bool false, .slice (some ⟨cb, 0, none⟩) 3 3] 38)) V.heap.size [.string s, .slice (some ⟨rb, 0, none⟩) 2 2, .int .i64 0, .int .i64 0, .bool false, .slice (some ⟨cb, 0, none⟩) 3 3] 38) := hide (Blk.new V _ _)
                    have HN : Hid (V.heap.size ≠ g) := hide (fun e => by have := ((unhide HA).lt g rfl).2; omega)
                    have HA' := hide ((unhide HA).alloc (.cells #[.string s, .slice (some ⟨rb, 0, none⟩) 2 2, .int .i64 0, .int .i64 0, .bool false, .slice (some ⟨cb, 0, none⟩) 3 3] 38))
                    clear HA
                    have HA := HA'
                    clear HA'
                    have HB' := hide ((unhide HB).alloc (.cells #[.string s, .slice (some ⟨rb, 0, none⟩) 2 2, .int .i64 0, .int .i64 0, .bool false, .slice (some ⟨cb, 0, none⟩) 3 3] 38))
                    clear HB
                    have HB := HB'
                    clear HB'
                    have HC' := hide ((unhide HC).alloc (.cells #[.string s, .slice (some ⟨rb, 0, none⟩) 2 2, .int .i64 0, .int .i64 0, .bool false, .slice (some ⟨cb, 0, none⟩) 3 3] 38))
                    clear HC
                    have HC := HC'
                    clear HC'
                    have HF' := hide ((unhide HF).alloc (.cells #[.string s, .slice (some ⟨rb, 0, none⟩) 2 2, .int .i64 0, .int .i64 0, .bool false, .slice (some ⟨cb, 0, none⟩) 3 3] 38))
                    clear HF
                    have HF := HF'
                    clear HF'
                    have HD := HDn
                    clear HDn
                    generalize V.alloc (.cells #[.string s, .slice (some ⟨rb, 0, none⟩) 2 2, .int .i64 0, .int .i64 0, .bool false, .slice (some ⟨cb, 0, none⟩) 3 3] 38) = V' at *
                    generalize V.heap.size = fb at *
                    clear V
                    obtain ⟨V, rfl⟩ : ∃ V, V = V' := ⟨_, rfl⟩
                    refine wpAnyH_ready (rs := [12]) (by kernel_rfl) (by simp) ?_
                    refine AllReadyH.cons (o := { dst := some 59, op := _, type := _, pos := _, after := _, guard := _ }) rfl (fun K hK => ?_) ?_
                    · refine step_append_any _ rfl (.tmp 50) (.tmp 58) 25 rfl W7.heap.size 38 i2 (.agg #[.string ⟨#[]⟩, .slice none 0 0, .int .i64 0, .int .i64 0, .bool false, .slice none 0 0]) 6 88 Tryd.underlying25 hi2 hy0 hy1 hy2 rfl (by decide) g x.funcs.length cg (items.flatMap (·.2)) rfl (unhide HA) (some ⟨fb, 0, none⟩) 1 1 [.string s, .slice (some ⟨rb, 0, none⟩) 2 2, .int .i64 0, .int .i64 0, .bool false, .slice (some ⟨cb, 0, none⟩) 3 3] rfl rfl (box_src (unhide HD).1) six_one (by omega) (by decide) (unhide HF).size ?_
                      intro g6 c6 V' hown hgrow hat
                      have hFn : Fr (fun _ => False) W7 V' := (unhide HF).up (Fr.grown hgrow) fun k hk => .inr (by have := ((unhide HA).lt g rfl).1; have hk' : k = g := Option.some.inj hk; omega)
                      have HGR := hide (GrR.of (unhide HQ7) (unhide HIt) (unhide HIC) (by omega) (Nat.le_refl _) (unhide HF27) hFn hown ((unhide HB).grown hgrow ((unhide HB).ne (unhide HA) (by decide))) ((unhide HC).grown hgrow ((unhide HC).ne (unhide HA) (by decide))) hBW (unhide HTB) (by omega) (unhide HZ) n0 (unhide HLl) htx2)
                      have q3 := hFn.cell ((unhide HQ7) 3 _ rfl) id
                      have qf3 : V'.frozen? ⟨w2.heap.size + 1, 3, none⟩ = false := hFn.frozen (show w2.heap.size + 1 < _ from hBW) qf7 id
                      have HS9 := hide (unhide HS8 _ (((hFn.mono fun _ h => h.elim).trans ((Fr.refl (· = w2.heap.size + 1) V').setCell (p := ⟨w2.heap.size + 1, 3, none⟩) rfl (.slice (some ⟨g6, 0, none⟩) (x.funcs.length + 1) c6)))))
                      clear hHeld
                      refine hK.out _ _ (unhide HS7 _ hFn) (fun hHeld => ?_)
                      clear hK K hFn hown hgrow hat
                      (try simp only [Act.put, List.setIfInBounds_toArray, List.set_cons_zero, List.set_cons_succ])
                      refine wpAnyH_take (i := 13) (oi := { dst := some 60, op := _, type := _, pos := _, after := _, guard := _ }) (v := .pointer (some ⟨w2.heap.size + 1, 3, none⟩)) rfl (by kernel_rfl) (by kernel_rfl) (by kernel_rfl) (fun _ _ _ h => h) (Or.inl ⟨by rfl, ?_⟩) hHeld ?_
                      · intro w' hSw
                        (try dsimp only at hSw)
                        go_simp
                      (try simp only [Act.put, List.setIfInBounds_toArray, List.set_cons_zero, List.set_cons_succ])
                      refine wpAnyH_ready (rs := [14]) (by kernel_rfl) (by simp) ?_
                      refine AllReadyH.cons (o := { dst := none, op := _, type := _, pos := _, after := _, guard := _ }) rfl (fun K hK => ?_) AllReadyH.nil
                      go_simp
                      clear hHeld
                      refine hK.out _ _ (unhide HS9) (fun hHeld => ?_)
                      clear hK K
                      (try simp only [Act.put, List.setIfInBounds_toArray, List.set_cons_zero, List.set_cons_succ])
                      refine wpAnyH_done (by kernel_rfl) ?_ _
                      go_wp2_with fail
                      go_meet
                      case rel => exact HGR
                    exact AllReadyH.nil
                  exact AllReadyH.nil
                refine AllReadyH.cons (o := { dst := some 58, op := _, type := _, pos := _, after := _, guard := _ }) rfl (fun K hK => ?_) ?_
                · go_simp
                  clear hHeld
                  refine hK.out _ _ (unhide HS7 _ ((unhide HF).alloc _)) (fun hHeld => ?_)
                  clear hK K
                  (try simp only [Act.put, List.setIfInBounds_toArray, List.set_cons_zero, List.set_cons_succ])
                  have HDn : Hid (Blk (V.alloc (.cells #[.string s, .slice (some ⟨rb, 0, none⟩) 2 2, .int .i64 0, .int .i64 0, .bool false, .slice (some ⟨cb, 0, none⟩) 3 3] 38)) V.heap.size [.string s, .slice (some ⟨rb, 0, none⟩) 2 2, .int .i64 0, .int .i64 0, .bool false, .slice (some ⟨cb, 0, none⟩) 3 3] 38) := hide (Blk.new V _ _)
                  have HN : Hid (V.heap.size ≠ g) := hide (fun e => by have := ((unhide HA).lt g rfl).2; omega)
                  have HA' := hide ((unhide HA).alloc (.cells #[.string s, .slice (some ⟨rb, 0, none⟩) 2 2, .int .i64 0, .int .i64 0, .bool false, .slice (some ⟨cb, 0, none⟩) 3 3] 38))
                  clear HA
                  have HA := HA'
                  clear HA'
                  have HB' := hide ((unhide HB).alloc (.cells #[.string s, .slice (some ⟨rb, 0, none⟩) 2 2, .int .i64 0, .int .i64 0, .bool false, .slice (some ⟨cb, 0, none⟩) 3 3] 38))
                  clear HB
                  have HB := HB'
                  clear HB'
                  have HC' := hide ((unhide HC).alloc (.cells #[.string s, .slice (some ⟨rb, 0, none⟩) 2 2, .int .i64 0, .int .i64 0, .bool false, .slice (some ⟨cb, 0, none⟩) 3 3] 38))
                  clear HC
                  have HC := HC'
                  clear HC'
                  have HF' := hide ((unhide HF).alloc (.cells #[.string s, .slice (some ⟨rb, 0, none⟩) 2 2, .int .i64 0, .int .i64 0, .bool false, .slice (some ⟨cb, 0, none⟩) 3 3] 38))
                  clear HF
                  have HF := HF'
                  clear HF'
                  have HD := HDn
                  clear HDn
                  generalize V.alloc (.cells #[.string s, .slice (some ⟨rb, 0, none⟩) 2 2, .int .i64 0, .int .i64 0, .bool false, .slice (some ⟨cb, 0, none⟩) 3 3] 38) = V' at *
                  generalize V.heap.size = fb at *
                  clear V
                  obtain ⟨V, rfl⟩ : ∃ V, V = V' := ⟨_, rfl⟩
                  refine wpAnyH_ready (rs := [3]) (by kernel_rfl) (by simp) ?_
                  refine AllReadyH.cons (o := { dst := some 50, op := _, type := _, pos := _, after := _, guard := _ }) rfl (fun K hK => ?_) ?_
                  · refine step_append_any _ rfl (.tmp 47) (.tmp 49) 25 rfl W7.heap.size 38 i2 (.agg #[.string ⟨#[]⟩, .slice none 0 0, .int .i64 0, .int .i64 0, .bool false, .slice none 0 0]) 6 88 Tryd.underlying25 hi2 hy0 hy1 hy2 rfl (by decide) g 0 0 [] rfl (unhide HA) a4 x.funcs.length c4 (items.flatMap (·.2)) rfl (unhide HIl) (unhide HSf _ ((unhide HF27).trans (unhide HF))) (unhide HIo) (by omega) (by decide) (unhide HF).size ?_
                    intro g' cg V' hown hgrow hat
                    simp only [Nat.zero_add, List.nil_append] at hown
                    have hFn : Fr (fun _ => False) W7 V' := (unhide HF).up (Fr.grown hgrow) fun k hk => .inr (by have := ((unhide HA).lt g rfl).1; have hk' : k = g := Option.some.inj hk; omega)
                    clear hHeld
                    refine hK.out _ _ (unhide HS7 _ hFn) (fun hHeld => ?_)
                    clear hK K
                    (try simp only [Act.put, List.setIfInBounds_toArray, List.set_cons_zero, List.set_cons_succ])
                    (try simp only [Nat.zero_add])
                    have HB' := hide ((unhide HB).grown hgrow ((unhide HB).ne (unhide HA) (by decide)))
                    clear HB
                    have HB := HB'
                    clear HB'
                    have HC' := hide ((unhide HC).grown hgrow ((unhide HC).ne (unhide HA) (by decide)))
                    clear HC
                    have HC := HC'
                    clear HC'
                    have HN' : Hid (fb ≠ g') := hide (fun e => by
                      rcases hat with h | h
                      · exact unhide HN (e.trans h)
                      · have := (unhide HD).lt
                        omega)
                    have HD' := hide ((unhide HD).grown hgrow (unhide HN))
                    clear HD
                    have HD := HD'
                    clear HD'
                    clear HN
                    have HN := HN'
                    clear HN'
                    clear HA HF
                    have HA := hide hown
                    have HF := hide hFn
                    clear hown hFn hgrow hat
                    (try clear V)
                    obtain ⟨g, rfl⟩ : ∃ g, g = g' := ⟨_, rfl⟩
                    obtain ⟨V, rfl⟩ : ∃ V, V = V' := ⟨_, rfl⟩
                    refine wpAnyH_ready (rs := [12]) (by kernel_rfl) (by simp) ?_
                    refine AllReadyH.cons (o := { dst := some 59, op := _, type := _, pos := _, after := _, guard := _ }) rfl (fun K hK => ?_) ?_
                    · refine step_append_any _ rfl (.tmp 50) (.tmp 58) 25 rfl W7.heap.size 38 i2 (.agg #[.string ⟨#[]⟩, .slice none 0 0, .int .i64 0, .int .i64 0, .bool false, .slice none 0 0]) 6 88 Tryd.underlying25 hi2 hy0 hy1 hy2 rfl (by decide) g x.funcs.length cg (items.flatMap (·.2)) rfl (unhide HA) (some ⟨fb, 0, none⟩) 1 1 [.string s, .slice (some ⟨rb, 0, none⟩) 2 2, .int .i64 0, .int .i64 0, .bool false, .slice (some ⟨cb, 0, none⟩) 3 3] rfl rfl (box_src (unhide HD).1) six_one (by omega) (by decide) (unhide HF).size ?_
                      intro g6 c6 V' hown hgrow hat
                      have hFn : Fr (fun _ => False) W7 V' := (unhide HF).up (Fr.grown hgrow) fun k hk => .inr (by have := ((unhide HA).lt g rfl).1; have hk' : k = g := Option.some.inj hk; omega)
                      have HGR := hide (GrR.of (unhide HQ7) (unhide HIt) (unhide HIC) (by omega) (Nat.le_refl _) (unhide HF27) hFn hown ((unhide HB).grown hgrow ((unhide HB).ne (unhide HA) (by decide))) ((unhide HC).grown hgrow ((unhide HC).ne (unhide HA) (by decide))) hBW (unhide HTB) (by omega) (unhide HZ) n0 (unhide HLl) htx2)
                      have q3 := hFn.cell ((unhide HQ7) 3 _ rfl) id
                      have qf3 : V'.frozen? ⟨w2.heap.size + 1, 3, none⟩ = false := hFn.frozen (show w2.heap.size + 1 < _ from hBW) qf7 id
                      have HS9 := hide (unhide HS8 _ (((hFn.mono fun _ h => h.elim).trans ((Fr.refl (· = w2.heap.size + 1) V').setCell (p := ⟨w2.heap.size + 1, 3, none⟩) rfl (.slice (some ⟨g6, 0, none⟩) (x.funcs.length + 1) c6)))))
                      clear hHeld
                      refine hK.out _ _ (unhide HS7 _ hFn) (fun hHeld => ?_)
                      clear hK K hFn hown hgrow hat
                      (try simp only [Act.put, List.setIfInBounds_toArray, List.set_cons_zero, List.set_cons_succ])
                      refine wpAnyH_take (i := 13) (oi := { dst := some 60, op := _, type := _, pos := _, after := _, guard := _ }) (v := .pointer (some ⟨w2.heap.size + 1, 3, none⟩)) rfl (by kernel_rfl) (by kernel_rfl) (by kernel_rfl) (fun _ _ _ h => h) (Or.inl ⟨by rfl, ?_⟩) hHeld ?_
                      · intro w' hSw
                        (try dsimp only at hSw)
                        go_simp
                      (try simp only [Act.put, List.setIfInBounds_toArray, List.set_cons_zero, List.set_cons_succ])
                      refine wpAnyH_ready (rs := [14]) (by kernel_rfl) (by simp) ?_
                      refine AllReadyH.cons (o := { dst := none, op := _, type := _, pos := _, after := _, guard := _ }) rfl (fun K hK => ?_) AllReadyH.nil
                      go_simp
                      clear hHeld
                      refine hK.out _ _ (unhide HS9) (fun hHeld => ?_)
                      clear hK K
                      (try simp only [Act.put, List.setIfInBounds_toArray, List.set_cons_zero, List.set_cons_succ])
                      refine wpAnyH_done (by kernel_rfl) ?_ _
                      go_wp2_with fail
                      go_meet
                      case rel => exact HGR
                    exact AllReadyH.nil
                  exact AllReadyH.nil
                exact AllReadyH.nil
              exact AllReadyH.nil
            refine AllReadyH.cons (o := { dst := some 56, op := _, type := _, pos := _, after := _, guard := _ }) rfl (fun K hK => ?_) ?_
            · go_simp
              clear hHeld
              refine hK.out _ _ (unhide HS7 _ ((unhide HF).alloc _)) (fun hHeld => ?_)
              clear hK K
              (try simp only [Act.put, List.setIfInBounds_toArray, List.set_cons_zero, List.set_cons_succ])
              have HCn : Hid (Blk (V.alloc (.cells #[.int .i64 z, .int .i64 (wrap64 (-z)), .int .i64 l.length, .int .i64 4611686018427387904, .int .i64 (-4611686018427387904), .slice la l.length lcap, .int .i64 0, .int .i64 0, .int .i64 0, .int .i64 0, .int .i64 0, .slice none 0 0, .int .i64 z, .int .i64 (wrap64 (-z)), .int .i64 l.length, .int .i64 4611686018427387904, .int .i64 (-4611686018427387904), .slice la l.length lcap] 43)) V.heap.size [.int .i64 z, .int .i64 (wrap64 (-z)), .int .i64 l.length, .int .i64 4611686018427387904, .int .i64 (-4611686018427387904), .slice la l.length lcap, .int .i64 0, .int .i64 0, .int .i64 0, .int .i64 0, .int .i64 0, .slice none 0 0, .int .i64 z, .int .i64 (wrap64 (-z)), .int .i64 l.length, .int .i64 4611686018427387904, .int .i64 (-4611686018427387904), .slice la l.length lcap] 43) := hide (Blk.new V _ _)
              have HB' := hide ((unhide HB).alloc (.cells #[.int .i64 z, .int .i64 (wrap64 (-z)), .int .i64 l.length, .int .i64 4611686018427387904, .int .i64 (-4611686018427387904), .slice la l.length lcap, .int .i64 0, .int .i64 0, .int .i64 0, .int .i64 0, .int .i64 0, .slice none 0 0, .int .i64 z, .int .i64 (wrap64 (-z)), .int .i64 l.length, .int .i64 4611686018427387904, .int .i64 (-4611686018427387904), .slice la l.length lcap] 43))
              clear HB
              have HB := HB'
              clear HB'
              have HF' := hide ((unhide HF).alloc (.cells #[.int .i64 z, .int .i64 (wrap64 (-z)), .int .i64 l.length, .int .i64 4611686018427387904, .int .i64 (-4611686018427387904), .slice la l.length lcap, .int .i64 0, .int .i64 0, .int .i64 0, .int .i64 0, .int .i64 0, .slice none 0 0, .int .i64 z, .int .i64 (wrap64 (-z)), .int .i64 l.length, .int .i64 4611686018427387904, .int .i64 (-4611686018427387904), .slice la l.length lcap] 43))
              clear HF
              have HF := HF'
              clear HF'
              have HC := HCn
              clear HCn
              generalize V.alloc (.cells #[.int .i64 z, .int .i64 (wrap64 (-z)), .int .i64 l.length, .int .i64 4611686018427387904, .int .i64 (-4611686018427387904), .slice la l.length lcap, .int .i64 0, .int .i64 0, .int .i64 0, .int .i64 0, .int .i64 0, .slice none 0 0, .int .i64 z, .int .i64 (wrap64 (-z)), .int .i64 l.length, .int .i64 4611686018427387904, .int .i64 (-4611686018427387904), .slice la l.length lcap] 43) = V' at *
              generalize V.heap.size = cb at *
              clear V
              obtain ⟨V, rfl⟩ : ∃ V, V = V' := ⟨_, rfl⟩
              refine wpAnyH_take (i := 10) (oi := { dst := some 57, op := _, type := _, pos := _, after := _, guard := _ }) (v := (.agg #[.string s, .slice (some ⟨rb, 0, none⟩) 2 2, .int .i64 0, .int .i64 0, .bool false, .slice (some ⟨cb, 0, none⟩) 3 3])) rfl (by kernel_rfl) (by kernel_rfl) (by kernel_rfl) (fun _ _ _ h => h) (Or.inl ⟨by rfl, ?_⟩) hHeld ?_
              · intro w' hSw
                (try dsimp only at hSw)
                go_simp
              (try simp only [Act.put, List.setIfInBounds_toArray, List.set_cons_zero, List.set_cons_succ])
              refine wpAnyH_ready (rs := [0, 11]) (by kernel_rfl) (by simp) ?_
              refine AllReadyH.cons (o := { dst := some 47, op := _, type := _, pos := _, after := _, guard := _ }) rfl (fun K hK => ?_) ?_
              · go_simp
                clear hHeld
                refine hK.out _ _ (unhide HS7 _ ((unhide HF).alloc _)) (fun hHeld => ?_)
                clear hK K
                (try simp only [Act.put, List.setIfInBounds_toArray, List.set_cons_zero, List.set_cons_succ])
                have HAn := hide (made0 (b := W7.heap.size) V (unhide HF).size)
                have HB' := hide ((unhide HB).alloc (.cells #[] 38))
                clear HB
                have HB := HB'
                clear HB'
                have HC' := hide ((unhide HC).alloc (.cells #[] 38))
                clear HC
                have HC := HC'
                clear HC'
                have HF' := hide ((unhide HF).alloc (.cells #[] 38))
                clear HF
                have HF := HF'
                clear HF'
                have HA := HAn
                clear HAn
                generalize V.alloc (.cells #[] 38) = V' at *
                generalize V.heap.size = g at *
                clear V
                obtain ⟨V, rfl⟩ : ∃ V, V = V' := ⟨_, rfl⟩
                refine wpAnyH_ready (rs := [3, 11]) (by kernel_rfl) (by simp) ?_
                refine AllReadyH.cons (o := { dst := some 50, op := _, type := _, pos := _, after := _, guard := _ }) rfl (fun K hK => ?_) ?_
                · refine step_append_any _ rfl (.tmp 47) (.tmp 49) 25 rfl W7.heap.size 38 i2 (.agg #[.string ⟨#[]⟩, .slice none 0 0, .int .i64 0, .int .i64 0, .bool false, .slice none 0 0]) 6 88 Tryd.underlying25 hi2 hy0 hy1 hy2 rfl (by decide) g 0 0 [] rfl (unhide HA) a4 x.funcs.length c4 (items.flatMap (·.2)) rfl (unhide HIl) (unhide HSf _ ((unhide HF27).trans (unhide HF))) (unhide HIo) (by omega) (by decide) (unhide HF).size ?_
                  intro g' cg V' hown hgrow hat
                  simp only [Nat.zero_add, List.nil_append] at hown
                  have hFn : Fr (fun _ => False) W7 V' := (unhide HF).up (Fr.grown hgrow) fun k hk => .inr (by have := ((unhide HA).lt g rfl).1; have hk' : k = g := Option.some.inj hk; omega)
                  clear hHeld
                  refine hK.out _ _ (unhide HS7 _ hFn) (fun hHeld => ?_)
                  clear hK K
                  (try simp only [Act.put, List.setIfInBounds_toArray, List.set_cons_zero, List.set_cons_succ])
                  (try simp only [Nat.zero_add])
                  have HB' := hide ((unhide HB).grown hgrow ((unhide HB).ne (unhide HA) (by decide)))
                  clear HB
                  have HB := HB'
                  clear HB'
                  have HC' := hide ((unhide HC).grown hgrow ((unhide HC).ne (unhide HA) (by decide)))
                  clear HC
                  have HC := HC'
                  clear HC'
                  clear HA HF
                  have HA := hide hown
                  have HF := hide hFn
                  clear hown hFn hgrow hat
                  (try clear V)
                  obtain ⟨g, rfl⟩ : ∃ g, g = g' := ⟨_, rfl⟩
                  obtain ⟨V, rfl⟩ : ∃ V, V = V' := ⟨_, rfl⟩
                  refine wpAnyH_ready (rs := [11]) (by kernel_rfl) (by simp) ?_
                  refine AllReadyH.cons (o := { dst := some 58, op := _, type := _, pos := _, after := _, guard := _ }) rfl (fun K hK => ?_) ?_
                  · go_simp
                    clear hHeld
                    refine hK.out _ _ (unhide HS7 _ ((unhide HF).alloc _)) (fun hHeld => ?_)
                    clear hK K
                    (try simp only [Act.put, List.setIfInBounds_toArray, List.set_cons_zero, List.set_cons_succ])
                    have HDn : Hid (Blk (V.alloc (.cells #[.string s, .slice (some ⟨rb, 0, none⟩) 2 2, .int .i64 0, .int .i64 0, .bool false, .slice (some ⟨cb, 0, none⟩) 3 3] 38)) V.heap.size [.string s, .slice (some ⟨rb, 0, none⟩) 2 2, .int .i64 0, .int .i64 0, .bool false, .slice (some ⟨cb, 0, none⟩) 3 3] 38) := hide (Blk.new V _ _)
                    have HN : Hid (V.heap.size ≠ g) := hide (fun e => by have := ((unhide HA).lt g rfl).2; omega)
                    have HA' := hide ((unhide HA).alloc (.cells #[.string s, .slice (some ⟨rb, 0, none⟩) 2 2, .int .i64 0, .int .i64 0, .bool false, .slice (some ⟨cb, 0, none⟩) 3 3] 38))
                    clear HA
                    have HA := HA'
                    clear HA'
                    have HB' := hide ((unhide HB).alloc (.cells #[.string s, .slice (some ⟨rb, 0, none⟩) 2 2, .int .i64 0, .int .i64 0, .bool false, .slice (some ⟨cb, 0, none⟩) 3 3] 38))
                    clear HB
                    have HB := HB'
                    clear HB'
                    have HC' := hide ((unhide HC).alloc (.cells #[.string s, .slice (some ⟨rb, 0, none⟩) 2 2, .int .i64 0, .int .i64 0, .bool false, .slice (some ⟨cb, 0, none⟩) 3 3] 38))
                    clear HC
                    have HC := HC'
                    clear HC'
                    have HF' := hide ((unhide HF).alloc (.cells #[.string s, .slice (some ⟨rb, 0, none⟩) 2 2, .int .i64 0, .int .i64 0, .bool false, .slice (some ⟨cb, 0, none⟩) 3 3] 38))
                    clear HF
                    have HF := HF'
                    clear HF'
                    have HD := HDn
                    clear HDn
                    generalize V.alloc (.cells #[.string s, .slice (some ⟨rb, 0, none⟩) 2 2, .int .i64 0, .int .i64 0, .bool false, .slice (some ⟨cb, 0, none⟩) 3 3] 38) = V' at *
                    generalize V.heap.size = fb at *
                    clear V
                    obtain ⟨V, rfl⟩ : ∃ V, V = V' := ⟨_, rfl⟩
                    refine wpAnyH_ready (rs := [12]) (by kernel_rfl) (by simp) ?_
                    refine AllReadyH.cons (o := { dst := some 59, op := _, type := _, pos := _, after := _, guard := _ }) rfl (fun K hK => ?_) ?_
                    · refine step_append_any _ rfl (.tmp 50) (.tmp 58) 25 rfl W7.heap.size 38 i2 (.agg #[.string ⟨#[]⟩, .slice none 0 0, .int .i64 0, .int .i64 0, .bool false, .slice none 0 0]) 6 88 Tryd.underlying25 hi2 hy0 hy1 hy2 rfl (by decide) g x.funcs.length cg (items.flatMap (·.2)) rfl (unhide HA) (some ⟨fb, 0, none⟩) 1 1 [.string s, .slice (some ⟨rb, 0, none⟩) 2 2, .int .i64 0, .int .i64 0, .bool false, .slice (some ⟨cb, 0, none⟩) 3 3] rfl rfl (box_src (unhide HD).1) six_one (by omega) (by decide) (unhide HF).size ?_
                      intro g6 c6 V' hown hgrow hat
                      have hFn : Fr (fun _ => False) W7 V' := (unhide HF).up (Fr.grown hgrow) fun k hk => .inr (by have := ((unhide HA).lt g rfl).1; have hk' : k = g := Option.some.inj hk; omega)
                      have HGR := hide (GrR.of (unhide HQ7) (unhide HIt) (unhide HIC) (by omega) (Nat.le_refl _) (unhide HF27) hFn hown ((unhide HB).grown hgrow ((unhide HB).ne (unhide HA) (by decide))) ((unhide HC).grown hgrow ((unhide HC).ne (unhide HA) (by decide))) hBW (unhide HTB) (by omega) (unhide HZ) n0 (unhide HLl) htx2)
                      have q3 := hFn.cell ((unhide HQ7) 3 _ rfl) id
                      have qf3 : V'.frozen? ⟨w2.heap.size + 1, 3, none⟩ = false := hFn.frozen (show w2.heap.size + 1 < _ from hBW) qf7 id
                      have HS9 := hide (unhide HS8 _ (((hFn.mono fun _ h => h.elim).trans ((Fr.refl (· = w2.heap.size + 1) V').setCell (p := ⟨w2.heap.size + 1, 3, none⟩) rfl (.slice (some ⟨g6, 0, none⟩) (x.funcs.length + 1) c6)))))
                      clear hHeld
                      refine hK.out _ _ (unhide HS7 _ hFn) (fun hHeld => ?_)
                      clear hK K hFn hown hgrow hat
                      (try simp only [Act.put, List.setIfInBounds_toArray, List.set_cons_zero, List.set_cons_succ])
                      refine wpAnyH_take (i := 13) (oi := { dst := some 60, op := _, type := _, pos := _, after := _, guard := _ }) (v := .pointer (some ⟨w2.heap.size + 1, 3, none⟩)) rfl (by kernel_rfl) (by kernel_rfl) (by kernel_rfl) (fun _ _ _ h => h) (Or.inl ⟨by rfl, ?_⟩) hHeld ?_
                      · intro w' hSw
                        (try dsimp only at hSw)
                        go_simp
                      (try simp only [Act.put, List.setIfInBounds_toArray, List.set_cons_zero, List.set_cons_succ])
                      refine wpAnyH_ready (rs := [14]) (by kernel_rfl) (by simp) ?_
                      refine AllReadyH.cons (o := { dst := none, op := _, type := _, pos := _, after := _, guard := _ }) rfl (fun K hK => ?_) AllReadyH.nil
                      go_simp
                      clear hHeld
                      refine hK.out _ _ (unhide HS9) (fun hHeld => ?_)
                      clear hK K
                      (try simp only [Act.put, List.setIfInBounds_toArray, List.set_cons_zero, List.set_cons_succ])
                      refine wpAnyH_done (by kernel_rfl) ?_ _
                      go_wp2_with fail
                      go_meet
                      case rel => exact HGR
                    exact AllReadyH.nil
                  exact AllReadyH.nil
                refine AllReadyH.cons (o := { dst := some 58, op := _, type := _, pos := _, after := _, guard := _ }) rfl (fun K hK => ?_) ?_
                · go_simp
                  clear hHeld
                  refine hK.out _ _ (unhide HS7 _ ((unhide HF).alloc _)) (fun hHeld => ?_)
                  clear hK K
                  (try simp only [Act.put, List.setIfInBounds_toArray, List.set_cons_zero, List.set_cons_succ])
                  have HDn : Hid (Blk (V.alloc (.cells #[.string s, .slice (some ⟨rb, 0, none⟩) 2 2, .int .i64 0, .int .i64 0, .bool false, .slice (some ⟨cb, 0, none⟩) 3 3] 38)) V.heap.size [.string s, .slice (some ⟨rb, 0, none⟩) 2 2, .int .i64 0, .int .i64 0, .bool false, .slice (some ⟨cb, 0, none⟩) 3 3] 38) := hide (Blk.new V _ _)
                  have HN : Hid (V.heap.size ≠ g) := hide (fun e => by have := ((unhide HA).lt g rfl).2; omega)
                  have HA' := hide ((unhide HA).alloc (.cells #[.string s, .slice (some ⟨rb, 0, none⟩) 2 2, .int .i64 0, .int .i64 0, .bool false, .slice (some ⟨cb, 0, none⟩) 3 3] 38))
                  clear HA
                  have HA := HA'
                  clear HA'
                  have HB' := hide ((unhide HB).alloc (.cells #[.string s, .slice (some ⟨rb, 0, none⟩) 2 2, .int .i64 0, .int .i64 0, .bool false, .slice (some ⟨cb, 0, none⟩) 3 3] 38))
                  clear HB
                  have HB := HB'
                  clear HB'
                  have HC' := hide ((unhide HC).alloc (.cells #[.string s, .slice (some ⟨rb, 0, none⟩) 2 2, .int .i64 0, .int .i64 0, .bool false, .slice (some ⟨cb, 0, none⟩) 3 3] 38))
                  clear HC
                  have HC := HC'
                  clear HC'
                  have HF' := hide ((unhide HF).alloc (.cells #[.string s, .slice (some ⟨rb, 0, none⟩) 2 2, .int .i64 0, .int .i64 0, .bool false, .slice (some ⟨cb, 0, none⟩) 3 3] 38))
                  clear HF
                  have HF := HF'
                  clear HF'
                  have HD := HDn
                  clear HDn
                  generalize V.alloc (.cells #[.string s, .slice (some ⟨rb, 0, none⟩) 2 2, .int .i64 0, .int .i64 0, .bool false, .slice (some ⟨cb, 0, none⟩) 3 3] 38) = V' at *
                  generalize V.heap.size = fb at *
                  clear V
                  obtain ⟨V, rfl⟩ : ∃ V, V = V' := ⟨_, rfl⟩
                  refine wpAnyH_ready (rs := [3]) (by kernel_rfl) (by simp) ?_
                  refine AllReadyH.cons (o := { dst := some 50, op := _, type := _, pos := _, after := _, guard := _ }) rfl (fun K hK => ?_) ?_
                  · refine step_append_any _ rfl (.tmp 47) (.tmp 49) 25 rfl W7.heap.size 38 i2 (.agg #[.string ⟨#[]⟩, .slice none 0 0, .int .i64 0, .int .i64 0, .bool false, .slice none 0 0]) 6 88 Tryd.underlying25 hi2 hy0 hy1 hy2 rfl (by decide) g 0 0 [] rfl (unhide HA) a4 x.funcs.length c4 (items.flatMap (·.2)) rfl (unhide HIl) (unhide HSf _ ((unhide HF27).trans (unhide HF))) (unhide HIo) (by omega) (by decide) (unhide HF).size ?_
                    intro g' cg V' hown hgrow hat
                    simp only [Nat.zero_add, List.nil_append] at hown
                    have hFn : Fr (fun _ => False) W7 V' := (unhide HF).up (Fr.grown hgrow) fun k hk => .inr (by have := ((unhide HA).lt g rfl).1; have hk' : k = g := Option.some.inj hk; omega)
                    clear hHeld
                    refine hK.out _ _ (unhide HS7 _ hFn) (fun hHeld => ?_)
                    clear hK K
                    (try simp only [Act.put, List.setIfInBounds_toArray, List.set_cons_zero, List.set_cons_succ])
                    (try simp only [Nat.zero_add])
                    have HB' := hide ((unhide HB).grown hgrow ((unhide HB).ne (unhide HA) (by decide)))
                    clear HB
                    have HB := HB'
                    clear HB'
                    have HC' := hide ((unhide HC).grown hgrow ((unhide HC).ne (unhide HA) (by decide)))
                    clear HC
                    have HC := HC'
                    clear HC'
                    have HN' : Hid (fb ≠ g') := hide (fun e => by
                      rcases hat with h | h
                      · exact unhide HN (e.trans h)
                      · have := (unhide HD).lt
                        omega)
                    have HD' := hide ((unhide HD).grown hgrow (unhide HN))
                    clear HD
                    have HD := HD'
                    clear HD'
                    clear HN
                    have HN := HN'
                    clear HN'
                    clear HA HF
                    have HA := hide hown
                    have HF := hide hFn
                    clear hown hFn hgrow hat
                    (try clear V)
                    obtain ⟨g, rfl⟩ : ∃ g, g = g' := ⟨_, rfl⟩
                    obtain ⟨V, rfl⟩ : ∃ V, V = V' := ⟨_, rfl⟩
                    refine wpAnyH_ready (rs := [12]) (by kernel_rfl) (by simp) ?_
                    refine AllReadyH.cons (o := { dst := some 59, op := _, type := _, pos := _, after := _, guard := _ }) rfl (fun K hK => ?_) ?_
                    · refine step_append_any _ rfl (.tmp 50) (.tmp 58) 25 rfl W7.heap.size 38 i2 (.agg #[.string ⟨#[]⟩, .slice none 0 0, .int .i64 0, .int .i64 0, .bool false, .slice none 0 0]) 6 88 Tryd.underlying25 hi2 hy0 hy1 hy2 rfl (by decide) g x.funcs.length cg (items.flatMap (·.2)) rfl (unhide HA) (some ⟨fb, 0, none⟩) 1 1 [.string s, .slice (some ⟨rb, 0, none⟩) 2 2, .int .i64 0, .int .i64 0, .bool false, .slice (some ⟨cb, 0, none⟩) 3 3] rfl rfl (box_src (unhide HD).1) six_one (by omega) (by decide) (unhide HF).size ?_
                      intro g6 c6 V' hown hgrow hat
                      have hFn : Fr (fun _ => False) W7 V' := (unhide HF).up (Fr.grown hgrow) fun k hk => .inr (by have := ((unhide HA).lt g rfl).1; have hk' : k = g := Option.some.inj hk; omega)
                      have HGR := hide (GrR.of (unhide HQ7) (unhide HIt) (unhide HIC) (by omega) (Nat.le_refl _) (unhide HF27) hFn hown ((unhide HB).grown hgrow ((unhide HB).ne (unhide HA) (by decide))) ((unhide HC).grown hgrow ((unhide HC).ne (unhide HA) (by decide))) hBW (unhide HTB) (by omega) (unhide HZ) n0 (unhide HLl) htx2)
                      have q3 := hFn.cell ((unhide HQ7) 3 _ rfl) id
                      have qf3 : V'.frozen? ⟨w2.heap.size + 1, 3, none⟩ = false := hFn.frozen (show w2.heap.size + 1 < _ from hBW) qf7 id
                      have HS9 := hide (unhide HS8 _ (((hFn.mono fun _ h => h.elim).trans ((Fr.refl (· = w2.heap.size + 1) V').setCell (p := ⟨w2.heap.size + 1, 3, none⟩) rfl (.slice (some ⟨g6, 0, none⟩) (x.funcs.length + 1) c6)))))
                      clear hHeld
                      refine hK.out _ _ (unhide HS7 _ hFn) (fun hHeld => ?_)
                      clear hK K hFn hown hgrow hat
                      (try simp only [Act.put, List.setIfInBounds_toArray, List.set_cons_zero, List.set_cons_succ])
                      refine wpAnyH_take (i := 13) (oi := { dst := some 60, op := _, type := _, pos := _, after := _, guard := _ }) (v := .pointer (some ⟨w2.heap.size + 1, 3, none⟩)) rfl (by kernel_rfl) (by kernel_rfl) (by kernel_rfl) (fun _ _ _ h => h) (Or.inl ⟨by rfl, ?_⟩) hHeld ?_
                      · intro w' hSw
                        (try dsimp only at hSw)
                        go_simp
                      (try simp only [Act.put, List.setIfInBounds_toArray, List.set_cons_zero, List.set_cons_succ])
                      refine wpAnyH_ready (rs := [14]) (by kernel_rfl) (by simp) ?_
                      refine AllReadyH.cons (o := { dst := none, op := _, type := _, pos := _, after := _, guard := _ }) rfl (fun K hK => ?_) AllReadyH.nil
                      go_simp
                      clear hHeld
                      refine hK.out _ _ (unhide HS9) (fun hHeld => ?_)
                      clear hK K
                      (try simp only [Act.put, List.setIfInBounds_toArray, List.set_cons_zero, List.set_cons_succ])
                      refine wpAnyH_done (by kernel_rfl) ?_ _
                      go_wp2_with fail
                      go_meet
                      case rel => exact HGR
                    exact AllReadyH.nil
                  exact AllReadyH.nil
                exact AllReadyH.nil
              refine AllReadyH.cons (o := { dst := some 58, op := _, type := _, pos := _, after := _, guard := _ }) rfl (fun K hK => ?_) ?_
              · go_simp
                clear hHeld
                refine hK.out _ _ (unhide HS7 _ ((unhide HF).alloc _)) (fun hHeld => ?_)
                clear hK K
                (try simp only [Act.put, List.setIfInBounds_toArray, List.set_cons_zero, List.set_cons_succ])
                have HDn : Hid (Blk (V.alloc (.cells #[.string s, .slice (some ⟨rb, 0, none⟩) 2 2, .int .i64 0, .int .i64 0, .bool false, .slice (some ⟨cb, 0, none⟩) 3 3] 38)) V.heap.size [.string s, .slice (some ⟨rb, 0, none⟩) 2 2, .int .i64 0, .int .i64 0, .bool false, .slice (some ⟨cb, 0, none⟩) 3 3] 38) := hide (Blk.new V _ _)
                have HB' := hide ((unhide HB).alloc (.cells #[.string s, .slice (some ⟨rb, 0, none⟩) 2 2, .int .i64 0, .int .i64 0, .bool false, .slice (some ⟨cb, 0, none⟩) 3 3] 38))
                clear HB
                have HB := HB'
                clear HB'
                have HC' := hide ((unhide HC).alloc (.cells #[.string s, .slice (some ⟨rb, 0, none⟩) 2 2, .int .i64 0, .int .i64 0, .bool false, .slice (some ⟨cb, 0, none⟩) 3 3] 38))
                clear HC
                have HC := HC'
                clear HC'
                have HF' := hide ((unhide HF).alloc (.cells #[.string s, .slice (some ⟨rb, 0, none⟩) 2 2, .int .i64 0, .int .i64 0, .bool false, .slice (some ⟨cb, 0, none⟩) 3 3] 38))
                clear HF
                have HF := HF'
                clear HF'
                have HD := HDn
                clear HDn
                generalize V.alloc (.cells #[.string s, .slice (some ⟨rb, 0, none⟩) 2 2, .int .i64 0, .int .i64 0, .bool false, .slice (some ⟨cb, 0, none⟩) 3 3] 38) = V' at *
                generalize V.heap.size = fb at *
                clear V
                obtain ⟨V, rfl⟩ : ∃ V, V = V' := ⟨_, rfl⟩
                refine wpAnyH_ready (rs := [0]) (by kernel_rfl) (by simp) ?_
                refine AllReadyH.cons (o := { dst := some 47, op := _, type := _, pos := _, after := _, guard := _ }) rfl (fun K hK => ?_) ?_
                · go_simp
                  clear hHeld
                  refine hK.out _ _ (unhide HS7 _ ((unhide HF).alloc _)) (fun hHeld => ?_)
                  clear hK K
                  (try simp only [Act.put, List.setIfInBounds_toArray, List.set_cons_zero, List.set_cons_succ])
                  have HAn := hide (made0 (b := W7.heap.size) V (unhide HF).size)
                  have HN : Hid (fb ≠ V.heap.size) := hide (fun e => by have := (unhide HD).lt; omega)
                  have HB' := hide ((unhide HB).alloc (.cells #[] 38))
                  clear HB
                  have HB := HB'
                  clear HB'
                  have HC' := hide ((unhide HC).alloc (.cells #[] 38))
                  clear HC
                  have HC := HC'
                  clear HC'
                  have HD' := hide ((unhide HD).alloc (.cells #[] 38))
                  clear HD
                  have HD := HD'
                  clear HD'
                  have HF' := hide ((unhide HF).alloc (.cells #[] 38))
                  clear HF
                  have HF := HF'
                  clear HF'
                  have HA := HAn
                  clear HAn
                  generalize V.alloc (.cells #[] 38) = V' at *
                  generalize V.heap.size = g at *
                  clear V
                  obtain ⟨V, rfl⟩ : ∃ V, V = V' := ⟨_, rfl⟩
                  refine wpAnyH_ready (rs := [3]) (by kernel_rfl) (by simp) ?_
                  refine AllReadyH.cons (o := { dst := some 50, op := _, type := _, pos := _, after := _, guard := _ }) rfl (fun K hK => ?_) ?_
                  · refine step_append_any _ rfl (.tmp 47) (.tmp 49) 25 rfl W7.heap.size 38 i2 (.agg #[.string ⟨#[]⟩, .slice none 0 0, .int .i64 0, .int .i64 0, .bool false, .slice none 0 0]) 6 88 Tryd.underlying25 hi2 hy0 hy1 hy2 rfl (by decide) g 0 0 [] rfl (unhide HA) a4 x.funcs.length c4 (items.flatMap (·.2)) rfl (unhide HIl) (unhide HSf _ ((unhide HF27).trans (unhide HF))) (unhide HIo) (by omega) (by decide) (unhide HF).size ?_
                    intro g' cg V' hown hgrow hat
                    simp only [Nat.zero_add, List.nil_append] at hown
                    have hFn : Fr (fun _ => False) W7 V' := (unhide HF).up (Fr.grown hgrow) fun k hk => .inr (by have := ((unhide HA).lt g rfl).1; have hk' : k = g := Option.some.inj hk; omega)
                    clear hHeld
                    refine hK.out _ _ (unhide HS7 _ hFn) (fun hHeld => ?_)
                    clear hK K
                    (try simp only [Act.put, List.setIfInBounds_toArray, List.set_cons_zero, List.set_cons_succ])
                    (try simp only [Nat.zero_add])
                    have HB' := hide ((unhide HB).grown hgrow ((unhide HB).ne (unhide HA) (by decide)))
                    clear HB
                    have HB := HB'
                    clear HB'
                    have HC' := hide ((unhide HC).grown hgrow ((unhide HC).ne (unhide HA) (by decide)))
                    clear HC
                    have HC := HC'
                    clear HC'
                    have HN' : Hid (fb ≠ g') := hide (fun e => by
                      rcases hat with h | h
                      · exact unhide HN (e.trans h)
                      · have := (unhide HD).lt
                        omega)
                    have HD' := hide ((unhide HD).grown hgrow (unhide HN))
                    clear HD
                    have HD := HD'
                    clear HD'
                    clear HN
                    have HN := HN'
                    clear HN'
                    clear HA HF
                    have HA := hide hown
                    have HF := hide hFn
                    clear hown hFn hgrow hat
                    (try clear V)
                    obtain ⟨g, rfl⟩ : ∃ g, g = g' := ⟨_, rfl⟩
                    obtain ⟨V, rfl⟩ : ∃ V, V = V' := ⟨_, rfl⟩
                    refine wpAnyH_ready (rs := [12]) (by kernel_rfl) (by simp) ?_
                    refine AllReadyH.cons (o := { dst := some 59, op := _, type := _, pos := _, after := _, guard := _ }) rfl (fun K hK => ?_) ?_
                    · refine step_append_any _ rfl (.tmp 50) (.tmp 58) 25 rfl W7.heap.size 38 i2 (.agg #[.string ⟨#[]⟩, .slice none 0 0, .int .i64 0, .int .i64 0, .bool false, .slice none 0 0]) 6 88 Tryd.underlying25 hi2 hy0 hy1 hy2 rfl (by decide) g x.funcs.length cg (items.flatMap (·.2)) rfl (unhide HA) (some ⟨fb, 0, none⟩) 1 1 [.string s, .slice (some ⟨rb, 0, none⟩) 2 2, .int .i64 0, .int .i64 0, .bool false, .slice (some ⟨cb, 0, none⟩) 3 3] rfl rfl (box_src (unhide HD).1) six_one (by omega) (by decide) (unhide HF).size ?_
                      intro g6 c6 V' hown hgrow hat
                      have hFn : Fr (fun _ => False) W7 V' := (unhide HF).up (Fr.grown hgrow) fun k hk => .inr (by have := ((unhide HA).lt g rfl).1; have hk' : k = g := Option.some.inj hk; omega)
                      have HGR := hide (GrR.of (unhide HQ7) (unhide HIt) (unhide HIC) (by omega) (Nat.le_refl _) (unhide HF27) hFn hown ((unhide HB).grown hgrow ((unhide HB).ne (unhide HA) (by decide))) ((unhide HC).grown hgrow ((unhide HC).ne (unhide HA) (by decide))) hBW (unhide HTB) (by omega) (unhide HZ) n0 (unhide HLl) htx2)
                      have q3 := hFn.cell ((unhide HQ7) 3 _ rfl) id
                      have qf3 : V'.frozen? ⟨w2.heap.size + 1, 3, none⟩ = false := hFn.frozen (show w2.heap.size + 1 < _ from hBW) qf7 id
                      have HS9 := hide (unhide HS8 _ (((hFn.mono fun _ h => h.elim).trans ((Fr.refl (· = w2.heap.size + 1) V').setCell (p := ⟨w2.heap.size + 1, 3, none⟩) rfl (.slice (some ⟨g6, 0, none⟩) (x.funcs.length + 1) c6)))))
                      clear hHeld
                      refine hK.out _ _ (unhide HS7 _ hFn) (fun hHeld => ?_)
                      clear hK K hFn hown hgrow hat
                      (try simp only [Act.put, List.setIfInBounds_toArray, List.set_cons_zero, List.set_cons_succ])
                      refine wpAnyH_take (i := 13) (oi := { dst := some 60, op := _, type := _, pos := _, after := _, guard := _ }) (v := .pointer (some ⟨w2.heap.size + 1, 3, none⟩)) rfl (by kernel_rfl) (by kernel_rfl) (by kernel_rfl) (fun _ _ _ h => h) (Or.inl ⟨by rfl, ?_⟩) hHeld ?_
                      · intro w' hSw
                        (try dsimp only at hSw)
                        go_simp
                      (try simp only [Act.put, List.setIfInBounds_toArray, List.set_cons_zero, List.set_cons_succ])
                      refine wpAnyH_ready (rs := [14]) (by kernel_rfl) (by simp) ?_
                      refine AllReadyH.cons (o := { dst := none, op := _, type := _, pos := _, after := _, guard := _ }) rfl (fun K hK => ?_) AllReadyH.nil
                      go_simp
                      clear hHeld
                      refine hK.out _ _ (unhide HS9) (fun hHeld => ?_)
                      clear hK K
                      (try simp only [Act.put, List.setIfInBounds_toArray, List.set_cons_zero, List.set_cons_succ])
                      refine wpAnyH_done (by kernel_rfl) ?_ _
                      go_wp2_with fail
                      go_meet
                      case rel => exact HGR
                    exact AllReadyH.nil
                  exact AllReadyH.nil
                exact AllReadyH.nil
              exact AllReadyH.nil
            exact AllReadyH.nil
          refine AllReadyH.cons (o := { dst := some 56, op := _, type := _, pos := _, after := _, guard := _ }) rfl (fun K hK => ?_) ?_
          · go_simp
            clear hHeld
            refine hK.out _ _ (unhide HS7 _ ((unhide HF).alloc _)) (fun hHeld => ?_)
            clear hK K
            (try simp only [Act.put, List.setIfInBounds_toArray, List.set_cons_zero, List.set_cons_succ])
            have HCn : Hid (Blk (V.alloc (.cells #[.int .i64 z, .int .i64 (wrap64 (-z)), .int .i64 l.length, .int .i64 4611686018427387904, .int .i64 (-4611686018427387904), .slice la l.length lcap, .int .i64 0, .int .i64 0, .int .i64 0, .int .i64 0, .int .i64 0, .slice none 0 0, .int .i64 z, .int .i64 (wrap64 (-z)), .int .i64 l.length, .int .i64 4611686018427387904, .int .i64 (-4611686018427387904), .slice la l.length lcap] 43)) V.heap.size [.int .i64 z, .int .i64 (wrap64 (-z)), .int .i64 l.length, .int .i64 4611686018427387904, .int .i64 (-4611686018427387904), .slice la l.length lcap, .int .i64 0, .int .i64 0, .int .i64 0, .int .i64 0, .int .i64 0, .slice none 0 0, .int .i64 z, .int .i64 (wrap64 (-z)), .int .i64 l.length, .int .i64 4611686018427387904, .int .i64 (-4611686018427387904), .slice la l.length lcap] 43) := hide (Blk.new V _ _)
            have HF' := hide ((unhide HF).alloc (.cells #[.int .i64 z, .int .i64 (wrap64 (-z)), .int .i64 l.length, .int .i64 4611686018427387904, .int .i64 (-4611686018427387904), .slice la l.length lcap, .int .i64 0, .int .i64 0, .int .i64 0, .int .i64 0, .int .i64 0, .slice none 0 0, .int .i64 z, .int .i64 (wrap64 (-z)), .int .i64 l.length, .int .i64 4611686018427387904, .int .i64 (-4611686018427387904), .slice la l.length lcap] 43))
            clear HF
            have HF := HF'
            clear HF'
            have HC := HCn
            clear HCn
            generalize V.alloc (.cells #[.int .i64 z, .int .i64 (wrap64 (-z)), .int .i64 l.length, .int .i64 4611686018427387904, .int .i64 (-4611686018427387904), .slice la l.length lcap, .int .i64 0, .int .i64 0, .int .i64 0, .int .i64 0, .int .i64 0, .slice none 0 0, .int .i64 z, .int .i64 (wrap64 (-z)), .int .i64 l.length, .int .i64 4611686018427387904, .int .i64 (-4611686018427387904), .slice la l.length lcap] 43) = V' at *
            generalize V.heap.size = cb at *
            clear V
            obtain ⟨V, rfl⟩ : ∃ V, V = V' := ⟨_, rfl⟩
            refine wpAnyH_ready (rs := [0, 5]) (by kernel_rfl) (by simp) ?_
            refine AllReadyH.cons (o := { dst := some 47, op := _, type := _, pos := _, after := _, guard := _ }) rfl (fun K hK => ?_) ?_
            · go_simp
              clear hHeld
              refine hK.out _ _ (unhide HS7 _ ((unhide HF).alloc _)) (fun hHeld => ?_)
              clear hK K
              (try simp only [Act.put, List.setIfInBounds_toArray, List.set_cons_zero, List.set_cons_succ])
              have HAn := hide (made0 (b := W7.heap.size) V (unhide HF).size)
              have HC' := hide ((unhide HC).alloc (.cells #[] 38))
              clear HC
              have HC := HC'
              clear HC'
              have HF' := hide ((unhide HF).alloc (.cells #[] 38))
              clear HF
              have HF := HF'
              clear HF'
              have HA := HAn
              clear HAn
              generalize V.alloc (.cells #[] 38) = V' at *
              generalize V.heap.size = g at *
              clear V
              obtain ⟨V, rfl⟩ : ∃ V, V = V' := ⟨_, rfl⟩
              refine wpAnyH_ready (rs := [3, 5]) (by kernel_rfl) (by simp) ?_
              refine AllReadyH.cons (o := { dst := some 50, op := _, type := _, pos := _, after := _, guard := _ }) rfl (fun K hK => ?_) ?_
              · refine step_append_any _ rfl (.tmp 47) (.tmp 49) 25 rfl W7.heap.size 38 i2 (.agg #[.string ⟨#[]⟩, .slice none 0 0, .int .i64 0, .int .i64 0, .bool false, .slice none 0 0]) 6 88 Tryd.underlying25 hi2 hy0 hy1 hy2 rfl (by decide) g 0 0 [] rfl (unhide HA) a4 x.funcs.length c4 (items.flatMap (·.2)) rfl (unhide HIl) (unhide HSf _ ((unhide HF27).trans (unhide HF))) (unhide HIo) (by omega) (by decide) (unhide HF).size ?_
                intro g' cg V' hown hgrow hat
                simp only [Nat.zero_add, List.nil_append] at hown
                have hFn : Fr (fun _ => False) W7 V' := (unhide HF).up (Fr.grown hgrow) fun k hk => .inr (by have := ((unhide HA).lt g rfl).1; have hk' : k = g := Option.some.inj hk; omega)
                clear hHeld
                refine hK.out _ _ (unhide HS7 _ hFn) (fun hHeld => ?_)
                clear hK K
                (try simp only [Act.put, List.setIfInBounds_toArray, List.set_cons_zero, List.set_cons_succ])
                (try simp only [Nat.zero_add])
                have HC' := hide ((unhide HC).grown hgrow ((unhide HC).ne (unhide HA) (by decide)))
                clear HC
                have HC := HC'
                clear HC'
                clear HA HF
                have HA := hide hown
                have HF := hide hFn
                clear hown hFn hgrow hat
                (try clear V)
                obtain ⟨g, rfl⟩ : ∃ g, g = g' := ⟨_, rfl⟩
                obtain ⟨V, rfl⟩ : ∃ V, V = V' := ⟨_, rfl⟩
                refine wpAnyH_ready (rs := [5]) (by kernel_rfl) (by simp) ?_
                refine AllReadyH.cons (o := { dst := some 52, op := _, type := _, pos := _, after := _, guard := _ }) rfl (fun K hK => ?_) ?_
                · go_simp
                  clear hHeld
                  refine hK.out _ _ (unhide HS7 _ ((unhide HF).alloc _)) (fun hHeld => ?_)
                  clear hK K
                  (try simp only [Act.put, List.setIfInBounds_toArray, List.set_cons_zero, List.set_cons_succ])
                  have HBn : Hid (Blk (V.alloc (.cells #[.bool true, .bool false] 4)) V.heap.size [.bool true, .bool false] 4) := hide (Blk.new V _ _)
                  have HA' := hide ((unhide HA).alloc (.cells #[.bool true, .bool false] 4))
                  clear HA
                  have HA := HA'
                  clear HA'
                  have HC' := hide ((unhide HC).alloc (.cells #[.bool true, .bool false] 4))
                  clear HC
                  have HC := HC'
                  clear HC'
                  have HF' := hide ((unhide HF).alloc (.cells #[.bool true, .bool false] 4))
                  clear HF
                  have HF := HF'
                  clear HF'
                  have HB := HBn
                  clear HBn
                  generalize V.alloc (.cells #[.bool true, .bool false] 4) = V' at *
                  generalize V.heap.size = rb at *
                  clear V
                  obtain ⟨V, rfl⟩ : ∃ V, V = V' := ⟨_, rfl⟩
                  refine wpAnyH_take (i := 10) (oi := { dst := some 57, op := _, type := _, pos := _, after := _, guard := _ }) (v := (.agg #[.string s, .slice (some ⟨rb, 0, none⟩) 2 2, .int .i64 0, .int .i64 0, .bool false, .slice (some ⟨cb, 0, none⟩) 3 3])) rfl (by kernel_rfl) (by kernel_rfl) (by kernel_rfl) (fun _ _ _ h => h) (Or.inl ⟨by rfl, ?_⟩) hHeld ?_
                  · intro w' hSw
                    (try dsimp only at hSw)
                    go_simp
                  (try simp only [Act.put, List.setIfInBounds_toArray, List.set_cons_zero, List.set_cons_succ])
                  refine wpAnyH_ready (rs := [11]) (by kernel_rfl) (by simp) ?_
                  refine AllReadyH.cons (o := { dst := some 58, op := _, type := _, pos := _, after := _, guard := _ }) rfl (fun K hK => ?_) ?_
                  · go_simp
                    clear hHeld
                    refine hK.out _ _ (unhide HS7 _ ((unhide HF).alloc _)) (fun hHeld => ?_)
                    clear hK K
                    (try simp only [Act.put, List.setIfInBounds_toArray, List.set_cons_zero, List.set_cons_succ])
                    have HDn : Hid (Blk (V.alloc (.cells #[.string s, .slice (some ⟨rb, 0, none⟩) 2 2, .int .i64 0, .int .i64 0, .bool false, .slice (some ⟨cb, 0, none⟩) 3 3] 38)) V.heap.size [.string s, .slice (some ⟨rb, 0, none⟩) 2 2, .int .i64 0, .int .i64 0, .bool false, .slice (some ⟨cb, 0, none⟩) 3 3] 38) := hide (Blk.new V _ _)
                    have HN : Hid (V.heap.size ≠ g) := hide (fun e => by have := ((unhide HA).lt g rfl).2; omega)
                    have HA' := hide ((unhide HA).alloc (.cells #[.string s, .slice (some ⟨rb, 0, none⟩) 2 2, .int .i64 0, .int .i64 0, .bool false, .slice (some ⟨cb, 0, none⟩) 3 3] 38))
                    clear HA
                    have HA := HA'
                    clear HA'
                    have HB' := hide ((unhide HB).alloc (.cells #[.string s, .slice (some ⟨rb, 0, none⟩) 2 2, .int .i64 0, .int .i64 0, .bool false, .slice (some ⟨cb, 0, none⟩) 3 3] 38))
                    clear HB
                    have HB := HB'
                    clear HB'
                    have HC' := hide ((unhide HC).alloc (.cells #[.string s, .slice (some ⟨rb, 0, none⟩) 2 2, .int .i64 0, .int .i64 0, .bool false, .slice (some ⟨cb, 0, none⟩) 3 3] 38))
                    clear HC
                    have HC := HC'
                    clear HC'
                    have HF' := hide ((unhide HF).alloc (.cells #[.string s, .slice (some ⟨rb, 0, none⟩) 2 2, .int .i64 0, .int .i64 0, .bool false, .slice (some ⟨cb, 0, none⟩) 3 3] 38))
                    clear HF
                    have HF := HF'
                    clear HF'
                    have HD := HDn
                    clear HDn
                    generalize V.alloc (.cells #[.string s, .slice (some ⟨rb, 0, none⟩) 2 2, .int .i64 0, .int .i64 0, .bool false, .slice (some ⟨cb, 0, none⟩) 3 3] 38) = V' at *
                    generalize V.heap.size = fb at *
                    clear V
                    obtain ⟨V, rfl⟩ : ∃ V, V = V' := ⟨_, rfl⟩
                    refine wpAnyH_ready (rs := [12]) (by kernel_rfl) (by simp) ?_
                    refine AllReadyH.cons (o := { dst := some 59, op := _, type := _, pos := _, after := _, guard := _ }) rfl (fun K hK => ?_) ?_
                    · refine step_append_any _ rfl (.tmp 50) (.tmp 58) 25 rfl W7.heap.size 38 i2 (.agg #[.string ⟨#[]⟩, .slice none 0 0, .int .i64 0, .int .i64 0, .bool false, .slice none 0 0]) 6 88 Tryd.underlying25 hi2 hy0 hy1 hy2 rfl (by decide) g x.funcs.length cg (items.flatMap (·.2)) rfl (unhide HA) (some ⟨fb, 0, none⟩) 1 1 [.string s, .slice (some ⟨rb, 0, none⟩) 2 2, .int .i64 0, .int .i64 0, .bool false, .slice (some ⟨cb, 0, none⟩) 3 3] rfl rfl (box_src (unhide HD).1) six_one (by omega) (by decide) (unhide HF).size ?_
                      intro g6 c6 V' hown hgrow hat
                      have hFn : Fr (fun _ => False) W7 V' := (unhide HF).up (Fr.grown hgrow) fun k hk => .inr (by have := ((unhide HA).lt g rfl).1; have hk' : k = g := Option.some.inj hk; omega)
                      have HGR := hide (GrR.of (unhide HQ7) (unhide HIt) (unhide HIC) (by omega) (Nat.le_refl _) (unhide HF27) hFn hown ((unhide HB).grown hgrow ((unhide HB).ne (unhide HA) (by decide))) ((unhide HC).grown hgrow ((unhide HC).ne (unhide HA) (by decide))) hBW (unhide HTB) (by omega) (unhide HZ) n0 (unhide HLl) htx2)
                      have q3 := hFn.cell ((unhide HQ7) 3 _ rfl) id
                      have qf3 : V'.frozen? ⟨w2.heap.size + 1, 3, none⟩ = false := hFn.frozen (show w2.heap.size + 1 < _ from hBW) qf7 id
                      have HS9 := hide (unhide HS8 _ (((hFn.mono fun _ h => h.elim).trans ((Fr.refl (· = w2.heap.size + 1) V').setCell (p := ⟨w2.heap.size + 1, 3, none⟩) rfl (.slice (some ⟨g6, 0, none⟩) (x.funcs.length + 1) c6)))))
                      clear hHeld
                      refine hK.out _ _ (unhide HS7 _ hFn) (fun hHeld => ?_)
                      clear hK K hFn hown hgrow hat
                      (try simp only [Act.put, List.setIfInBounds_toArray, List.set_cons_zero, List.set_cons_succ])
                      refine wpAnyH_take (i := 13) (oi := { dst := some 60, op := _, type := _, pos := _, after := _, guard := _ }) (v := .pointer (some ⟨w2.heap.size + 1, 3, none⟩)) rfl (by kernel_rfl) (by kernel_rfl) (by kernel_rfl) (fun _ _ _ h => h) (Or.inl ⟨by rfl, ?_⟩) hHeld ?_
                      · intro w' hSw
                        (try dsimp only at hSw)
                        go_simp
                      (try simp only [Act.put, List.setIfInBounds_toArray, List.set_cons_zero, List.set_cons_succ])
                      refine wpAnyH_ready (rs := [14]) (by kernel_rfl) (by simp) ?_
                      refine AllReadyH.cons (o := { dst := none, op := _, type := _, pos := _, after := _, guard := _ }) rfl (fun K hK => ?_) AllReadyH.nil
                      go_simp
                      clear hHeld
                      refine hK.out _ _ (unhide HS9) (fun hHeld => ?_)
                      clear hK K
                      (try simp only [Act.put, List.setIfInBounds_toArray, List.set_cons_zero, List.set_cons_succ])
                      refine wpAnyH_done (by kernel_rfl) ?_ _
                      go_wp2_with fail
                      go_meet
                      case rel => exact HGR
                    exact AllReadyH.nil
                  exact AllReadyH.nil
                exact AllReadyH.nil
              refine AllReadyH.cons (o := { dst := some 52, op := _, type := _, pos := _, after := _, guard := _ }) rfl (fun K hK => ?_) ?_
              · go_simp
                clear hHeld
                refine hK.out _ _ (unhide HS7 _ ((unhide HF).alloc _)) (fun hHeld => ?_)
                clear hK K
                (try simp only [Act.put, List.setIfInBounds_toArray, List.set_cons_zero, List.set_cons_succ])
                have HBn : Hid (Blk (V.alloc (.cells #[.bool true, .bool false] 4)) V.heap.size [.bool true, .bool false] 4) := hide (Blk.new V _ _)
                have HA' := hide ((unhide HA).alloc (.cells #[.bool true, .bool false] 4))
                clear HA
                have HA := HA'
                clear HA'
                have HC' := hide ((unhide HC).alloc (.cells #[.bool true, .bool false] 4))
                clear HC
                have HC := HC'
                clear HC'
                have HF' := hide ((unhide HF).alloc (.cells #[.bool true, .bool false] 4))
                clear HF
                have HF := HF'
                clear HF'
                have HB := HBn
                clear HBn
                generalize V.alloc (.cells #[.bool true, .bool false] 4) = V' at *
                generalize V.heap.size = rb at *
                clear V
                obtain ⟨V, rfl⟩ : ∃ V, V = V' := ⟨_, rfl⟩
                refine wpAnyH_take (i := 10) (oi := { dst := some 57, op := _, type := _, pos := _, after := _, guard := _ }) (v := (.agg #[.string s, .slice (some ⟨rb, 0, none⟩) 2 2, .int .i64 0, .int .i64 0, .bool false, .slice (some ⟨cb, 0, none⟩) 3 3])) rfl (by kernel_rfl) (by kernel_rfl) (by kernel_rfl) (fun _ _ _ h => h) (Or.inl ⟨by rfl, ?_⟩) hHeld ?_
                · intro w' hSw
                  (try dsimp only at hSw)
                  go_simp
                (try simp only [Act.put, List.setIfInBounds_toArray, List.set_cons_zero, List.set_cons_succ])
                refine wpAnyH_ready (rs := [3, 11]) (by kernel_rfl) (by simp) ?_
                refine AllReadyH.cons (o := { dst := some 50, op := _, type := _, pos := _, after := _, guard := _ }) rfl (fun K hK => ?_) ?_
                · refine step_append_any _ rfl (.tmp 47) (.tmp 49) 25 rfl W7.heap.size 38 i2 (.agg #[.string ⟨#[]⟩, .slice none 0 0, .int .i64 0, .int .i64 0, .bool false, .slice none 0 0]) 6 88 Tryd.underlying25 hi2 hy0 hy1 hy2 rfl (by decide) g 0 0 [] rfl (unhide HA) a4 x.funcs.length c4 (items.flatMap (·.2)) rfl (unhide HIl) (unhide HSf _ ((unhide HF27).trans (unhide HF))) (unhide HIo) (by omega) (by decide) (unhide HF).size ?_
                  intro g' cg V' hown hgrow hat
                  simp only [Nat.zero_add, List.nil_append] at hown
                  have hFn : Fr (fun _ => False) W7 V' := (unhide HF).up (Fr.grown hgrow) fun k hk => .inr (by have := ((unhide HA).lt g rfl).1; have hk' : k = g := Option.some.inj hk; omega)
                  clear hHeld
                  refine hK.out _ _ (unhide HS7 _ hFn) (fun hHeld => ?_)
                  clear hK K
                  (try simp only [Act.put, List.setIfInBounds_toArray, List.set_cons_zero, List.set_cons_succ])
                  (try simp only [Nat.zero_add])
                  have HB' := hide ((unhide HB).grown hgrow ((unhide HB).ne (unhide HA) (by decide)))
                  clear HB
                  have HB := HB'
                  clear HB'
                  have HC' := hide ((unhide HC).grown hgrow ((unhide HC).ne (unhide HA) (by decide)))
                  clear HC
                  have HC := HC'
                  clear HC'
                  clear HA HF
                  have HA := hide hown
                  have HF := hide hFn
                  clear hown hFn hgrow hat
                  (try clear V)
                  obtain ⟨g, rfl⟩ : ∃ g, g = g' := ⟨_, rfl⟩
                  obtain ⟨V, rfl⟩ : ∃ V, V = V' := ⟨_, rfl⟩
                  refine wpAnyH_ready (rs := [11]) (by kernel_rfl) (by simp) ?_
                  refine AllReadyH.cons (o := { dst := some 58, op := _, type := _, pos := _, after := _, guard := _ }) rfl (fun K hK => ?_) ?_
                  · go_simp
                    clear hHeld
                    refine hK.out _ _ (unhide HS7 _ ((unhide HF).alloc _)) (fun hHeld => ?_)
                    clear hK K
                    (try simp only [Act.put, List.setIfInBounds_toArray, List.set_cons_zero, List.set_cons_succ])
                    have HDn : Hid (Blk (V.alloc (.cells #[.string s, .slice (some ⟨rb, 0, none⟩) 2 2, .int .i64 0, .int .i64 0, .bool false, .slice (some ⟨cb, 0, none⟩) 3 3] 38)) V.heap.size [.string s, .slice (some ⟨rb, 0, none⟩) 2 2, .int .i64 0, .int .i64 0, .bool false, .slice (some ⟨cb, 0, none⟩) 3 3] 38) := hide (Blk.new V _ _)
                    have HN : Hid (V.heap.size ≠ g) := hide (fun e => by have := ((unhide HA).lt g rfl).2; omega)
                    have HA' := hide ((unhide HA).alloc (.cells #[.string s, .slice (some ⟨rb, 0, none⟩) 2 2, .int .i64 0, .int .i64 0, .bool false, .slice (some ⟨cb, 0, none⟩) 3 3] 38))
                    clear HA
                    have HA := HA'
                    clear HA'
                    have HB' := hide ((unhide HB).alloc (.cells #[.string s, .slice (some ⟨rb, 0, none⟩) 2 2, .int .i64 0, .int .i64 0, .bool false, .slice (some ⟨cb, 0, none⟩) 3 3] 38))
                    clear HB
                    have HB := HB'
                    clear HB'
                    have HC' := hide ((unhide HC).alloc (.cells #[.string s, .slice (some ⟨rb, 0, none⟩) 2 2, .int .i64 0, .int .i64 0, .bool false, .slice (some ⟨cb, 0, none⟩) 3 3] 38))
                    clear HC
                    have HC := HC'
                    clear HC'
                    have HF' := hide ((unhide HF).alloc (.cells #[.string s, .slice (some ⟨rb, 0, none⟩) 2 2, .int .i64 0, .int .i64 0, .bool false, .slice (some ⟨cb, 0, none⟩) 3 3] 38))
                    clear HF
                    have HF := HF'
                    clear HF'
                    have HD := HDn
                    clear HDn
                    generalize V.alloc (.cells #[.string s, .slice (some ⟨rb, 0, none⟩) 2 2, .int .i64 0, .int .i64 0, .bool false, .slice (some ⟨cb, 0, none⟩) 3 3] 38) = V' at *
                    generalize V.heap.size = fb at *
                    clear V
                    obtain ⟨V, rfl⟩ : ∃ V, V = V' := ⟨_, rfl⟩
                    refine wpAnyH_ready (rs := [12]) (by kernel_rfl) (by simp) ?_
                    refine AllReadyH.cons (o := { dst := some 59, op := _, type := _, pos := _, after := _, guard := _ }) rfl (fun K hK => ?_) ?_
                    · refine step_append_any _ rfl (.tmp 50) (.tmp 58) 25 rfl W7.heap.size 38 i2 (.agg #[.string ⟨#[]⟩, .slice none 0 0, .int .i64 0, .int .i64 0, .bool false, .slice none 0 0]) 6 88 Tryd.underlying25 hi2 hy0 hy1 hy2 rfl (by decide) g x.funcs.length cg (items.flatMap (·.2)) rfl (unhide HA) (some ⟨fb, 0, none⟩) 1 1 [.string s, .slice (some ⟨rb, 0, none⟩) 2 2, .int .i64 0, .int .i64 0, .bool false, .slice (some ⟨cb, 0, none⟩) 3 3] rfl rfl (box_src (unhide HD).1) six_one (by omega) (by decide) (unhide HF).size ?_
                      intro g6 c6 V' hown hgrow hat
                      have hFn : Fr (fun _ => False) W7 V' := (unhide HF).up (Fr.grown hgrow) fun k hk => .inr (by have := ((unhide HA).lt g rfl).1; have hk' : k = g := Option.some.inj hk; omega)
                      have HGR := hide (GrR.of (unhide HQ7) (unhide HIt) (unhide HIC) (by omega) (Nat.le_refl _) (unhide HF27) hFn hown ((unhide HB).grown hgrow ((unhide HB).ne (unhide HA) (by decide))) ((unhide HC).grown hgrow ((unhide HC).ne (unhide HA) (by decide))) hBW (unhide HTB) (by omega) (unhide HZ) n0 (unhide HLl) htx2)
                      have q3 := hFn.cell ((unhide HQ7) 3 _ rfl) id
                      have qf3 : V'.frozen? ⟨w2.heap.size + 1, 3, none⟩ = false := hFn.frozen (show w2.heap.size + 1 < _ from hBW) qf7 id
                      have HS9 := hide (unhide HS8 _ (((hFn.mono fun _ h => h.elim).trans ((Fr.refl (· = w2.heap.size + 1) V').setCell (p := ⟨w2.heap.size + 1, 3, none⟩) rfl (.slice (some ⟨g6, 0, none⟩) (x.funcs.length + 1) c6)))))
                      clear hHeld
                      refine hK.out _ _ (unhide HS7 _ hFn) (fun hHeld => ?_)
                      clear hK K hFn hown hgrow hat
                      (try simp only [Act.put, List.setIfInBounds_toArray, List.set_cons_zero, List.set_cons_succ])
                      refine wpAnyH_take (i := 13) (oi := { dst := some 60, op := _, type := _, pos := _, after := _, guard := _ }) (v := .pointer (some ⟨w2.heap.size + 1, 3, none⟩)) rfl (by kernel_rfl) (by kernel_rfl) (by kernel_rfl) (fun _ _ _ h => h) (Or.inl ⟨by rfl, ?_⟩) hHeld ?_
                      · intro w' hSw
                        (try dsimp only at hSw)
                        go_simp
                      (try simp only [Act.put, List.setIfInBounds_toArray, List.set_cons_zero, List.set_cons_succ])
                      refine wpAnyH_ready (rs := [14]) (by kernel_rfl) (by simp) ?_
                      refine AllReadyH.cons (o := { dst := none, op := _, type := _, pos := _, after := _, guard := _ }) rfl (fun K hK => ?_) AllReadyH.nil
                      go_simp
                      clear hHeld
                      refine hK.out _ _ (unhide HS9) (fun hHeld => ?_)
                      clear hK K
                      (try simp only [Act.put, List.setIfInBounds_toArray, List.set_cons_zero, List.set_cons_succ])
                      refine wpAnyH_done (by kernel_rfl) ?_ _
                      go_wp2_with fail
                      go_meet
                      case rel => exact HGR
                    exact AllReadyH.nil
                  exact AllReadyH.nil
                refine AllReadyH.cons (o := { dst := some 58, op := _, type := _, pos := _, after := _, guard := _ }) rfl (fun K hK => ?_) ?_
                · go_simp
                  clear hHeld
                  refine hK.out _ _ (unhide HS7 _ ((unhide HF).alloc _)) (fun hHeld => ?_)
                  clear hK K
                  (try simp only [Act.put, List.setIfInBounds_toArray, List.set_cons_zero, List.set_cons_succ])
                  have HDn : Hid (Blk (V.alloc (.cells #[.string s, .slice (some ⟨rb, 0, none⟩) 2 2, .int .i64 0, .int .i64 0, .bool false, .slice (some ⟨cb, 0, none⟩) 3 3] 38)) V.heap.size [.string s, .slice (some ⟨rb, 0, none⟩) 2 2, .int .i64 0, .int .i64 0, .bool false, .slice (some ⟨cb, 0, none⟩) 3 3] 38) := hide (Blk.new V _ _)
                  have HN : Hid (V.heap.size ≠ g) := hide (fun e => by have := ((unhide HA).lt g rfl).2; omega)
                  have HA' := hide ((unhide HA).alloc (.cells #[.string s, .slice (some ⟨rb, 0, none⟩) 2 2, .int .i64 0, .int .i64 0, .bool false, .slice (some ⟨cb, 0, none⟩) 3 3] 38))
                  clear HA
                  have HA := HA'
                  clear HA'
                  have HB' := hide ((unhide HB).alloc (.cells #[.string s, .slice (some ⟨rb, 0, none⟩) 2 2, .int .i64 0, .int .i64 0, .bool false, .slice (some ⟨cb, 0, none⟩) 3 3] 38))
                  clear HB
                  have HB := HB'
                  clear HB'
                  have HC' := hide ((unhide HC).alloc (.cells #[.string s, .slice (some ⟨rb, 0, none⟩) 2 2, .int .i64 0, .int .i64 0, .bool false, .slice (some ⟨cb, 0, none⟩) 3 3] 38))
                  clear HC
                  have HC := HC'
                  clear HC'
                  have HF' := hide ((unhide HF).alloc (.cells #[.string s, .slice (some ⟨rb, 0, none⟩) 2 2, .int .i64 0, .int .i64 0, .bool false, .slice (some ⟨cb, 0, none⟩) 3 3] 38))
                  clear HF
                  have HF := HF'
                  clear HF'
                  have HD := HDn
                  clear HDn
                  generalize V.alloc (.cells #[.string s, .slice (some ⟨rb, 0, none⟩) 2 2, .int .i64 0, .int .i64 0, .bool false, .slice (some ⟨cb, 0, none⟩) 3 3] 38) = V' at *
                  generalize V.heap.size = fb at *
                  clear V
                  obtain ⟨V, rfl⟩ : ∃ V, V = V' := ⟨_, rfl⟩
                  refine wpAnyH_ready (rs := [3]) (by kernel_rfl) (by simp) ?_
                  refine AllReadyH.cons (o := { dst := some 50, op := _, type := _, pos := _, after := _, guard := _ }) rfl (fun K hK => ?_) ?_
                  · refine step_append_any _ rfl (.tmp 47) (.tmp 49) 25 rfl W7.heap.size 38 i2 (.agg #[.string ⟨#[]⟩, .slice none 0 0, .int .i64 0, .int .i64 0, .bool false, .slice none 0 0]) 6 88 Tryd.underlying25 hi2 hy0 hy1 hy2 rfl (by decide) g 0 0 [] rfl (unhide HA) a4 x.funcs.length c4 (items.flatMap (·.2)) rfl (unhide HIl) (unhide HSf _ ((unhide HF27).trans (unhide HF))) (unhide HIo) (by omega) (by decide) (unhide HF).size ?_
                    intro g' cg V' hown hgrow hat
                    simp only [Nat.zero_add, List.nil_append] at hown
                    have hFn : Fr (fun _ => False) W7 V' := (unhide HF).up (Fr.grown hgrow) fun k hk => .inr (by have := ((unhide HA).lt g rfl).1; have hk' : k = g := Option.some.inj hk; omega)
                    clear hHeld
                    refine hK.out _ _ (unhide HS7 _ hFn) (fun hHeld => ?_)
                    clear hK K
                    (try simp only [Act.put, List.setIfInBounds_toArray, List.set_cons_zero, List.set_cons_succ])
                    (try simp only [Nat.zero_add])
                    have HB' := hide ((unhide HB).grown hgrow ((unhide HB).ne (unhide HA) (by decide)))
                    clear HB
                    have HB := HB'
                    clear HB'
                    have HC' := hide ((unhide HC).grown hgrow ((unhide HC).ne (unhide HA) (by decide)))
                    clear HC
                    have HC := HC'
                    clear HC'
                    have HN' : Hid (fb ≠ g') := hide (fun e => by
                      rcases hat with h | h
                      · exact unhide HN (e.trans h)
                      · have := (unhide HD).lt
                        omega)
                    have HD' := hide ((unhide HD).grown hgrow (unhide HN))
                    clear HD
                    have HD := HD'
                    clear HD'
                    clear HN
                    have HN := HN'
                    clear HN'
                    clear HA HF
                    have HA := hide hown
                    have HF := hide hFn
                    clear hown hFn hgrow hat
                    (try clear V)
                    obtain ⟨g, rfl⟩ : ∃ g, g = g' := ⟨_, rfl⟩
                    obtain ⟨V, rfl⟩ : ∃ V, V = V' := ⟨_, rfl⟩
                    refine wpAnyH_ready (rs := [12]) (by kernel_rfl) (by simp) ?_
                    refine AllReadyH.cons (o := { dst := some 59, op := _, type := _, pos := _, after := _, guard := _ }) rfl (fun K hK => ?_) ?_
                    · refine step_append_any _ rfl (.tmp 50) (.tmp 58) 25 rfl W7.heap.size 38 i2 (.agg #[.string ⟨#[]⟩, .slice none 0 0, .int .i64 0, .int .i64 0, .bool false, .slice none 0 0]) 6 88 Tryd.underlying25 hi2 hy0 hy1 hy2 rfl (by decide) g x.funcs.length cg (items.flatMap (·.2)) rfl (unhide HA) (some ⟨fb, 0, none⟩) 1 1 [.string s, .slice (some ⟨rb, 0, none⟩) 2 2, .int .i64 0, .int .i64 0, .bool false, .slice (some ⟨cb, 0, none⟩) 3 3] rfl rfl (box_src (unhide HD).1) six_one (by omega) (by decide) (unhide HF).size ?_
                      intro g6 c6 V' hown hgrow hat
                      have hFn : Fr (fun _ => False) W7 V' := (unhide HF).up (Fr.grown hgrow) fun k hk => .inr (by have := ((unhide HA).lt g rfl).1; have hk' : k = g := Option.some.inj hk; omega)
                      have HGR := hide (GrR.of (unhide HQ7) (unhide HIt) (unhide HIC) (by omega) (Nat.le_refl _) (unhide HF27) hFn hown ((unhide HB).grown hgrow ((unhide HB).ne (unhide HA) (by decide))) ((unhide HC).grown hgrow ((unhide HC).ne (unhide HA) (by decide))) hBW (unhide HTB) (by omega) (unhide HZ) n0 (unhide HLl) htx2)
                      have q3 := hFn.cell ((unhide HQ7) 3 _ rfl) id
                      have qf3 : V'.frozen? ⟨w2.heap.size + 1, 3, none⟩ = false := hFn.frozen (show w2.heap.size + 1 < _ from hBW) qf7 id
                      have HS9 := hide (unhide HS8 _ (((hFn.mono fun _ h => h.elim).trans ((Fr.refl (· = w2.heap.size + 1) V').setCell (p := ⟨w2.heap.size + 1, 3, none⟩) rfl (.slice (some ⟨g6, 0, none⟩) (x.funcs.length + 1) c6)))))
                      clear hHeld
                      refine hK.out _ _ (unhide HS7 _ hFn) (fun hHeld => ?_)
                      clear hK K hFn hown hgrow hat
                      (try simp only [Act.put, List.setIfInBounds_toArray, List.set_cons_zero, List.set_cons_succ])
                      refine wpAnyH_take (i := 13) (oi := { dst := some 60, op := _, type := _, pos := _, after := _, guard := _ }) (v := .pointer (some ⟨w2.heap.size + 1, 3, none⟩)) rfl (by kernel_rfl) (by kernel_rfl) (by kernel_rfl) (fun _ _ _ h => h) (Or.inl ⟨by rfl, ?_⟩) hHeld ?_
                      · intro w' hSw
                        (try dsimp only at hSw)
                        go_simp
                      (try simp only [Act.put, List.setIfInBounds_toArray, List.set_cons_zero, List.set_cons_succ])
                      refine wpAnyH_ready (rs := [14]) (by kernel_rfl) (by simp) ?_
                      refine AllReadyH.cons (o := { dst := none, op := _, type := _, pos := _, after := _, guard := _ }) rfl (fun K hK => ?_) AllReadyH.nil
                      go_simp
                      clear hHeld
                      refine hK.out _ _ (unhide HS9) (fun hHeld => ?_)
                      clear hK K
                      (try simp only [Act.put, List.setIfInBounds_toArray, List.set_cons_zero, List.set_cons_succ])
                      refine wpAnyH_done (by kernel_rfl) ?_ _
                      go_wp2_with fail
                      go_meet
                      case rel => exact HGR
                    exact AllReadyH.nil
                  exact AllReadyH.nil
                exact AllReadyH.nil
              exact AllReadyH.nil
            refine AllReadyH.cons (o := { dst := some 52, op := _, type := _, pos := _, after := _, guard := _ }) rfl (fun K hK => ?_) ?_
            · go_simp
              clear hHeld
              refine hK.out _ _ (unhide HS7 _ ((unhide HF).alloc _)) (fun hHeld => ?_)
              clear hK K
              (try simp only [Act.put, List.setIfInBounds_toArray, List.set_cons_zero, List.set_cons_succ])
              have HBn : Hid (Blk (V.alloc (.cells #[.bool true, .bool false] 4)) V.heap.size [.bool true, .bool false] 4) := hide (Blk.new V _ _)
              have HC' := hide ((unhide HC).alloc (.cells #[.bool true, .bool false] 4))
              clear HC
              have HC := HC'
              clear HC'
              have HF' := hide ((unhide HF).alloc (.cells #[.bool true, .bool false] 4))
              clear HF
              have HF := HF'
              clear HF'
              have HB := HBn
              clear HBn
              generalize V.alloc (.cells #[.bool true, .bool false] 4) = V' at *
              generalize V.heap.size = rb at *
              clear V
              obtain ⟨V, rfl⟩ : ∃ V, V = V' := ⟨_, rfl⟩
              refine wpAnyH_take (i := 10) (oi := { dst := some 57, op := _, type := _, pos := _, after := _, guard := _ }) (v := (.agg #[.string s, .slice (some ⟨rb, 0, none⟩) 2 2, .int .i64 0, .int .i64 0, .bool false, .slice (some ⟨cb, 0, none⟩) 3 3])) rfl (by kernel_rfl) (by kernel_rfl) (by kernel_rfl) (fun _ _ _ h => h) (Or.inl ⟨by rfl, ?_⟩) hHeld ?_
              · intro w' hSw
                (try dsimp only at hSw)
                go_simp
              (try simp only [Act.put, List.setIfInBounds_toArray, List.set_cons_zero, List.set_cons_succ])
              refine wpAnyH_ready (rs := [0, 11]) (by kernel_rfl) (by simp) ?_
              refine AllReadyH.cons (o := { dst := some 47, op := _, type := _, pos := _, after := _, guard := _ }) rfl (fun K hK => ?_) ?_
              · go_simp
                clear hHeld
                refine hK.out _ _ (unhide HS7 _ ((unhide HF).alloc _)) (fun hHeld => ?_)
                clear hK K
                (try simp only [Act.put, List.setIfInBounds_toArray, List.set_cons_zero, List.set_cons_succ])
                have HAn := hide (made0 (b := W7.heap.size) V (unhide HF).size)
                have HB' := hide ((unhide HB).alloc (.cells #[] 38))
                clear HB
                have HB := HB'
                clear HB'
                have HC' := hide ((unhide HC).alloc (.cells #[] 38))
                clear HC
                have HC := HC'
                clear HC'
                have HF' := hide ((unhide HF).alloc (.cells #[] 38))
                clear HF
                have HF := HF'
                clear HF'
                have HA := HAn
                clear HAn
                generalize V.alloc (.cells #[] 38) = V' at *
                generalize V.heap.size = g at *
                clear V
                obtain ⟨V, rfl⟩ : ∃ V, V = V' := ⟨_, rfl⟩
                refine wpAnyH_ready (rs := [3, 11]) (by kernel_rfl) (by simp) ?_
                refine AllReadyH.cons (o := { dst := some 50, op := _, type := _, pos := _, after := _, guard := _ }) rfl (fun K hK => ?_) ?_
                · refine step_append_any _ rfl (.tmp 47) (.tmp 49) 25 rfl W7.heap.size 38 i2 (.agg #[.string ⟨#[]⟩, .slice none 0 0, .int .i64 0, .int .i64 0, .bool false, .slice none 0 0]) 6 88 Tryd.underlying25 hi2 hy0 hy1 hy2 rfl (by decide) g 0 0 [] rfl (unhide HA) a4 x.funcs.length c4 (items.flatMap (·.2)) rfl (unhide HIl) (unhide HSf _ ((unhide HF27).trans (unhide HF))) (unhide HIo) (by omega) (by decide) (unhide HF).size ?_
                  intro g' cg V' hown hgrow hat
                  simp only [Nat.zero_add, List.nil_append] at hown
                  have hFn : Fr (fun _ => False) W7 V' := (unhide HF).up (Fr.grown hgrow) fun k hk => .inr (by have := ((unhide HA).lt g rfl).1; have hk' : k = g := Option.some.inj hk; omega)
                  clear hHeld
                  refine hK.out _ _ (unhide HS7 _ hFn) (fun hHeld => ?_)
                  clear hK K
                  (try simp only [Act.put, List.setIfInBounds_toArray, List.set_cons_zero, List.set_cons_succ])
                  (try simp only [Nat.zero_add])
                  have HB' := hide ((unhide HB).grown hgrow ((unhide HB).ne (unhide HA) (by decide)))
                  clear HB
                  have HB := HB'
                  clear HB'
                  have HC' := hide ((unhide HC).grown hgrow ((unhide HC).ne (unhide HA) (by decide)))
                  clear HC
                  have HC := HC'
                  clear HC'
                  clear HA HF
                  have HA := hide hown
                  have HF := hide hFn
                  clear hown hFn hgrow hat
                  (try clear V)
                  obtain ⟨g, rfl⟩ : ∃ g, g = g' := ⟨_, rfl⟩
                  obtain ⟨V, rfl⟩ : ∃ V, V = V' := ⟨_, rfl⟩
                  refine wpAnyH_ready (rs := [11]) (by kernel_rfl) (by simp) ?_
                  refine AllReadyH.cons (o := { dst := some 58, op := _, type := _, pos := _, after := _, guard := _ }) rfl (fun K hK => ?_) ?_
                  · go_simp
                    clear hHeld
                    refine hK.out _ _ (unhide HS7 _ ((unhide HF).alloc _)) (fun hHeld => ?_)
                    clear hK K
                    (try simp only [Act.put, List.setIfInBounds_toArray, List.set_cons_zero, List.set_cons_succ])
                    have HDn : Hid (Blk (V.alloc (.cells #[.string s, .slice (some ⟨rb, 0, none⟩) 2 2, .int .i64 0, .int .i64 0, .bool false, .slice (some ⟨cb, 0, none⟩) 3 3] 38)) V.heap.size [.string s, .slice (some ⟨rb, 0, none⟩) 2 2, .int .i64 0, .int .i64 0, .bool false, .slice (some ⟨cb, 0, none⟩) 3 3] 38) := hide (Blk.new V _ _)
                    have HN : Hid (V.heap.size ≠ g) := hide (fun e => by have := ((unhide HA).lt g rfl).2; omega)
                    have HA' := hide ((unhide HA).alloc (.cells #[.string s, .slice (some ⟨rb, 0, none⟩) 2 2, .int .i64 0, .int .i64 0, .bool false, .slice (some ⟨cb, 0, none⟩) 3 3] 38))
                    clear HA
                    have HA := HA'
                    clear HA'
                    have HB' := hide ((unhide HB).alloc (.cells #[.string s, .slice (some ⟨rb, 0, none⟩) 2 2, .int .i64 0, .int .i64 0, .bool false, .slice (some ⟨cb, 0, none⟩) 3 3] 38))
                    clear HB
                    have HB := HB'
                    clear HB'
                    have HC' := hide ((unhide HC).alloc (.cells #[.string s, .slice (some ⟨rb, 0, none⟩) 2 2, .int .i64 0, .int .i64 0, .bool false, .slice (some ⟨cb, 0, none⟩) 3 3] 38))
                    clear HC
                    have HC := HC'
                    clear HC'
                    have HF' := hide ((unhide HF).alloc (.cells #[.string s, .slice (some ⟨rb, 0, none⟩) 2 2, .int .i64 0, .int .i64 0, .bool false, .slice (some ⟨cb, 0, none⟩) 3 3] 38))
                    clear HF
                    have HF := HF'
                    clear HF'
                    have HD := HDn
                    clear HDn
                    generalize V.alloc (.cells #[.string s, .slice (some ⟨rb, 0, none⟩) 2 2, .int .i64 0, .int .i64 0, .bool false, .slice (some ⟨cb, 0, none⟩) 3 3] 38) = V' at *
                    generalize V.heap.size = fb at *
                    clear V
                    obtain ⟨V, rfl⟩ : ∃ V, V = V' := ⟨_, rfl⟩
                    refine wpAnyH_ready (rs := [12]) (by kernel_rfl) (by simp) ?_
                    refine AllReadyH.cons (o := { dst := some 59, op := _, type := _, pos := _, after := _, guard := _ }) rfl (fun K hK => ?_) ?_
                    · refine step_append_any _ rfl (.tmp 50) (.tmp 58) 25 rfl W7.heap.size 38 i2 (.agg #[.string ⟨#[]⟩, .slice none 0 0, .int .i64 0, .int .i64 0, .bool false, .slice none 0 0]) 6 88 Tryd.underlying25 hi2 hy0 hy1 hy2 rfl (by decide) g x.funcs.length cg (items.flatMap (·.2)) rfl (unhide HA) (some ⟨fb, 0, none⟩) 1 1 [.string s, .slice (some ⟨rb, 0, none⟩) 2 2, .int .i64 0, .int .i64 0, .bool false, .slice (some ⟨cb, 0, none⟩) 3 3] rfl rfl (box_src (unhide HD).1) six_one (by omega) (by decide) (unhide HF).size ?_
                      intro g6 c6 V' hown hgrow hat
                      have hFn : Fr (fun _ => False) W7 V' := (unhide HF).up (Fr.grown hgrow) fun k hk => .inr (by have := ((unhide HA).lt g rfl).1; have hk' : k = g := Option.some.inj hk; omega)
                      have HGR := hide (GrR.of (unhide HQ7) (unhide HIt) (unhide HIC) (by omega) (Nat.le_refl _) (unhide HF27) hFn hown ((unhide HB).grown hgrow ((unhide HB).ne (unhide HA) (by decide))) ((unhide HC).grown hgrow ((unhide HC).ne (unhide HA) (by decide))) hBW (unhide HTB) (by omega) (unhide HZ) n0 (unhide HLl) htx2)
                      have q3 := hFn.cell ((unhide HQ7) 3 _ rfl) id
                      have qf3 : V'.frozen? ⟨w2.heap.size + 1, 3, none⟩ = false := hFn.frozen (show w2.heap.size + 1 < _ from hBW) qf7 id
                      have HS9 := hide (unhide HS8 _ (((hFn.mono fun _ h => h.elim).trans ((Fr.refl (· = w2.heap.size + 1) V').setCell (p := ⟨w2.heap.size + 1, 3, none⟩) rfl (.slice (some ⟨g6, 0, none⟩) (x.funcs.length + 1) c6)))))
                      clear hHeld
                      refine hK.out _ _ (unhide HS7 _ hFn) (fun hHeld => ?_)
                      clear hK K hFn hown hgrow hat
                      (try simp only [Act.put, List.setIfInBounds_toArray, List.set_cons_zero, List.set_cons_succ])
                      refine wpAnyH_take (i := 13) (oi := { dst := some 60, op := _, type := _, pos := _, after := _, guard := _ }) (v := .pointer (some ⟨w2.heap.size + 1, 3, none⟩)) rfl (by kernel_rfl) (by kernel_rfl) (by kernel_rfl) (fun _ _ _ h => h) (Or.inl ⟨by rfl, ?_⟩) hHeld ?_
                      · intro w' hSw
                        (try dsimp only at hSw)
                        go_simp
                      (try simp only [Act.put, List.setIfInBounds_toArray, List.set_cons_zero, List.set_cons_succ])
                      refine wpAnyH_ready (rs := [14]) (by kernel_rfl) (by simp) ?_
                      refine AllReadyH.cons (o := { dst := none, op := _, type := _, pos := _, after := _, guard := _ }) rfl (fun K hK => ?_) AllReadyH.nil
                      go_simp
                      clear hHeld
                      refine hK.out _ _ (unhide HS9) (fun hHeld => ?_)
                      clear hK K
                      (try simp only [Act.put, List.setIfInBounds_toArray, List.set_cons_zero, List.set_cons_succ])
                      refine wpAnyH_done (by kernel_rfl) ?_ _
                      go_wp2_with fail
                      go_meet
                      case rel => exact HGR
                    exact AllReadyH.nil
                  exact AllReadyH.nil
                refine AllReadyH.cons (o := { dst := some 58, op := _, type := _, pos := _, after := _, guard := _ }) rfl (fun K hK => ?_) ?_
                · go_simp
                  clear hHeld
                  refine hK.out _ _ (unhide HS7 _ ((unhide HF).alloc _)) (fun hHeld => ?_)
                  clear hK K
                  (try simp only [Act.put, List.setIfInBounds_toArray, List.set_cons_zero, List.set_cons_succ])
                  have HDn : Hid (Blk (V.alloc (.cells #[.string s, .slice (some ⟨rb, 0, none⟩) 2 2, .int .i64 0, .int .i64 0, .bool false, .slice (some ⟨cb, 0, none⟩) 3 3] 38)) V.heap.size [.string s, .slice (some ⟨rb, 0, none⟩) 2 2, .int .i64 0, .int .i64 0, .bool false, .slice (some ⟨cb, 0, none⟩) 3 3] 38) := hide (Blk.new V _ _)
                  have HN : Hid (V.heap.size ≠ g) := hide (fun e => by have := ((unhide HA).lt g rfl).2; omega)
                  have HA' := hide ((unhide HA).alloc (.cells #[.string s, .slice (some ⟨rb, 0, none⟩) 2 2, .int .i64 0, .int .i64 0, .bool false, .slice (some ⟨cb, 0, none⟩) 3 3] 38))
                  clear HA
                  have HA := HA'
                  clear HA'
                  have HB' := hide ((unhide HB).alloc (.cells #[.string s, .slice (some ⟨rb, 0, none⟩) 2 2, .int .i64 0, .int .i64 0, .bool false, .slice (some ⟨cb, 0, none⟩) 3 3] 38))
                  clear HB
                  have HB := HB'
                  clear HB'
                  have HC' := hide ((unhide HC).alloc (.cells #[.string s, .slice (some ⟨rb, 0, none⟩) 2 2, .int .i64 0, .int .i64 0, .bool false, .slice (some ⟨cb, 0, none⟩) 3 3] 38))
                  clear HC
                  have HC := HC'
                  clear HC'
                  have HF' := hide ((unhide HF).alloc (.cells #[.string s, .slice (some ⟨rb, 0, none⟩) 2 2, .int .i64 0, .int .i64 0, .bool false, .slice (some ⟨cb, 0, none⟩) 3 3] 38))
                  clear HF
                  have HF := HF'
                  clear HF'
                  have HD := HDn
                  clear HDn
                  generalize V.alloc (.cells #[.string s, .slice (some ⟨rb, 0, none⟩) 2 2, .int .i64 0, .int .i64 0, .bool false, .slice (some ⟨cb, 0, none⟩) 3 3] 38) = V' at *
                  generalize V.heap.size = fb at *
                  clear V
                  obtain ⟨V, rfl⟩ : ∃ V, V = V' := ⟨_, rfl⟩
                  refine wpAnyH_ready (rs := [3]) (by kernel_rfl) (by simp) ?_
                  refine AllReadyH.cons (o := { dst := some 50, op := _, type := _, pos := _, after := _, guard := _ }) rfl (fun K hK => ?_) ?_
                  · refine step_append_any _ rfl (.tmp 47) (.tmp 49) 25 rfl W7.heap.size 38 i2 (.agg #[.string ⟨#[]⟩, .slice none 0 0, .int .i64 0, .int .i64 0, .bool false, .slice none 0 0]) 6 88 Tryd.underlying25 hi2 hy0 hy1 hy2 rfl (by decide) g 0 0 [] rfl (unhide HA) a4 x.funcs.length c4 (items.flatMap (·.2)) rfl (unhide HIl) (unhide HSf _ ((unhide HF27).trans (unhide HF))) (unhide HIo) (by omega) (by decide) (unhide HF).size ?_
                    intro g' cg V' hown hgrow hat
                    simp only [Nat.zero_add, List.nil_append] at hown
                    have hFn : Fr (fun _ => False) W7 V' := (unhide HF).up (Fr.grown hgrow) fun k hk => .inr (by have := ((unhide HA).lt g rfl).1; have hk' : k = g := Option.some.inj hk; omega)
                    clear hHeld
                    refine hK.out _ _ (unhide HS7 _ hFn) (fun hHeld => ?_)
                    clear hK K
                    (try simp only [Act.put, List.setIfInBounds_toArray, List.set_cons_zero, List.set_cons_succ])
                    (try simp only [Nat.zero_add])
                    have HB' := hide ((unhide HB).grown hgrow ((unhide HB).ne (unhide HA) (by decide)))
                    clear HB
                    have HB := HB'
                    clear HB'
                    have HC' := hide ((unhide HC).grown hgrow ((unhide HC).ne (unhide HA) (by decide)))
                    clear HC
                    have HC := HC'
                    clear HC'
                    have HN' : Hid (fb ≠ g') := hide (fun e => by
                      rcases hat with h | h
                      · exact unhide HN (e.trans h)
                      · have := (unhide HD).lt
                        omega)
                    have HD' := hide ((unhide HD).grown hgrow (unhide HN))
                    clear HD
                    have HD := HD'
                    clear HD'
                    clear HN
                    have HN := HN'
                    clear HN'
                    clear HA HF
                    have HA := hide hown
                    have HF := hide hFn
                    clear hown hFn hgrow hat
                    (try clear V)
                    obtain ⟨g, rfl⟩ : ∃ g, g = g' := ⟨_, rfl⟩
                    obtain ⟨V, rfl⟩ : ∃ V, V = V' := ⟨_, rfl⟩
                    refine wpAnyH_ready (rs := [12]) (by kernel_rfl) (by simp) ?_
                    refine AllReadyH.cons (o := { dst := some 59, op := _, type := _, pos := _, after := _, guard := _ }) rfl (fun K hK => ?_) ?_
                    · refine step_append_any _ rfl (.tmp 50) (.tmp 58) 25 rfl W7.heap.size 38 i2 (.agg #[.string ⟨#[]⟩, .slice none 0 0, .int .i64 0, .int .i64 0, .bool false, .slice none 0 0]) 6 88 Tryd.underlying25 hi2 hy0 hy1 hy2 rfl (by decide) g x.funcs.length cg (items.flatMap (·.2)) rfl (unhide HA) (some ⟨fb, 0, none⟩) 1 1 [.string s, .slice (some ⟨rb, 0, none⟩) 2 2, .int .i64 0, .int .i64 0, .bool false, .slice (some ⟨cb, 0, none⟩) 3 3] rfl rfl (box_src (unhide HD).1) six_one (by omega) (by decide) (unhide HF).size ?_
                      intro g6 c6 V' hown hgrow hat
                      have hFn : Fr (fun _ => False) W7 V' := (unhide HF).up (Fr.grown hgrow) fun k hk => .inr (by have := ((unhide HA).lt g rfl).1; have hk' : k = g := Option.some.inj hk; omega)
                      have HGR := hide (GrR.of (unhide HQ7) (unhide HIt) (unhide HIC) (by omega) (Nat.le_refl _) (unhide HF27) hFn hown ((unhide HB).grown hgrow ((unhide HB).ne (unhide HA) (by decide))) ((unhide HC).grown hgrow ((unhide HC).ne (unhide HA) (by decide))) hBW (unhide HTB) (by omega) (unhide HZ) n0 (unhide HLl) htx2)
                      have q3 := hFn.cell ((unhide HQ7) 3 _ rfl) id
                      have qf3 : V'.frozen? ⟨w2.heap.size + 1, 3, none⟩ = false := hFn.frozen (show w2.heap.size + 1 < _ from hBW) qf7 id
                      have HS9 := hide (unhide HS8 _ (((hFn.mono fun _ h => h.elim).trans ((Fr.refl (· = w2.heap.size + 1) V').setCell (p := ⟨w2.heap.size + 1, 3, none⟩) rfl (.slice (some ⟨g6, 0, none⟩) (x.funcs.length + 1) c6)))))
                      clear hHeld
                      refine hK.out _ _ (unhide HS7 _ hFn) (fun hHeld => ?_)
                      clear hK K hFn hown hgrow hat
                      (try simp only [Act.put, List.setIfInBounds_toArray, List.set_cons_zero, List.set_cons_succ])
                      refine wpAnyH_take (i := 13) (oi := { dst := some 60, op := _, type := _, pos := _, after := _, guard := _ }) (v := .pointer (some ⟨w2.heap.size + 1, 3, none⟩)) rfl (by kernel_rfl) (by kernel_rfl) (by kernel_rfl) (fun _ _ _ h => h) (Or.inl ⟨by rfl, ?_⟩) hHeld ?_
                      · intro w' hSw
                        (try dsimp only at hSw)
                        go_simp
                      (try simp only [Act.put, List.setIfInBounds_toArray, List.set_cons_zero, List.set_cons_succ])
                      refine wpAnyH_ready (rs := [14]) (by kernel_rfl) (by simp) ?_
                      refine AllReadyH.cons (o := { dst := none, op := _, type := _, pos := _, after := _, guard := _ }) rfl (fun K hK => ?_) AllReadyH.nil
                      go_simp
                      clear hHeld
                      refine hK.out _ _ (unhide HS9) (fun hHeld => ?_)
                      clear hK K
                      (try simp only [Act.put, List.setIfInBounds_toArray, List.set_cons_zero, List.set_cons_succ])
                      refine wpAnyH_done (by kernel_rfl) ?_ _
                      go_wp2_with fail
                      go_meet
                      case rel => exact HGR
                    exact AllReadyH.nil
                  exact AllReadyH.nil
                exact AllReadyH.nil
              refine AllReadyH.cons (o := { dst := some 58, op := _, type := _, pos := _, after := _, guard := _ }) rfl (fun K hK => ?_) ?_
              · go_simp
                clear hHeld
                refine hK.out _ _ (unhide HS7 _ ((unhide HF).alloc _)) (fun hHeld => ?_)
                clear hK K
                (try simp only [Act.put, List.setIfInBounds_toArray, List.set_cons_zero, List.set_cons_succ])
                have HDn : Hid (Blk (V.alloc (.cells #[.string s, .slice (some ⟨rb, 0, none⟩) 2 2, .int .i64 0, .int .i64 0, .bool false, .slice (some ⟨cb, 0, none⟩) 3 3] 38)) V.heap.size [.string s, .slice (some ⟨rb, 0, none⟩) 2 2, .int .i64 0, .int .i64 0, .bool false, .slice (some ⟨cb, 0, none⟩) 3 3] 38) := hide (Blk.new V _ _)
                have HB' := hide ((unhide HB).alloc (.cells #[.string s, .slice (some ⟨rb, 0, none⟩) 2 2, .int .i64 0, .int .i64 0, .bool false, .slice (some ⟨cb, 0, none⟩) 3 3] 38))
                clear HB
                have HB := HB'
                clear HB'
                have HC' := hide ((unhide HC).alloc (.cells #[.string s, .slice (some ⟨rb, 0, none⟩) 2 2, .int .i64 0, .int .i64 0, .bool false, .slice (some ⟨cb, 0, none⟩) 3 3] 38))
                clear HC
                have HC := HC'
                clear HC'
                have HF' := hide ((unhide HF).alloc (.cells #[.string s, .slice (some ⟨rb, 0, none⟩) 2 2, .int .i64 0, .int .i64 0, .bool false, .slice (some ⟨cb, 0, none⟩) 3 3] 38))
                clear HF
                have HF := HF'
                clear HF'
                have HD := HDn
                clear HDn
                generalize V.alloc (.cells #[.string s, .slice (some ⟨rb, 0, none⟩) 2 2, .int .i64 0, .int .i64 0, .bool false, .slice (some ⟨cb, 0, none⟩) 3 3] 38) = V' at *
                generalize V.heap.size = fb at *
                clear V
                obtain ⟨V, rfl⟩ : ∃ V, V = V' := ⟨_, rfl⟩
                refine wpAnyH_ready (rs := [0]) (by kernel_rfl) (by simp) ?_
                refine AllReadyH.cons (o := { dst := some 47, op := _, type := _, pos := _, after := _, guard := _ }) rfl (fun K hK => ?_) ?_
                · go_simp
                  clear hHeld
                  refine hK.out _ _ (unhide HS7 _ ((unhide HF).alloc _)) (fun hHeld => ?_)
                  clear hK K
                  (try simp only [Act.put, List.setIfInBounds_toArray, List.set_cons_zero, List.set_cons_succ])
                  have HAn := hide (made0 (b := W7.heap.size) V (unhide HF).size)
                  have HN : Hid (fb ≠ V.heap.size) := hide (fun e => by have := (unhide HD).lt; omega)
                  have HB' := hide ((unhide HB).alloc (.cells #[] 38))
                  clear HB
                  have HB := HB'
                  clear HB'
                  have HC' := hide ((unhide HC).alloc (.cells #[] 38))
                  clear HC
                  have HC := HC'
                  clear HC'
                  have HD' := hide ((unhide HD).alloc (.cells #[] 38))
                  clear HD
                  have HD := HD'
                  clear HD'
                  have HF' := hide ((unhide HF).alloc (.cells #[] 38))
                  clear HF
                  have HF := HF'
                  clear HF'
                  have HA := HAn
                  clear HAn
                  generalize V.alloc (.cells #[] 38) = V' at *
                  generalize V.heap.size = g at *
                  clear V
                  obtain ⟨V, rfl⟩ : ∃ V, V = V' := ⟨_, rfl⟩
                  refine wpAnyH_ready (rs := [3]) (by kernel_rfl) (by simp) ?_
                  refine AllReadyH.cons (o := { dst := some 50, op := _, type := _, pos := _, after := _, guard := _ }) rfl (fun K hK => ?_) ?_
                  · refine step_append_any _ rfl (.tmp 47) (.tmp 49) 25 rfl W7.heap.size 38 i2 (.agg #[.string ⟨#[]⟩, .slice none 0 0, .int .i64 0, .int .i64 0, .bool false, .slice none 0 0]) 6 88 Tryd.underlying25 hi2 hy0 hy1 hy2 rfl (by decide) g 0 0 [] rfl (unhide HA) a4 x.funcs.length c4 (items.flatMap (·.2)) rfl (unhide HIl) (unhide HSf _ ((unhide HF27).trans (unhide HF))) (unhide HIo) (by omega) (by decide) (unhide HF).size ?_
                    intro g' cg V' hown hgrow hat
                    simp only [Nat.zero_add, List.nil_append] at hown
                    have hFn : Fr (fun _ => False) W7 V' := (unhide HF).up (Fr.grown hgrow) fun k hk => .inr (by have := ((unhide HA).lt g rfl).1; have hk' : k = g := Option.some.inj hk; omega)
                    clear hHeld
                    refine hK.out _ _ (unhide HS7 _ hFn) (fun hHeld => ?_)
                    clear hK K
                    (try simp only [Act.put, List.setIfInBounds_toArray, List.set_cons_zero, List.set_cons_succ])
                    (try simp only [Nat.zero_add])
                    have HB' := hide ((unhide HB).grown hgrow ((unhide HB).ne (unhide HA) (by decide)))
                    clear HB
                    have HB := HB'
                    clear HB'
                    have HC' := hide ((unhide HC).grown hgrow ((unhide HC).ne (unhide HA) (by decide)))
                    clear HC
                    have HC := HC'
                    clear HC'
                    have HN' : Hid (fb ≠ g') := hide (fun e => by
                      rcases hat with h | h
                      · exact unhide HN (e.trans h)
                      · have := (unhide HD).lt
                        omega)
                    have HD' := hide ((unhide HD).grown hgrow (unhide HN))
                    clear HD
                    have HD := HD'
                    clear HD'
                    clear HN
                    have HN := HN'
                    clear HN'
                    clear HA HF
                    have HA := hide hown
                    have HF := hide hFn
                    clear hown hFn hgrow hat
                    (try clear V)
                    obtain ⟨g, rfl⟩ : ∃ g, g = g' := ⟨_, rfl⟩
                    obtain ⟨V, rfl⟩ : ∃ V, V = V' := ⟨_, rfl⟩
                    refine wpAnyH_ready (rs := [12]) (by kernel_rfl) (by simp) ?_
                    refine AllReadyH.cons (o := { dst := some 59, op := _, type := _, pos := _, after := _, guard := _ }) rfl (fun K hK => ?_) ?_
                    · refine step_append_any _ rfl (.tmp 50) (.tmp 58) 25 rfl W7.heap.size 38 i2 (.agg #[.string ⟨#[]⟩, .slice none 0 0, .int .i64 0, .int .i64 0, .bool false, .slice none 0 0]) 6 88 Tryd.underlying25 hi2 hy0 hy1 hy2 rfl (by decide) g x.funcs.length cg (items.flatMap (·.2)) rfl (unhide HA) (some ⟨fb, 0, none⟩) 1 1 [.string s, .slice (some ⟨rb, 0, none⟩) 2 2, .int .i64 0, .int .i64 0, .bool false, .slice (some ⟨cb, 0, none⟩) 3 3] rfl rfl (box_src (unhide HD).1) six_one (by omega) (by decide) (unhide HF).size ?_
                      intro g6 c6 V' hown hgrow hat
                      have hFn : Fr (fun _ => False) W7 V' := (unhide HF).up (Fr.grown hgrow) fun k hk => .inr (by have := ((unhide HA).lt g rfl).1; have hk' : k = g := Option.some.inj hk; omega)
                      have HGR := hide (GrR.of (unhide HQ7) (unhide HIt) (unhide HIC) (by omega) (Nat.le_refl _) (unhide HF27) hFn hown ((unhide HB).grown hgrow ((unhide HB).ne (unhide HA) (by decide))) ((unhide HC).grown hgrow ((unhide HC).ne (unhide HA) (by decide))) hBW (unhide HTB) (by omega) (unhide HZ) n0 (unhide HLl) htx2)
                      have q3 := hFn.cell ((unhide HQ7) 3 _ rfl) id
                      have qf3 : V'.frozen? ⟨w2.heap.size + 1, 3, none⟩ = false := hFn.frozen (show w2.heap.size + 1 < _ from hBW) qf7 id
                      have HS9 := hide (unhide HS8 _ (((hFn.mono fun _ h => h.elim).trans ((Fr.refl (· = w2.heap.size + 1) V').setCell (p := ⟨w2.heap.size + 1, 3, none⟩) rfl (.slice (some ⟨g6, 0, none⟩) (x.funcs.length + 1) c6)))))
                      clear hHeld
                      refine hK.out _ _ (unhide HS7 _ hFn) (fun hHeld => ?_)
                      clear hK K hFn hown hgrow hat
                      (try simp only [Act.put, List.setIfInBounds_toArray, List.set_cons_zero, List.set_cons_succ])
                      refine wpAnyH_take (i := 13) (oi := { dst := some 60, op := _, type := _, pos := _, after := _, guard := _ }) (v := .pointer (some ⟨w2.heap.size + 1, 3, none⟩)) rfl (by kernel_rfl) (by kernel_rfl) (by kernel_rfl) (fun _ _ _ h => h) (Or.inl ⟨by rfl, ?_⟩) hHeld ?_
                      · intro w' hSw
                        (try dsimp only at hSw)
                        go_simp
                      (try simp only [Act.put, List.setIfInBounds_toArray, List.set_cons_zero, List.set_cons_succ])
                      refine wpAnyH_ready (rs := [14]) (by kernel_rfl) (by simp) ?_
                      refine AllReadyH.cons (o := { dst := none, op := _, type := _, pos := _, after := _, guard := _ }) rfl (fun K hK => ?_) AllReadyH.nil
                      go_simp
                      clear hHeld
                      refine hK.out _ _ (unhide HS9) (fun hHeld => ?_)
                      clear hK K
                      (try simp only [Act.put, List.setIfInBounds_toArray, List.set_cons_zero, List.set_cons_succ])
                      refine wpAnyH_done (by kernel_rfl) ?_ _
                      go_wp2_with fail
                      go_meet
                      case rel => exact HGR
                    exact AllReadyH.nil
                  exact AllReadyH.nil
                exact AllReadyH.nil
              exact AllReadyH.nil
            exact AllReadyH.nil
          exact AllReadyH.nil
        case rest =>
          obtain ⟨g6, c6, hQc, hRf, hFc⟩ := unhide hcut
          have HQc := hide hQc
          have hF2c : Fr (fun _ => False) w2 wc := (unhide HF27).up hFc fun k hk => .inr (by have hk' : k = w2.heap.size + 1 := hk; omega)
          have HF2c := hide hF2c
          have HPy := hide (newP_at (cap4 := cap4) (c6 := c6) (c2 := c2) (c3 := c3) (unhide HTx) (unhide HR2) (unhide HR3) hRf hF2c hFc hmain)
          have HPx := hide (prg_fr (unhide HP2) (Nat.le_refl _) hF2c)
          have HBc := hide (((unhide HBX).fr (unhide HF2)).fr hF2c)
          have hokY := newP_ok (z := z) (unhide HK) (unhide HT) (show s.size ≤ 1000 by omega) (unhide HZ) (row_ok (ok := okN) (unhide HL) fun _ _ h => h.1) (show l.length ≤ 1000 by omega)
          have HKY := hide hokY
          have hlx : (encP x).length ≤ 1000000 := by have h1 := encP_le (unhide HK); have h2 := unhide HT; omega
          have hly : (encP (newP x s z l)).length ≤ 1000000 := by
            have h1 := encP_le hokY
            rw [tot_new] at h1
            have h2 := unhide HT
            omega
          clear hcut hQc hRf hFc hF2c hokY HTx HR1 HR2 HR3 HR4 HQ7 HTB HI7 HP7 HIt HIC HIl HIo HSf HLl HS7 HS8 qf7 hBW HP2 HF27
          obtain ⟨d0, d1, d2, d3, d4, d5, d6, d7, d8, d9⟩ : (fun w' => w'.cell? ⟨w.heap.size, 0, none⟩ = some (.slice a1 x.texts.length c1) ∧ w'.cell? ⟨w.heap.size, 1, none⟩ = some (.slice a2 x.globals.length c2) ∧ w'.cell? ⟨w.heap.size, 2, none⟩ = some (.slice a3 x.structs.length c3) ∧ w'.cell? ⟨w.heap.size, 3, none⟩ = some (.slice a4 x.funcs.length c4) ∧ w'.cell? ⟨w.heap.size, 4, none⟩ = some (.int .i64 x.main) ∧ w'.cell? ⟨w2.heap.size + 1, 0, none⟩ = some (.slice (some ⟨g4, 0, none⟩) (x.texts.length + 1) cap4) ∧ w'.cell? ⟨w2.heap.size + 1, 1, none⟩ = some (.slice a2 x.globals.length c2) ∧ w'.cell? ⟨w2.heap.size + 1, 2, none⟩ = some (.slice a3 x.structs.length c3) ∧ w'.cell? ⟨w2.heap.size + 1, 3, none⟩ = some (.slice (some ⟨g6, 0, none⟩) (x.funcs.length + 1) c6) ∧ w'.cell? ⟨w2.heap.size + 1, 4, none⟩ = some (.int .i64 x.main)) wc := by
            obtain ⟨h0, h1, h2, h3, h4⟩ := (unhide HBc).five
            obtain ⟨h5, h6, h7, h8, h9⟩ := (unhide HQc).five
            exact ⟨h0, h1, h2, h3, h4, h5, h6, h7, h8, h9⟩
          have HTen : Hid (∀ W, Fr (fun _ => False) wc W → (fun w' => w'.cell? ⟨w.heap.size, 0, none⟩ = some (.slice a1 x.texts.length c1) ∧ w'.cell? ⟨w.heap.size, 1, none⟩ = some (.slice a2 x.globals.length c2) ∧ w'.cell? ⟨w.heap.size, 2, none⟩ = some (.slice a3 x.structs.length c3) ∧ w'.cell? ⟨w.heap.size, 3, none⟩ = some (.slice a4 x.funcs.length c4) ∧ w'.cell? ⟨w.heap.size, 4, none⟩ = some (.int .i64 x.main) ∧ w'.cell? ⟨w2.heap.size + 1, 0, none⟩ = some (.slice (some ⟨g4, 0, none⟩) (x.texts.length + 1) cap4) ∧ w'.cell? ⟨w2.heap.size + 1, 1, none⟩ = some (.slice a2 x.globals.length c2) ∧ w'.cell? ⟨w2.heap.size + 1, 2, none⟩ = some (.slice a3 x.structs.length c3) ∧ w'.cell? ⟨w2.heap.size + 1, 3, none⟩ = some (.slice (some ⟨g6, 0, none⟩) (x.funcs.length + 1) c6) ∧ w'.cell? ⟨w2.heap.size + 1, 4, none⟩ = some (.int .i64 x.main)) W) := hide fun W h => by
            obtain ⟨h0, h1, h2, h3, h4⟩ := ((unhide HBc).fr h).five
            obtain ⟨h5, h6, h7, h8, h9⟩ := ((unhide HQc).fr h).five
            exact ⟨h0, h1, h2, h3, h4, h5, h6, h7, h8, h9⟩
          have HEX : Hid (∀ W, Fr (fun _ => False) wc W → Calls Tryd.prog 11 _ W fun e w' => EncP x W e w') := hide fun W h => Encode_any x _ W (prg_fr (unhide HPx) (Nat.le_refl _) h) (by omega)
          have HEY : Hid (∀ W, Fr (fun _ => False) wc W → Calls Tryd.prog 11 _ W fun e w' => EncP (newP x s z l) W e w') := hide fun W h => Encode_any (newP x s z l) _ W (prg_fr (unhide HPy) (Nat.le_refl _) h) (by omega)
          go_wp2
          go_region_held2 (fun w' => w'.cell? ⟨w.heap.size, 0, none⟩ = some (.slice a1 x.texts.length c1) ∧ w'.cell? ⟨w.heap.size, 1, none⟩ = some (.slice a2 x.globals.length c2) ∧ w'.cell? ⟨w.heap.size, 2, none⟩ = some (.slice a3 x.structs.length c3) ∧ w'.cell? ⟨w.heap.size, 3, none⟩ = some (.slice a4 x.funcs.length c4) ∧ w'.cell? ⟨w.heap.size, 4, none⟩ = some (.int .i64 x.main) ∧ w'.cell? ⟨w2.heap.size + 1, 0, none⟩ = some (.slice (some ⟨g4, 0, none⟩) (x.texts.length + 1) cap4) ∧ w'.cell? ⟨w2.heap.size + 1, 1, none⟩ = some (.slice a2 x.globals.length c2) ∧ w'.cell? ⟨w2.heap.size + 1, 2, none⟩ = some (.slice a3 x.structs.length c3) ∧ w'.cell? ⟨w2.heap.size + 1, 3, none⟩ = some (.slice (some ⟨g6, 0, none⟩) (x.funcs.length + 1) c6) ∧ w'.cell? ⟨w2.heap.size + 1, 4, none⟩ = some (.int .i64 x.main)) (go_keep) (first
            | (go_at_call 11; refine (unhide HEY _ ((unhide HFa).trans (by (repeat' (first | exact Fr.refl _ _ | refine Fr.alloc ?_ _ | refine Fr.drew ?_ | refine Fr.drewN ?_ _))))).mono ?_; rintro e wb ⟨bo, bp, rfl, hob, hFb⟩; have HOb := hide hob; have HFb : Hid (Fr (fun _ => False) wc wb) := hide (((unhide HFa).trans (by (repeat' (first | exact Fr.refl _ _ | refine Fr.alloc ?_ _ | refine Fr.drew ?_ | refine Fr.drewN ?_ _)))).trans hFb); have HFab : Hid (Fr (fun _ => False) wa wb) := hide (Fr.trans (by (repeat' (first | exact Fr.refl _ _ | refine Fr.alloc ?_ _ | refine Fr.drew ?_ | refine Fr.drewN ?_ _))) hFb); clear hob hFb; obtain ⟨i0, i1, i2, i3, i4, i5, i6, i7, i8, i9⟩ := unhide HTen _ (unhide HFb))
            | (go_at_call 11; refine (unhide HEX _ (by (repeat' (first | exact Fr.refl _ _ | refine Fr.alloc ?_ _ | refine Fr.drew ?_ | refine Fr.drewN ?_ _)))).mono ?_; rintro e wa ⟨ao, ap, rfl, hoa, hFa⟩; have HOa := hide hoa; have HFa : Hid (Fr (fun _ => False) wc wa) := hide (Fr.trans (by (repeat' (first | exact Fr.refl _ _ | refine Fr.alloc ?_ _ | refine Fr.drew ?_ | refine Fr.drewN ?_ _))) hFa); clear hoa hFa; obtain ⟨f0, f1, f2, f3, f4, f5, f6, f7, f8, f9⟩ := unhide HTen _ (unhide HFa)))
          clear d0 d1 d2 d3 d4 d5 d6 d7 d8 d9 f0 f1 f2 f3 f4 f5 f6 f7 f8 f9 i0 i1 i2 i3 i4 i5 i6 i7 i8 i9
          have hcapb := own_cap (unhide HOb)
          have HFwb := hide (((unhide HF0).trans (unhide HF2)).trans ((unhide HF2c).trans (unhide HFb)))
          have HD := hide (Decode_any pe pf (encP (newP x s z l)) bo bp wb ((unhide HV).fr (unhide HFwb)) (own_bytes (unhide HOb)) (by omega) hcapb)
          go_wp2_with fail
          refine (unhide HD).mono ?_
          rintro e w5 ⟨hF5, ⟨y, cz, hy1, hy2, rfl, hy3⟩ | ⟨hno, _⟩⟩
          · obtain rfl : newP x s z l = y := encP_inj hy2
            have HF5 := hide hF5
            have HZp := hide (prgG.mono (S' := (· < w5.heap.size)) (fun _ hk => hk.2) hy3)
            obtain ⟨_, p1, o1, p2, o2, p3, o3, p4, o4, rfl, _, _, _, R4⟩ := hy3
            have e4 := (newP_len x s z l).2
            have hlast : x.funcs.length < (newP x s z l).funcs.length := by rw [e4]; omega
            obtain ⟨b, off, cs, q1, _, hcf, _, hcell⟩ := R4.2 x.funcs.length hlast
            rw [new_last] at hcf
            obtain ⟨yb, yoff, yc, la0, lc0, la1, lc1, t0, t1, t2, t3, hrl, t5⟩ := new_read hcf
            have t6 := hcell 5 _ t0
            have HRL := hide hrl
            have HPy5 := hide (prg_fr (unhide HPy) (Nat.le_refl _) ((unhide HFb).trans hF5))
            have HS : Hid (∀ o, Calls Tryd.prog 12 _ (w5.alloc o) fun e w' => SameP (newP x s z l) (newP x s z l) (w5.alloc o) e w') := hide fun o => same_any (newP x s z l) (newP x s z l) _ _ (w5.alloc o) (prg_fr (unhide HZp) (Nat.le_refl _) ((Fr.refl _ w5).alloc o)) (prg_fr (unhide HPy5) (Nat.le_refl _) ((Fr.refl _ w5).alloc o))
            have cva := fun o => conv_own (unhide HOa) (((unhide HFab).trans hF5).alloc o)
            have cvb := fun o => conv_own (unhide HOb) (hF5.alloc o)
            have hneq : (ByteArray.toList ⟨(encP x).toArray⟩ == ByteArray.toList ⟨(encP (newP x s z l)).toArray⟩) = false := by
              cases hq : (ByteArray.toList ⟨(encP x).toArray⟩ == ByteArray.toList ⟨(encP (newP x s z l)).toArray⟩) with
              | false => rfl
              | true => exact (new_ne x s z l (bytes_iff.1 hq)).elim
            have qb : ∀ o, _ := fun o => ((unhide HQc).fr (((unhide HFb).trans hF5).alloc o)).five
            have r0 := fun o => (qb o).1
            have r1 := fun o => (qb o).2.1
            have r2 := fun o => (qb o).2.2.1
            have r3 := fun o => (qb o).2.2.2.1
            have r4 := fun o => (qb o).2.2.2.2
            rw [e4] at HS HZp ⊢
            have HFw5 := hide ((unhide HFwb).trans hF5)
            clear qb R4 hcf hcell hrl t0 hy1 hy2 HD hF5 hlast e4 HPy5 HZp HOa HOb
            generalize (encP (newP x s z l)).length = ny at *
            generalize (encP (newP x s z l)).toArray = by_ at *
            generalize (encP x).length = nx at *
            generalize (encP x).toArray = bx_ at *
            generalize (newP x s z l).texts.length = n1 at *
            generalize (newP x s z l).globals.length = n2 at *
            generalize (newP x s z l).structs.length = n3 at *
            generalize (newP x s z l).main = n5 at *
            have HBz : Hid (Box (w5.alloc (.cells #[.slice p1 n1 o1, .slice p2 n2 o2, .slice p3 n3 o3, .slice p4 (x.funcs.length + 1) o4, .int .i64 n5] 27)) w5.heap.size [.slice p1 n1 o1, .slice p2 n2 o2, .slice p3 n3 o3, .slice p4 (x.funcs.length + 1) o4, .int .i64 n5]) := hide (Box.new w5 [.slice p1 n1 o1, .slice p2 n2 o2, .slice p3 n3 o3, .slice p4 (x.funcs.length + 1) o4, .int .i64 n5] 27)
            have HT1 : Hid (∀ W, Fr (fun _ => False) w5 W → W.cell? ⟨yb, yoff + 15, none⟩ = some (.int .i64 4611686018427387904) ∧ W.cell? ⟨yb, yoff + 4, none⟩ = some (.int .i64 (-4611686018427387904)) ∧ W.cell? ⟨yb, yoff + 5, none⟩ = some (.slice la0 l.length lc0) ∧ W.cell? ⟨yb, yoff + 11, none⟩ = some (.slice la1 0 lc1) ∧ W.cell? ⟨b, off + x.funcs.length * 6 + 5, none⟩ = some (.slice (some ⟨yb, yoff, none⟩) 3 yc)) := hide fun W h => ⟨h.cell t1 id, h.cell t2 id, h.cell t3 id, h.cell t5 id, h.cell t6 id⟩
            subst q1
            clear t1 t2 t3 t5 t6
            go_wp2_with fail
            refine ((unhide HS) _).mono ?_
            rintro e w6 ⟨hF6, r, rfl, hr⟩
            obtain rfl : r = true := hr.2 rfl
            have hb3 := ((unhide HBz).fr hF6) 3 _ rfl
            have hF56 : Fr (fun _ => False) w5 w6 := ((Fr.refl _ w5).alloc _).trans hF6
            obtain ⟨t1, t2, t3, t5, t6⟩ := (unhide HT1) _ hF56
            have HI := hide (ints_eq l l la0 la lc0 lcap _ _ w6 (numG.rowS (fun k hk => hF56.block k hk.2 id) (unhide HRL)) (row_at numG (unhide HL) (Nat.le_refl _) ((unhide HFw5).trans hF56)))
            have HE := hide (((unhide HFw5).trans hF56).below (Nat.le_refl _) fun _ h => h.elim)
            clear hF6 hF56 hr HS r0 r1 r2 r3 r4 cva cvb hneq HT1 HBz
            go_wp2_with fail
            refine (unhide HI).mono ?_
            rintro e w8 ⟨r, rfl, hr, rfl⟩
            obtain rfl : r = true := hr.2 (by first | rfl | trivial)
            clear hr HI
            go_wp2
            go_ret
            exact ⟨rfl, unhide HE⟩
          · exact (hno _ (unhide HKY) rfl).elim
      · have s0' : ¬ (500 : Int) < (s.size : Int) := by omega
        have n0' : (500 : Int) < (l.length : Int) := by omega
        go_wp2
        all_goals (go_ret; exact ⟨rfl, unhide HE⟩)
    · have s0' : (500 : Int) < (s.size : Int) := by omega
      go_wp2
      all_goals (go_ret; exact ⟨rfl, unhide HE⟩)
end Go.Proofs.YtfkjjljhabjcjaaDoor
