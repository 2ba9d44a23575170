import Derived.Test.YtheknbfbneghgaaGreatDoorMe
import Derived.Test.YtheknbfbneghgaaGreatDoorMb
set_option linter.unusedVariables false
set_option linter.unusedSimpArgs false
set_option maxHeartbeats 4000000
set_option maxRecDepth 100000
namespace Go.Proofs.YtheknbfbneghgaaGreatDoor.Pp
open Go.RowKit Go.Proofs.YtheknbfbneghgaaGreatDoor.Lx Go.Proofs.YtheknbfbneghgaaGreatDoor.Px
def ST (w0 : World) (kids kb : List Tree) (ao ao2 : Option Addr) (cp cp2 N M : Nat) (X : World) : Prop := Below w0.heap.size w0 X ∧ VT X ∧ Jj.KidsAt X (.slice ao kids.length cp) kids ∧ Jj.KidsAt X (.slice ao2 kb.length cp2) kb ∧ X.heap[N]? = some (.cells #[.int .i64 1, .string ⟨#[]⟩, .int .i64 0, .int .i64 0, .string ⟨#[]⟩, .int .i64 0, .slice ao kids.length cp] 25) ∧ X.heap[M]? = some (.cells #[.int .i64 1, .string ⟨#[]⟩, .int .i64 0, .int .i64 0, .string ⟨#[]⟩, .int .i64 0, .slice ao2 kb.length cp2] 25)
theorem ST.on {w0 : World} {kids kb : List Tree} {ao ao2 : Option Addr} {cp cp2 N M : Nat} {X Y : World} (h : ST w0 kids kb ao ao2 cp cp2 N M X) (hb : Below X.heap.size X Y) : ST w0 kids kb ao ao2 cp cp2 N M Y :=
  ⟨h.1.trans (hb.mono h.1.size), h.2.1.on hb, h.2.2.1.grown (grown_of rfl hb), h.2.2.2.1.grown (grown_of rfl hb), (hb.block _ (blk_lt h.2.2.2.2.1)).trans h.2.2.2.2.1, (hb.block _ (blk_lt h.2.2.2.2.2)).trans h.2.2.2.2.2⟩
theorem er1 (kids : List Tree) : er (.mk 1 [] 0 0 kids) = .mk 1 [] 0 0 (kids.map er) := er_mk _ _ _ _ _
/-- The calls that the law makes at a tree. -/
theorem still_calls (kids : List Tree) (ht : PT kids) (kb : List Tree) (hkb : kb = kids.map er) : ∀ (X : World) (ao : Option Addr) (cp : Nat), VT X → Jj.KidsAt X (.slice ao kids.length cp) kids →
    Calls Tryz.prog 7 #[.agg #[.int .i64 1, .string ⟨#[]⟩, .int .i64 0, .int .i64 0, .string ⟨#[]⟩, .int .i64 0, .slice ao kids.length cp]] X (fun e w' => X.grownBy w' none ∧ ∃ ao2 cp2, e = .returned (.agg #[.int .i64 1, .string ⟨#[]⟩, .int .i64 0, .int .i64 0, .string ⟨#[]⟩, .int .i64 0, .slice ao2 kb.length cp2]) ∧ zq w' X.heap.size w'.heap.size (.slice ao2 kb.length cp2) kb) ∧ Calls Tryz.prog 10 #[.agg #[.int .i64 1, .string ⟨#[]⟩, .int .i64 0, .int .i64 0, .string ⟨#[]⟩, .int .i64 0, .slice ao kids.length cp]] X (fun e w' => X.grownBy w' none ∧ ∃ ao2 cp2, e = .returned (.agg #[.int .i64 1, .string ⟨#[]⟩, .int .i64 0, .int .i64 0, .string ⟨#[]⟩, .int .i64 0, .slice ao2 kb.length cp2]) ∧ zq w' X.heap.size w'.heap.size (.slice ao2 kb.length cp2) kb) ∧ Calls Tryz.prog 8 #[.agg #[.int .i64 1, .string ⟨#[]⟩, .int .i64 0, .int .i64 0, .string ⟨#[]⟩, .int .i64 0, .slice ao kids.length cp]] X (fun e w' => e = .returned (.string ⟨(prt (.mk 1 [] 0 0 kids)).toArray⟩) ∧ X.grownBy w' none) := by
  intro X ao cp hv hk
  subst hkb
  refine ⟨Jj.bare_w _ 1 [] 0 0 kids lr ht.2.2 X ao cp hk, (Jj.pbare_w _ 1 [] 0 0 kids lr ht.2.2 X ao cp hk).mono ?_, File_ok X 1 [] 0 0 kids ao cp hk hv.2 ht.1 ht.2.1⟩
  rintro e w' ⟨hb, h⟩
  exact ⟨grown_of rfl hb, h⟩
theorem still_calls2 (kids : List Tree) (ht : PT kids) (kb : List Tree) (hkb : kb = kids.map er) : ∀ (X : World) (ao2 : Option Addr) (cp2 : Nat), VT X → Jj.KidsAt X (.slice ao2 kb.length cp2) kb →
    Calls Tryz.prog 8 #[.agg #[.int .i64 1, .string ⟨#[]⟩, .int .i64 0, .int .i64 0, .string ⟨#[]⟩, .int .i64 0, .slice ao2 kb.length cp2]] X (fun e w' => e = .returned (.string ⟨(prt (.mk 1 [] 0 0 kids)).toArray⟩) ∧ X.grownBy w' none) ∧ ∀ (ao : Option Addr) (cp : Nat), Jj.KidsAt X (.slice ao kb.length cp) kb → Calls Tryz.prog 9 #[.agg #[.int .i64 1, .string ⟨#[]⟩, .int .i64 0, .int .i64 0, .string ⟨#[]⟩, .int .i64 0, .slice ao kb.length cp], .agg #[.int .i64 1, .string ⟨#[]⟩, .int .i64 0, .int .i64 0, .string ⟨#[]⟩, .int .i64 0, .slice ao2 kb.length cp2]] X (fun e w' => e = .returned (.bool true) ∧ X.grownBy w' none) := by
  intro X ao2 cp2 hv hk
  subst hkb
  have h1 := ok_er _ _ lr ht.1
  have h2 := sz_er _ (.mk 1 [] 0 0 kids) lr
  have h3 := prt_er (.mk 1 [] 0 0 kids)
  rw [er1] at h1 h2 h3
  refine ⟨?_, fun ao cp hk2 => Jj.same_w _ 1 [] 0 0 _ lr X ao ao2 cp cp2 hk2 hk⟩
  rw [← h3]
  exact File_ok X 1 [] 0 0 _ ao2 cp2 hk hv.2 h1 (by rw [h2]; exact ht.2.1)
theorem still_any (s : ByteArray) (w : World) (hv : VT w) : Calls Tryz.prog 3 #[.string s] w fun e w' => e = .returned (.bool true) ∧ Below w.heap.size w w' := by
  have HV := zm hv
  clear hv
  go_enter Tryz.func3, Tryz.ntmps3
  go_wp2_with fail
  refine (anchor_any _ (zk HV)).mono ?_
  rintro e w1 ⟨rfl, B1⟩
  have HV1 := zm ((zk HV).on B1)
  by_cases hs : s.size ≤ 4000
  · have hsz : ¬ (4000 : Int) < (s.size : Int) := om
    have HP := zm (Parse4 s w1 (zk HV1) hs)
    go_wp2_with fail
    refine (zk HP).mono ?_
    rintro e w2 ⟨B2, hp⟩
    have B3 : Below w.heap.size w w2 := B1.trans (B2.mono B1.size)
    rcases hp with ⟨kids, ao, cp, st, k', rfl, hk, ht, h0, hr⟩ | ⟨a, b, rfl, ha, hn⟩
    · obtain ⟨kb, hkb⟩ : ∃ kb, kb = kids.map er := ⟨_, rfl⟩
      have HC := zm (still_calls kids ht kb hkb)
      have HD := zm (still_calls2 kids ht kb hkb)
      obtain ⟨S, hS⟩ : ∃ S : ByteArray, S = ⟨(prt (.mk 1 [] 0 0 kids)).toArray⟩ := ⟨_, rfl⟩
      simp only [← hS] at HC HD
      have hv2 := (zk HV1).on B2
      have B4 : Below w2.heap.size w2 ((w2.alloc (.cells #[.int .i64 1, .string ⟨#[]⟩, .int .i64 0, .int .i64 0, .string ⟨#[]⟩, .int .i64 0, .slice ao kids.length cp] 25)).alloc (.cells #[.int .i64 0, .int .i64 0] 27)) := ((Below.refl _ _).alloc lr _).alloc zK _
      have hvW := hv2.on B4
      have hkW := hk.grown (grown_of rfl B4)
      have bnW : ((w2.alloc (.cells #[.int .i64 1, .string ⟨#[]⟩, .int .i64 0, .int .i64 0, .string ⟨#[]⟩, .int .i64 0, .slice ao kids.length cp] 25)).alloc (.cells #[.int .i64 0, .int .i64 0] 27)).heap[w2.heap.size]? = some (.cells #[.int .i64 1, .string ⟨#[]⟩, .int .i64 0, .int .i64 0, .string ⟨#[]⟩, .int .i64 0, .slice ao kids.length cp] 25) := blk_alloc (yW _ _ rfl) _
      have HF := zm (zk HC _ ao cp hvW hkW).1
      have HB := zm (B3.trans (B4.mono B3.size))
      have HX := zm (And.intro hvW (And.intro hkW bnW))
      have zW : w2.heap.size < ((w2.alloc (.cells #[.int .i64 1, .string ⟨#[]⟩, .int .i64 0, .int .i64 0, .string ⟨#[]⟩, .int .i64 0, .slice ao kids.length cp] 25)).alloc (.cells #[.int .i64 0, .int .i64 0] 27)).heap.size := by simp; omega
      clear HP h0 hr ht hkb hS hk hv2 B4 hvW hkW bnW
      go_wp2_with fail
      refine (zk HF).mono ?_
      clear HF
      generalize ((w2.alloc (.cells #[.int .i64 1, .string ⟨#[]⟩, .int .i64 0, .int .i64 0, .string ⟨#[]⟩, .int .i64 0, .slice ao kids.length cp] 25)).alloc (.cells #[.int .i64 0, .int .i64 0] 27)) = X2 at *
      rintro e w3 ⟨g3, ao2, cp2, rfl, row3⟩
      have hb3 := blw g3
      have z3 := g3.size
      have hv3 := (zk HX).1.on hb3
      have hk3 := (zk HX).2.1.grown g3
      have bn3 : w3.heap[w2.heap.size]? = some (.cells #[.int .i64 1, .string ⟨#[]⟩, .int .i64 0, .int .i64 0, .string ⟨#[]⟩, .int .i64 0, .slice ao kids.length cp] 25) := (hb3.block _ zW).trans (zk HX).2.2
      have kw3 := Jj.KidsAt.of row3 lr
      have B5 : Below w3.heap.size w3 (w3.alloc (.cells #[.int .i64 1, .string ⟨#[]⟩, .int .i64 0, .int .i64 0, .string ⟨#[]⟩, .int .i64 0, .slice ao2 kb.length cp2] 25)) := (Below.refl _ _).alloc lr _
      have HF := zm (zk HC _ ao cp (hv3.on B5) (hk3.grown (grown_of rfl B5))).2.2
      have HY := zm (And.intro (hv3.on B5) (And.intro (hk3.grown (grown_of rfl B5)) (And.intro (kw3.grown (grown_of rfl B5)) (And.intro (show (w3.alloc (.cells #[.int .i64 1, .string ⟨#[]⟩, .int .i64 0, .int .i64 0, .string ⟨#[]⟩, .int .i64 0, .slice ao2 kb.length cp2] 25)).heap[w2.heap.size]? = some (.cells #[.int .i64 1, .string ⟨#[]⟩, .int .i64 0, .int .i64 0, .string ⟨#[]⟩, .int .i64 0, .slice ao kids.length cp] 25) from blk_alloc bn3 _) (show (w3.alloc (.cells #[.int .i64 1, .string ⟨#[]⟩, .int .i64 0, .int .i64 0, .string ⟨#[]⟩, .int .i64 0, .slice ao2 kb.length cp2] 25)).heap[w3.heap.size]? = some (.cells #[.int .i64 1, .string ⟨#[]⟩, .int .i64 0, .int .i64 0, .string ⟨#[]⟩, .int .i64 0, .slice ao2 kb.length cp2] 25) from yW _ _ rfl)))))
      have HB3 := zm (((zk HB).trans (hb3.mono (zk HB).size)).trans (B5.mono ((zk HB).trans (hb3.mono (zk HB).size)).size))
      have zN : w2.heap.size < w3.heap.size := om
      have ne1 : ¬ w2.heap.size = w3.heap.size := om
      have ne2 : ¬ w3.heap.size = w2.heap.size := om
      obtain ⟨c0, c1, c2, c3, c4, c5, c6⟩ := cells7 bn3
      clear hb3 hv3 hk3 bn3 kw3 B5 row3 HX HB g3 z3
      go_wp2_with fail
      refine (zk HF).mono ?_
      clear HF c0 c1 c2 c3 c4 c5 c6
      have zY : (w3.alloc (.cells #[.int .i64 1, .string ⟨#[]⟩, .int .i64 0, .int .i64 0, .string ⟨#[]⟩, .int .i64 0, .slice ao2 kb.length cp2] 25)).heap.size = w3.heap.size + 1 := by simp
      generalize (w3.alloc (.cells #[.int .i64 1, .string ⟨#[]⟩, .int .i64 0, .int .i64 0, .string ⟨#[]⟩, .int .i64 0, .slice ao2 kb.length cp2] 25)) = X3 at *
      rintro e w4 ⟨rfl, g4⟩
      have hb4 := blw g4
      have z4 := g4.size
      have hv4 := (zk HY).1.on hb4
      have hk4 := (zk HY).2.1.grown g4
      have kw4 := (zk HY).2.2.1.grown g4
      have bn4 := (hb4.block _ om).trans (zk HY).2.2.2.1
      have bw4 := (hb4.block _ om).trans (zk HY).2.2.2.2
      have HB4 := zm ((zk HB3).trans (hb4.mono (zk HB3).size))
      have hz : ST w kids kb ao ao2 cp cp2 w2.heap.size w3.heap.size w4 := ⟨zk HB4, hv4, hk4, kw4, bn4, bw4⟩
      have HZ := zm hz
      obtain ⟨c0, c1, c2, c3, c4, c5, c6⟩ := cells7 bn4
      obtain ⟨d0, d1, d2, d3, d4, d5, d6⟩ := cells7 bw4
      have H7 : Hid (∀ X, ST w kids kb ao ao2 cp cp2 w2.heap.size w3.heap.size X → Calls Tryz.prog 7 #[.agg #[.int .i64 1, .string ⟨#[]⟩, .int .i64 0, .int .i64 0, .string ⟨#[]⟩, .int .i64 0, .slice ao kids.length cp]] X fun e w' => ∃ ao3 cp3, e = .returned (.agg #[.int .i64 1, .string ⟨#[]⟩, .int .i64 0, .int .i64 0, .string ⟨#[]⟩, .int .i64 0, .slice ao3 kb.length cp3]) ∧ ST w kids kb ao ao2 cp cp2 w2.heap.size w3.heap.size w' ∧ Jj.KidsAt w' (.slice ao3 kb.length cp3) kb) := by
        intro X h
        refine (zk HC X ao cp h.2.1 h.2.2.1).1.mono ?_
        rintro e w' ⟨g, ao3, cp3, rfl, row⟩
        exact ⟨ao3, cp3, rfl, h.on (blw g), Jj.KidsAt.of row lr⟩
      have H10 : Hid (∀ X, ST w kids kb ao ao2 cp cp2 w2.heap.size w3.heap.size X → Calls Tryz.prog 10 #[.agg #[.int .i64 1, .string ⟨#[]⟩, .int .i64 0, .int .i64 0, .string ⟨#[]⟩, .int .i64 0, .slice ao kids.length cp]] X fun e w' => ∃ ao3 cp3, e = .returned (.agg #[.int .i64 1, .string ⟨#[]⟩, .int .i64 0, .int .i64 0, .string ⟨#[]⟩, .int .i64 0, .slice ao3 kb.length cp3]) ∧ ST w kids kb ao ao2 cp cp2 w2.heap.size w3.heap.size w' ∧ Jj.KidsAt w' (.slice ao3 kb.length cp3) kb) := by
        intro X h
        refine (zk HC X ao cp h.2.1 h.2.2.1).2.1.mono ?_
        rintro e w' ⟨g, ao3, cp3, rfl, row⟩
        exact ⟨ao3, cp3, rfl, h.on (blw g), Jj.KidsAt.of row lr⟩
      have H9 : Hid (∀ X ao3 cp3, ST w kids kb ao ao2 cp cp2 w2.heap.size w3.heap.size X → Jj.KidsAt X (.slice ao3 kb.length cp3) kb → Calls Tryz.prog 9 #[.agg #[.int .i64 1, .string ⟨#[]⟩, .int .i64 0, .int .i64 0, .string ⟨#[]⟩, .int .i64 0, .slice ao3 kb.length cp3], .agg #[.int .i64 1, .string ⟨#[]⟩, .int .i64 0, .int .i64 0, .string ⟨#[]⟩, .int .i64 0, .slice ao2 kb.length cp2]] X fun e w' => e = .returned (.bool true) ∧ ST w kids kb ao ao2 cp cp2 w2.heap.size w3.heap.size w') := by
        intro X ao3 cp3 h hk
        refine ((zk HD X ao2 cp2 h.2.1 h.2.2.2.1).2 ao3 cp3 hk).mono ?_
        rintro e w' ⟨rfl, g⟩
        exact ⟨rfl, h.on (blw g)⟩
      have H8 : Hid (∀ X ao3 cp3, ST w kids kb ao ao2 cp cp2 w2.heap.size w3.heap.size X → Jj.KidsAt X (.slice ao3 kb.length cp3) kb → Calls Tryz.prog 8 #[.agg #[.int .i64 1, .string ⟨#[]⟩, .int .i64 0, .int .i64 0, .string ⟨#[]⟩, .int .i64 0, .slice ao3 kb.length cp3]] X fun e w' => e = .returned (.string S) ∧ ST w kids kb ao ao2 cp cp2 w2.heap.size w3.heap.size w') := by
        intro X ao3 cp3 h hk
        refine (zk HD X ao3 cp3 h.2.1 hk).1.mono ?_
        rintro e w' ⟨rfl, g⟩
        exact ⟨rfl, h.on (blw g)⟩
      clear HB4 hb4 hv4 hk4 kw4 bn4 bw4 HY HB3 g4 HC HD hz
      go_wp2_with fail
      go_region_law (first
        | (go_simp; go_at_call 7; refine (zk H7 _ ((zk HZ).on (by (repeat' (first | exact Below.refl _ _ | refine Below.drew ?_))))).mono ?_; rintro e w5 ⟨ao5, cp5, rfl, hz, hk5⟩; have HZ := zm hz; have HK5 := zm hk5; obtain ⟨c0, c1, c2, c3, c4, c5, c6⟩ := cells7 hz.2.2.2.2.1; obtain ⟨d0, d1, d2, d3, d4, d5, d6⟩ := cells7 hz.2.2.2.2.2; clear hz hk5)
        | (go_simp; go_at_call 9; refine (zk H9 _ ao5 cp5 ((zk HZ).on (by (repeat' (first | exact Below.refl _ _ | refine Below.drew ?_)))) ((zk HK5).below (by (repeat' (first | exact Below.refl _ _ | refine Below.drew ?_))))).mono ?_; rintro e w6 ⟨rfl, hz⟩; have HZ := zm hz; obtain ⟨c0, c1, c2, c3, c4, c5, c6⟩ := cells7 hz.2.2.2.2.1; obtain ⟨d0, d1, d2, d3, d4, d5, d6⟩ := cells7 hz.2.2.2.2.2; clear hz)
        | (go_simp; go_at_call 10; refine (zk H10 _ ((zk HZ).on (by (repeat' (first | exact Below.refl _ _ | refine Below.drew ?_))))).mono ?_; rintro e w8 ⟨ao8, cp8, rfl, hz, hk8⟩; have HZ := zm hz; have HK8 := zm hk8; obtain ⟨c0, c1, c2, c3, c4, c5, c6⟩ := cells7 hz.2.2.2.2.1; obtain ⟨d0, d1, d2, d3, d4, d5, d6⟩ := cells7 hz.2.2.2.2.2; clear hz hk8)
        | (go_simp; go_at_call 8; refine (zk H8 _ ao2 cp2 ((zk HZ).on (by (repeat' (first | exact Below.refl _ _ | refine Below.drew ?_)))) ((zk HZ).2.2.2.1.below (by (repeat' (first | exact Below.refl _ _ | refine Below.drew ?_))))).mono ?_; rintro e w7 ⟨rfl, hz⟩; have HZ := zm hz; obtain ⟨c0, c1, c2, c3, c4, c5, c6⟩ := cells7 hz.2.2.2.2.1; obtain ⟨d0, d1, d2, d3, d4, d5, d6⟩ := cells7 hz.2.2.2.2.2; clear hz)
        | (go_simp; go_at_call 8; refine (zk H8 _ ao8 cp8 ((zk HZ).on (by (repeat' (first | exact Below.refl _ _ | refine Below.drew ?_)))) ((zk HK8).below (by (repeat' (first | exact Below.refl _ _ | refine Below.drew ?_))))).mono ?_; rintro e w9 ⟨rfl, hz⟩; have HZ := zm hz; obtain ⟨c0, c1, c2, c3, c4, c5, c6⟩ := cells7 hz.2.2.2.2.1; obtain ⟨d0, d1, d2, d3, d4, d5, d6⟩ := cells7 hz.2.2.2.2.2; clear hz))
      all_goals
        go_wp2
        exact bodyPost_ret (v := .bool true) (by simp [results, Tryz.results3, go_sem]) rfl ⟨rfl, ((zk HZ).on (by (repeat' (first | exact Below.refl _ _ | refine Below.drew ?_)))).1⟩
    · have hab : ¬ (a = 0 ∧ b = 0) := fun h => ha h.1
      have hba : (b = 0 ∧ a = 0) = False := ef fun h => ha h.2
      clear HP hn
      go_wp2
      exact bodyPost_ret (v := .bool true) (by simp [results, Tryz.results3, go_sem]) rfl ⟨rfl, (B3.alloc B3.size _).alloc (by have := B3.size; simp; omega) _⟩
  · have hsz : (4000 : Int) < (s.size : Int) := om
    go_wp2
    exact bodyPost_ret (v := .bool true) (by simp [results, Tryz.results3, go_sem]) rfl ⟨rfl, B1⟩
end Go.Proofs.YtheknbfbneghgaaGreatDoor.Pp
