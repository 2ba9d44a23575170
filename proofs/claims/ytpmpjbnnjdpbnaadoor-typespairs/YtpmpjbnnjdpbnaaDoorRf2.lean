/- Contracts of the reference's End and function. -/
import Derived.Test.YtpmpjbnnjdpbnaaDoorRf1
namespace Go.Proofs.YtpmpjbnnjdpbnaaDoor
open Go.RowKit Go.Proofs.YtpmpjbnnjdpbnaaDoor.Lx

theorem rPs_suf {E : List UInt8 → Option (List UInt8)} (hE : ∀ q r, E q = some r → ∃ x, q = x ++ r) : ∀ (n : Nat) (l : List UInt8) (acc : List (List UInt8)) (s : List UInt8) (ps : List (List UInt8)) (res : List UInt8), rPs E n l acc = some (s, ps, res) → ∃ x, l = x ++ s
  | 0, _, _, _, _, _, h => by cases h
  | n + 1, l, acc, s, ps, res, h => by
    rw [rPs] at h
    split at h
    · rename_i q hq
      have e := cut_some.1 hq
      split at h
      · cases h; exact ⟨[41], e⟩
      · rename_i r hr
        cases h
        obtain ⟨x, rfl⟩ := hE _ _ hr
        exact ⟨[41] ++ x, by rw [e]; simp⟩
    · split at h
      · cases h
      · rename_i q hq
        have hle : ∃ y, l = y ++ q := by
          split at hq
          · cases hq; exact ⟨[], rfl⟩
          · exact ⟨[44], cut_some.1 hq⟩
        split at h
        · cases h
        · rename_i r hr
          obtain ⟨x, e1⟩ := hE _ _ hr
          obtain ⟨y, e2⟩ := hle
          obtain ⟨z, e3⟩ := rPs_suf hE n r _ s ps res h
          exact ⟨y ++ x ++ z, by rw [e2, e1, e3]; simp⟩
theorem rNm_suf {r s : List UInt8} (h : rNm r = some s) : ∃ x, r = x ++ s := by
  unfold rNm at h
  split at h
  · injection h with h
    exact ⟨_, by rw [← h]; exact List.takeWhile_append_dropWhile.symm⟩
  · cases h
theorem hd_suf (l : List UInt8) : (∀ r, hd l = .wrap r → ∃ x, l = x ++ r) ∧ (∀ r, hd l = .func r → ∃ x, l = x ++ r) ∧ (∀ r, hd l = .base r → ∃ x, l = x ++ r) ∧ (∀ r, hd l = .ptr r → ∃ x, l = x ++ r) := by
  obtain ⟨a, b, c, d⟩ := hd_parts l
  exact ⟨fun r h => by obtain ⟨p, e, _⟩ := a r h; exact ⟨p, e⟩, fun r h => ⟨_, b r h⟩, fun r h => by obtain ⟨p, e, _⟩ := c r h; exact ⟨p, e⟩, fun r h => ⟨_, d r h⟩⟩
theorem rT_suf : ∀ (n : Nat) (l r : List UInt8), rT n l = some r → ∃ x, l = x ++ r
  | 0, _, _, h => by cases h
  | n + 1, l, s, h => by
    obtain ⟨g1, g2, g3, g4⟩ := hd_suf l
    rw [rT] at h
    split at h
    · rename_i r hr
      obtain ⟨x, e⟩ := g1 r hr
      obtain ⟨y, e2⟩ := rT_suf n r s h
      exact ⟨x ++ y, by rw [e, e2]; simp⟩
    · rename_i r hr
      obtain ⟨x, e⟩ := g2 r hr
      cases hp : rPs (rT n) (r.length + 1) r [] with
      | none => rw [hp] at h; cases h
      | some y =>
        rw [hp] at h
        have h2 : y.1 = s := Option.some.inj h
        obtain ⟨z, e2⟩ := rPs_suf (rT_suf n) _ r [] y.1 y.2.1 y.2.2 hp
        rw [h2] at e2
        exact ⟨x ++ z, by rw [e, e2]; simp⟩
    · rename_i r hr; cases h; exact g3 _ hr
    · rename_i r hr
      obtain ⟨x, e⟩ := g4 r hr
      obtain ⟨y, e2⟩ := rNm_suf h
      exact ⟨x ++ y, by rw [e, e2]; simp⟩
    · cases h
theorem rE_suf {l r : List UInt8} (h : rE l = some r) : ∃ x, l = x ++ r := rT_suf _ l r h
/-- A reading from a place on: the place behind, and what is read. -/
theorem at_suf {l r : List UInt8} {a : Nat} (ha : a ≤ l.length) (h : rE (l.drop a) = some r) : a < l.length - r.length ∧ r.length ≤ l.length ∧ l.drop (l.length - r.length) = r ∧ (l.drop a).take ((l.drop a).length - r.length) = sub l a (l.length - r.length) := by
  obtain ⟨x, e⟩ := rE_suf h
  have hl := rE_len h
  rw [List.length_drop] at hl
  have e2 : l = l.take a ++ (x ++ r) := by rw [← e]; exact (List.take_append_drop a l).symm
  have hlen := congrArg List.length e
  rw [List.length_drop, List.length_append] at hlen
  refine ⟨by omega, by omega, ?_, ?_⟩
  · have h3 : l.length - r.length = (l.take a ++ x).length := by rw [List.length_append, List.length_take]; omega
    have h4 : (l.take a ++ x ++ r).drop (l.take a ++ x).length = r := List.drop_left
    rw [← List.append_assoc] at e2
    rw [← e2] at h4
    rw [h3]; exact h4
  · unfold sub
    rw [List.length_drop]
    congr 1
    omega
def enAt (l : List UInt8) (a : Nat) : Int := match rE (l.drop a) with
  | none => -1
  | some r => ((l.length - r.length : Nat) : Int)
theorem enAt_none {l : List UInt8} {a : Nat} (h : rE (l.drop a) = none) : enAt l a = -1 := by unfold enAt; rw [h]
theorem enAt_some {l r : List UInt8} {a : Nat} (h : rE (l.drop a) = some r) : enAt l a = ((l.length - r.length : Nat) : Int) := by unfold enAt; rw [h]
def EndPost (l : List UInt8) (a : Nat) (w : World) (e : Ending) (w' : World) : Prop := e = .returned (.int .i64 (enAt l a)) ∧ Below w.heap.size w w'
def EndC (n : Nat) : Prop := ∀ (s : ByteArray) (a : Nat) (w : World), s.size ≤ 10000 → a ≤ s.size → s.size - a < n → Calls Tryd.prog 34 #[.string s, .int .i64 a] w (EndPost s.toList a w)
def FnPost (l : List UInt8) (a : Nat) (w : World) (e : Ending) (w' : World) : Prop :=
  Below w.heap.size w w' ∧ match rF (l.drop (a + 5)) with
    | none => e = .returned (.tuple #[.int .i64 (-1), .slice none 0 0, .string ⟨#[]⟩])
    | some (q, ps, res) => ∃ (v : Value) (r : ByteArray), e = .returned (.tuple #[.int .i64 ((l.length - q.length : Nat) : Int), v, .string r]) ∧ r.toList = res ∧ w'.ownsRow w.heap.size 9 1 v ps.length (strs ps)
theorem beg (p : List UInt8) (s : ByteArray) (a : Nat) (w : World) (v : Bool) (h : p.isPrefixOf (s.toList.drop a) = v) :
    Calls Tryd.prog 28 #[.string (s.extract a s.size), .string ⟨p.toArray⟩] w fun e w' => e = .returned (.bool v) ∧ w' = w := by
  refine (begins28 (s.extract a s.size) ⟨p.toArray⟩ w).mono ?_
  rintro e w' ⟨rfl, hw⟩
  rw [arr_toL, ext_drop, h]
  exact ⟨rfl, hw⟩
structure FnI (s : ByteArray) (w : World) (a p : Nat) (v : Value) (acc : List (List UInt8)) (wr : World) : Prop where
  lo : a + 5 ≤ p
  hi : p ≤ s.size
  len : acc.length ≤ p
  own : wr.ownsRow w.heap.size 9 1 v acc.length (strs acc)
  bel : Below w.heap.size w wr
  eq : rPs rE ((s.toList.drop p).length + 1) (s.toList.drop p) acc = rF (s.toList.drop (a + 5))
theorem own_below {w w' : World} {base n : Nat} {v : Value} {xs : List Value} (h : w.ownsRow base 9 1 v n xs) (hb : Below w.heap.size w w') : w'.ownsRow base 9 1 v n xs := by
  refine ⟨h.1, ?_⟩
  rcases h.2 with h2 | ⟨g, cap, cur, e1, e2, e3, r⟩
  · exact .inl h2
  · exact .inr ⟨g, cap, cur, e1, e2, (hb.block g (blk_lt e3)).trans e3, r⟩
set_option maxRecDepth 100000 in
set_option maxHeartbeats 3200000 in
theorem function_w (n : Nat) (ih : EndC n) (s : ByteArray) (a : Nat) (w : World) (hs : s.size ≤ 10000) (ha : a + 5 ≤ s.size) (hn : s.size - a < n + 1) :
    Calls Tryd.prog 31 #[.string s, .int .i64 a] w (FnPost s.toList a w) := by
  obtain ⟨i0, hi0, hz0, hz1, hz2⟩ := info_parts Tryd.info9
  go_enter Tryd.func31, Tryd.ntmps31
  go_wp2_with fail
  go_loopg [1, 7, 8] (s.size - (a + 5)) (fun g v1 v7 _ wr => ∃ (p : Nat) (acc : List (List UInt8)), g = s.size - p ∧ v1 = .int .i64 p ∧ FnI s w a p v7 acc wr)
  case atStart => exact ⟨a + 5, [], rfl, by go_num, ⟨Nat.le_refl _, ha, Nat.zero_le _, World.ownsRow_nil _ _ _ _, Below.refl _ _, rfl⟩⟩
  case round =>
    obtain ⟨p, acc, rfl, rfl, hI⟩ := hrel
    have hlo := hI.lo
    have hhi := hI.hi
    have hlen := hI.len
    have hhiz : (p : Int) ≤ s.size := by omega
    obtain ⟨ao, cap, hvv⟩ := own_form hI.own
    subst hvv
    have HI := hide hI
    clear hI
    cases hc : cut [41] (s.toList.drop p) with
    | some q =>
      have HC41 := hide hc
      have H41 := hide (beg [41] s p wr true (cut_pre hc))
      have hq : q = s.toList.drop (p + 1) := by
        have e := congrArg (List.drop 1) (cut_some.1 hc)
        rw [List.drop_drop] at e
        exact e.symm
      have hp1 : p + 1 ≤ s.size := by
        have e := congrArg List.length (cut_some.1 hc)
        rw [List.length_drop, toL_len] at e
        simp at e
        omega
      clear hc
      have HE1 := hide (ih s (p + 1) wr hs hp1 (by omega))
      unfold EndPost at HE1
      cases hre : rE (s.toList.drop (p + 1)) with
      | none =>
        rw [enAt_none hre] at HE1
        have HX : Hid (rF (s.toList.drop (a + 5)) = some (s.toList.drop (p + 1), acc, [])) := by
          show rF (s.toList.drop (a + 5)) = _
          rw [← (unhide HI).eq, rPs, unhide HC41]
          simp only [hq, hre]
        clear hre hq
        go_wp2_with fail
        refine (unhide H41).mono ?_
        rintro e w' ⟨rfl, hww⟩
        rw [hww]
        clear hww
        go_wp2_with fail
        refine (unhide HE1).mono ?_
        rintro e w3 ⟨rfl, hb3⟩
        have HB3 := hide hb3
        clear hb3
        go_wp2_with fail
        refine bodyPost_ret (v := .tuple #[.int .i64 ((p : Int) + 1), .slice ao acc.length cap, .string ⟨#[]⟩]) (by simp [results, Tryd.results31, go_sem]) rfl ?_
        refine ⟨(unhide HI).bel.trans ((unhide HB3).mono (unhide HI).bel.size), ?_⟩
        rw [unhide HX]
        refine ⟨_, _, ?_, nil_toL, own_below (unhide HI).own (unhide HB3)⟩
        rw [List.length_drop, toL_len, show s.size - (s.size - (p + 1)) = p + 1 by omega]
        rfl
      | some r =>
        rw [enAt_some hre] at HE1
        obtain ⟨z1, z2, z3, z4⟩ := at_suf (l := s.toList) (a := p + 1) (by rw [toL_len]; omega) hre
        have HX : Hid (rF (s.toList.drop (a + 5)) = some (r, acc, sub s.toList (p + 1) (s.toList.length - r.length))) := by
          show rF (s.toList.drop (a + 5)) = _
          rw [← (unhide HI).eq, rPs, unhide HC41]
          simp only [hq, hre, z4]
        clear z3 z4 hre hq
        have HEN : Hid (s.toList.length - r.length = s.toList.length - r.length) := rfl
        have hen : s.toList.length - r.length ≤ s.size := by rw [toL_len]; omega
        obtain ⟨en, hed⟩ : ∃ en, s.toList.length - r.length = en := ⟨_, rfl⟩
        have HED := hide hed
        rw [hed] at HE1 HX hen z1
        clear HEN z2 hed
        have henz : ¬ (en : Int) < 0 := by omega
        have henz2 : (en : Int) ≤ s.size := by omega
        have henz3 : (p : Int) + 1 ≤ en := by omega
        go_wp2_with fail
        refine (unhide H41).mono ?_
        rintro e w' ⟨rfl, hww⟩
        rw [hww]
        clear hww
        go_wp2_with fail
        refine (unhide HE1).mono ?_
        rintro e w3 ⟨rfl, hb3⟩
        have HB3 := hide hb3
        clear hb3
        go_wp2_with fail
        go_quiet (fail)
        go_wp2_with fail
        refine bodyPost_ret (v := .tuple #[.int .i64 en, .slice ao acc.length cap, .string (s.extract (p + 1) en)]) (by simp [results, Tryd.results31, go_sem]) rfl ?_
        refine ⟨bdN' ((unhide HI).bel.trans ((unhide HB3).mono (unhide HI).bel.size)) _, ?_⟩
        rw [unhide HX]
        refine ⟨_, _, ?_, ext_toL _ _ _, own_heap (w := w3) rfl (own_below (unhide HI).own (unhide HB3))⟩
        rw [unhide HED]
    | none =>
      have HC41 := hide hc
      have H41 := hide (beg [41] s p wr false (cut_npre hc))
      clear hc
      cases acc with
      | nil =>
        have HCC : Hid ((if ([] : List (List UInt8)).isEmpty = true then some (s.toList.drop p) else cut [44] (s.toList.drop p)) = some (s.toList.drop p)) := rfl
        have HE1 := hide (ih s p wr hs (by omega) (by omega))
        unfold EndPost at HE1
        cases hre : rE (s.toList.drop p) with
        | none =>
          rw [enAt_none hre] at HE1
          have HX : Hid (rF (s.toList.drop (a + 5)) = none) := by
            show rF (s.toList.drop (a + 5)) = none
            rw [← (unhide HI).eq, rPs, unhide HC41]
            simp only [unhide HCC, hre]
          clear hre
          go_wp2_with fail
          refine (unhide H41).mono ?_
          rintro e w' ⟨rfl, hww⟩
          rw [hww]
          clear hww
          go_wp2_with fail
          refine (unhide HE1).mono ?_
          rintro e w3 ⟨rfl, hb3⟩
          have HB3 := hide hb3
          clear hb3
          go_wp2_with fail
          refine bodyPost_ret (v := .tuple #[.int .i64 (-1), .slice none 0 0, .string ⟨#[]⟩]) (by simp [results, Tryd.results31, go_sem]) rfl ?_
          refine ⟨(unhide HI).bel.trans ((unhide HB3).mono (unhide HI).bel.size), ?_⟩
          rw [unhide HX]
        | some r =>
          rw [enAt_some hre] at HE1
          obtain ⟨z1, z2, z3, z4⟩ := at_suf (l := s.toList) (a := p) (by rw [toL_len]; omega) hre
          have HEQ : Hid (rPs rE ((s.toList.drop (s.toList.length - r.length)).length + 1) (s.toList.drop (s.toList.length - r.length)) (([] : List (List UInt8)) ++ [sub s.toList p (s.toList.length - r.length)]) = rF (s.toList.drop (a + 5))) := by
            show _ = rF (s.toList.drop (a + 5))
            have hstep : rPs rE ((s.toList.drop p).length + 1) (s.toList.drop p) ([] : List (List UInt8)) = rPs rE (s.toList.drop p).length r (([] : List (List UInt8)) ++ [sub s.toList p (s.toList.length - r.length)]) := by
              rw [rPs, unhide HC41]
              simp only [unhide HCC, hre, z4]
            rw [← (unhide HI).eq, hstep, z3]
            refine (rPs_eq _ _ _ ?_).symm
            have hl := rE_len hre
            rw [List.length_drop] at hl
            rw [List.length_drop]
            omega
          clear z3 z4 hre
          have hen : s.toList.length - r.length ≤ s.size := by rw [toL_len]; omega
          generalize s.toList.length - r.length = en at *
          rw [toL_len] at z2
          clear z2
          have henz : ¬ (en : Int) < 0 := by omega
          have henz2 : (en : Int) ≤ s.size := by omega
          have henz3 : (p : Int) ≤ en := by omega
          go_wp2_with fail
          refine (unhide H41).mono ?_
          rintro e w' ⟨rfl, hww⟩
          rw [hww]
          clear hww
          go_wp2_with fail
          refine (unhide HE1).mono ?_
          rintro e w3 ⟨rfl, hb3⟩
          have HB3 := hide hb3
          clear hb3
          go_wp2_with (first | (at_builtin; refine wpList_append_own _ rfl _ _ 25 rfl w.heap.size 9 i0 (.string ⟨#[]⟩) 1 16 Tryd.underlying25 hi0 hz0 hz1 hz2 rfl (by decide) _ _ _ rfl ((own_below (unhide HI).own (unhide HB3)).alloc _) ⟨w3.heap.size, 0, none⟩ 1 1 [.string (s.extract p en)] rfl rfl (cell_one_new _ _ _) ?c2 ?c3 ?c4 ?c5 ?_))
          case c2 => intro u hu; simp at hu; subst hu; rfl
          case c3 => unfold maxLen; omega
          case c4 => omega
          case c5 => have := (unhide HI).bel.size; have := (unhide HB3).size; simp; omega
          · intro v' w5 hown' hgrow _
            have HO := hide hown'
            have HG := hide hgrow
            clear hown' hgrow
            go_wp2_with fail
            go_roundg (s.size - en)
            case measure => omega
            case rel =>
              refine ⟨en, ([] : List (List UInt8)) ++ [sub s.toList p en], rfl, rfl, ⟨by omega, by omega, by simp; omega, ?_, ?_, ?_⟩⟩
              · rw [strs_snoc, List.length_append]; exact unhide HO
              · exact (((unhide HI).bel.trans ((unhide HB3).mono (unhide HI).bel.size)).alloc (by have := (unhide HI).bel.size; have := (unhide HB3).size; omega) _).grown (unhide HG) (by have := (unhide HI).bel.size; have := (unhide HB3).size; simp; omega) (fun j hj => by have := ((unhide HI).own.lt j hj).1; omega)
              · exact unhide HEQ
      | cons x xs =>
        have hlp : (0 : Int) < (xs.length : Int) + 1 := by omega
        have hlen2 : xs.length + 1 ≤ p := hlen
        cases hc2 : cut [44] (s.toList.drop p) with
        | none =>
          have H44 := hide (beg [44] s p wr false (cut_npre hc2))
          have HX : Hid (rF (s.toList.drop (a + 5)) = none) := by
            show rF (s.toList.drop (a + 5)) = none
            rw [← (unhide HI).eq, rPs, unhide HC41]
            simp [hc2]
          clear hc2
          go_wp2_with fail
          refine (unhide H41).mono ?_
          rintro e w' ⟨rfl, hww⟩
          rw [hww]
          clear hww
          go_wp2_with fail
          refine (unhide H44).mono ?_
          rintro e w' ⟨rfl, hww⟩
          rw [hww]
          clear hww
          go_wp2_with fail
          refine bodyPost_ret (v := .tuple #[.int .i64 (-1), .slice none 0 0, .string ⟨#[]⟩]) (by simp [results, Tryd.results31, go_sem]) rfl ?_
          refine ⟨(unhide HI).bel, ?_⟩
          rw [unhide HX]
        | some q =>
          have H44 := hide (beg [44] s p wr true (cut_pre hc2))
          have hq : q = s.toList.drop (p + 1) := by
            have e := congrArg (List.drop 1) (cut_some.1 hc2)
            rw [List.drop_drop] at e
            exact e.symm
          have hp1 : p + 1 ≤ s.size := by
            have e := congrArg List.length (cut_some.1 hc2)
            rw [List.length_drop, toL_len] at e
            simp at e
            omega
          have HCC : Hid ((if (x :: xs).isEmpty = true then some (s.toList.drop p) else cut [44] (s.toList.drop p)) = some (s.toList.drop (p + 1))) := by
            show (if (x :: xs).isEmpty = true then some (s.toList.drop p) else cut [44] (s.toList.drop p)) = _
            rw [if_neg (by simp), hc2, hq]
          clear hc2 hq
          have HE1 := hide (ih s (p + 1) wr hs (by omega) (by omega))
          unfold EndPost at HE1
          cases hre : rE (s.toList.drop (p + 1)) with
          | none =>
            rw [enAt_none hre] at HE1
            have HX : Hid (rF (s.toList.drop (a + 5)) = none) := by
              show rF (s.toList.drop (a + 5)) = none
              rw [← (unhide HI).eq, rPs, unhide HC41]
              simp only [unhide HCC, hre]
            clear hre
            go_wp2_with fail
            refine (unhide H41).mono ?_
            rintro e w' ⟨rfl, hww⟩
            rw [hww]
            clear hww
            go_wp2_with fail
            refine (unhide H44).mono ?_
            rintro e w' ⟨rfl, hww⟩
            rw [hww]
            clear hww
            go_wp2_with fail
            refine (unhide HE1).mono ?_
            rintro e w3 ⟨rfl, hb3⟩
            have HB3 := hide hb3
            clear hb3
            go_wp2_with fail
            refine bodyPost_ret (v := .tuple #[.int .i64 (-1), .slice none 0 0, .string ⟨#[]⟩]) (by simp [results, Tryd.results31, go_sem]) rfl ?_
            refine ⟨(unhide HI).bel.trans ((unhide HB3).mono (unhide HI).bel.size), ?_⟩
            rw [unhide HX]
          | some r =>
            rw [enAt_some hre] at HE1
            obtain ⟨z1, z2, z3, z4⟩ := at_suf (l := s.toList) (a := (p + 1)) (by rw [toL_len]; omega) hre
            have HEQ : Hid (rPs rE ((s.toList.drop (s.toList.length - r.length)).length + 1) (s.toList.drop (s.toList.length - r.length)) ((x :: xs) ++ [sub s.toList (p + 1) (s.toList.length - r.length)]) = rF (s.toList.drop (a + 5))) := by
              show _ = rF (s.toList.drop (a + 5))
              have hstep : rPs rE ((s.toList.drop p).length + 1) (s.toList.drop p) (x :: xs) = rPs rE (s.toList.drop p).length r ((x :: xs) ++ [sub s.toList (p + 1) (s.toList.length - r.length)]) := by
                rw [rPs, unhide HC41]
                simp only [unhide HCC, hre, z4]
              rw [← (unhide HI).eq, hstep, z3]
              refine (rPs_eq _ _ _ ?_).symm
              have hl := rE_len hre
              rw [List.length_drop] at hl
              rw [List.length_drop]
              omega
            clear z3 z4 hre
            have hen : s.toList.length - r.length ≤ s.size := by rw [toL_len]; omega
            generalize s.toList.length - r.length = en at *
            rw [toL_len] at z2
            clear z2
            have henz : ¬ (en : Int) < 0 := by omega
            have henz2 : (en : Int) ≤ s.size := by omega
            have henz3 : (p : Int) + 1 ≤ en := by omega
            go_wp2_with fail
            refine (unhide H41).mono ?_
            rintro e w' ⟨rfl, hww⟩
            rw [hww]
            clear hww
            go_wp2_with fail
            refine (unhide H44).mono ?_
            rintro e w' ⟨rfl, hww⟩
            rw [hww]
            clear hww
            go_wp2_with fail
            refine (unhide HE1).mono ?_
            rintro e w3 ⟨rfl, hb3⟩
            have HB3 := hide hb3
            clear hb3
            go_wp2_with (first | (at_builtin; refine wpList_append_own _ rfl _ _ 25 rfl w.heap.size 9 i0 (.string ⟨#[]⟩) 1 16 Tryd.underlying25 hi0 hz0 hz1 hz2 rfl (by decide) _ _ _ rfl ((own_below (unhide HI).own (unhide HB3)).alloc _) ⟨w3.heap.size, 0, none⟩ 1 1 [.string (s.extract (p + 1) en)] rfl rfl (cell_one_new _ _ _) ?c2 ?c3 ?c4 ?c5 ?_))
            case c2 => intro u hu; simp at hu; subst hu; rfl
            case c3 => unfold maxLen; omega
            case c4 => omega
            case c5 => have := (unhide HI).bel.size; have := (unhide HB3).size; simp; omega
            · intro v' w5 hown' hgrow _
              have HO := hide hown'
              have HG := hide hgrow
              clear hown' hgrow
              go_wp2_with fail
              go_roundg (s.size - en)
              case measure => omega
              case rel =>
                refine ⟨en, (x :: xs) ++ [sub s.toList (p + 1) en], rfl, rfl, ⟨by omega, by omega, by simp; omega, ?_, ?_, ?_⟩⟩
                · rw [strs_snoc, List.length_append]; exact unhide HO
                · exact (((unhide HI).bel.trans ((unhide HB3).mono (unhide HI).bel.size)).alloc (by have := (unhide HI).bel.size; have := (unhide HB3).size; omega) _).grown (unhide HG) (by have := (unhide HI).bel.size; have := (unhide HB3).size; simp; omega) (fun j hj => by have := ((unhide HI).own.lt j hj).1; omega)
                · exact unhide HEQ
end Go.Proofs.YtpmpjbnnjdpbnaaDoor
