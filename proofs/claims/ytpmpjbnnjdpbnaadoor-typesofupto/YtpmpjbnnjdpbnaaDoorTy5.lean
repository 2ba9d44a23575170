/- Contracts of isName, of the reader's name, of Valid. -/
import Derived.Test.YtpmpjbnnjdpbnaaDoorTy4
import Derived.Test.YtpmpjbnnjdpbnaaDoorIx2
import Derived.Test.YtpmpjbnnjdpbnaaDoorNmP
namespace Go.Proofs.YtpmpjbnnjdpbnaaDoor
open Go.RowKit Go.Proofs.YtpmpjbnnjdpbnaaDoor.Lx

set_option maxRecDepth 100000 in
set_option maxHeartbeats 800000 in
theorem isName_any (s : ByteArray) (w : World) (hv : Vars w) :
    Calls Tryd.prog 53 #[.string s] w fun e w' => e = .returned (.bool (isNm s.toList)) ∧ Below w.heap.size w w' := by
  by_cases h24 : s.size ≤ 24
  · have HT := hide (isTk_nm s.toList (by rw [toL_len]; exact h24))
    have hz : ¬ (24 : Int) < s.size := by omega
    have HS := hide (Scan_any s w hv)
    clear hv
    go_enter Tryd.func53, Tryd.ntmps53
    go_wp2_with fail
    refine (unhide HS).mono ?_
    rintro e w1 ⟨v, rfl, hown, hbl⟩
    generalize lexR s.toList = x at HT hown
    have HB := hide hbl
    clear hbl
    cases hx : x.1 with
    | nil =>
      rw [hx] at HT hown
      obtain ⟨ao, cp, hsv⟩ := own_form hown
      subst hsv
      clear hown
      go_wp2_with fail
      go_ret
      exact ⟨ret_bool (unhide HT), (unhide HB).alloc (unhide HB).size _⟩
    | cons t r =>
      rw [hx] at HT hown
      obtain ⟨g, cap, hsv, hg1, hg2, d0, d1, _, _⟩ := tok_cells hown 0 t rfl
      subst hsv
      simp only [Nat.zero_mul, Nat.zero_add] at d0 d1
      clear hown
      by_cases hk : t.kind = 1
      · have hkb : (t.kind == 1) = true := beq_iff_eq.2 hk
        have HK := hide hk
        clear hk
        go_wp2_with fail
        go_ret
        exact ⟨ret_bool (by rw [← unhide HT]; simp [isTk, unhide HK]), (unhide HB).alloc (unhide HB).size _⟩
      · have hkb : (t.kind == 1) = false := beq_eq_false_iff_ne.2 hk
        have HK := hide hk
        clear hk
        go_wp2_with fail
        go_ret
        exact ⟨ret_bool (by rw [← unhide HT]; simp [isTk, unhide HK]), (unhide HB).alloc (unhide HB).size _⟩
  · have hz : (24 : Int) < s.size := by omega
    have HN : Hid (isNm s.toList = false) := by
      show isNm s.toList = false
      unfold isNm
      rw [toL_len, decide_eq_false h24]; rfl
    go_enter Tryd.func53, Tryd.ntmps53
    go_wp2_with fail
    go_ret
    exact ⟨by rw [unhide HN]; rfl, Below.refl _ _⟩
theorem nm_take (l : List UInt8) : l.take (nm l).length = nm l ∧ l.drop (nm l).length = nmR l := by
  have e := nm_app l
  have h1 : (nm l ++ nmR l).take (nm l).length = nm l := by simp
  have h2 : (nm l ++ nmR l).drop (nm l).length = nmR l := by simp
  rw [e] at h1 h2
  exact ⟨h1, h2⟩
theorem ixA (l : List UInt8) : (nm l = l ∧ Lib.indexAny l [44, 41] = -1) ∨ ((nm l).length < l.length ∧ Lib.indexAny l [44, 41] = ((nm l).length : Int)) := by
  have hno : Lib.NoAny l [44, 41] (nm l).length := by
    intro j b hj hb
    have hm : (nm l)[j]? = some b := by
      rw [← hb]
      have := (nm_take l).1
      rw [← this, List.getElem?_take, if_pos hj]
    have : b ∈ nm l := List.mem_of_getElem? hm
    have hb2 : notCC b = true := List.all_eq_true.1 (List.all_takeWhile (p := notCC) (l := l)) b this
    simp [notCC] at hb2
    simp [hb2]
  cases hr : nmR l with
  | nil =>
    left
    have e := nm_app l
    rw [hr, List.append_nil] at e
    refine ⟨e, Lib.indexAny_none ?_⟩
    rw [e] at hno; exact hno
  | cons c q =>
    right
    have e := nm_app l
    have hl := congrArg List.length e
    rw [hr] at hl
    simp at hl
    refine ⟨by omega, Lib.indexAny_hit hno (x := c) ?_ ?_⟩
    · have : (nm l ++ nmR l)[(nm l).length]? = some c := by rw [List.getElem?_append_right (Nat.le_refl _)]; simp [hr]
      rw [e] at this; exact this
    · have := nmR_ok l
      rw [hr] at this
      simp [okR] at this
      simp [this]
theorem ext_nm (s : ByteArray) : (s.extract 0 (nm s.toList).length).toList = nm s.toList ∧ (s.extract (nm s.toList).length s.size).toList = nmR s.toList := by
  obtain ⟨h1, h2⟩ := nm_take s.toList
  rw [ext_toL, ext_toL]
  unfold sub
  refine ⟨by simpa using h1, ?_⟩
  rw [h2, List.take_of_length_le]
  have := congrArg List.length (nm_app s.toList)
  rw [List.length_append, toL_len] at this
  omega
set_option maxRecDepth 100000 in
set_option maxHeartbeats 800000 in
theorem name_any : NameC := by
  intro b k s w hv hb3 hs h
  obtain ⟨x1, x2⟩ := ext_nm s
  have hN : (nm s.toList).length ≤ s.size := by
    have := congrArg List.length (nm_app s.toList)
    rw [List.length_append, toL_len] at this
    omega
  have c0 : w.cell? ⟨b, 0, none⟩ = some (.string s) := blk_cell h 0
  have hbz := blk_lt h
  have HI := hide (ia_any s w hs)
  have HX := hide (ixA s.toList)
  rw [ByteArray.toList_eq] at HX
  have X1 := hide x1
  have X2 := hide x2
  have HV := hide hv
  have HR := hide h
  clear h hv x1 x2
  go_enter Tryd.func48, Tryd.ntmps48
  go_wp2_with fail
  refine (unhide HI).mono ?_
  rintro e w1 ⟨rfl, hb1⟩
  have d0 : w1.cell? ⟨b, 0, none⟩ = some (.string s) := (hb1.cell (p := ⟨b, 0, none⟩) hbz).trans c0
  have HB1 := hide hb1
  have f0 : w1.frozen? ⟨b, 0, none⟩ = false := blk_frozen ((hb1.block b hbz).trans (unhide HR)) 0
  have R1 : Hid (Rd w1 b s k true) := (hb1.block b hbz).trans (unhide HR)
  clear hb1
  have SB : Hid (∀ v, Below b w (w1.setCell ⟨b, 0, none⟩ v)) := fun v => ((unhide HB1).mono (by omega)).trans (below_set 0 v)
  have SR : Hid (∀ x : ByteArray, Rd (w1.setCell ⟨b, 0, none⟩ (.string x)) b x k true) := fun x => setCell_blk (unhide R1) 0 _
  rcases unhide HX with ⟨y1, y2⟩ | ⟨y1, y2⟩
  · rw [y2]
    have Y1 := hide y1
    clear y1 y2 HX
    go_wp2_with fail
    refine (isName_any s _ ((unhide HV).below hb3 (unhide SB _))).mono ?_
    rintro e w3 ⟨rfl, hb4⟩
    have HB4 := hide hb4
    clear hb4
    go_wp2_with fail
    go_ret
    have e1 : nm s.toList = s.toList := by rw [ByteArray.toList_eq]; exact unhide Y1
    have e2 : nmR s.toList = [] := by
      have := nm_app s.toList
      rw [e1] at this
      simpa using this
    have hz := blk_lt (unhide SR ByteArray.empty)
    refine ⟨ret_bool (by rw [e1]), ByteArray.empty, by rw [e2, ByteArray.toList_eq]; rfl, ((unhide HB4).block b hz).trans (unhide SR _), (unhide SB _).trans ((unhide HB4).mono (by omega))⟩
  · rw [y2]
    clear y1 y2 HX
    have hq : ¬ ((nm s.toList).length : Int) < 0 := by omega
    have hq2 : ((nm s.toList).length : Int) ≤ s.size := by omega
    rw [← ByteArray.toList_eq]
    generalize (nm s.toList).length = E at *
    go_wp2_with fail
    refine (isName_any _ _ ((unhide HV).below hb3 (unhide SB _))).mono ?_
    rintro e w3 ⟨rfl, hb4⟩
    have HB4 := hide hb4
    clear hb4
    go_wp2_with fail
    go_ret
    have hz := blk_lt (unhide SR (s.extract E s.size))
    exact ⟨ret_bool (by rw [unhide X1]), s.extract E s.size, unhide X2, ((unhide HB4).block b hz).trans (unhide SR _), (unhide SB _).trans ((unhide HB4).mono (by omega))⟩
set_option maxRecDepth 100000 in
set_option maxHeartbeats 800000 in
theorem valid_any (s : ByteArray) (w : World) (hv : Vars w) (hs : s.size ≤ 1000000) :
    Calls Tryd.prog 13 #[.string s] w fun e w' => e = .returned (.bool (vd s.toList)) ∧ Below w.heap.size w w' := by
  have HV := hide hv
  have hvl := hv.lt
  clear hv
  go_enter Tryd.func13, Tryd.ntmps13
  go_wp2_with fail
  go_loopg [6] (s.size) (fun gk _ wr => ∃ (s' : ByteArray) (k : Nat) (wd : Bool), gk = s'.size ∧ Rd wr w.heap.size s' k wd ∧ Below w.heap.size w wr ∧ k + s'.size ≤ s.size ∧ rd (s'.size + 1) s'.toList k wd = vd s.toList)
  case atStart =>
    refine ⟨s, 0, true, rfl, ?_, ?_, by omega, by rw [vd, toL_len]⟩
    · exact heap_alloc_new' _ _ rfl
    · exact (Below.refl _ _).alloc (Nat.le_refl _) _
  case round =>
    obtain ⟨s', k, wd, rfl, hr, hb, hk, he⟩ := hrel
    have hl := nx_len s'.toList k wd
    have HE := hide he
    rw [rd_nx] at HE
    have HS := hide (step_any name_any w.heap.size k s' wd wr ((unhide HV).below (by omega) hb) (by omega) (by omega) (by omega) hr)
    have HB := hide hb
    clear he hr hb
    generalize nx s'.toList k wd = x at *
    obtain ⟨ok, l1, k1, wd1⟩ := x
    simp only at hl
    cases ok with
    | true =>
      go_wp2_with fail
      refine (unhide HS).mono ?_
      rintro e w1 ⟨rfl, s1, h1, hr1, hb1⟩
      have H1 := hide h1
      have R1 := hide hr1
      have B1 := hide hb1
      clear h1 hr1 hb1
      go_wp2_with fail
      have hz := congrArg List.length (unhide H1)
      rw [toL_len] at hz
      have hl2 := hl.2.1 (by trivial)
      have hl3 := hl.2.2
      rw [toL_len] at hl2 hl3
      go_roundg s1.size
      case measure => omega
      case rel =>
        refine ⟨s1, k1, wd1, rfl, unhide R1, (unhide HB).trans (unhide B1), by omega, ?_⟩
        have := unhide HE
        rw [if_pos (by trivial)] at this
        rw [unhide H1, ← this]
        exact rd_fuel _ _ _ _ _ (by omega) (by omega)
    | false =>
      go_wp2_with fail
      refine (unhide HS).mono ?_
      rintro e w1 ⟨rfl, s1, h1, hr1, hb1⟩
      have H1 := hide h1
      have R1 := hide hr1
      have B1 := hide hb1
      clear h1 hr1 hb1
      go_wp2_with (first | (go_at_call 33; refine (done_any w.heap.size k1 s1 wd1 w1 (unhide R1)).mono ?_; rintro e w' ⟨rfl, hw⟩; rw [hw]; clear hw))
      go_ret
      have := unhide HE
      rw [if_neg (by simp)] at this
      exact ⟨ret_bool (by rw [unhide H1, ← this]; rfl), (unhide HB).trans (unhide B1)⟩
end Go.Proofs.YtpmpjbnnjdpbnaaDoor
