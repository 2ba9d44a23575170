import Derived.Test.YtheknbfbneghgaaGreatDoorScan
import Derived.Test.YtheknbfbneghgaaGreatDoorLexP
set_option maxHeartbeats 1000000
set_option maxRecDepth 100000
namespace Go.Proofs.YtheknbfbneghgaaGreatDoor
open Go.RowKit Lx
theorem tok_cells {w : World} {base : Nat} {sv : Value} {ts : List Tok} (h : w.ownsRow base 85 4 sv ts.length (yi ts)) (j : Nat) (t : Tok) (hj : ts[j]? = some t) : ∃ g cap, sv = .slice (some ⟨g, 0, none⟩) ts.length cap ∧ base ≤ g ∧ g < w.heap.size ∧
 w.cell? ⟨g, j * 4, none⟩ = some (.int .i64 t.kind) ∧ w.cell? ⟨g, j * 4 + 1, none⟩ = some (.string ⟨t.text.toArray⟩) ∧ w.cell? ⟨g, j * 4 + 2, none⟩ = some (.int .i64 t.num) ∧ w.cell? ⟨g, j * 4 + 3, none⟩ = some (.int .i64 t.pos) := by
 obtain ⟨hl, he⟩ := List.getElem?_eq_some_iff.1 hj
 obtain ⟨g, cap, rfl, hb, hg⟩ := h.form om
 refine ⟨g, cap, rfl, hb, hg, ?_⟩
 have hc := h.cells (g := g) rfl
 have hadd : ∀ j, (⟨g, 0, none⟩ : Addr).add j = ⟨g, j, none⟩ := fun j => by unfold Addr.add; split <;> simp_all
 have hx : ∀ i u, (tokCells t)[i]? = some u → w.cell? ⟨g, j * 4 + i, none⟩ = some u := fun i u hu => by
  rw [← hadd]
  refine hc _ _ ?_
  have e : yi ts = yi (ts.take j) ++ (tokCells t ++ yi (ts.drop (j + 1))) := by
   conv => lhs; rw [← List.take_append_drop j ts, List.drop_eq_getElem_cons hl, he]
   simp [yi]
  have e2 : (yi (ts.take j)).length = j * 4 := by rw [toksCells_len, List.length_take]; congr 1; omega
  have hi4 : i < (tokCells t).length := (List.getElem?_eq_some_iff.1 hu).1
  rw [e, List.getElem?_append_right om, e2, Nat.add_sub_cancel_left, List.getElem?_append_left hi4]
  exact hu
 exact ⟨hx 0 _ rfl, hx 1 _ rfl, hx 2 _ rfl, hx 3 _ rfl⟩
theorem deep_go {v v' : Int} {t : Tok} {r : List Tok} (ho : openAft v t = v') (h : ¬ (t.kind = 5 ∧ 40 < v')) : deepF v (t :: r) = deepF v' r := by
 subst ho; rw [deepF, if_neg h]
theorem deep_hit {v v' : Int} {t : Tok} {r : List Tok} (ho : openAft v t = v') (hk : t.kind = 5) (h : 40 < v') : deepF v (t :: r) = some t.pos := by
 subst ho; rw [deepF, if_pos ⟨hk, h⟩]
theorem oa_no {v : Int} {t : Tok} (hk : ¬ t.kind = 5) : openAft v t = v := by rw [openAft, if_neg hk]
theorem oa_open {v : Int} {t : Tok} (hk : t.kind = 5) (h : opens t.text = true) : openAft v t = v + 1 := by rw [openAft, if_pos hk, if_pos h]
theorem oa_close {v : Int} {t : Tok} (hk : t.kind = 5) (h : closes t.text = true) (h' : opens t.text = false) : openAft v t = max (v - 1) 0 := by rw [openAft, if_pos hk, if_neg (by simp [h']), if_pos h]
theorem oa_else {v : Int} {t : Tok} (hk : t.kind = 5) (h : closes t.text = false) (h' : opens t.text = false) : openAft v t = v := by rw [openAft, if_pos hk, if_neg (by simp [h']), if_neg (by simp [h])]
def DeepPost (ts : List Tok) (w : World) (ev : Ending) (w' : World) : Prop :=
 ev = .returned (.tuple #[.int .i64 ((deepF 0 ts).getD 0), .bool (deepF 0 ts).isSome]) ∧ Below w.heap.size w w'
theorem tooDeep_any (base : Nat) (sv : Value) (ts : List Tok) (w : World) (h : w.ownsRow base 85 4 sv ts.length (yi ts)) (hn : ts.length ≤ 100000) :
 Calls Tryz.prog 17 #[sv] w (DeepPost ts w) := by
 obtain ⟨ao, cap0, hsv⟩ := own_form h
 have HSV := zm hsv
 have H := zm h
 clear h
 rw [hsv]
 clear hsv
 go_enter Tryz.func17, Tryz.ntmps17
 go_wp2
 go_loopw [4, 9] (fun o i wr => ∃ (j : Nat) (v : Int), j ≤ ts.length ∧ i = .int .i64 j ∧ o = .int .i64 v ∧ 0 ≤ v ∧ v ≤ j ∧ Below w.heap.size w wr ∧ deepF v (ts.drop j) = deepF 0 ts) (fun _ i _ => ts.length - (intOf i).toNat)
 case atStart => exact ⟨0, 0, Nat.zero_le _, rfl, rfl, Int.le_refl _, om, Below.refl _ _, rfl⟩
 case round =>
  obtain ⟨j, v, hj, rfl, rfl, hv0, hvj, hbel, hd⟩ := hrel
  have HB := zm hbel
  have HD := zm hd
  clear hbel hd
  by_cases hlt : j < ts.length
  ·obtain ⟨g, cap, e1, hg1, hg2, d0, d1, d2, d3⟩ := tok_cells (zk H) j ts[j] (List.getElem?_eq_getElem hlt)
   obtain ⟨rfl, rfl⟩ : ao = some ⟨g, 0, none⟩ ∧ cap0 = cap := by
    have := (zk HSV).symm.trans e1
    simpa using this
   clear e1
   have HDR : Hid (ts.drop j = ts[j] :: ts.drop (j + 1)) := List.drop_eq_getElem_cons hlt
   generalize ts[j] = t at *
   have k0 := ((zk HB).cell (p := ⟨g, j * 4, none⟩) hg2).trans d0
   have k1 := ((zk HB).cell (p := ⟨g, j * 4 + 1, none⟩) hg2).trans d1
   have k2 := ((zk HB).cell (p := ⟨g, j * 4 + 2, none⟩) hg2).trans d2
   have k3 := ((zk HB).cell (p := ⟨g, j * 4 + 3, none⟩) hg2).trans d3
   clear d0 d1 d2 d3
   have h4 : (j : Int) < ts.length := om
   have h5 : (0 : Int) ≤ j := om
   by_cases hk : t.kind = 5
   ·have HK := zm hk
    have n5 : (t.kind != 5) = false := by simp [hk]
    clear hk
    by_cases q40 : t.text = [40]
    ·have b40 : (t.text == [40]) = true := by simp [q40]
     have HOA : Hid (openAft v t = v + 1) := oa_open (zk HK) (by simp [opens, q40])
     clear q40
     by_cases hdp : (40 : Int) < (v + 1)
     ·have HX : Hid (deepF 0 ts = some t.pos) := by
       show _ = _
       rw [← zk HD, zk HDR, deep_hit (zk HOA) (zk HK) hdp]
      go_wp2
      go_ret2
      refine ⟨?_, ((zk HB).alloc (zk HB).size _)⟩
      rw [zk HX]; rfl
     ·have HNO : Hid (¬ (t.kind = 5 ∧ 40 < ((v + 1) : Int))) := fun e => absurd e.2 om
      go_wp2
      go_roundw
      case rel => exact ⟨j + 1, (v + 1), om, by go_num, rfl, om, om, ((zk HB).alloc (zk HB).size _), by rw [← zk HD, zk HDR, deep_go (zk HOA) (zk HNO)]⟩
      case measure => simp [intOf]; omega
    ·by_cases q91 : t.text = [91]
     ·have b40 : (t.text == [40]) = false := by simp [q91]
      have b91 : (t.text == [91]) = true := by simp [q91]
      have HOA : Hid (openAft v t = v + 1) := oa_open (zk HK) (by simp [opens, q91])
      clear q91 q40
      by_cases hdp : (40 : Int) < (v + 1)
      ·have HX : Hid (deepF 0 ts = some t.pos) := by
        show _ = _
        rw [← zk HD, zk HDR, deep_hit (zk HOA) (zk HK) hdp]
       go_wp2
       go_ret2
       refine ⟨?_, ((zk HB).alloc (zk HB).size _)⟩
       rw [zk HX]; rfl
      ·have HNO : Hid (¬ (t.kind = 5 ∧ 40 < ((v + 1) : Int))) := fun e => absurd e.2 om
       go_wp2
       go_roundw
       case rel => exact ⟨j + 1, (v + 1), om, by go_num, rfl, om, om, ((zk HB).alloc (zk HB).size _), by rw [← zk HD, zk HDR, deep_go (zk HOA) (zk HNO)]⟩
       case measure => simp [intOf]; omega
     ·by_cases q123 : t.text = [123]
      ·have b40 : (t.text == [40]) = false := by simp [q123]
       have b91 : (t.text == [91]) = false := by simp [q123]
       have b123 : (t.text == [123]) = true := by simp [q123]
       have HOA : Hid (openAft v t = v + 1) := oa_open (zk HK) (by simp [opens, q123])
       clear q123 q40 q91
       by_cases hdp : (40 : Int) < (v + 1)
       ·have HX : Hid (deepF 0 ts = some t.pos) := by
         show _ = _
         rw [← zk HD, zk HDR, deep_hit (zk HOA) (zk HK) hdp]
        go_wp2
        go_ret2
        refine ⟨?_, ((zk HB).alloc (zk HB).size _)⟩
        rw [zk HX]; rfl
       ·have HNO : Hid (¬ (t.kind = 5 ∧ 40 < ((v + 1) : Int))) := fun e => absurd e.2 om
        go_wp2
        go_roundw
        case rel => exact ⟨j + 1, (v + 1), om, by go_num, rfl, om, om, ((zk HB).alloc (zk HB).size _), by rw [← zk HD, zk HDR, deep_go (zk HOA) (zk HNO)]⟩
        case measure => simp [intOf]; omega
      ·by_cases q41 : t.text = [41]
       ·have b40 : (t.text == [40]) = false := by simp [q41]
        have b91 : (t.text == [91]) = false := by simp [q41]
        have b123 : (t.text == [123]) = false := by simp [q41]
        have b41 : (t.text == [41]) = true := by simp [q41]
        have HOC : Hid (openAft v t = max (v - 1) 0) := oa_close (zk HK) (by simp [closes, q41]) (by simp [opens, q41])
        clear q41 q40 q91 q123
        by_cases hvz : v = 0
        ·have HOA : Hid (openAft v t = 0) := by
          show _ = _
          rw [zk HOC]; omega
         have hv1 : v - 1 < 0 := om
         clear hvz
         have HNO : Hid (¬ (t.kind = 5 ∧ 40 < (0 : Int))) := fun e => absurd e.2 om
         go_wp2
         go_roundw
         case rel => exact ⟨j + 1, 0, om, by go_num, rfl, om, om, ((zk HB).alloc (zk HB).size _), by rw [← zk HD, zk HDR, deep_go (zk HOA) (zk HNO)]⟩
         case measure => simp [intOf]; omega
        ·have HOA : Hid (openAft v t = v - 1) := by
          show _ = _
          rw [zk HOC]; omega
         have hv1 : ¬ v - 1 < 0 := om
         have hv2 : 1 ≤ v := om
         clear hvz
         by_cases hdp : (40 : Int) < (v - 1)
         ·have HX : Hid (deepF 0 ts = some t.pos) := by
           show _ = _
           rw [← zk HD, zk HDR, deep_hit (zk HOA) (zk HK) hdp]
          go_wp2
          go_ret2
          refine ⟨?_, ((zk HB).alloc (zk HB).size _)⟩
          rw [zk HX]; rfl
         ·have HNO : Hid (¬ (t.kind = 5 ∧ 40 < ((v - 1) : Int))) := fun e => absurd e.2 om
          go_wp2
          go_roundw
          case rel => exact ⟨j + 1, (v - 1), om, by go_num, rfl, om, om, ((zk HB).alloc (zk HB).size _), by rw [← zk HD, zk HDR, deep_go (zk HOA) (zk HNO)]⟩
          case measure => simp [intOf]; omega
       ·by_cases q93 : t.text = [93]
        ·have b40 : (t.text == [40]) = false := by simp [q93]
         have b91 : (t.text == [91]) = false := by simp [q93]
         have b123 : (t.text == [123]) = false := by simp [q93]
         have b41 : (t.text == [41]) = false := by simp [q93]
         have b93 : (t.text == [93]) = true := by simp [q93]
         have HOC : Hid (openAft v t = max (v - 1) 0) := oa_close (zk HK) (by simp [closes, q93]) (by simp [opens, q93])
         clear q93 q40 q91 q123 q41
         by_cases hvz : v = 0
         ·have HOA : Hid (openAft v t = 0) := by
           show _ = _
           rw [zk HOC]; omega
          have hv1 : v - 1 < 0 := om
          clear hvz
          have HNO : Hid (¬ (t.kind = 5 ∧ 40 < (0 : Int))) := fun e => absurd e.2 om
          go_wp2
          go_roundw
          case rel => exact ⟨j + 1, 0, om, by go_num, rfl, om, om, ((zk HB).alloc (zk HB).size _), by rw [← zk HD, zk HDR, deep_go (zk HOA) (zk HNO)]⟩
          case measure => simp [intOf]; omega
         ·have HOA : Hid (openAft v t = v - 1) := by
           show _ = _
           rw [zk HOC]; omega
          have hv1 : ¬ v - 1 < 0 := om
          have hv2 : 1 ≤ v := om
          clear hvz
          by_cases hdp : (40 : Int) < (v - 1)
          ·have HX : Hid (deepF 0 ts = some t.pos) := by
            show _ = _
            rw [← zk HD, zk HDR, deep_hit (zk HOA) (zk HK) hdp]
           go_wp2
           go_ret2
           refine ⟨?_, ((zk HB).alloc (zk HB).size _)⟩
           rw [zk HX]; rfl
          ·have HNO : Hid (¬ (t.kind = 5 ∧ 40 < ((v - 1) : Int))) := fun e => absurd e.2 om
           go_wp2
           go_roundw
           case rel => exact ⟨j + 1, (v - 1), om, by go_num, rfl, om, om, ((zk HB).alloc (zk HB).size _), by rw [← zk HD, zk HDR, deep_go (zk HOA) (zk HNO)]⟩
           case measure => simp [intOf]; omega
        ·by_cases q125 : t.text = [125]
         ·have b40 : (t.text == [40]) = false := by simp [q125]
          have b91 : (t.text == [91]) = false := by simp [q125]
          have b123 : (t.text == [123]) = false := by simp [q125]
          have b41 : (t.text == [41]) = false := by simp [q125]
          have b93 : (t.text == [93]) = false := by simp [q125]
          have b125 : (t.text == [125]) = true := by simp [q125]
          have HOC : Hid (openAft v t = max (v - 1) 0) := oa_close (zk HK) (by simp [closes, q125]) (by simp [opens, q125])
          clear q125 q40 q91 q123 q41 q93
          by_cases hvz : v = 0
          ·have HOA : Hid (openAft v t = 0) := by
            show _ = _
            rw [zk HOC]; omega
           have hv1 : v - 1 < 0 := om
           clear hvz
           have HNO : Hid (¬ (t.kind = 5 ∧ 40 < (0 : Int))) := fun e => absurd e.2 om
           go_wp2
           go_roundw
           case rel => exact ⟨j + 1, 0, om, by go_num, rfl, om, om, ((zk HB).alloc (zk HB).size _), by rw [← zk HD, zk HDR, deep_go (zk HOA) (zk HNO)]⟩
           case measure => simp [intOf]; omega
          ·have HOA : Hid (openAft v t = v - 1) := by
            show _ = _
            rw [zk HOC]; omega
           have hv1 : ¬ v - 1 < 0 := om
           have hv2 : 1 ≤ v := om
           clear hvz
           by_cases hdp : (40 : Int) < (v - 1)
           ·have HX : Hid (deepF 0 ts = some t.pos) := by
             show _ = _
             rw [← zk HD, zk HDR, deep_hit (zk HOA) (zk HK) hdp]
            go_wp2
            go_ret2
            refine ⟨?_, ((zk HB).alloc (zk HB).size _)⟩
            rw [zk HX]; rfl
           ·have HNO : Hid (¬ (t.kind = 5 ∧ 40 < ((v - 1) : Int))) := fun e => absurd e.2 om
            go_wp2
            go_roundw
            case rel => exact ⟨j + 1, (v - 1), om, by go_num, rfl, om, om, ((zk HB).alloc (zk HB).size _), by rw [← zk HD, zk HDR, deep_go (zk HOA) (zk HNO)]⟩
            case measure => simp [intOf]; omega
         ·have b40 : (t.text == [40]) = false := by simp [q40]
          have b91 : (t.text == [91]) = false := by simp [q91]
          have b123 : (t.text == [123]) = false := by simp [q123]
          have b41 : (t.text == [41]) = false := by simp [q41]
          have b93 : (t.text == [93]) = false := by simp [q93]
          have b125 : (t.text == [125]) = false := by simp [q125]
          have HOA : Hid (openAft v t = v) := oa_else (zk HK) (by simp [closes, q41, q93, q125]) (by simp [opens, q40, q91, q123])
          clear q40 q91 q123 q41 q93 q125
          by_cases hdp : (40 : Int) < v
          ·have HX : Hid (deepF 0 ts = some t.pos) := by
            show _ = _
            rw [← zk HD, zk HDR, deep_hit (zk HOA) (zk HK) hdp]
           go_wp2
           go_ret2
           refine ⟨?_, ((zk HB).alloc (zk HB).size _)⟩
           rw [zk HX]; rfl
          ·have HNO : Hid (¬ (t.kind = 5 ∧ 40 < (v : Int))) := fun e => absurd e.2 om
           go_wp2
           go_roundw
           case rel => exact ⟨j + 1, v, om, by go_num, rfl, om, om, ((zk HB).alloc (zk HB).size _), by rw [← zk HD, zk HDR, deep_go (zk HOA) (zk HNO)]⟩
           case measure => simp [intOf]; omega
   ·have n5 : (t.kind != 5) = true := by simp [hk]
    have HOA : Hid (openAft v t = v) := oa_no hk
    have HNO : Hid (¬ (t.kind = 5 ∧ 40 < v)) := fun e => hk e.1
    clear hk
    go_wp2
    go_roundw
    case rel => exact ⟨j + 1, v, om, by go_num, rfl, om, om, ((zk HB).alloc (zk HB).size _), by rw [← zk HD, zk HDR, deep_go (zk HOA) (zk HNO)]⟩
    case measure => simp [intOf]; omega
  ·have HX : Hid (deepF 0 ts = none) := by
    show _ = _
    rw [← zk HD, List.drop_eq_nil_of_le om, deepF]
   go_wp2
   go_ret2
   refine ⟨?_, zk HB⟩
   rw [zk HX]; rfl
end Go.Proofs.YtheknbfbneghgaaGreatDoor
