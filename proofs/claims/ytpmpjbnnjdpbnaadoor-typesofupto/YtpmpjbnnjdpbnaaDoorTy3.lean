/- Contracts of the reader of package types: begin, step; Valid. -/
import Derived.Test.YtpmpjbnnjdpbnaaDoorTy2
import Derived.Test.YtpmpjbnnjdpbnaaDoorScanX
namespace Go.Proofs.YtpmpjbnnjdpbnaaDoor
open Go.RowKit Go.Proofs.YtpmpjbnnjdpbnaaDoor.Lx

/-- One step of the reader. -/
def nx (l : List UInt8) (k : Nat) : Bool → Bool × List UInt8 × Nat × Bool
  | true => match hd l with
    | .wrap r => (true, r, k, true)
    | .func r => match cut [41] r with
      | some q => (true, q, k, !okR q)
      | none => (true, r, k + 1, true)
    | .base r => (true, r, k, false)
    | .ptr r => if isNm (nm r) = true then (true, nmR r, k, false) else (false, nmR r, k, true)
    | .no => (false, l, k, true)
  | false => match k with
    | 0 => (false, l, 0, false)
    | k + 1 => match cut [44] l with
      | some r => (true, r, k + 1, true)
      | none => match cut [41] l with
        | some r => (true, r, k, !okR r)
        | none => (false, l, k + 1, false)
def NxPost (b : Nat) (w : World) (x : Bool × List UInt8 × Nat × Bool) (e : Ending) (w' : World) : Prop :=
  e = .returned (.bool x.1) ∧ ∃ s', s'.toList = x.2.1 ∧ Rd w' b s' x.2.2.1 x.2.2.2 ∧ Below b w w'
/-- The contract of the reader's name. -/
def NameC : Prop := ∀ (b k : Nat) (s : ByteArray) (w : World), Vars w → 3 ≤ b → s.size ≤ 1000000 → Rd w b s k true →
  Calls Tryd.prog 48 #[.pointer (some ⟨b, 0, none⟩)] w fun e w' => e = .returned (.bool (isNm (nm s.toList))) ∧ ∃ s', s'.toList = nmR s.toList ∧ Rd w' b s' k true ∧ Below b w w'
theorem rd_set1 {w : World} {b : Nat} {s : ByteArray} {k : Nat} {wd : Bool} (h : Rd w b s k wd) (n : Nat) : Rd (w.setCell ⟨b, 1, none⟩ (.int .i64 n)) b s n wd := setCell_blk h 1 _
theorem rd_set2 {w : World} {b : Nat} {s : ByteArray} {k : Nat} {wd : Bool} (h : Rd w b s k wd) (v : Bool) : Rd (w.setCell ⟨b, 2, none⟩ (.bool v)) b s k v := setCell_blk h 2 _
set_option maxRecDepth 100000 in
set_option maxHeartbeats 400000 in
theorem begin_L (b k : Nat) (s : ByteArray) (w : World) (h : Rd w b s k true) (r : List UInt8) (hl : s.toList = [91, 93] ++ r) :
    Calls Tryd.prog 41 #[.pointer (some ⟨b, 0, none⟩)] w (NxPost b w (true, r, k, true)) := by
  have HR := hide h
  clear h
  have HH := hide (skip_hit b k s true w [91, 93] r (unhide HR) (cut_some.2 hl))
  clear hl
  go_enter Tryd.func41, Tryd.ntmps41
  go_wp2_with fail
  refine (unhide HH).mono ?_
  rintro e w1 ⟨rfl, s1, h1, hr1, hb1⟩
  have H1 := hide h1
  have R1 := hide hr1
  have B1 := hide hb1
  have c1 : w1.cell? ⟨b, 1, none⟩ = some (.int .i64 k) := blk_cell hr1 1
  have f1 := blk_frozen hr1 1
  have f2 := blk_frozen hr1 2
  have c2 : w1.cell? ⟨b, 2, none⟩ = some (.bool true) := blk_cell hr1 2
  clear h1 hr1 hb1
  go_wp2_with fail
  go_ret
  exact ⟨rfl, s1, unhide H1, unhide R1, unhide B1⟩
set_option maxRecDepth 100000 in
set_option maxHeartbeats 400000 in
theorem begin_C (b k : Nat) (s : ByteArray) (w : World) (h : Rd w b s k true) (r : List UInt8) (hl : s.toList = [99, 104, 97, 110, 32] ++ r) :
    Calls Tryd.prog 41 #[.pointer (some ⟨b, 0, none⟩)] w (NxPost b w (true, r, k, true)) := by
  have HR := hide h
  clear h
  have ML := hide (skip_miss b k s true w [91, 93] (unhide HR) (by rw [hl]; exact cutx (p := tL) (q := tC) r (by decide) (by decide) (by decide)))
  have HH := hide (skip_hit b k s true w [99, 104, 97, 110, 32] r (unhide HR) (cut_some.2 hl))
  clear hl
  go_enter Tryd.func41, Tryd.ntmps41
  go_wp2_with fail
  refine (unhide ML).mono ?_
  rintro e w' ⟨rfl, rfl⟩
  go_wp2_with fail
  refine (unhide HH).mono ?_
  rintro e w1 ⟨rfl, s1, h1, hr1, hb1⟩
  have H1 := hide h1
  have R1 := hide hr1
  have B1 := hide hb1
  have c1 : w1.cell? ⟨b, 1, none⟩ = some (.int .i64 k) := blk_cell hr1 1
  have f1 := blk_frozen hr1 1
  have f2 := blk_frozen hr1 2
  have c2 : w1.cell? ⟨b, 2, none⟩ = some (.bool true) := blk_cell hr1 2
  clear h1 hr1 hb1
  go_wp2_with fail
  go_ret
  exact ⟨rfl, s1, unhide H1, unhide R1, unhide B1⟩
set_option maxRecDepth 100000 in
set_option maxHeartbeats 400000 in
theorem begin_I (b k : Nat) (s : ByteArray) (w : World) (h : Rd w b s k true) (r : List UInt8) (hl : s.toList = [105, 110, 116] ++ r) :
    Calls Tryd.prog 41 #[.pointer (some ⟨b, 0, none⟩)] w (NxPost b w (true, r, k, false)) := by
  have HR := hide h
  clear h
  have ML := hide (skip_miss b k s true w [91, 93] (unhide HR) (by rw [hl]; exact cutx (p := tL) (q := tI) r (by decide) (by decide) (by decide)))
  have MC := hide (skip_miss b k s true w [99, 104, 97, 110, 32] (unhide HR) (by rw [hl]; exact cutx (p := tC) (q := tI) r (by decide) (by decide) (by decide)))
  have MF := hide (skip_miss b k s true w [102, 117, 110, 99, 40] (unhide HR) (by rw [hl]; exact cutx (p := tF) (q := tI) r (by decide) (by decide) (by decide)))
  have HH := hide (skip_hit b k s true w [105, 110, 116] r (unhide HR) (cut_some.2 hl))
  clear hl
  go_enter Tryd.func41, Tryd.ntmps41
  go_wp2_with fail
  refine (unhide ML).mono ?_
  rintro e w' ⟨rfl, rfl⟩
  go_wp2_with fail
  refine (unhide MC).mono ?_
  rintro e w' ⟨rfl, rfl⟩
  go_wp2_with fail
  refine (unhide MF).mono ?_
  rintro e w' ⟨rfl, rfl⟩
  go_wp2_with fail
  refine (unhide HH).mono ?_
  rintro e w1 ⟨rfl, s1, h1, hr1, hb1⟩
  have H1 := hide h1
  have R1 := hide hr1
  have B1 := hide hb1
  have c1 : w1.cell? ⟨b, 1, none⟩ = some (.int .i64 k) := blk_cell hr1 1
  have f1 := blk_frozen hr1 1
  have f2 := blk_frozen hr1 2
  have c2 : w1.cell? ⟨b, 2, none⟩ = some (.bool true) := blk_cell hr1 2
  clear h1 hr1 hb1
  go_wp2_with fail
  go_ret
  exact ⟨rfl, s1, unhide H1, rd_set2 (unhide R1) false, (unhide B1).trans (below_set 2 _)⟩
set_option maxRecDepth 100000 in
set_option maxHeartbeats 400000 in
theorem begin_B (b k : Nat) (s : ByteArray) (w : World) (h : Rd w b s k true) (r : List UInt8) (hl : s.toList = [98, 111, 111, 108] ++ r) :
    Calls Tryd.prog 41 #[.pointer (some ⟨b, 0, none⟩)] w (NxPost b w (true, r, k, false)) := by
  have HR := hide h
  clear h
  have ML := hide (skip_miss b k s true w [91, 93] (unhide HR) (by rw [hl]; exact cutx (p := tL) (q := tB) r (by decide) (by decide) (by decide)))
  have MC := hide (skip_miss b k s true w [99, 104, 97, 110, 32] (unhide HR) (by rw [hl]; exact cutx (p := tC) (q := tB) r (by decide) (by decide) (by decide)))
  have MF := hide (skip_miss b k s true w [102, 117, 110, 99, 40] (unhide HR) (by rw [hl]; exact cutx (p := tF) (q := tB) r (by decide) (by decide) (by decide)))
  have MI := hide (skip_miss b k s true w [105, 110, 116] (unhide HR) (by rw [hl]; exact cutx (p := tI) (q := tB) r (by decide) (by decide) (by decide)))
  have HH := hide (skip_hit b k s true w [98, 111, 111, 108] r (unhide HR) (cut_some.2 hl))
  clear hl
  go_enter Tryd.func41, Tryd.ntmps41
  go_wp2_with fail
  refine (unhide ML).mono ?_
  rintro e w' ⟨rfl, rfl⟩
  go_wp2_with fail
  refine (unhide MC).mono ?_
  rintro e w' ⟨rfl, rfl⟩
  go_wp2_with fail
  refine (unhide MF).mono ?_
  rintro e w' ⟨rfl, rfl⟩
  go_wp2_with fail
  refine (unhide MI).mono ?_
  rintro e w' ⟨rfl, rfl⟩
  go_wp2_with fail
  refine (unhide HH).mono ?_
  rintro e w1 ⟨rfl, s1, h1, hr1, hb1⟩
  have H1 := hide h1
  have R1 := hide hr1
  have B1 := hide hb1
  have c1 : w1.cell? ⟨b, 1, none⟩ = some (.int .i64 k) := blk_cell hr1 1
  have f1 := blk_frozen hr1 1
  have f2 := blk_frozen hr1 2
  have c2 : w1.cell? ⟨b, 2, none⟩ = some (.bool true) := blk_cell hr1 2
  clear h1 hr1 hb1
  go_wp2_with fail
  go_ret
  exact ⟨rfl, s1, unhide H1, rd_set2 (unhide R1) false, (unhide B1).trans (below_set 2 _)⟩
set_option maxRecDepth 100000 in
set_option maxHeartbeats 400000 in
theorem begin_S (b k : Nat) (s : ByteArray) (w : World) (h : Rd w b s k true) (r : List UInt8) (hl : s.toList = [115, 116, 114, 105, 110, 103] ++ r) :
    Calls Tryd.prog 41 #[.pointer (some ⟨b, 0, none⟩)] w (NxPost b w (true, r, k, false)) := by
  have HR := hide h
  clear h
  have ML := hide (skip_miss b k s true w [91, 93] (unhide HR) (by rw [hl]; exact cutx (p := tL) (q := tS) r (by decide) (by decide) (by decide)))
  have MC := hide (skip_miss b k s true w [99, 104, 97, 110, 32] (unhide HR) (by rw [hl]; exact cutx (p := tC) (q := tS) r (by decide) (by decide) (by decide)))
  have MF := hide (skip_miss b k s true w [102, 117, 110, 99, 40] (unhide HR) (by rw [hl]; exact cutx (p := tF) (q := tS) r (by decide) (by decide) (by decide)))
  have MI := hide (skip_miss b k s true w [105, 110, 116] (unhide HR) (by rw [hl]; exact cutx (p := tI) (q := tS) r (by decide) (by decide) (by decide)))
  have MB := hide (skip_miss b k s true w [98, 111, 111, 108] (unhide HR) (by rw [hl]; exact cutx (p := tB) (q := tS) r (by decide) (by decide) (by decide)))
  have HH := hide (skip_hit b k s true w [115, 116, 114, 105, 110, 103] r (unhide HR) (cut_some.2 hl))
  clear hl
  go_enter Tryd.func41, Tryd.ntmps41
  go_wp2_with fail
  refine (unhide ML).mono ?_
  rintro e w' ⟨rfl, rfl⟩
  go_wp2_with fail
  refine (unhide MC).mono ?_
  rintro e w' ⟨rfl, rfl⟩
  go_wp2_with fail
  refine (unhide MF).mono ?_
  rintro e w' ⟨rfl, rfl⟩
  go_wp2_with fail
  refine (unhide MI).mono ?_
  rintro e w' ⟨rfl, rfl⟩
  go_wp2_with fail
  refine (unhide MB).mono ?_
  rintro e w' ⟨rfl, rfl⟩
  go_wp2_with fail
  refine (unhide HH).mono ?_
  rintro e w1 ⟨rfl, s1, h1, hr1, hb1⟩
  have H1 := hide h1
  have R1 := hide hr1
  have B1 := hide hb1
  have c1 : w1.cell? ⟨b, 1, none⟩ = some (.int .i64 k) := blk_cell hr1 1
  have f1 := blk_frozen hr1 1
  have f2 := blk_frozen hr1 2
  have c2 : w1.cell? ⟨b, 2, none⟩ = some (.bool true) := blk_cell hr1 2
  clear h1 hr1 hb1
  go_wp2_with fail
  go_ret
  exact ⟨rfl, s1, unhide H1, rd_set2 (unhide R1) false, (unhide B1).trans (below_set 2 _)⟩
set_option maxRecDepth 100000 in
set_option maxHeartbeats 400000 in
theorem begin_F0 (b k : Nat) (s : ByteArray) (w : World) (h : Rd w b s k true) (r q : List UInt8) (hl : s.toList = [102, 117, 110, 99, 40] ++ r) (hk : k < 10000000) (hq : cut [41] r = some q) :
    Calls Tryd.prog 41 #[.pointer (some ⟨b, 0, none⟩)] w (NxPost b w (true, q, k, !okR q)) := by
  have HR := hide h
  clear h
  have ML := hide (skip_miss b k s true w [91, 93] (unhide HR) (by rw [hl]; exact cutx (p := tL) (q := tF) r (by decide) (by decide) (by decide)))
  have MC := hide (skip_miss b k s true w [99, 104, 97, 110, 32] (unhide HR) (by rw [hl]; exact cutx (p := tC) (q := tF) r (by decide) (by decide) (by decide)))
  have HH := hide (skip_hit b k s true w [102, 117, 110, 99, 40] r (unhide HR) (cut_some.2 hl))
  have HQ := hide hq
  clear hl hq
  go_enter Tryd.func41, Tryd.ntmps41
  go_wp2_with fail
  refine (unhide ML).mono ?_
  rintro e w' ⟨rfl, rfl⟩
  go_wp2_with fail
  refine (unhide MC).mono ?_
  rintro e w' ⟨rfl, rfl⟩
  go_wp2_with fail
  refine (unhide HH).mono ?_
  rintro e w1 ⟨rfl, s1, h1, hr1, hb1⟩
  have H1 := hide h1
  have R1 := hide hr1
  have B1 := hide hb1
  have c1 : w1.cell? ⟨b, 1, none⟩ = some (.int .i64 k) := blk_cell hr1 1
  have f1 := blk_frozen hr1 1
  have f2 := blk_frozen hr1 2
  have c2 : w1.cell? ⟨b, 2, none⟩ = some (.bool true) := blk_cell hr1 2
  clear h1 hr1 hb1
  go_wp2_with fail
  refine (closing_hit b k s1 true _ q (rd_set1 (unhide R1) (k + 1)) hk (by rw [unhide H1]; exact unhide HQ)).mono ?_
  rintro e w3 ⟨rfl, s3, h3, hr3, hb3⟩
  have H3 := hide h3
  have R3 := hide hr3
  have B3 := hide hb3
  clear h3 hr3 hb3
  go_wp2_with fail
  go_ret
  exact ⟨rfl, s3, unhide H3, unhide R3, ((unhide B1).trans (below_set 1 _)).trans (unhide B3)⟩
set_option maxRecDepth 100000 in
set_option maxHeartbeats 400000 in
theorem begin_F1 (b k : Nat) (s : ByteArray) (w : World) (h : Rd w b s k true) (r : List UInt8) (hl : s.toList = [102, 117, 110, 99, 40] ++ r) (hk : k < 10000000) (hq : cut [41] r = none) :
    Calls Tryd.prog 41 #[.pointer (some ⟨b, 0, none⟩)] w (NxPost b w (true, r, k + 1, true)) := by
  have HR := hide h
  clear h
  have ML := hide (skip_miss b k s true w [91, 93] (unhide HR) (by rw [hl]; exact cutx (p := tL) (q := tF) r (by decide) (by decide) (by decide)))
  have MC := hide (skip_miss b k s true w [99, 104, 97, 110, 32] (unhide HR) (by rw [hl]; exact cutx (p := tC) (q := tF) r (by decide) (by decide) (by decide)))
  have HH := hide (skip_hit b k s true w [102, 117, 110, 99, 40] r (unhide HR) (cut_some.2 hl))
  have HQ := hide hq
  clear hl hq
  go_enter Tryd.func41, Tryd.ntmps41
  go_wp2_with fail
  refine (unhide ML).mono ?_
  rintro e w' ⟨rfl, rfl⟩
  go_wp2_with fail
  refine (unhide MC).mono ?_
  rintro e w' ⟨rfl, rfl⟩
  go_wp2_with fail
  refine (unhide HH).mono ?_
  rintro e w1 ⟨rfl, s1, h1, hr1, hb1⟩
  have H1 := hide h1
  have R1 := hide hr1
  have B1 := hide hb1
  have c1 : w1.cell? ⟨b, 1, none⟩ = some (.int .i64 k) := blk_cell hr1 1
  have f1 := blk_frozen hr1 1
  have f2 := blk_frozen hr1 2
  have c2 : w1.cell? ⟨b, 2, none⟩ = some (.bool true) := blk_cell hr1 2
  clear h1 hr1 hb1
  go_wp2_with fail
  refine (closing_miss b (k + 1) s1 true _ (rd_set1 (unhide R1) (k + 1)) (by rw [unhide H1]; exact unhide HQ)).mono ?_
  rintro e w3 ⟨rfl, rfl⟩
  go_wp2_with fail
  go_ret
  exact ⟨rfl, s1, unhide H1, rd_set1 (unhide R1) (k + 1), (unhide B1).trans (below_set 1 _)⟩
set_option maxRecDepth 100000 in
set_option maxHeartbeats 400000 in
theorem begin_P1 (b k : Nat) (s : ByteArray) (w : World) (h : Rd w b s k true) (NC : NameC) (hv : Vars w) (hb3 : 3 ≤ b) (hs : s.size ≤ 1000000) (r : List UInt8) (hl : s.toList = [42] ++ r) (hn : isNm (nm r) = true) :
    Calls Tryd.prog 41 #[.pointer (some ⟨b, 0, none⟩)] w (NxPost b w (true, nmR r, k, false)) := by
  have HR := hide h
  clear h
  have ML := hide (skip_miss b k s true w [91, 93] (unhide HR) (by rw [hl]; exact cutx (p := tL) (q := tP) r (by decide) (by decide) (by decide)))
  have MC := hide (skip_miss b k s true w [99, 104, 97, 110, 32] (unhide HR) (by rw [hl]; exact cutx (p := tC) (q := tP) r (by decide) (by decide) (by decide)))
  have MF := hide (skip_miss b k s true w [102, 117, 110, 99, 40] (unhide HR) (by rw [hl]; exact cutx (p := tF) (q := tP) r (by decide) (by decide) (by decide)))
  have MI := hide (skip_miss b k s true w [105, 110, 116] (unhide HR) (by rw [hl]; exact cutx (p := tI) (q := tP) r (by decide) (by decide) (by decide)))
  have MB := hide (skip_miss b k s true w [98, 111, 111, 108] (unhide HR) (by rw [hl]; exact cutx (p := tB) (q := tP) r (by decide) (by decide) (by decide)))
  have MS := hide (skip_miss b k s true w [115, 116, 114, 105, 110, 103] (unhide HR) (by rw [hl]; exact cutx (p := tS) (q := tP) r (by decide) (by decide) (by decide)))
  have HH := hide (skip_hit b k s true w [42] r (unhide HR) (cut_some.2 hl))
  have HN := hide hn
  have HV := hide hv
  have HL : Hid (r.length ≤ 1000000) := by
    have := congrArg List.length hl
    rw [toL_len, List.length_append] at this
    show r.length ≤ 1000000
    omega
  clear hl hn hv
  go_enter Tryd.func41, Tryd.ntmps41
  go_wp2_with fail
  refine (unhide ML).mono ?_
  rintro e w' ⟨rfl, rfl⟩
  go_wp2_with fail
  refine (unhide MC).mono ?_
  rintro e w' ⟨rfl, rfl⟩
  go_wp2_with fail
  refine (unhide MF).mono ?_
  rintro e w' ⟨rfl, rfl⟩
  go_wp2_with fail
  refine (unhide MI).mono ?_
  rintro e w' ⟨rfl, rfl⟩
  go_wp2_with fail
  refine (unhide MB).mono ?_
  rintro e w' ⟨rfl, rfl⟩
  go_wp2_with fail
  refine (unhide MS).mono ?_
  rintro e w' ⟨rfl, rfl⟩
  go_wp2_with fail
  refine (unhide HH).mono ?_
  rintro e w1 ⟨rfl, s1, h1, hr1, hb1⟩
  have H1 := hide h1
  have R1 := hide hr1
  have B1 := hide hb1
  have c1 : w1.cell? ⟨b, 1, none⟩ = some (.int .i64 k) := blk_cell hr1 1
  have f1 := blk_frozen hr1 1
  have f2 := blk_frozen hr1 2
  have c2 : w1.cell? ⟨b, 2, none⟩ = some (.bool true) := blk_cell hr1 2
  clear h1 hr1 hb1
  go_wp2_with fail
  refine (NC b k s1 w1 ((unhide HV).below hb3 (unhide B1)) hb3 (by rw [← toL_len, unhide H1]; exact unhide HL) (unhide R1)).mono ?_
  rintro e w3 ⟨rfl, s3, h3, hr3, hb3'⟩
  rw [unhide H1] at h3
  rw [unhide H1, unhide HN]
  have H3 := hide h3
  have R3 := hide hr3
  have B3 := hide hb3'
  have g2 := blk_frozen hr3 2
  have d2 : w3.cell? ⟨b, 2, none⟩ = some (.bool true) := blk_cell hr3 2
  clear h3 hr3 hb3'
  go_wp2_with fail
  go_ret
  exact ⟨rfl, s3, unhide H3, rd_set2 (unhide R3) false, ((unhide B1).trans (unhide B3)).trans (below_set 2 _)⟩
set_option maxRecDepth 100000 in
set_option maxHeartbeats 400000 in
theorem begin_P0 (b k : Nat) (s : ByteArray) (w : World) (h : Rd w b s k true) (NC : NameC) (hv : Vars w) (hb3 : 3 ≤ b) (hs : s.size ≤ 1000000) (r : List UInt8) (hl : s.toList = [42] ++ r) (hn : isNm (nm r) = false) :
    Calls Tryd.prog 41 #[.pointer (some ⟨b, 0, none⟩)] w (NxPost b w (false, nmR r, k, true)) := by
  have HR := hide h
  clear h
  have ML := hide (skip_miss b k s true w [91, 93] (unhide HR) (by rw [hl]; exact cutx (p := tL) (q := tP) r (by decide) (by decide) (by decide)))
  have MC := hide (skip_miss b k s true w [99, 104, 97, 110, 32] (unhide HR) (by rw [hl]; exact cutx (p := tC) (q := tP) r (by decide) (by decide) (by decide)))
  have MF := hide (skip_miss b k s true w [102, 117, 110, 99, 40] (unhide HR) (by rw [hl]; exact cutx (p := tF) (q := tP) r (by decide) (by decide) (by decide)))
  have MI := hide (skip_miss b k s true w [105, 110, 116] (unhide HR) (by rw [hl]; exact cutx (p := tI) (q := tP) r (by decide) (by decide) (by decide)))
  have MB := hide (skip_miss b k s true w [98, 111, 111, 108] (unhide HR) (by rw [hl]; exact cutx (p := tB) (q := tP) r (by decide) (by decide) (by decide)))
  have MS := hide (skip_miss b k s true w [115, 116, 114, 105, 110, 103] (unhide HR) (by rw [hl]; exact cutx (p := tS) (q := tP) r (by decide) (by decide) (by decide)))
  have HH := hide (skip_hit b k s true w [42] r (unhide HR) (cut_some.2 hl))
  have HN := hide hn
  have HV := hide hv
  have HL : Hid (r.length ≤ 1000000) := by
    have := congrArg List.length hl
    rw [toL_len, List.length_append] at this
    show r.length ≤ 1000000
    omega
  clear hl hn hv
  go_enter Tryd.func41, Tryd.ntmps41
  go_wp2_with fail
  refine (unhide ML).mono ?_
  rintro e w' ⟨rfl, rfl⟩
  go_wp2_with fail
  refine (unhide MC).mono ?_
  rintro e w' ⟨rfl, rfl⟩
  go_wp2_with fail
  refine (unhide MF).mono ?_
  rintro e w' ⟨rfl, rfl⟩
  go_wp2_with fail
  refine (unhide MI).mono ?_
  rintro e w' ⟨rfl, rfl⟩
  go_wp2_with fail
  refine (unhide MB).mono ?_
  rintro e w' ⟨rfl, rfl⟩
  go_wp2_with fail
  refine (unhide MS).mono ?_
  rintro e w' ⟨rfl, rfl⟩
  go_wp2_with fail
  refine (unhide HH).mono ?_
  rintro e w1 ⟨rfl, s1, h1, hr1, hb1⟩
  have H1 := hide h1
  have R1 := hide hr1
  have B1 := hide hb1
  have c1 : w1.cell? ⟨b, 1, none⟩ = some (.int .i64 k) := blk_cell hr1 1
  have f1 := blk_frozen hr1 1
  have f2 := blk_frozen hr1 2
  have c2 : w1.cell? ⟨b, 2, none⟩ = some (.bool true) := blk_cell hr1 2
  clear h1 hr1 hb1
  go_wp2_with fail
  refine (NC b k s1 w1 ((unhide HV).below hb3 (unhide B1)) hb3 (by rw [← toL_len, unhide H1]; exact unhide HL) (unhide R1)).mono ?_
  rintro e w3 ⟨rfl, s3, h3, hr3, hb3'⟩
  rw [unhide H1] at h3
  rw [unhide H1, unhide HN]
  have H3 := hide h3
  have R3 := hide hr3
  have B3 := hide hb3'
  have g2 := blk_frozen hr3 2
  have d2 : w3.cell? ⟨b, 2, none⟩ = some (.bool true) := blk_cell hr3 2
  clear h3 hr3 hb3'
  go_wp2_with fail
  go_ret
  exact ⟨rfl, s3, unhide H3, unhide R3, (unhide B1).trans (unhide B3)⟩
set_option maxRecDepth 100000 in
set_option maxHeartbeats 400000 in
theorem begin_no (b k : Nat) (s : ByteArray) (w : World) (h : Rd w b s k true) (hL : cut [91, 93] s.toList = none) (hC : cut [99, 104, 97, 110, 32] s.toList = none) (hF : cut [102, 117, 110, 99, 40] s.toList = none) (hI : cut [105, 110, 116] s.toList = none) (hB : cut [98, 111, 111, 108] s.toList = none) (hS : cut [115, 116, 114, 105, 110, 103] s.toList = none) (hP : cut [42] s.toList = none) :
    Calls Tryd.prog 41 #[.pointer (some ⟨b, 0, none⟩)] w (NxPost b w (false, s.toList, k, true)) := by
  have HR := hide h
  clear h
  have ML := hide (skip_miss b k s true w [91, 93] (unhide HR) hL)
  have MC := hide (skip_miss b k s true w [99, 104, 97, 110, 32] (unhide HR) hC)
  have MF := hide (skip_miss b k s true w [102, 117, 110, 99, 40] (unhide HR) hF)
  have MI := hide (skip_miss b k s true w [105, 110, 116] (unhide HR) hI)
  have MB := hide (skip_miss b k s true w [98, 111, 111, 108] (unhide HR) hB)
  have MS := hide (skip_miss b k s true w [115, 116, 114, 105, 110, 103] (unhide HR) hS)
  have MP := hide (skip_miss b k s true w [42] (unhide HR) hP)
  clear hL hC hF hI hB hS hP
  go_enter Tryd.func41, Tryd.ntmps41
  go_wp2_with fail
  refine (unhide ML).mono ?_
  rintro e w' ⟨rfl, rfl⟩
  go_wp2_with fail
  refine (unhide MC).mono ?_
  rintro e w' ⟨rfl, rfl⟩
  go_wp2_with fail
  refine (unhide MF).mono ?_
  rintro e w' ⟨rfl, rfl⟩
  go_wp2_with fail
  refine (unhide MI).mono ?_
  rintro e w' ⟨rfl, rfl⟩
  go_wp2_with fail
  refine (unhide MB).mono ?_
  rintro e w' ⟨rfl, rfl⟩
  go_wp2_with fail
  refine (unhide MS).mono ?_
  rintro e w' ⟨rfl, rfl⟩
  go_wp2_with fail
  refine (unhide MP).mono ?_
  rintro e w' ⟨rfl, rfl⟩
  go_wp2_with fail
  go_ret
  exact ⟨rfl, s, rfl, unhide HR, Below.refl _ _⟩
theorem begin_any (NC : NameC) (b k : Nat) (s : ByteArray) (w : World) (hv : Vars w) (hb : 3 ≤ b) (hs : s.size ≤ 1000000) (hk : k < 10000000) (h : Rd w b s k true) :
    Calls Tryd.prog 41 #[.pointer (some ⟨b, 0, none⟩)] w (NxPost b w (nx s.toList k true)) := by
  have H := hd_is s.toList
  unfold nx
  generalize hd s.toList = x at H
  generalize hl : s.toList = l at H
  cases H with
  | L r => exact begin_L b k s w h r hl
  | C r => exact begin_C b k s w h r hl
  | F r =>
    simp only
    cases hq : cut [41] r with
    | some q => exact begin_F0 b k s w h r q hl hk hq
    | none => exact begin_F1 b k s w h r hl hk hq
  | I r => exact begin_I b k s w h r hl
  | B r => exact begin_B b k s w h r hl
  | S r => exact begin_S b k s w h r hl
  | P r =>
    simp only
    cases hn : isNm (nm r) with
    | true => rw [if_pos rfl]; exact begin_P1 b k s w h NC hv hb hs r hl hn
    | false => rw [if_neg (by simp)]; exact begin_P0 b k s w h NC hv hb hs r hl hn
  | no l hL hC hF hI hB hS hP =>
    simp only
    subst hl
    exact begin_no b k s w h hL hC hF hI hB hS hP
end Go.Proofs.YtpmpjbnnjdpbnaaDoor
