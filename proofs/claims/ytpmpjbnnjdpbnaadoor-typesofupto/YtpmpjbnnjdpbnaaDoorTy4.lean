/- Contracts of the reader's step and of Valid. -/
import Derived.Test.YtpmpjbnnjdpbnaaDoorTy3
import Derived.Deep.LoopGhost
namespace Go.Proofs.YtpmpjbnnjdpbnaaDoor
open Go.RowKit Go.Proofs.YtpmpjbnnjdpbnaaDoor.Lx

theorem step_w (NC : NameC) (b k : Nat) (s : ByteArray) (w : World) (hv : Vars w) (hb : 3 ≤ b) (hs : s.size ≤ 1000000) (hk : k < 10000000) (h : Rd w b s k true) :
    Calls Tryd.prog 32 #[.pointer (some ⟨b, 0, none⟩)] w (NxPost b w (nx s.toList k true)) := by
  have HB := hide (begin_any NC b k s w hv hb hs hk h)
  have c2 : w.cell? ⟨b, 2, none⟩ = some (.bool true) := blk_cell h 2
  clear h hv
  go_enter Tryd.func32, Tryd.ntmps32
  go_wp2_with fail
  refine (unhide HB).mono ?_
  rintro e w1 ⟨rfl, h1⟩
  have H1 := hide h1
  clear h1
  go_wp2_with fail
  go_ret
  exact ⟨rfl, unhide H1⟩
theorem step_0 (b : Nat) (s : ByteArray) (w : World) (h : Rd w b s 0 false) :
    Calls Tryd.prog 32 #[.pointer (some ⟨b, 0, none⟩)] w (NxPost b w (false, s.toList, 0, false)) := by
  have c1 : w.cell? ⟨b, 1, none⟩ = some (.int .i64 0) := blk_cell h 1
  have c2 : w.cell? ⟨b, 2, none⟩ = some (.bool false) := blk_cell h 2
  have HR := hide h
  clear h
  go_enter Tryd.func32, Tryd.ntmps32
  go_wp2_with fail
  go_ret
  exact ⟨rfl, s, rfl, unhide HR, Below.refl _ _⟩
theorem step_c (b k : Nat) (s : ByteArray) (w : World) (r : List UInt8) (h : Rd w b s (k + 1) false) (hr : cut [44] s.toList = some r) :
    Calls Tryd.prog 32 #[.pointer (some ⟨b, 0, none⟩)] w (NxPost b w (true, r, k + 1, true)) := by
  have c1 : w.cell? ⟨b, 1, none⟩ = some (.int .i64 ((k : Int) + 1)) := blk_cell h 1
  have c2 : w.cell? ⟨b, 2, none⟩ = some (.bool false) := blk_cell h 2
  have hk : (((k : Int) + 1) == 0) = false := beq_eq_false_iff_ne.2 (by omega)
  have HH := hide (skip_hit b (k + 1) s false w [44] r h hr)
  clear h hr
  go_enter Tryd.func32, Tryd.ntmps32
  go_wp2_with fail
  refine (unhide HH).mono ?_
  rintro e w1 ⟨rfl, s1, h1, hr1, hb1⟩
  have H1 := hide h1
  have R1 := hide hr1
  have B1 := hide hb1
  have f2 := blk_frozen hr1 2
  have d2 : w1.cell? ⟨b, 2, none⟩ = some (.bool false) := blk_cell hr1 2
  clear h1 hr1 hb1
  go_wp2_with fail
  go_ret
  exact ⟨rfl, s1, unhide H1, rd_set2 (unhide R1) true, (unhide B1).trans (below_set 2 _)⟩
theorem step_p (b k : Nat) (s : ByteArray) (w : World) (r : List UInt8) (hk : k < 10000000) (h : Rd w b s (k + 1) false) (hc : cut [44] s.toList = none) (hr : cut [41] s.toList = some r) :
    Calls Tryd.prog 32 #[.pointer (some ⟨b, 0, none⟩)] w (NxPost b w (true, r, k, !okR r)) := by
  have c1 : w.cell? ⟨b, 1, none⟩ = some (.int .i64 ((k : Int) + 1)) := blk_cell h 1
  have c2 : w.cell? ⟨b, 2, none⟩ = some (.bool false) := blk_cell h 2
  have hk : (((k : Int) + 1) == 0) = false := beq_eq_false_iff_ne.2 (by omega)
  have HH := hide (skip_miss b (k + 1) s false w [44] h hc)
  have HC := hide (closing_hit b k s false w r h (by assumption) hr)
  clear h hr hc
  go_enter Tryd.func32, Tryd.ntmps32
  go_wp2_with fail
  refine (unhide HH).mono ?_
  rintro e w1 ⟨rfl, rfl⟩
  go_wp2_with fail
  refine (unhide HC).mono ?_
  rintro e w1 ⟨rfl, h1⟩
  have H1 := hide h1
  clear h1
  go_wp2_with fail
  go_ret
  exact ⟨rfl, unhide H1⟩
theorem step_n (b k : Nat) (s : ByteArray) (w : World) (h : Rd w b s (k + 1) false) (hc : cut [44] s.toList = none) (hr : cut [41] s.toList = none) :
    Calls Tryd.prog 32 #[.pointer (some ⟨b, 0, none⟩)] w (NxPost b w (false, s.toList, k + 1, false)) := by
  have c1 : w.cell? ⟨b, 1, none⟩ = some (.int .i64 ((k : Int) + 1)) := blk_cell h 1
  have c2 : w.cell? ⟨b, 2, none⟩ = some (.bool false) := blk_cell h 2
  have hk : (((k : Int) + 1) == 0) = false := beq_eq_false_iff_ne.2 (by omega)
  have HH := hide (skip_miss b (k + 1) s false w [44] h hc)
  have HC := hide (closing_miss b (k + 1) s false w h hr)
  have HR := hide h
  clear h hr hc
  go_enter Tryd.func32, Tryd.ntmps32
  go_wp2_with fail
  refine (unhide HH).mono ?_
  rintro e w1 ⟨rfl, rfl⟩
  go_wp2_with fail
  refine (unhide HC).mono ?_
  rintro e w1 ⟨rfl, rfl⟩
  go_wp2_with fail
  go_ret
  exact ⟨rfl, s, rfl, unhide HR, Below.refl _ _⟩
theorem step_any (NC : NameC) (b k : Nat) (s : ByteArray) (wd : Bool) (w : World) (hv : Vars w) (hb : 3 ≤ b) (hs : s.size ≤ 1000000) (hk : k < 10000000) (h : Rd w b s k wd) :
    Calls Tryd.prog 32 #[.pointer (some ⟨b, 0, none⟩)] w (NxPost b w (nx s.toList k wd)) := by
  cases wd with
  | true => exact step_w NC b k s w hv hb hs hk h
  | false =>
    unfold nx
    cases k with
    | zero => exact step_0 b s w h
    | succ k =>
      simp only
      cases hc : cut [44] s.toList with
      | some r => exact step_c b k s w r h hc
      | none =>
        simp only
        cases hr : cut [41] s.toList with
        | some r => exact step_p b k s w r (by omega) h hc hr
        | none => exact step_n b k s w h hc hr
/-- A step that goes on takes something; what is open grows no faster. -/
theorem nx_len (l : List UInt8) (k : Nat) (wd : Bool) : (nx l k wd).2.1.length ≤ l.length ∧ ((nx l k wd).1 = true → (nx l k wd).2.1.length < l.length) ∧ (nx l k wd).2.2.1 + (nx l k wd).2.1.length ≤ k + l.length := by
  obtain ⟨g1, g2, g3, g4⟩ := hd_len l
  cases wd with
  | true =>
    unfold nx
    simp only
    split
    · rename_i r hr; have := g1 r hr; exact ⟨by simp only; omega, fun _ => this, by simp only; omega⟩
    · rename_i r hr
      have := g2 r hr
      split
      · rename_i q hq
        have := congrArg List.length (cut_some.1 hq)
        simp at this
        exact ⟨by simp only; omega, fun _ => by simp only; omega, by simp only; omega⟩
      · exact ⟨by simp only; omega, fun _ => this, by simp only; omega⟩
    · rename_i r hr; have := g3 r hr; exact ⟨by simp only; omega, fun _ => this, by simp only; omega⟩
    · rename_i r hr
      have := g4 r hr
      have := nmR_len r
      split
      · exact ⟨by simp only; omega, fun _ => by simp only; omega, by simp only; omega⟩
      · exact ⟨by simp only; omega, (fun h => by cases h), by simp only; omega⟩
    · exact ⟨Nat.le_refl _, (fun h => by cases h), Nat.le_refl _⟩
  | false =>
    unfold nx
    cases k with
    | zero => exact ⟨Nat.le_refl _, (fun h => by cases h), Nat.le_refl _⟩
    | succ k =>
      simp only
      split
      · rename_i r hr
        have := congrArg List.length (cut_some.1 hr)
        simp at this
        exact ⟨by simp only; omega, fun _ => by simp only; omega, by simp only; omega⟩
      · split
        · rename_i r hr
          have := congrArg List.length (cut_some.1 hr)
          simp at this
          exact ⟨by simp only; omega, fun _ => by simp only; omega, by simp only; omega⟩
        · exact ⟨Nat.le_refl _, (fun h => by cases h), Nat.le_refl _⟩
def dn (x : List UInt8 × Nat × Bool) : Bool := x.1.isEmpty && decide (x.2.1 = 0) && !x.2.2
theorem rd_nx (n : Nat) (l : List UInt8) (k : Nat) (wd : Bool) : rd (n + 1) l k wd = if (nx l k wd).1 = true then rd n (nx l k wd).2.1 (nx l k wd).2.2.1 (nx l k wd).2.2.2 else dn (nx l k wd).2 := by
  cases wd with
  | true =>
    cases hx : hd l with
    | wrap r => simp only [rd, nx, hx, if_true]
    | base r => simp only [rd, nx, hx, if_true]
    | no => simp [rd, nx, hx, dn]
    | ptr r =>
      cases hn : isNm (nm r) with
      | true => simp only [rd, nx, hx, hn, if_true]
      | false => simp [rd, nx, hx, hn, dn]
    | func r =>
      cases hc : cut [41] r with
      | some q => simp only [rd, nx, hx, hc, if_true]
      | none => simp only [rd, nx, hx, hc, if_true]
  | false =>
    cases k with
    | zero => rw [rd]; simp [nx, dn]
    | succ k =>
      cases hc : cut [44] l with
      | some r => simp only [rd, nx, hc, if_true]
      | none =>
        cases hd : cut [41] l with
        | some r => simp only [rd, nx, hc, hd, if_true]
        | none => simp [rd, nx, hc, hd, dn]
end Go.Proofs.YtpmpjbnnjdpbnaaDoor
