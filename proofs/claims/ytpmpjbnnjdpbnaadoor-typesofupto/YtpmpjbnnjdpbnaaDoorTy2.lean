/- Contracts of the reader of package types: skip, closing, done. -/
import Derived.Test.YtpmpjbnnjdpbnaaDoorTy1
import Derived.Test.YtpmpjbnnjdpbnaaDoorState
namespace Go.Proofs.YtpmpjbnnjdpbnaaDoor
open Go.RowKit Go.Proofs.YtpmpjbnnjdpbnaaDoor.Lx

theorem arr_toL (p : List UInt8) : (⟨p.toArray⟩ : ByteArray).toList = p := by rw [mk_toL]
def Rd (w : World) (b : Nat) (s : ByteArray) (k : Nat) (wd : Bool) : Prop := w.heap[b]? = some (.cells #[.string s, .int .i64 k, .bool wd] 45)
def SkipHit (w : World) (b : Nat) (k : Nat) (wd : Bool) (r : List UInt8) (w' : World) : Prop := ∃ s' : ByteArray, s'.toList = r ∧ Rd w' b s' k wd ∧ Below b w w'
theorem below_set {b : Nat} {w : World} (j : Nat) (v : Value) : Below b w (w.setCell ⟨b, j, none⟩ v) := (Below.refl b w).setCell (p := ⟨b, j, none⟩) (Nat.le_refl _) v
set_option maxHeartbeats 400000 in
theorem skip_hit (b k : Nat) (s : ByteArray) (wd : Bool) (w : World) (p r : List UInt8) (h : Rd w b s k wd) (hp : cut p s.toList = some r) :
    Calls Tryd.prog 42 #[.pointer (some ⟨b, 0, none⟩), .string ⟨p.toArray⟩] w fun e w' => e = .returned (.bool true) ∧ SkipHit w b k wd r w' := by
  have hc0 : w.cell? ⟨b, 0, none⟩ = some (.string s) := blk_cell h 0
  have hf0 : w.frozen? ⟨b, 0, none⟩ = false := blk_frozen h 0
  obtain ⟨p1, p2, p3⟩ := cutB_some (s := s) (p := ⟨p.toArray⟩) (r := r) (by rw [arr_toL]; exact hp)
  have HS := hide (setCell_blk h 0 (.string (cutB s ⟨p.toArray⟩)))
  have H2 := hide p2
  clear hp p2 h
  go_enter Tryd.func42, Tryd.ntmps42
  go_wp2_with (first | (go_at_call 27; refine (cutPrefix27 _ _ _).mono ?_; rintro e w' ⟨rfl, rfl⟩; rw [p1]))
  go_ret
  exact ⟨rfl, cutB s ⟨p.toArray⟩, unhide H2, unhide HS, below_set 0 _⟩
set_option maxHeartbeats 400000 in
theorem skip_miss (b k : Nat) (s : ByteArray) (wd : Bool) (w : World) (p : List UInt8) (h : Rd w b s k wd) (hp : cut p s.toList = none) :
    Calls Tryd.prog 42 #[.pointer (some ⟨b, 0, none⟩), .string ⟨p.toArray⟩] w fun e w' => e = .returned (.bool false) ∧ w' = w := by
  have hc0 : w.cell? ⟨b, 0, none⟩ = some (.string s) := blk_cell h 0
  have hf0 : w.frozen? ⟨b, 0, none⟩ = false := blk_frozen h 0
  obtain ⟨p1, p2⟩ := cutB_none (s := s) (p := ⟨p.toArray⟩) (by rw [arr_toL]; exact hp)
  clear hp p2 h
  go_enter Tryd.func42, Tryd.ntmps42
  go_wp2_with (first | (go_at_call 27; refine (cutPrefix27 _ _ _).mono ?_; rintro e w' ⟨rfl, rfl⟩; rw [p1]))
  go_ret
  exact ⟨rfl, rfl⟩
theorem isEmpty_toL (s : ByteArray) : s.toList.isEmpty = decide (s.size = 0) := by
  rw [Bool.eq_iff_iff, List.isEmpty_iff_length_eq_zero, toL_len]; simp
set_option maxHeartbeats 400000 in
theorem done_any (b k : Nat) (s : ByteArray) (wd : Bool) (w : World) (h : Rd w b s k wd) :
    Calls Tryd.prog 33 #[.pointer (some ⟨b, 0, none⟩)] w fun e w' => e = .returned (.bool (s.toList.isEmpty && decide (k = 0) && !wd)) ∧ w' = w := by
  have hc0 : w.cell? ⟨b, 0, none⟩ = some (.string s) := blk_cell h 0
  have hc1 : w.cell? ⟨b, 1, none⟩ = some (.int .i64 k) := blk_cell h 1
  have hc2 : w.cell? ⟨b, 2, none⟩ = some (.bool wd) := blk_cell h 2
  clear h
  go_enter Tryd.func33, Tryd.ntmps33
  go_wp2
  all_goals
    go_ret
    exact ⟨ret_bool (by simp_all), rfl⟩
theorem ok_cons {s : ByteArray} (h : 0 < s.size) : okR s.toList = (s[0] == 44 || s[0] == 41) := by
  have e := toL_get s 0 h
  cases hl : s.toList with
  | nil => rw [hl] at e; cases e
  | cons c q => rw [hl] at e; cases e; rfl
theorem nil_of {s : ByteArray} (h : s.size = 0) : s.toList = [] := List.eq_nil_of_length_eq_zero (by rw [toL_len]; exact h)
theorem ne_of {s : ByteArray} (h : 0 < s.size) : ¬ s.toList = [] := fun e => by have := congrArg List.length e; rw [toL_len, List.length_nil] at this; omega
theorem byteq (c : UInt8) (n : UInt8) : (c = n) ↔ ((c.toNat : Int) = (n.toNat : Int)) := ⟨fun h => by rw [h], byte_of⟩
set_option maxHeartbeats 400000 in
theorem closing_miss (b k : Nat) (s : ByteArray) (wd : Bool) (w : World) (h : Rd w b s k wd) (hp : cut [41] s.toList = none) :
    Calls Tryd.prog 43 #[.pointer (some ⟨b, 0, none⟩)] w fun e w' => e = .returned (.bool false) ∧ w' = w := by
  have HM := hide (skip_miss b k s wd w [41] h hp)
  clear hp h
  go_enter Tryd.func43, Tryd.ntmps43
  go_wp2_with (first | (go_at_call 42; refine (unhide HM).mono ?_; rintro e w' ⟨rfl, rfl⟩))
  go_ret
  exact ⟨rfl, rfl⟩
set_option maxHeartbeats 400000 in
theorem closing_hit (b k : Nat) (s : ByteArray) (wd : Bool) (w : World) (r : List UInt8) (h : Rd w b s (k + 1) wd) (hk : k < 10000000) (hp : cut [41] s.toList = some r) :
    Calls Tryd.prog 43 #[.pointer (some ⟨b, 0, none⟩)] w fun e w' => e = .returned (.bool true) ∧ ∃ s', s'.toList = r ∧ Rd w' b s' k (!okR r) ∧ Below b w w' := by
  have HM := hide (skip_hit b (k + 1) s wd w [41] r h hp)
  clear hp h
  go_enter Tryd.func43, Tryd.ntmps43
  go_wp2_with fail
  refine (unhide HM).mono ?_
  rintro e w1 ⟨rfl, s1, h1, hr1, hb1⟩
  have c0 : w1.cell? ⟨b, 0, none⟩ = some (.string s1) := blk_cell hr1 0
  have c1 : w1.cell? ⟨b, 1, none⟩ = some (.int .i64 ((k : Int) + 1)) := blk_cell hr1 1
  have c2 : w1.cell? ⟨b, 2, none⟩ = some (.bool wd) := blk_cell hr1 2
  have f1 := blk_frozen hr1 1
  have f2 := blk_frozen hr1 2
  have H1 := hide h1
  have HR := hide hr1
  have HB := hide hb1
  clear h1 hr1 hb1
  have HZ : ∀ (v : Bool), v = (!okR r) → ((w1.setCell ⟨b, 1, none⟩ (.int .i64 k)).setCell ⟨b, 2, none⟩ (.bool v)).heap[b]? = some (.cells #[.string s1, .int .i64 k, .bool (!okR r)] 45) := by
    intro v e
    rw [e]
    exact setCell_blk (setCell_blk (unhide HR) 1 _) 2 _
  by_cases hz : s1.size = 0
  · have hn := nil_of hz
    have HO : Hid (false = !okR r) := by rw [← unhide H1, hn]; rfl
    go_wp2
    go_ret
    exact ⟨rfl, s1, unhide H1, HZ _ (unhide HO), ((unhide HB).trans (below_set 1 _)).trans (below_set 2 _)⟩
  · have hp : 0 < s1.size := by omega
    have hn := ne_of hp
    have hpz : (0 : Int) < s1.size := by omega
    have HO := hide (ok_cons hp)
    rw [unhide H1] at HO
    go_wp2
    all_goals
      go_ret
      exact ⟨rfl, s1, unhide H1, HZ _ (by rw [unhide HO, Bool.eq_iff_iff]; simp [hn, byteq]; try omega), ((unhide HB).trans (below_set 1 _)).trans (below_set 2 _)⟩
end Go.Proofs.YtpmpjbnnjdpbnaaDoor
