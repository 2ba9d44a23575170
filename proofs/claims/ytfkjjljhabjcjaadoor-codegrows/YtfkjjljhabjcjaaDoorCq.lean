/- Lists of flags and of numbers, held against each other. -/
import Derived.Test.YtfkjjljhabjcjaaDoorCf2
namespace Go.Proofs.YtfkjjljhabjcjaaDoor
open Go.RowKit Go.Proofs.YtfkjjljhabjcjaaDoor.Cx
theorem list_eq_of {α : Type} {l m : List α} (hl : l.length = m.length) (h : ∀ j (h1 : j < l.length) (h2 : j < m.length), l[j] = m[j]) : l = m := List.ext_getElem hl fun j h1 h2 => h j h1 h2
set_option maxRecDepth 100000 in
set_option maxHeartbeats 1000000 in
theorem flags_eq (l m : List Bool) (a1 a2 : Option Addr) (c1 c2 : Nat) (S1 S2 : Nat → Prop) (w : World) (h1 : RowOf flagC 1 S1 w l a1) (h2 : RowOf flagC 1 S2 w m a2) :
    Calls Tryd.prog 19 #[.slice a1 l.length c1, .slice a2 m.length c2] w fun e w' => ∃ r : Bool, e = .returned (.bool r) ∧ (r = true ↔ l = m) ∧ w = w' := by
  have l1 := h1.1
  have l2 := h2.1
  have H1 := hide h1
  have H2 := hide h2
  clear h1 h2
  by_cases hne : l.length = m.length
  · have hne' : ((l.length : Int) == (m.length : Int)) = true := by simp; omega
    have HE := hide hne
    clear hne
    go_enter Tryd.func19, Tryd.ntmps19
    go_wp2
    go_loopw [14] (fun t wr => ∃ i : Nat, i ≤ l.length ∧ t = .int .i64 i ∧ Hid (∀ j (h1 : j < l.length) (h2 : j < m.length), j < i → l[j] = m[j]) ∧ wr = w) (fun t _ => l.length - (intOf t).toNat)
    case atStart => exact ⟨0, by omega, rfl, hide fun j _ _ h => by omega, rfl⟩
    case round =>
      obtain ⟨i, hi, rfl, hI, rfl⟩ := hrel
      by_cases hlt : i < l.length
      · have hlt2 : i < m.length := by have := unhide HE; omega
        obtain ⟨b, off, cs, rfl, _, hc, _, hcell⟩ := (unhide H1).2 i hlt
        obtain ⟨b', off', cs', rfl, _, hc', _, hcell'⟩ := (unhide H2).2 i hlt2
        obtain rfl : cs = _ := hc
        obtain rfl : cs' = _ := hc'
        have k0 : wr.cell? ⟨b, off + i, none⟩ = some (.bool l[i]) := by have := hcell 0 _ rfl; simpa using this
        have k1 : wr.cell? ⟨b', off' + i, none⟩ = some (.bool m[i]) := by have := hcell' 0 _ rfl; simpa using this
        clear hcell hcell'
        by_cases hx : l[i] = m[i]
        · have HX : Hid (∀ j (h1 : j < l.length) (h2 : j < m.length), j < i + 1 → l[j] = m[j]) := hide fun j h1 h2 hj => by
            rcases Nat.lt_or_ge j i with h3 | h3
            · exact unhide hI j h1 h2 h3
            · obtain rfl : j = i := by omega
              exact hx
          have hx1 : (l[i] == m[i]) = true := by simp [hx]
          generalize l[i] = x at *
          generalize m[i] = y at *
          clear hx
          have hi2 : (i : Int) < m.length := by omega
          go_wp2
          go_roundw
          case rel => exact ⟨i + 1, by omega, rfl, HX, trivial⟩
          case measure => simp [intOf]; omega
        · have hx1 : (l[i] == m[i]) = false := by simp [hx]
          have HX : Hid (l ≠ m) := hide fun e => hx (by subst e; rfl)
          generalize l[i] = x at *
          generalize m[i] = y at *
          go_wp2
          go_ret
          exact ⟨false, rfl, by simp [unhide HX], rfl⟩
      · go_wp2
        go_ret
        exact ⟨true, rfl, by simp; exact list_eq_of (unhide HE) fun j h1 h2 => unhide hI j h1 h2 (by omega), rfl⟩
  · have hne' : ((l.length : Int) == (m.length : Int)) = false := by simp; omega
    have HE : Hid (l ≠ m) := hide fun e => hne (by rw [e])
    go_enter Tryd.func19, Tryd.ntmps19
    go_wp2
    go_ret
    exact ⟨false, rfl, by simp [unhide HE], rfl⟩
set_option maxRecDepth 100000 in
set_option maxHeartbeats 1000000 in
theorem ints_eq (l m : List Int) (a1 a2 : Option Addr) (c1 c2 : Nat) (S1 S2 : Nat → Prop) (w : World) (h1 : RowOf numC 1 S1 w l a1) (h2 : RowOf numC 1 S2 w m a2) :
    Calls Tryd.prog 14 #[.slice a1 l.length c1, .slice a2 m.length c2] w fun e w' => ∃ r : Bool, e = .returned (.bool r) ∧ (r = true ↔ l = m) ∧ w = w' := by
  have l1 := h1.1
  have l2 := h2.1
  have H1 := hide h1
  have H2 := hide h2
  clear h1 h2
  by_cases hne : l.length = m.length
  · have hne' : ((l.length : Int) == (m.length : Int)) = true := by simp; omega
    have HE := hide hne
    clear hne
    go_enter Tryd.func14, Tryd.ntmps14
    go_wp2
    go_loopw [14] (fun t wr => ∃ i : Nat, i ≤ l.length ∧ t = .int .i64 i ∧ Hid (∀ j (h1 : j < l.length) (h2 : j < m.length), j < i → l[j] = m[j]) ∧ wr = w) (fun t _ => l.length - (intOf t).toNat)
    case atStart => exact ⟨0, by omega, rfl, hide fun j _ _ h => by omega, rfl⟩
    case round =>
      obtain ⟨i, hi, rfl, hI, rfl⟩ := hrel
      by_cases hlt : i < l.length
      · have hlt2 : i < m.length := by have := unhide HE; omega
        obtain ⟨b, off, cs, rfl, _, hc, _, hcell⟩ := (unhide H1).2 i hlt
        obtain ⟨b', off', cs', rfl, _, hc', _, hcell'⟩ := (unhide H2).2 i hlt2
        obtain ⟨_, rfl⟩ := hc
        obtain ⟨_, rfl⟩ := hc'
        have k0 : wr.cell? ⟨b, off + i, none⟩ = some (.int .i64 l[i]) := by have := hcell 0 _ rfl; simpa using this
        have k1 : wr.cell? ⟨b', off' + i, none⟩ = some (.int .i64 m[i]) := by have := hcell' 0 _ rfl; simpa using this
        clear hcell hcell'
        by_cases hx : l[i] = m[i]
        · have HX : Hid (∀ j (h1 : j < l.length) (h2 : j < m.length), j < i + 1 → l[j] = m[j]) := hide fun j h1 h2 hj => by
            rcases Nat.lt_or_ge j i with h3 | h3
            · exact unhide hI j h1 h2 h3
            · obtain rfl : j = i := by omega
              exact hx
          have hx1 : (l[i] == m[i]) = true := by simp [hx]
          generalize l[i] = x at *
          generalize m[i] = y at *
          clear hx
          have hi2 : (i : Int) < m.length := by omega
          go_wp2
          go_roundw
          case rel => exact ⟨i + 1, by omega, rfl, HX, trivial⟩
          case measure => simp [intOf]; omega
        · have hx1 : (l[i] == m[i]) = false := by simp [hx]
          have HX : Hid (l ≠ m) := hide fun e => hx (by subst e; rfl)
          generalize l[i] = x at *
          generalize m[i] = y at *
          go_wp2
          go_ret
          exact ⟨false, rfl, by simp [unhide HX], rfl⟩
      · go_wp2
        go_ret
        exact ⟨true, rfl, by simp; exact list_eq_of (unhide HE) fun j h1 h2 => unhide hI j h1 h2 (by omega), rfl⟩
  · have hne' : ((l.length : Int) == (m.length : Int)) = false := by simp; omega
    have HE : Hid (l ≠ m) := hide fun e => hne (by rw [e])
    go_enter Tryd.func14, Tryd.ntmps14
    go_wp2
    go_ret
    exact ⟨false, rfl, by simp [unhide HE], rfl⟩
end Go.Proofs.YtfkjjljhabjcjaaDoor
