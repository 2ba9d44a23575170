/- Contract of strings.IndexAny at a comma and a closing bracket, for any text. -/
import Derived.Test.YtpmpjbnnjdpbnaaDoorSh
import Derived.Test.YtpmpjbnnjdpbnaaDoorRead
import Derived.Laws.Runes
import Derived.BigQuiet
import Derived.WalkMore
import Derived.Deep.LoopGhost
namespace Go.Proofs.YtpmpjbnnjdpbnaaDoor
open Go.RowKit Go.Proofs.YtpmpjbnnjdpbnaaDoor.Lx

theorem bdN (B : Nat) (w : World) : ∀ n, Below B w (w.drewN n)
  | 0 => Below.refl _ _
  | n + 1 => (bdN B w n).drew
def cc : ByteArray := ⟨#[44, 41]⟩
set_option maxRecDepth 1000000 in
set_option maxHeartbeats 2000000 in
theorem ir_err (w : World) :
    Calls Tryd.prog 55 #[.string ⟨#[44, 41]⟩, .int .i32 65533] w fun e w' => e = .returned (.int .i64 (-1)) ∧ Below w.heap.size w w' := by
  go_enter Tryd.func55, Tryd.ntmps55
  go_wp2
  go_loopg [5, 6] 2 (fun g _ _ wx => ∃ i : Nat, i + g = 2 ∧ wx = w.iter ⟨#[44, 41]⟩ i)
  case atStart => exact ⟨0, by omega, rfl⟩
  case round =>
    obtain ⟨i, hig, rfl⟩ := hrel
    cases gk with
    | zero =>
      obtain rfl : i = 2 := by omega
      have hnx := fun ty => run_next_end (P := Tryd.prog) w ⟨#[44, 41]⟩ 2 ty (by decide)
      go_wp2
      go_ret
      exact ⟨rfl, (Below.refl _ _).alloc (Nat.le_refl _) _⟩
    | succ g =>
      have hi : i = 0 ∨ i = 1 := by omega
      rcases hi with rfl | rfl
      · have hnx := fun ty => run_next_ascii (P := Tryd.prog) w ⟨#[44, 41]⟩ 0 ty (by decide) (by decide)
        go_wp2
        go_roundg g
        case measure => omega
        case rel => exact ⟨1, by omega, rfl⟩
      · have hnx := fun ty => run_next_ascii (P := Tryd.prog) w ⟨#[44, 41]⟩ 1 ty (by decide) (by decide)
        go_wp2
        go_roundg g
        case measure => omega
        case rel => exact ⟨2, by omega, rfl⟩
set_option maxRecDepth 1000000 in
set_option maxHeartbeats 2000000 in
theorem ir_two (r : Int) (w : World) (h1 : 128 ≤ r) (hv : Lib.validRune r = true) (hne : ¬ r = 65533) (E : ByteArray) (hE : Utf8.encode r = E) (hm : E.size = 2) (hb : 128 ≤ (E[1]'(by omega)).toNat) :
    Calls Tryd.prog 55 #[.string ⟨#[44, 41]⟩, .int .i32 r] w fun e w' => e = .returned (.int .i64 (-1)) ∧ Below w.heap.size w w' := by
  have h128 : ¬ r < 128 := by omega
  have hne' : (r == 65533) = false := beq_eq_false_iff_ne.2 hne
  have hx : ((((⟨#[44, 41]⟩ : ByteArray)[1]'(by decide)).toNat : Int) != ((E[1]'(by omega)).toNat : Int)) = true := by
    have : ((⟨#[44, 41]⟩ : ByteArray)[1]'(by decide)).toNat = 41 := rfl
    rw [this]; simp; omega
  have hw2 : IntKind.i64.wrap 2 = 2 := by decide
  have hi := fun c => (rfl : Lib.indexByte ByteArray.empty.data.toList c = -1)
  go_enter Tryd.func55, Tryd.ntmps55
  go_wp2_with (first | (go_at_call 61; refine (Tryd.utf8_ValidRune _ _).mono ?_; rintro e w' ⟨rfl, hw⟩; rw [hw, hv]; clear hw))
  go_step3
  go_wp2
  refine wp_loop_rounds 1 ?_
  rw [rounds_succ]
  go_wp2
  go_step3
  go_wp2
  go_quiet (fail)
  go_wp2
  have HQ := hide (bdN w.heap.size w nq)
  generalize w.drewN nq = wq at HQ ⊢
  go_quiet ((go_at_call 60; exact Calls.quiet_of_same (Tryd.strings_IndexByte _ _ _)))
  go_wp2
  repeat rw [Exit.noGoto_ret]
  go_wp2
  repeat rw [Exit.noGoto_ret]
  go_ret
  exact ⟨rfl, (unhide HQ).trans (bdN _ _ _)⟩
set_option maxRecDepth 1000000 in
set_option maxHeartbeats 2000000 in
theorem ir_big (r : Int) (w : World) (h1 : 128 ≤ r) (hv : Lib.validRune r = true) (hne : ¬ r = 65533) (E : ByteArray) (hE : Utf8.encode r = E) (hm : 3 ≤ E.size) (hm4 : E.size ≤ 4) :
    Calls Tryd.prog 55 #[.string ⟨#[44, 41]⟩, .int .i32 r] w fun e w' => e = .returned (.int .i64 (-1)) ∧ Below w.heap.size w w' := by
  have h128 : ¬ r < 128 := by omega
  have hne' : (r == 65533) = false := beq_eq_false_iff_ne.2 hne
  have hlt : ¬ ((E.size : Int) - 1 < 2) := by omega
  go_enter Tryd.func55, Tryd.ntmps55
  go_wp2_with (first | (go_at_call 61; refine (Tryd.utf8_ValidRune _ _).mono ?_; rintro e w' ⟨rfl, hw⟩; rw [hw, hv]; clear hw))
  go_step3
  go_wp2
  refine wp_loop_rounds 1 ?_
  rw [rounds_succ]
  go_wp2
  repeat rw [Exit.noGoto_ret]
  go_wp2
  go_ret
  exact ⟨rfl, Below.refl _ _⟩
theorem valid_lib (r : Int) : Utf8.valid r = Lib.validRune r := by
  rw [Bool.eq_iff_iff]
  simp [Utf8.valid, Lib.validRune]
  omega
/-- No rune beyond ASCII is a comma or a bracket. -/
theorem ir_na (r : Int) (w : World) (h1 : 128 ≤ r) (hv : Lib.validRune r = true) :
    Calls Tryd.prog 55 #[.string ⟨#[44, 41]⟩, .int .i32 r] w fun e w' => e = .returned (.int .i64 (-1)) ∧ Below w.heap.size w w' := by
  by_cases hne : r = 65533
  · subst hne; exact ir_err w
  · obtain ⟨e1, e2, e3⟩ := encode_facts r (by rw [valid_lib]; exact hv) h1
    obtain ⟨E, hE⟩ : ∃ E, Utf8.encode r = E := ⟨_, rfl⟩
    by_cases hm : E.size = 2
    · refine ir_two r w h1 hv hne E hE hm ?_
      rw [hE] at e3
      have := e3 (by omega)
      have hx : E[E.size - 1]'(by omega) = E[1]'(by omega) := by congr 1; omega
      rw [hx] at this
      exact this
    · rw [hE] at e1 e2
      exact ir_big r w h1 hv hne E hE (by omega) e2
theorem get_of {s : ByteArray} {j : Nat} {c : UInt8} (h : s.data.toList[j]? = some c) : s.get! j = c := by
  obtain ⟨hl, he⟩ := List.getElem?_eq_some_iff.1 h
  have hl' : j < s.data.size := by simpa using hl
  have : s.get! j = s.data[j]! := rfl
  rw [this, getElem!_pos s.data j hl', ← he]
  simp
/-- What is decoded at a byte beyond ASCII. -/
theorem dec_na (s : ByteArray) (i : Nat) (x : UInt8) (h : s.data.toList[i]? = some x) (hi : i < s.size) (hx : 128 ≤ x.toNat) :
    128 ≤ (Utf8.decode s i).1 ∧ Lib.validRune ((Utf8.decode s i).1 : Int) = true ∧ 1 ≤ (Utf8.decode s i).2 ∧ i + (Utf8.decode s i).2 ≤ s.size ∧ ∀ j c, i ≤ j → j < i + (Utf8.decode s i).2 → s.data.toList[j]? = some c → 128 ≤ c.toNat := by
  have e0 : s.get! (i + 0) = x := get_of h
  have E : 128 ≤ Utf8.runeError ∧ Lib.validRune ((Utf8.runeError : Nat) : Int) = true := by decide
  have one : ∀ j c, i ≤ j → j < i + 1 → s.data.toList[j]? = some c → 128 ≤ c.toNat := by
    intro j c h1 h2 h3
    obtain rfl : j = i := by omega
    rw [h] at h3; cases h3; exact hx
  have cg : ∀ k c, s.data.toList[i + k]? = some c → (s.get! (i + k)).toNat / 64 = 2 → 128 ≤ c.toNat := by
    intro k c h1 h2
    rw [get_of h1] at h2; omega
  unfold Utf8.decode
  simp only [e0]
  rw [if_neg (by omega)]
  split
  · rename_i hc
    simp at hc
    split
    · refine ⟨by assumption, ?_, by simp, by simp only; omega, ?_⟩
      · simp [Lib.validRune]; omega
      · intro j c h1 h2 h3
        simp only at h2
        by_cases hj : j = i
        · exact one j c h1 (by omega) h3
        · obtain rfl : j = i + 1 := by omega
          exact cg 1 c h3 hc.2.2
    · exact ⟨E.1, E.2, Nat.le_refl _, hi, one⟩
  · split
    · rename_i hc
      simp at hc
      split
      · rename_i hv
        simp only [Bool.and_eq_true, decide_eq_true_eq] at hv
        refine ⟨by simp only; omega, by rw [← valid_lib]; exact hv.2, by simp, by simp only; omega, ?_⟩
        intro j c h1 h2 h3
        simp only at h2
        by_cases hj : j = i
        · exact one j c h1 (by omega) h3
        · by_cases hj1 : j = i + 1
          · subst hj1; exact cg 1 c h3 hc.1.2.2
          · obtain rfl : j = i + 2 := by omega
            exact cg 2 c h3 hc.2.2
      · exact ⟨E.1, E.2, Nat.le_refl _, hi, one⟩
    · split
      · rename_i hc
        simp at hc
        split
        · rename_i hv
          simp only [Bool.and_eq_true, decide_eq_true_eq] at hv
          refine ⟨by simp only; omega, by rw [← valid_lib]; exact hv.2, by simp, by simp only; omega, ?_⟩
          intro j c h1 h2 h3
          simp only at h2
          by_cases hj : j = i
          · exact one j c h1 (by omega) h3
          · by_cases hj1 : j = i + 1
            · subst hj1; exact cg 1 c h3 hc.1.1.2.2
            · by_cases hj2 : j = i + 2
              · subst hj2; exact cg 2 c h3 hc.1.2.2
              · obtain rfl : j = i + 3 := by omega
                exact cg 3 c h3 hc.2.2
        · exact ⟨E.1, E.2, Nat.le_refl _, hi, one⟩
      · exact ⟨E.1, E.2, Nat.le_refl _, hi, one⟩
theorem next_gen (b : Nat) (s : ByteArray) (pos : Nat) (w : World) (ty : TypeId) (hb : w.heap[b]? = some (.stringIter s pos)) (h : pos < s.size) :
    (Instr.next (.pointer (some ⟨b, 0, none⟩)) true ty).run Tryd.prog w = .ok (.tuple #[.bool true, .int .i64 pos, .int .i32 (Utf8.decode s pos).1]) { w with heap := w.heap.setIfInBounds b (.stringIter s (pos + (Utf8.decode s pos).2)) } := by
  simp only [Instr.next, getObj, setObj, Sem.run_bind, Sem.run, hb, Result.andThen, h, if_true]
  simp [goInt]
theorem next_fin (b : Nat) (s : ByteArray) (pos : Nat) (w : World) (ty : TypeId) (hb : w.heap[b]? = some (.stringIter s pos)) (h : ¬ pos < s.size) :
    (Instr.next (.pointer (some ⟨b, 0, none⟩)) true ty).run Tryd.prog w = .ok (.tuple #[.bool false]) w := by
  simp [Instr.next, getObj, Sem.run, hb, h]
def setIt (w : World) (b : Nat) (s : ByteArray) (pos : Nat) : World := { w with heap := w.heap.setIfInBounds b (.stringIter s pos) }
theorem setIt_blk {w : World} {b : Nat} {s : ByteArray} {p : Nat} (hb : w.heap[b]? = some (.stringIter s p)) (pos : Nat) : (setIt w b s pos).heap[b]? = some (.stringIter s pos) := by
  have := (Array.getElem?_eq_some_iff.1 hb).1
  simp [setIt, this]
theorem setIt_below {w0 w : World} {b : Nat} (s : ByteArray) (pos : Nat) (h : Below b w0 w) : Below b w0 (setIt w b s pos) := by
  refine ⟨h.os, h.tape, h.output, ?_, ?_⟩
  · have := h.size; simpa [setIt] using this
  · intro j hj
    have := h.block j hj
    rw [← this]
    simp [setIt, Array.getElem?_setIfInBounds]
    intro e; omega
end Go.Proofs.YtpmpjbnnjdpbnaaDoor
