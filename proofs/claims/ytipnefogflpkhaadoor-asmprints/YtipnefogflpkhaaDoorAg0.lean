/- A text, quoted. -/
import Derived.Test.YtipnefogflpkhaaDoorAf0
set_option linter.unusedVariables false
set_option linter.unusedSimpArgs false
namespace Go.Proofs.YtipnefogflpkhaaDoor
open Go.RowKit
/-- A byte as it stands within quotes. -/
def escB (c : UInt8) : List UInt8 := if c = 10 then [92, 110] else if c = 34 ∨ c = 92 then [92, c] else [c]
def quoT (s : ByteArray) (j : Nat) : List UInt8 := escB (s.data.toList.getD j 0)
def quotedT (s : ByteArray) : List UInt8 := 34 :: (cat (quoT s) s.size ++ [34])
theorem quoT_at {s : ByteArray} {j : Nat} (h : j < s.size) : quoT s j = escB s[j] := by
  have h2 : j < s.data.toList.length := by rw [Array.length_toList]; exact h
  unfold quoT
  rw [List.getD_eq_getElem?_getD, List.getElem?_eq_getElem h2]
  rfl
theorem escB_le (c : UInt8) : (escB c).length ≤ 2 := by
  unfold escB
  split
  · decide
  · split <;> simp
theorem quotedT_le (s : ByteArray) : (quotedT s).length ≤ 2 * s.size + 2 := by
  have := cat_bound (quoT s) (B := 2) (n := s.size) (fun i _ => escB_le _)
  simp [quotedT]
  omega
theorem ne_byte {c : UInt8} {k : Nat} (h : c ≠ UInt8.ofNat k) (hk : k < 256) : ((c.toNat : Int) == (k : Int)) = false := by
  simp only [beq_eq_false_iff_ne, ne_eq]
  intro e
  apply h
  have e2 : c.toNat = k := by omega
  rw [← e2, UInt8.ofNat_toNat]
set_option maxRecDepth 100000 in
set_option maxHeartbeats 4000000 in
theorem quoted_any (B b : Nat) (s : ByteArray) (w0 w : World) (h : St true B b [] w0 w) (hs : s.size ≤ 1000000) :
    Calls Tryd.prog 31 #[.pointer (some ⟨b, 0, none⟩), .string s] w fun e w' => StP true B b (quotedT s) w0 e w' := by
  obtain ⟨T, hT⟩ : ∃ T : Nat → List UInt8, ∀ i, [34] ++ cat (quoT s) i = T i := ⟨_, fun _ => rfl⟩
  have hend : T s.size ++ [34] = quotedT s := by rw [← hT]; rfl
  have hle := quotedT_le s
  have hlim : lim = 140737488355328 := rfl
  have HTl : Hid (∀ i, i ≤ s.size → (T i).length ≤ lim) := hide (fun i hi => by
    have h1 := cat_le (quoT s) hi
    rw [← hend, ← hT] at hle
    rw [← hT]
    simp only [List.length_append] at hle ⊢
    omega)
  have HTs : Hid (∀ i (h : i < s.size), T i ++ escB s[i] = T (i + 1)) := hide (fun i h => by rw [← hT, ← hT, cat_succ, quoT_at h, List.append_assoc])
  have HEnd := hide hend
  have HQ : Hid ((quotedT s).length ≤ lim) := hide (by omega)
  have HC := hide (h.b 34 (l' := T 0) (by rw [← hT]; rfl) ((unhide HTl) 0 (Nat.zero_le _)))
  obtain ⟨Q, hQ⟩ : ∃ Q, quotedT s = Q := ⟨_, rfl⟩
  rw [hQ] at HEnd HQ ⊢
  clear hT hend hle hQ h
  go_enter Tryd.func31, Tryd.ntmps31
  go_wp2_with (go_at_call 21; refine (unhide HC).mono ?_)
  rintro e w1 ⟨⟨v, rfl⟩, HS⟩
  clear HC
  go_wp2
  go_loopw [11] (fun t wr => ∃ i : Nat, i ≤ s.size ∧ t = .int .i64 i ∧ St true B b (T i) w0 wr) (fun t _ => s.size - (intOf t).toNat)
  case atStart => exact ⟨0, Nat.zero_le _, rfl, HS⟩
  case round =>
    clear HS
    obtain ⟨i, hi, rfl, HS⟩ := hrel
    by_cases hlt : i < s.size
    · have hji : (i : Int) < (s.size : Int) := by omega
      have HT := hide ((unhide HTs) i hlt)
      have HP1 := hide ((unhide HTl) (i + 1) (by omega))
      by_cases h10 : s[i] = 10
      · have hb10 : ((s[i].toNat : Int) == 10) = true := by rw [h10]; rfl
        have HC := hide (HS.s ⟨#[92, 110]⟩ (l' := T (i + 1)) (by rw [← unhide HT, h10]; rfl) (unhide HP1))
        clear h10 HS HT
        go_wp2_with (go_at_call 17; refine (unhide HC).mono ?_)
        rintro e w2 ⟨⟨v2, rfl⟩, HS⟩
        clear HC
        go_wp2
        go_roundw
        case rel => exact ⟨i + 1, by omega, by simp, HS⟩
        case measure => simp [intOf]; omega
      · have hb10 : ((s[i].toNat : Int) == 10) = false := ne_byte (k := 10) h10 (by decide)
        by_cases h34 : s[i] = 34
        · have hb34 : ((s[i].toNat : Int) == 34) = true := by rw [h34]; rfl
          have HC := hide (HS.s ⟨#[92, 34]⟩ (l' := T (i + 1)) (by rw [← unhide HT, h34]; rfl) (unhide HP1))
          clear h10 h34 HS HT
          go_wp2_with (go_at_call 17; refine (unhide HC).mono ?_)
          rintro e w2 ⟨⟨v2, rfl⟩, HS⟩
          clear HC
          go_wp2
          go_roundw
          case rel => exact ⟨i + 1, by omega, by simp, HS⟩
          case measure => simp [intOf]; omega
        · have hb34 : ((s[i].toNat : Int) == 34) = false := ne_byte (k := 34) h34 (by decide)
          by_cases h92 : s[i] = 92
          · have hb92 : ((s[i].toNat : Int) == 92) = true := by rw [h92]; rfl
            have HC := hide (HS.s ⟨#[92, 92]⟩ (l' := T (i + 1)) (by rw [← unhide HT, h92]; rfl) (unhide HP1))
            clear h10 h34 h92 HS HT
            go_wp2_with (go_at_call 17; refine (unhide HC).mono ?_)
            rintro e w2 ⟨⟨v2, rfl⟩, HS⟩
            clear HC
            go_wp2
            go_roundw
            case rel => exact ⟨i + 1, by omega, by simp, HS⟩
            case measure => simp [intOf]; omega
          · have hb92 : ((s[i].toNat : Int) == 92) = false := ne_byte (k := 92) h92 (by decide)
            have HC := hide (HS.drew.b s[i] (l' := T (i + 1)) (by rw [← unhide HT]; unfold escB; rw [if_neg h10, if_neg (fun h => h.elim h34 h92)]) (unhide HP1))
            clear h10 h34 h92 HS HT
            go_wp2
            go_region_held2 (fun _ => True) (trivial) (first | (go_at_call 21; refine (unhide HC).mono ?_; clear HC; rintro e w2 ⟨⟨v2, rfl⟩, HS⟩))
            go_wp2
            go_roundw
            case rel => exact ⟨i + 1, by omega, by simp, HS⟩
            case measure => simp [intOf]; omega
    · have hji : ¬ (i : Int) < (s.size : Int) := by omega
      obtain rfl : i = s.size := by omega
      have HC := hide (HS.b 34 (unhide HEnd) (unhide HQ))
      clear HS
      go_wp2_with (go_at_call 21; refine (unhide HC).mono ?_)
      rintro e w2 ⟨⟨v2, rfl⟩, HS⟩
      clear HC
      go_wp2
      go_end0
      exact ⟨⟨_, rfl⟩, HS⟩
set_option maxRecDepth 100000 in
set_option maxHeartbeats 4000000 in
theorem expr_any (B b : Nat) (s : ByteArray) (w0 w : World) (h : St true B b [] w0 w) (hs : s.size ≤ 1000000) :
    Calls Tryd.prog 26 #[.pointer (some ⟨b, 0, none⟩), .agg #[.int .i64 37, .string s, .int .i64 0, .int .i64 0, .string ⟨#[]⟩, .int .i64 0, .slice none 0 0]] w fun e w' => StP true B b (quotedT s) w0 e w' := by
  have HC := hide (quoted_any B b s w0 _ (h.alloc (.cells #[.int .i64 37, .string s, .int .i64 0, .int .i64 0, .string ⟨#[]⟩, .int .i64 0, .slice none 0 0] 67)) hs)
  clear h
  go_enter Tryd.func26, Tryd.ntmps26
  go_wp2_with (go_at_call 31; refine (unhide HC).mono ?_)
  rintro e w2 ⟨⟨v2, rfl⟩, HS⟩
  clear HC
  go_wp2
  go_end0
  exact ⟨⟨_, rfl⟩, HS⟩
def QuoP (s : ByteArray) (w : World) (e : Ending) (w' : World) : Prop := e = .returned (.string ⟨(quotedT s).toArray⟩) ∧ w.grownBy w' none
theorem start_true (w : World) (o : Obj) : St true (w.heap.size + 1) (w.heap.size + 1) [] ((w.alloc o).alloc (.cells #[.pointer none, .slice none 0 0, .int .i64 0] 71)) ((w.alloc o).alloc (.cells #[.pointer none, .slice none 0 0, .int .i64 0] 71)) := by
  refine Wr.st ⟨.inl ⟨Nat.le_refl _, .slice none 0 0, ?_, World.ownsRowF_nil _ _ _ _, by simp [Value.ownBlock]⟩, by simp⟩
  have := heap_alloc_new (w.alloc o) (.cells #[.pointer none, .slice none 0 0, .int .i64 0] 71)
  have e : (w.alloc o).heap.size = w.heap.size + 1 := by simp
  rw [e] at this
  exact this
set_option maxRecDepth 100000 in
set_option maxHeartbeats 4000000 in
theorem Expr_any (s : ByteArray) (w : World) (hs : s.size ≤ 1000000) :
    Calls Tryd.prog 22 #[.agg #[.int .i64 37, .string s, .int .i64 0, .int .i64 0, .string ⟨#[]⟩, .int .i64 0, .slice none 0 0]] w fun e w' => QuoP s w e w' := by
  have HS0 := start_true w (.cells #[.int .i64 37, .string s, .int .i64 0, .int .i64 0, .string ⟨#[]⟩, .int .i64 0, .slice none 0 0] 67)
  have HC := hide (expr_any _ _ s _ _ HS0 hs)
  clear HS0
  go_enter Tryd.func22, Tryd.ntmps22
  go_wp2_with (go_at_call 26; refine (unhide HC).mono ?_)
  rintro e w2 ⟨⟨v2, rfl⟩, HS⟩
  have HC2 := hide (string_any true (w.heap.size + 1) (w.heap.size + 1) (quotedT s) w2 HS.wr.pb HS.wr.size)
  have HB : Hid (Below w.heap.size w w2) := hide ((((Below.refl w.heap.size w).alloc (Nat.le_refl _) _).alloc (by simp) _).trans (HS.wf.below.mono (by omega)))
  clear HC HS
  go_wp2_with (go_at_call 16; refine (unhide HC2).mono ?_)
  rintro e w3 ⟨rfl, hb⟩
  have HG : Hid (w.grownBy w3 none) := hide (by
    have h := (unhide HB).trans (hb.mono (by omega))
    exact ⟨h.os, h.tape, h.output, h.size, fun k hk _ => h.block k hk⟩)
  clear HC2 hb
  go_wp2
  go_ret
  exact ⟨rfl, unhide HG⟩
set_option maxRecDepth 100000 in
set_option maxHeartbeats 4000000 in
theorem quote_any (s : ByteArray) (w : World) (hs : s.size ≤ 1000000) :
    Calls Tryd.prog 14 #[.string s] w fun e w' => QuoP s w e w' := by
  have HC := hide (Expr_any s w hs)
  go_enter Tryd.func14, Tryd.ntmps14
  go_wp2_with (go_at_call 22; refine (unhide HC).mono ?_)
  rintro e w2 ⟨rfl, hg⟩
  have HG := hide hg
  clear hg HC
  go_wp2
  go_ret
  exact ⟨rfl, unhide HG⟩
end Go.Proofs.YtipnefogflpkhaaDoor
