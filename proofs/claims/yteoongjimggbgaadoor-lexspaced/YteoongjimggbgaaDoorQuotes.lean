/- The law LexQuotes, walked. -/
import Derived.Test.YteoongjimggbgaaDoorNests
import Derived.Test.YteoongjimggbgaaDoorQuotesP
namespace Go.Proofs.YteoongjimggbgaaDoor
open Go.RowKit Go.Proofs.YteoongjimggbgaaDoor.Lx

/-- A slice of bytes in memory. -/
def BytesAt (X : World) (ao : Option Addr) (len : Nat) (xs : List UInt8) : Prop :=
  xs.length = len ∧ ∀ j, (h : j < len) → ∃ b off, ao = some ⟨b, off, none⟩ ∧ b < X.heap.size ∧ ∀ c, xs[j]? = some c → X.cell? ⟨b, off + j, none⟩ = some (.int .u8 c.toNat)
theorem BytesAt.below {X Y : World} {ao : Option Addr} {len : Nat} {xs : List UInt8} (h : BytesAt X ao len xs) (hb : Below X.heap.size X Y) : BytesAt Y ao len xs :=
  ⟨h.1, fun j hj => by
    obtain ⟨b, off, e, hlt, hc⟩ := h.2 j hj
    exact ⟨b, off, e, Nat.lt_of_lt_of_le hlt hb.size, fun c hcj => (hb.cell (p := ⟨b, off + j, none⟩) hlt).trans (hc c hcj)⟩⟩
theorem conv_at {X : World} {ao : Option Addr} {len : Nat} {xs : List UInt8} (cap : Nat) (h : BytesAt X ao len xs) : (convert 32 9 (.slice ao len cap)).run Tryd.prog X = .ok (.string ⟨xs.toArray⟩) X := by
  by_cases h0 : len = 0
  · subst h0
    have : xs = [] := List.eq_nil_of_length_eq_zero h.1
    subst this
    rw [run_convert_bytes_string X 32 9 5 ao 0 cap Tryd.underlying32 Tryd.underlying5 Tryd.underlying9]
    cases ao with
    | none => simp [Conv.bytesToString]; rfl
    | some a =>
      have := run_bytesToString (P := Tryd.prog) X a 0 cap [] (by simp [loadCells, loadCellsFrom])
      rw [this]; rfl
  · obtain ⟨b, off, rfl, hlt, _⟩ := h.2 0 (by omega)
    have := run_convert_bytes_arg (P := Tryd.prog) X 32 5 Tryd.underlying32 Tryd.underlying5 b off len cap (xs.map fun c => (c.toNat : Int)) (by simpa using h.1) (fun i hi => by
      obtain ⟨b', off', e, _, hc⟩ := h.2 i hi
      simp only [Option.some.injEq, Addr.mk.injEq, and_true] at e
      obtain ⟨rfl, rfl⟩ := e
      have hx : xs[i]? = some (xs[i]'(by rw [h.1]; exact hi)) := List.getElem?_eq_getElem _
      rw [hc _ hx, List.getD_eq_getElem?_getD, List.getElem?_map, hx]
      rfl) 9 Tryd.underlying9
    rw [this]
    have e : strOfNums (xs.map fun c => (c.toNat : Int)) = ⟨xs.toArray⟩ := by
      unfold strOfNums
      rw [List.map_map]
      have : ((fun n : Int => UInt8.ofNat n.toNat) ∘ fun c : UInt8 => (c.toNat : Int)) = id := by funext c; simp
      rw [this, List.map_id]
    rw [e]
theorem conv_one (X : World) (c : UInt8) : (convert 32 9 (.slice (some ⟨X.heap.size, 0, none⟩) 1 1)).run Tryd.prog (X.alloc (.cells #[.int .u8 c.toNat] 5)) = .ok (.string ⟨#[c]⟩) (X.alloc (.cells #[.int .u8 c.toNat] 5)) :=
  conv_at (xs := [c]) 1 ⟨rfl, fun j hj => ⟨X.heap.size, 0, rfl, by simp, fun d hd => by
    obtain rfl : j = 0 := by omega
    simp at hd
    subst hd
    simp⟩⟩

set_option maxRecDepth 100000 in
set_option maxHeartbeats 1000000 in
theorem quotes_any (ao : Option Addr) (len cap : Nat) (xs : List UInt8) (w : World) (hv : Vars w) (hm : len ≤ maxLen) (hc : Hid (BytesAt w ao len xs)) :
    Calls Tryd.prog 4 #[.slice ao len cap] w fun e w' => e = .returned (.bool true) ∧ Below w.heap.size w w' := by
  unfold maxLen at hm
  have HA := hide (anchor_any w hv)
  have HV := hide hv
  have hvl := hv.lt
  clear hv
  by_cases h1 : 1000 < len
  · have t1 : (1000 : Int) < len := by omega
    go_enter Tryd.func4, Tryd.ntmps4
    go_wp2_with (first | (go_at_call 9; refine (unhide HA).mono ?_; rintro e w1 ⟨rfl, hb1⟩; have HB1 := hide hb1; clear hb1))
    go_ret
    exact ⟨rfl, unhide HB1⟩
  · have t1 : ¬ (1000 : Int) < len := by omega
    have hcv := conv_one
    go_enter Tryd.func4, Tryd.ntmps4
    go_wp2_with (first | (go_at_call 9; refine (unhide HA).mono ?_; rintro e w1 ⟨rfl, hb1⟩; have HB1 := hide hb1; clear hb1))
    go_loopw [3, 15] (fun t i wr => ∃ (j : Nat) (x : ByteArray), j ≤ len ∧ i = .int .i64 j ∧ t = .string x ∧ x.toList = 34 :: encL (xs.take j) ∧ (∀ c ∈ xs.take j, okB c = true) ∧ Below w.heap.size w wr) (fun _ i _ => len - (intOf i).toNat)
    case atStart => exact ⟨0, ⟨#[34]⟩, Nat.zero_le _, rfl, rfl, ByteArray.toList_mk [34], fun c hc => by simp at hc, unhide HB1⟩
    case round =>
      obtain ⟨j, x, hj, rfl, rfl, hx, hok, hb⟩ := hrel
      have hxl := (unhide hc).1
      have hxs : x.size ≤ 2001 := by
        rw [toL_size hx, List.length_cons]
        have h1 := encL_len (xs.take j)
        have h2 : (xs.take j).length ≤ j := List.length_take_le _ _
        omega
      have HX := hide hx
      have HO := hide hok
      have HB := hide hb
      have HXL := hide hxl
      clear hx hok hb hxl
      by_cases hlt : j < len
      · obtain ⟨b, off, rfl, hbb, hcell⟩ := (unhide hc).2 j hlt
        have hjx : j < xs.length := by rw [unhide HXL]; exact hlt
        have k0 := ((unhide HB).cell (p := ⟨b, off + j, none⟩) hbb).trans (hcell _ (List.getElem?_eq_getElem hjx))
        have HT : Hid (xs.take (j + 1) = xs.take j ++ [xs[j]]) := by
          show _ = _
          rw [List.take_add_one, List.getElem?_eq_getElem hjx]; rfl
        clear hcell
        generalize xs[j] = c at *
        have h4 : (j : Int) < len := by omega
        have h5 : (0 : Int) ≤ j := by omega
        by_cases c10 : c = 10
        · have b10 : ((c.toNat : Int) == 10) = true := beqT c10
          have HE : Hid (encB c = [92, 110]) := by show _ = _; simp [encB, c10]
          have HK : Hid (okB c = true) := by show _ = _; simp [okB, c10]
          clear c10
          go_wp2_with fail
          go_roundw
          case rel => exact ⟨j + 1, x ++ ⟨#[92, 110]⟩, hlt, by go_num, rfl, by rw [toL_append, ByteArray.toList_mk [92, 110], unhide HX, unhide HT, encL_snoc, unhide HE]; rfl, by rw [unhide HT]; exact fun d hd => (List.mem_append.1 hd).elim (unhide HO d) (fun hd => by rw [List.mem_singleton.1 hd]; exact unhide HK), unhide HB⟩
          case measure => simp [intOf]; omega
        · have b10 : ((c.toNat : Int) == 10) = false := beqF c10
          by_cases c34 : c = 34
          · have b34 : ((c.toNat : Int) == 34) = true := beqT c34
            have HE : Hid (encB c = [92, c]) := by show _ = _; simp [encB, c34]
            have HK : Hid (okB c = true) := by show _ = _; simp [okB, c34]
            clear c10 c34
            go_wp2_with fail
            go_roundw
            case rel => exact ⟨j + 1, x ++ (⟨#[92]⟩ ++ ⟨#[c]⟩), hlt, by go_num, rfl, by rw [toL_append, toL_append, ByteArray.toList_mk [92], ByteArray.toList_mk [c], unhide HX, unhide HT, encL_snoc, unhide HE]; rfl, by rw [unhide HT]; exact fun d hd => (List.mem_append.1 hd).elim (unhide HO d) (fun hd => by rw [List.mem_singleton.1 hd]; exact unhide HK), (unhide HB).alloc (unhide HB).size _⟩
            case measure => simp [intOf]; omega
          · have b34 : ((c.toNat : Int) == 34) = false := beqF c34
            by_cases c92 : c = 92
            · have b92 : ((c.toNat : Int) == 92) = true := beqT c92
              have HE : Hid (encB c = [92, c]) := by show _ = _; simp [encB, c92]
              have HK : Hid (okB c = true) := by show _ = _; simp [okB, c92]
              clear c10 c34 c92
              go_wp2_with fail
              go_roundw
              case rel => exact ⟨j + 1, x ++ (⟨#[92]⟩ ++ ⟨#[c]⟩), hlt, by go_num, rfl, by rw [toL_append, toL_append, ByteArray.toList_mk [92], ByteArray.toList_mk [c], unhide HX, unhide HT, encL_snoc, unhide HE]; rfl, by rw [unhide HT]; exact fun d hd => (List.mem_append.1 hd).elim (unhide HO d) (fun hd => by rw [List.mem_singleton.1 hd]; exact unhide HK), (unhide HB).alloc (unhide HB).size _⟩
              case measure => simp [intOf]; omega
            · have b92 : ((c.toNat : Int) == 92) = false := beqF c92
              have HE : Hid (encB c = [c]) := by show _ = _; simp [encB, c10, c34, c92]
              clear c10 c34 c92
              by_cases b32 : (c.toNat : Int) < 32
              · go_wp2_with fail
                go_ret
                exact ⟨rfl, unhide HB⟩
              · by_cases b126 : (126 : Int) < (c.toNat : Int)
                · go_wp2_with fail
                  go_ret
                  exact ⟨rfl, unhide HB⟩
                · have HK : Hid (okB c = true) := by show _ = _; simp [okB]; right; omega
                  go_wp2_with fail
                  go_roundw
                  case rel => exact ⟨j + 1, x ++ ⟨#[c]⟩, hlt, by go_num, rfl, by rw [toL_append, ByteArray.toList_mk [c], unhide HX, unhide HT, encL_snoc, unhide HE]; rfl, by rw [unhide HT]; exact fun d hd => (List.mem_append.1 hd).elim (unhide HO d) (fun hd => by rw [List.mem_singleton.1 hd]; exact unhide HK), (unhide HB).alloc (unhide HB).size _⟩
                  case measure => simp [intOf]; omega
      · obtain rfl : j = len := by omega
        have hta : xs.take j = xs := List.take_of_length_le (by rw [unhide HXL]; exact Nat.le_refl _)
        rw [hta] at HX HO
        clear hta
        have hv1 : Vars wr := (unhide HV).below (B := w.heap.size) (by omega) (unhide HB)
        have hq : (x ++ ⟨#[34]⟩).toList = quoteL xs := by rw [toL_append, unhide HX, ByteArray.toList_mk [34]]; rfl
        have hxl := unhide HXL
        by_cases h256 : 256 < j
        · have t4 : (256 : Int) < j := by omega
          have HS := hide (Scan_is (x ++ ⟨#[34]⟩) wr hv1 [] 2 0 (by rw [hq]; exact lex_quote_long xs (unhide HO) (by omega) (by omega)))
          clear hq hv1 hxl
          go_wp2_with (first | (go_at_call 10; refine (unhide HS).mono ?_; rintro e w2 ⟨v, rfl, hown, hb2⟩; obtain ⟨ao2, cap2, hvv⟩ := own_form hown; subst hvv; have HB2 := hide hb2; clear hb2 hown))
          go_ret
          exact ⟨rfl, (((unhide HB).trans ((unhide HB2).mono (unhide HB).size)).alloc (Nat.le_trans (unhide HB).size (unhide HB2).size) _)⟩
        · have t4 : ¬ (256 : Int) < j := by omega
          have HS := hide (Scan_is (x ++ ⟨#[34]⟩) wr hv1 _ 0 0 (by rw [hq]; exact lex_quote_ok xs (unhide HO) (by omega)))
          clear hq hv1 hxl
          go_wp2_with (first | (go_at_call 10; refine (unhide HS).mono ?_; rintro e w2 ⟨v, rfl, hown, hb2⟩; obtain ⟨g, cap2, hvv, hg1, hg2, d0, d1, d2, d3⟩ := tok_cells hown 0 _ rfl; subst hvv; have HCV := hide (fun n => conv_at (X := (w2.alloc (.cells #[.int .i64 0, .int .i64 0] 26)).drewN n) cap (((unhide hc).below (((unhide HB).trans (hb2.mono (unhide HB).size)).alloc (Nat.le_trans (unhide HB).size hb2.size) _)).below (below_drawn _ _ n))); have HB2 := hide hb2; clear hb2 hown))
          have hcv2 := unhide HCV
          go_quiet (fail)
          go_wp2
          go_ret
          exact ⟨rfl, ((((unhide HB).trans ((unhide HB2).mono (unhide HB).size)).alloc (Nat.le_trans (unhide HB).size (unhide HB2).size) _)).trans (below_drawn _ _ _)⟩
end Go.Proofs.YteoongjimggbgaaDoor
