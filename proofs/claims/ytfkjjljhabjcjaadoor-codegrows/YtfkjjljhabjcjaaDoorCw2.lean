/- The writer: flags, sizes. -/
import Derived.Test.YtfkjjljhabjcjaaDoorCw1
import Derived.Laws.BitsAllLaws
namespace Go.Proofs.YtfkjjljhabjcjaaDoor
open Go.RowKit Go.Proofs.YtfkjjljhabjcjaaDoor.Cx
set_option maxRecDepth 100000 in
set_option maxHeartbeats 1000000 in
theorem flag_w (base wp : Nat) (bs : List UInt8) (b : Bool) (w : World) (h : WrS w wp base bs) (hl : bs.length ≤ 1000000000) :
    Calls Tryd.prog 33 #[.pointer (some ⟨wp, 0, none⟩), .bool b] w fun e w' => WrP base wp bs (encB b) w e w' := by
  have H1 := hide (octet_w base wp bs 1 w h hl)
  have H0 := hide (octet_w base wp bs 0 w h hl)
  clear h
  go_enter Tryd.func33, Tryd.ntmps33
  cases b
  · go_wp2_with fail
    refine (unhide H0).mono ?_
    intro e w' hp
    obtain rfl := hp.1
    have HP := hide hp
    clear hp
    go_wp2
    go_end0
    exact unhide HP
  · go_wp2_with fail
    refine (unhide H1).mono ?_
    intro e w' hp
    obtain rfl := hp.1
    have HP := hide hp
    clear hp
    go_wp2
    go_end0
    exact unhide HP
theorem or_all (x : Nat) (h : x < 256) : x ||| 128 = x % 128 + 128 := by
  by_cases h1 : x < 128
  · rw [nat_join7' 128 x rfl h1]; omega
  · have e : x = 128 ||| (x - 128) := by rw [nat_join7 128 (x - 128) rfl (by omega)]; omega
    rw [e, Nat.or_comm, ← Nat.or_assoc, Nat.or_self, ← e]; omega
theorem or128 (m : Nat) : bits .or .u8 ((m : Int) % 256) 128 = ((UInt8.ofNat (m % 128 + 128)).toNat : Int) := by
  have h := u8_or ((m : Int) % 256) 128 (by omega) (by omega) (by decide) (by decide)
  rw [h, ofNat_toNat (by omega)]
  have : ((m : Int) % 256).toNat = m % 256 := by omega
  rw [this, show (128 : Int).toNat = 128 from rfl, or_all _ (by omega)]
  omega
theorem low7 {m : Nat} (h : m < 128) : (m : Int) = ((UInt8.ofNat m).toNat : Int) := by
  rw [ofNat_toNat (by omega)]
set_option maxRecDepth 100000 in
set_option maxHeartbeats 1000000 in
theorem size_w (base wp : Nat) (bs : List UInt8) (n : Nat) (w : World) (h : WrS w wp base bs) (hn : n < 18446744073709551616) (hl : bs.length + (sz n).length ≤ 1000000000) :
    Calls Tryd.prog 45 #[.pointer (some ⟨wp, 0, none⟩), .int .u64 n] w fun e w' => WrP base wp bs (sz n) w e w' := by
  have HS := hide h
  have HL := hide hl
  clear h hl
  go_enter Tryd.func45, Tryd.ntmps45
  go_wp2
  go_loopw [1] (fun t wr => ∃ (m : Nat) (done : List UInt8), m < 18446744073709551616 ∧ t = .int .u64 m ∧ Hid (sz n = done ++ sz m ∧ WrS wr wp base (bs ++ done) ∧ WFr base wp w wr)) (fun t _ => (intOf t).toNat)
  case atStart => exact ⟨n, [], hn, rfl, hide ⟨rfl, by simpa using unhide HS, WFr.refl _ _ _⟩⟩
  case round =>
    obtain ⟨m, done, hm, rfl, hI⟩ := hrel
    have HB : Hid ((bs ++ done).length ≤ 1000000000) := by
      have h1 := (unhide hI).1
      have h2 := unhide HL
      rw [h1] at h2
      refine hide ?_
      simp only [List.length_append] at h2 ⊢
      omega
    by_cases hge : m < 128
    · have hge' : ¬ (128 : Int) ≤ (m : Int) := by omega
      have HC : Hid (Calls Tryd.prog 46 #[.pointer (some ⟨wp, 0, none⟩), .int .u8 (m : Int)] wr fun e w' => WrP base wp (bs ++ done) (sz m) wr e w') := by
        rw [low7 hge, sz_lt hge]
        exact hide (octet_w base wp (bs ++ done) (UInt8.ofNat m) wr (unhide hI).2.1 (unhide HB))
      go_wp2_with fail
      refine (unhide HC).mono ?_
      intro e w' hp
      obtain rfl := hp.1
      have HP := hide hp
      clear hp
      go_wp2
      go_end0
      refine ⟨rfl, ?_, (unhide hI).2.2.trans (unhide HP).2.2⟩
      have := (unhide HP).2.1
      rwa [List.append_assoc, ← (unhide hI).1] at this
    · have hge' : (128 : Int) ≤ (m : Int) := by omega
      have HC : Hid (Calls Tryd.prog 46 #[.pointer (some ⟨wp, 0, none⟩), .int .u8 (bits .or .u8 ((m : Int) % 256) 128)] wr fun e w' => WrP base wp (bs ++ done) [UInt8.ofNat (m % 128 + 128)] wr e w') := by
        rw [or128]
        exact hide (octet_w base wp (bs ++ done) (UInt8.ofNat (m % 128 + 128)) wr (unhide hI).2.1 (unhide HB))
      go_wp2_with fail
      refine (unhide HC).mono ?_
      intro e w' hp
      obtain rfl := hp.1
      have HP := hide hp
      clear hp
      go_wp2
      go_roundw
      case rel =>
        refine ⟨m / 128, done ++ [UInt8.ofNat (m % 128 + 128)], by omega, by congr 1, hide ⟨?_, ?_, (unhide hI).2.2.trans (unhide HP).2.2⟩⟩
        · rw [(unhide hI).1, sz_ge hge, List.append_assoc]; rfl
        · rw [← List.append_assoc]; exact (unhide HP).2.1
      case measure => simp [intOf]; omega
end Go.Proofs.YtfkjjljhabjcjaaDoor
