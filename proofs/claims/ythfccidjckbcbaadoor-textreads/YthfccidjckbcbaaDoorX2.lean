/- length, unpack, Bytes. -/
import Derived.Test.YthfccidjckbcbaaDoorX1
import Derived.Laws.MakeOwn
namespace Go.Proofs.YthfccidjckbcbaaDoor
open Go.RowKit Go.Proofs.YthfccidjckbcbaaDoor.Hp
variable {w w' : World} {B : HB} {n p : Nat} {A : Nat → Kd} {wd : Nat → Int} {hv : Value} {held : List Int} {cnt : Nat}
/-- How many bytes the string at an address has. -/
def lenI (A : Nat → Kd) (wd : Nat → Int) (a : Int) : Nat :=
  if kinI A wd a = 1 ∧ 0 ≤ getI A wd a 0 ∧ getI A wd a 0 ≤ (sizI A wd a - 1) * 8 ∧ (sizI A wd a - 1) * 8 < getI A wd a 0 + 8 then (getI A wd a 0).toNat else 0
theorem siz_rng (h : Sp w B n p A wd hv held cnt) (a : Int) : 0 ≤ sizI A wd a ∧ sizI A wd a ≤ 16447 := by
  unfold sizI
  split
  · rename_i hr
    obtain ⟨x, rfl, hx⟩ := room_nat hr
    have := (h.hd x hx).1
    unfold IsH at this
    unfold hS
    simp only [Int.toNat_natCast]
    omega
  · omega
theorem len_le (h : Sp w B n p A wd hv held cnt) (a : Int) : lenI A wd a ≤ 131568 := by
  have := siz_rng h a
  unfold lenI
  split
  · omega
  · omega
set_option maxRecDepth 100000 in
set_option maxHeartbeats 1000000 in
theorem length_any (h : Sp w B n p A wd hv held cnt) (a : Int) (hg : -9223372036854775808 ≤ getI A wd a 0 ∧ getI A wd a 0 < 9223372036854775808) :
    Calls Tryd.prog 25 #[.pointer (some ⟨p, 0, none⟩), .int .i64 a] w fun e w' => e = .returned (.int .i64 (lenI A wd a)) ∧ Fr (fun _ => False) w w' := by
  have hs := siz_rng h a
  have HH := hide (Head_any h a)
  have HG : Hid (∀ w1, Fr (fun _ => False) w w1 → Calls Tryd.prog 14 #[.pointer (some ⟨p, 0, none⟩), .int .i64 a, .int .i64 0] w1 fun e w' => e = .returned (.int .i64 (getI A wd a 0)) ∧ Fr (fun _ => False) w1 w') := hide fun w1 hF => Get_any (h.quiet hF) a 0
  obtain ⟨L, hL⟩ : ∃ L, lenI A wd a = L := ⟨_, rfl⟩
  rw [hL]
  have HL := hide hL
  unfold lenI at HL
  clear h hL
  generalize kinI A wd a = k at *
  generalize getI A wd a 0 = g at *
  generalize sizI A wd a = s at *
  generalize mskI A wd a = m at *
  go_enter Tryd.func25, Tryd.ntmps25
  go_wp2_with (first | (go_at_call 13; refine (unhide HH).mono ?_; rintro e w1 ⟨rfl, hF⟩; have HF := hide hF; clear hF) | (go_at_call 14; refine (unhide HG _ (unhide HF)).mono ?_; rintro e w2 ⟨rfl, hF2⟩; have HF2 := hide hF2; clear hF2))
  all_goals go_ret
  all_goals (refine ⟨ret_int ?_, (unhide HF).trans (unhide HF2)⟩; have hl := unhide HL; unfold wrap64 at *; split at hl <;> omega)
theorem Tryd.info5 : (Tryd.prog.info? 5).map (fun i => (i.zero, i.size, i.bytes)) = some (some (.int .u8 0), 1, 1) := by kernel_rfl
def byV (b : UInt8) : Value := .int .u8 (b.toNat : Int)
structure UnS (w w' : World) (base : Nat) (av : Value) (bs : List UInt8) (v : Value) (c : Nat) : Prop where
  own : w'.ownsRow base 5 1 v c (bs.map byV)
  fr : Fr (fun k => av.ownBlock = some k) w w'
  new : ∀ g, v.ownBlock = some g → av.ownBlock = some g ∨ w.heap.size ≤ g
def UnP (w : World) (base : Nat) (av : Value) (bs : List UInt8) (e : Ending) (w' : World) : Prop :=
  ∃ ao cp, e = .returned (.slice ao bs.length cp) ∧ w'.ownsRow base 5 1 (.slice ao bs.length cp) bs.length (bs.map byV) ∧ Fr (fun k => av.ownBlock = some k) w w' ∧ (∀ g, (Value.slice ao bs.length cp).ownBlock = some g → av.ownBlock = some g ∨ w.heap.size ≤ g)
set_option maxRecDepth 100000 in
set_option maxHeartbeats 2000000 in
theorem unpack_any (base : Nat) (ao : Option Addr) (cp : Nat) (bs : List UInt8) (z : Int) (m : Nat) (w : World) (ho : w.ownsRow base 5 1 (.slice ao bs.length cp) bs.length (bs.map byV)) (hb : base ≤ w.heap.size) (hm : m ≤ 8) (hl : bs.length ≤ 1000000) :
    Calls Tryd.prog 26 #[.slice ao bs.length cp, .int .i64 z, .int .i64 m] w fun e w' => UnP w base (.slice ao bs.length cp) (bs ++ (List.range m).map (byteAt z)) e w' := by
  obtain ⟨i1, hi, hz0, hz1, hz2⟩ := info_parts Tryd.info5
  have HO0 := hide ho
  obtain ⟨len, hlen⟩ : ∃ len, len = bs.length := ⟨_, rfl⟩
  have HLn := hide hlen
  rw [← hlen] at hl ⊢
  have HB : Hid (∀ wr, Fr (fun k => (Value.slice ao len cp).ownBlock = some k) w wr → base ≤ wr.heap.size) := hide fun wr k => Nat.le_trans hb k.size
  clear ho hb hlen
  go_enter Tryd.func26, Tryd.ntmps26
  go_wp2
  go_loopw [0, 9] (fun v i wr => ∃ k : Nat, k ≤ m ∧ i = .int .i64 k ∧ ∃ ao1 cp1, v = .slice ao1 (len + k) cp1 ∧ Hid (UnS w wr base (.slice ao len cp) (bs ++ (List.range k).map (byteAt z)) (.slice ao1 (len + k) cp1) (len + k))) (fun _ i _ => m - (intOf i).toNat)
  case atStart => exact ⟨0, Nat.zero_le _, rfl, ao, cp, rfl, hide ⟨by have := unhide HO0; rw [← unhide HLn] at this; simpa using this, Fr.refl _ _, fun g hg => .inl hg⟩⟩
  case round =>
    obtain ⟨k, hk, rfl, ao1, cp1, rfl, hU⟩ := hrel
    by_cases hlt : k < m
    · have HO := hide (unhide hU).own
      have hbs := unhide HB _ (unhide hU).fr
      have HN : Hid (∀ (W : World) (g cap : Nat) (o : Obj), W.ownsRow base 5 1 (.slice (some ⟨g, 0, none⟩) (len + k + 1) cap) (len + k + 1) ((bs ++ (List.range k).map (byteAt z)).map byV ++ [Value.int .u8 (z / 2 ^ (8 * k) % 256)]) → (wr.alloc o).grownBy W (Value.slice ao1 (len + k) cp1).ownBlock → ((Value.slice ao1 (len + k) cp1).ownBlock = some g ∨ g = (wr.alloc o).heap.size) → UnS w W base (.slice ao len cp) (bs ++ (List.range (k + 1)).map (byteAt z)) (.slice (some ⟨g, 0, none⟩) (len + (k + 1)) cap) (len + (k + 1))) := hide fun W g cap o hown hg hat => by
        have hu := unhide hU
        have hF : Fr (fun q => (Value.slice ao1 (len + k) cp1).ownBlock = some q) wr W := ((Fr.refl _ wr).alloc o).trans ((Fr.grown hg).mono fun _ e => e.symm)
        refine ⟨?_, ?_, ?_⟩
        · rw [List.range_succ, List.map_append (f := byteAt z), ← List.append_assoc, List.map_append (f := byV)]
          rw [show len + (k + 1) = len + k + 1 by omega]
          have e : [Value.int .u8 (z / 2 ^ (8 * k) % 256)] = List.map byV (List.map (byteAt z) [k]) := by
            simp [byV, byteAt_toNat]
          rw [← e]; exact hown
        · refine ⟨hg.os.trans hu.fr.os, hg.tape.trans hu.fr.tape, hg.output.trans hu.fr.output, Nat.le_trans hu.fr.size hF.size, fun i hi hn => ?_⟩
          refine (hF.block i (Nat.lt_of_lt_of_le hi hu.fr.size) fun e => ?_).trans (hu.fr.block i hi hn)
          rcases hu.new i e with e2 | e2
          · exact hn e2
          · omega
        · intro g' hg'
          have eg : g = g' := by simpa [Value.ownBlock] using hg'
          subst eg
          rcases hat with e | e
          · exact hu.new g e
          · right
            have := hu.fr.size
            rw [e]; simp; omega
      go_wp2_with (first | (at_builtin; refine wpList_append_lies _ rfl _ _ 38 rfl base 5 i1 (.int .u8 0) 1 1 Tryd.underlying38 hi hz0 hz1 hz2 rfl (by decide) (.slice ao1 (len + k) cp1) (len + k) ((bs ++ (List.range k).map (byteAt z)).map byV) rfl ((unhide HO).alloc _) ⟨wr.heap.size, 0, none⟩ 1 1 [.int .u8 (z / 2 ^ (8 * k) % 256)] rfl rfl (cell_one_new _ _ _) (ints_oneCell .u8 [_]) (by decide) (by unfold maxLen; omega) (by omega) (by simp; omega) _ rfl ?_; intro g cap w4 hown4 hgrow4 hat4 hlt4; have HU4 := hide (unhide HN _ _ _ _ hown4 hgrow4 hat4); clear hown4 hgrow4 hat4))
      go_roundw
      case rel => exact ⟨k + 1, by omega, by go_num, _, _, rfl, HU4⟩
      case measure => simp [intOf]; omega
    · have hge : ¬ (k : Int) < m := by omega
      have hge2 : decide ((k : Int) < m) = false := decide_eq_false hge
      obtain rfl : k = m := by omega
      have HE : Hid (UnP w base (.slice ao len cp) (bs ++ (List.range k).map (byteAt z)) (.returned (.slice ao1 (len + k) cp1)) wr) := hide (by
        have hu := unhide hU
        have e : len + k = (bs ++ (List.range k).map (byteAt z)).length := by rw [List.length_append, ← unhide HLn]; simp
        exact ⟨ao1, cp1, by rw [← e], by rw [← e]; exact hu.own, hu.fr, by rw [← e]; exact hu.new⟩)
      clear hlt
      go_wp2
      go_ret
      exact unhide HE
end Go.Proofs.YthfccidjckbcbaaDoor
