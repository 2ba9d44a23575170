/- CodeReads: Reference; bytes that are handed in. -/
import Derived.Test.YtfkjjljhabjcjaaDoorLb
namespace Go.Proofs.YtfkjjljhabjcjaaDoor
open Go.RowKit Go.Proofs.YtfkjjljhabjcjaaDoor.Cx Go.ChangeShapes Go.WideShapes Go.Deep
/-- Whether the register r of a function with these registers holds references. -/
def refB (l : List Bool) (r : Int) : Bool := if 0 ≤ r ∧ r < l.length then l.getD r.toNat false else false
set_option maxRecDepth 100000 in
set_option maxHeartbeats 1000000 in
theorem Reference_any (f : Fnc) (cs : List Value) (r : Int) (S : Nat → Prop) (w : World) (hC : fncC S w f cs) (hr : okN r) :
    Calls Tryd.prog 13 #[.agg cs.toArray, .int .i64 r] w fun e w' => e = .returned (.bool (refB f.refs r)) ∧ Fr (fun _ => False) w w' := by
  obtain ⟨_, a1, c1, a2, c2, rfl, hr1, _⟩ := hC
  obtain ⟨r1, r2⟩ := hr
  have hlen := hr1.1
  have HR := hide hr1
  by_cases h0 : 0 ≤ r
  · by_cases h1 : r < f.refs.length
    · obtain ⟨k, rfl⟩ : ∃ k : Nat, r = (k : Int) := ⟨r.toNat, by omega⟩
      have hk : k < f.refs.length := by omega
      obtain ⟨b, off, cs, rfl, _, hc, _, hcell⟩ := hr1.2 k hk
      obtain rfl : cs = _ := hc
      have d0 : w.cell? ⟨b, off + k, none⟩ = some (.bool f.refs[k]) := by have := hcell 0 _ rfl; simpa using this
      have hE : refB f.refs (k : Int) = f.refs[k] := by
        unfold refB
        rw [if_pos ⟨h0, h1⟩]
        simp [List.getD, List.getElem?_eq_getElem hk]
      rw [hE]
      have hbl : b < w.heap.size := World.block_lt_of_cell? w ⟨b, off + k, none⟩ d0
      clear hcell hr1 HR hE
      generalize f.refs[k] = v at *
      go_enter Tryd.func13, Tryd.ntmps13
      go_wp2
      go_ret
      exact ⟨rfl, (Fr.refl _ w).alloc _⟩
    · have hE : refB f.refs r = false := by unfold refB; rw [if_neg (by omega)]
      rw [hE]
      clear hr1 HR hE
      go_enter Tryd.func13, Tryd.ntmps13
      go_wp2
      go_ret
      exact ⟨rfl, (Fr.refl _ w).alloc _⟩
  · have hE : refB f.refs r = false := by unfold refB; rw [if_neg (by omega)]
    rw [hE]
    clear hr1 HR hE
    go_enter Tryd.func13, Tryd.ntmps13
    go_wp2
    go_ret
    exact ⟨rfl, (Fr.refl _ w).alloc _⟩
def byteC (_ : Nat → Prop) (_ : World) (b : UInt8) (cs : List Value) : Prop := cs = [byteV b]
theorem row_bytes {S : Nat → Prop} {w : World} {l : List UInt8} {a : Option Addr} (h : RowOf byteC 1 S w l a) : BytesAt w l a := fun j hj => by
  obtain ⟨b, off, cs, h1, _, h3, _, h5⟩ := h.2 j hj
  obtain rfl : cs = _ := h3
  exact ⟨b, off, h1, by have := h5 0 _ rfl; simpa using this⟩
section
variable {H : Type} {enc : TypeId × Value → H} {w : World} {spare : Nat → Bool} {held : Bool}
theorem open_byte {fuel : Nat} {cs : List Value} {x : DataW H × List MemPlace} (h : DataW.trod enc Tryd.prog w 0 spare held fuel 5 cs = some x) : ∃ y, byteC (· < w.heap.size) w y cs := by
  obtain ⟨z, e, _, r⟩ := DataW.trod_int Tryd.underlying5 h
  simp [Lit.wf, IntKind.min, IntKind.max, IntKind.signed, IntKind.bits] at r
  refine ⟨UInt8.ofNat z.toNat, ?_⟩
  rw [e]
  show [Value.int .u8 z] = [Value.int .u8 (((UInt8.ofNat z.toNat).toNat : Nat) : Int)]
  rw [ofNat_toNat (by omega)]
  congr 2
  omega
theorem open_bytes1 {fuel : Nat} {v : Value} {x : DataW H × List MemPlace} (h : DataW.trod enc Tryd.prog w 0 spare held fuel 32 [v] = some x) (hsm : Sml 32 x.1) : ∃ (l : List UInt8) (a : Option Addr) (cap : Nat), v = .slice a l.length cap ∧ l.length ≤ cap ∧ RowOf byteC 1 (· < w.heap.size) w l a :=
  open_row byteC 1 Tryd.underlying32 (by kernel_rfl) (by decide) (of_decide_eq_true (by kernel_rfl)) (fun _ _ _ h _ => open_byte h) h hsm
end
end Go.Proofs.YtfkjjljhabjcjaaDoor
