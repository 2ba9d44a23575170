/- Decode. -/
import Derived.Test.YtfkjjljhabjcjaaDoorCis
namespace Go.Proofs.YtfkjjljhabjcjaaDoor
open Go.RowKit Go.Proofs.YtfkjjljhabjcjaaDoor.Cx
/-- The bytes b lie at a. -/
def BytesAt (w : World) (b : List UInt8) (a : Option Addr) : Prop := ∀ j (h : j < b.length), ∃ bk off, a = some ⟨bk, off, none⟩ ∧ w.cell? ⟨bk, off + j, none⟩ = some (byteV b[j])
def zero5 : List Value := [.slice none 0 0, .slice none 0 0, .slice none 0 0, .slice none 0 0, .int .i64 0]
def DecP (b : List UInt8) (w : World) (e : Ending) (w' : World) : Prop :=
  Fr (fun _ => False) w w' ∧ ((∃ x cs, okP x ∧ b = encP x ∧ e = .returned (.tuple #[.agg cs.toArray, .bool true]) ∧ prgC (fun k => w.heap.size ≤ k ∧ k < w'.heap.size) w' x cs) ∨
    ((∀ x, okP x → b ≠ encP x) ∧ e = .returned (.tuple #[.agg zero5.toArray, .bool false])))
theorem Rd.start {pe pf : Addr} {w : World} {b : List UInt8} {a : Option Addr} {cap : Nat} (hv : Vars w pe pf) (hb : BytesAt w b a) (hf : b.length ≤ 1000000000) (hc : b.length ≤ cap) (o : Obj) :
    Rd pe pf ((w.alloc o).alloc (.cells #[.slice a b.length cap, .int .i64 0, .nilIface] 50)) (w.heap.size + 1) (w.heap.size + 2) b a cap (some 0) := by
  have e : (w.alloc o).heap.size = w.heap.size + 1 := by simp
  have h1 : 1 < w.heap.size := World.block_lt_of_cell? w ⟨1, 0, none⟩ hv.v1
  have hk : ∀ {x : Addr} {v : Value}, w.cell? x = some v → ((w.alloc o).alloc (.cells #[.slice a b.length cap, .int .i64 0, .nilIface] 50)).cell? x = some v := fun h => (((Fr.refl (fun _ => False) w).alloc _).alloc _).cell h id
  have hn : ∀ (j : Nat) (v : Value), #[Value.slice a b.length cap, .int .i64 0, .nilIface][j]? = some v → ((w.alloc o).alloc (.cells #[.slice a b.length cap, .int .i64 0, .nilIface] 50)).cell? ⟨w.heap.size + 1, j, none⟩ = some v := fun j v h => by rw [World.cell?_alloc_at _ _ _ _ e.symm]; exact h
  refine ⟨hn 0 _ rfl, ⟨0, Nat.zero_le _, hn 1 _ rfl, fun _ e => (Option.some.inj e).symm⟩, ⟨_, hn 2 _ rfl, .inl ⟨0, rfl, rfl⟩⟩, World.frozen?_alloc_at _ _ _ _ e.symm, World.frozen?_alloc_at _ _ _ _ e.symm, fun j hj => ?_, hf, hc, by omega, by omega, by omega, by simp, ⟨hk hv.v0, hk hv.v1⟩⟩
  obtain ⟨bk, off, h2, h3⟩ := hb j hj
  have h4 : bk < w.heap.size := World.block_lt_of_cell? w ⟨bk, off + j, none⟩ h3
  exact ⟨bk, off, h2, by omega, by omega, hk h3⟩
set_option maxRecDepth 100000 in
set_option maxHeartbeats 4000000 in
theorem Decode_any (pe pf : Addr) (b : List UInt8) (a : Option Addr) (cap : Nat) (w : World) (hv : Vars w pe pf) (hb : BytesAt w b a) (hf : b.length ≤ 1000000000) (hc : b.length ≤ cap) :
    Calls Tryd.prog 10 #[.slice a b.length cap] w fun e w' => DecP b w e w' := by
  have HR : Hid (∀ o, Rd pe pf ((w.alloc o).alloc (.cells #[.slice a b.length cap, .int .i64 0, .nilIface] 50)) (w.heap.size + 1) (w.heap.size + 2) b a cap (some 0)) := hide fun o => Rd.start hv hb hf hc o
  clear hv hb
  go_enter Tryd.func10, Tryd.ntmps10
  go_wp2_with fail
  refine (program_r pe pf (w.heap.size + 1) (w.heap.size + 2) b a cap (some 0) _ (unhide HR _)).mono ?_
  rintro e w1 ⟨ia0, il0, ic0, ia1, il1, ic1, ia2, il2, ic2, ia3, il3, ic3, x4, rfl, hF, st1, hR1, hS⟩
  have HF := hide hF
  have HS := hide hS
  have hsz := hF.size
  simp at hsz
  have HR1 := hide hR1
  have hB0 : Fr (· = w.heap.size + 1) (w.alloc (.cells zero5.toArray 27)) w1 := Fr.trans ((Fr.refl _ _).alloc _) hF
  have HA : Hid (∀ j v, zero5.toArray[j]? = some v → w1.cell? ⟨w.heap.size, j, none⟩ = some v ∧ w1.frozen? ⟨w.heap.size, j, none⟩ = false) := hide fun j v hj =>
    ⟨hB0.cell (by rw [World.cell?_alloc_at _ _ _ _ rfl]; exact hj) (show ¬ w.heap.size = w.heap.size + 1 by omega), hB0.frozen (show w.heap.size < (w.alloc (.cells zero5.toArray 27)).heap.size by simp) (World.frozen?_alloc_at _ _ _ _ rfl) (show ¬ w.heap.size = w.heap.size + 1 by omega)⟩
  have hFw : Fr (fun _ => False) w w1 := (((Fr.refl (fun _ => False) w).alloc _).alloc _).up hF fun k hk => .inr (by have hk' : k = w.heap.size + 1 := hk; omega)
  have HFw := hide hFw
  clear hB0 hFw
  have hAl : ∀ (o : Obj) {x : Addr} {v : Value}, w1.cell? x = some v → (w1.alloc o).cell? x = some v := fun o _ _ h => ((Fr.refl (fun _ => False) w1).alloc o).cell h id
  have hAf : ∀ (o : Obj) {x : Addr} {v : Bool}, x.block < w1.heap.size → w1.frozen? x = v → (w1.alloc o).frozen? x = v := fun o _ _ hl h => ((Fr.refl (fun _ => False) w1).alloc o).frozen hl h id
  have HAl := hide hAl
  have HAf := hide hAf
  clear hAl hAf
  cases st1 with
  | none =>
    obtain ⟨i, q, _, _, c2⟩ := hR1.st
    have c2' := fun o => (unhide HAl) o c2
    have rc0 := fun o => (unhide HAl) o ((unhide HA) 0 _ rfl).1
    have rf0 := fun o => (unhide HAf) o (show w.heap.size < w1.heap.size by omega) ((unhide HA) 0 _ rfl).2
    have rc1 := fun o => (unhide HAl) o ((unhide HA) 1 _ rfl).1
    have rf1 := fun o => (unhide HAf) o (show w.heap.size < w1.heap.size by omega) ((unhide HA) 1 _ rfl).2
    have rc2 := fun o => (unhide HAl) o ((unhide HA) 2 _ rfl).1
    have rf2 := fun o => (unhide HAf) o (show w.heap.size < w1.heap.size by omega) ((unhide HA) 2 _ rfl).2
    have rc3 := fun o => (unhide HAl) o ((unhide HA) 3 _ rfl).1
    have rf3 := fun o => (unhide HAf) o (show w.heap.size < w1.heap.size by omega) ((unhide HA) 3 _ rfl).2
    have rc4 := fun o => (unhide HAl) o ((unhide HA) 4 _ rfl).1
    have rf4 := fun o => (unhide HAf) o (show w.heap.size < w1.heap.size by omega) ((unhide HA) 4 _ rfl).2
    clear hF hS hR1 HR c2
    have HE : Hid (∀ W, Fr (· = w.heap.size) w1 W → DecP b w (.returned (.tuple #[.agg zero5.toArray, .bool false])) W) := hide fun W hW => ⟨(unhide HFw).up hW fun k hk => .inr (by have hk' : k = w.heap.size := hk; omega), .inr ⟨fun x hx e => (unhide HS) x hx ⟨[], by rw [List.append_nil, List.drop_zero, ← e]⟩, rfl⟩⟩
    clear HS HF HR1 HA HFw HAl HAf
    go_wp2
    refine bodyPost_ret (v := .tuple #[.agg zero5.toArray, .bool false]) (by simp [results, Tryd.results10, go_sem, rc0, rc1, rc2, rc3, rc4, zero5]) rfl ?_
    exact unhide HE _ (((((((Fr.refl (· = w.heap.size) w1).alloc _).setCell (p := ⟨w.heap.size, 0, none⟩) rfl _).setCell (p := ⟨w.heap.size, 1, none⟩) rfl _).setCell (p := ⟨w.heap.size, 2, none⟩) rfl _).setCell (p := ⟨w.heap.size, 3, none⟩) rfl _).setCell (p := ⟨w.heap.size, 4, none⟩) rfl _)
  | some i1 =>
    obtain ⟨_, _, c2⟩ := hR1.at
    have c2' := fun o => (unhide HAl) o c2
    clear hF hS hR1 HR
    have HO : Hid (∀ o, Calls Tryd.prog 16 #[.pointer (some ⟨w.heap.size + 1, 0, none⟩)] (w1.alloc o) fun e w' => OctP pe pf (w.heap.size + 1) (w.heap.size + 2) b a cap (some i1) (w1.alloc o) e w') := hide fun o => octet_r pe pf (w.heap.size + 1) (w.heap.size + 2) b a cap (some i1) (w1.alloc o) ((unhide HR1).alloc o)
    go_wp2_with fail
    refine ((unhide HO) _).mono ?_
    rintro e w3 ⟨hF3, hO3⟩
    have hsz3 : w1.heap.size + 1 ≤ w3.heap.size := by have := hF3.size; simpa using this
    have rc0 := hF3.cell ((unhide HAl) _ ((unhide HA) 0 _ rfl).1) (show ¬ w.heap.size = w.heap.size + 1 by omega)
    have rf0 := hF3.frozen (show w.heap.size < (w1.alloc _).heap.size by simp; omega) ((unhide HAf) _ (show w.heap.size < w1.heap.size by omega) ((unhide HA) 0 _ rfl).2) (show ¬ w.heap.size = w.heap.size + 1 by omega)
    have pc0 : w3.cell? ⟨w1.heap.size, 0, none⟩ = some (.slice ia0 il0 ic0) := hF3.cell (by rw [World.cell?_alloc_at _ _ _ _ rfl]; rfl) (show ¬ w1.heap.size = w.heap.size + 1 by omega)
    have rc1 := hF3.cell ((unhide HAl) _ ((unhide HA) 1 _ rfl).1) (show ¬ w.heap.size = w.heap.size + 1 by omega)
    have rf1 := hF3.frozen (show w.heap.size < (w1.alloc _).heap.size by simp; omega) ((unhide HAf) _ (show w.heap.size < w1.heap.size by omega) ((unhide HA) 1 _ rfl).2) (show ¬ w.heap.size = w.heap.size + 1 by omega)
    have pc1 : w3.cell? ⟨w1.heap.size, 1, none⟩ = some (.slice ia1 il1 ic1) := hF3.cell (by rw [World.cell?_alloc_at _ _ _ _ rfl]; rfl) (show ¬ w1.heap.size = w.heap.size + 1 by omega)
    have rc2 := hF3.cell ((unhide HAl) _ ((unhide HA) 2 _ rfl).1) (show ¬ w.heap.size = w.heap.size + 1 by omega)
    have rf2 := hF3.frozen (show w.heap.size < (w1.alloc _).heap.size by simp; omega) ((unhide HAf) _ (show w.heap.size < w1.heap.size by omega) ((unhide HA) 2 _ rfl).2) (show ¬ w.heap.size = w.heap.size + 1 by omega)
    have pc2 : w3.cell? ⟨w1.heap.size, 2, none⟩ = some (.slice ia2 il2 ic2) := hF3.cell (by rw [World.cell?_alloc_at _ _ _ _ rfl]; rfl) (show ¬ w1.heap.size = w.heap.size + 1 by omega)
    have rc3 := hF3.cell ((unhide HAl) _ ((unhide HA) 3 _ rfl).1) (show ¬ w.heap.size = w.heap.size + 1 by omega)
    have rf3 := hF3.frozen (show w.heap.size < (w1.alloc _).heap.size by simp; omega) ((unhide HAf) _ (show w.heap.size < w1.heap.size by omega) ((unhide HA) 3 _ rfl).2) (show ¬ w.heap.size = w.heap.size + 1 by omega)
    have pc3 : w3.cell? ⟨w1.heap.size, 3, none⟩ = some (.slice ia3 il3 ic3) := hF3.cell (by rw [World.cell?_alloc_at _ _ _ _ rfl]; rfl) (show ¬ w1.heap.size = w.heap.size + 1 by omega)
    have rc4 := hF3.cell ((unhide HAl) _ ((unhide HA) 4 _ rfl).1) (show ¬ w.heap.size = w.heap.size + 1 by omega)
    have rf4 := hF3.frozen (show w.heap.size < (w1.alloc _).heap.size by simp; omega) ((unhide HAf) _ (show w.heap.size < w1.heap.size by omega) ((unhide HA) 4 _ rfl).2) (show ¬ w.heap.size = w.heap.size + 1 by omega)
    have pc4 : w3.cell? ⟨w1.heap.size, 4, none⟩ = some (.int .i64 x4) := hF3.cell (by rw [World.cell?_alloc_at _ _ _ _ rfl]; rfl) (show ¬ w1.heap.size = w.heap.size + 1 by omega)
    have hFw3 : Fr (fun _ => False) w w3 := ((unhide HFw).alloc _).up hF3 fun k hk => .inr (by have hk' : k = w.heap.size + 1 := hk; omega)
    obtain ⟨x, hx1, hx2, hx3, hx4⟩ := unhide HS
    have hi1 : i1 = (encP x).length := by omega
    have HNo : Hid (i1 ≠ b.length → ∀ W, Fr (· = w.heap.size) w3 W → DecP b w (.returned (.tuple #[.agg zero5.toArray, .bool false])) W) := hide fun hne W hW => ⟨hFw3.up hW fun k hk => .inr (by have hk' : k = w.heap.size := hk; omega), .inr ⟨fun y hy e => hne (by
      have : x = y := At.uniq encP_pf hx2 ⟨[], by rw [List.append_nil, List.drop_zero, ← e]⟩
      rw [hi1, this, ← e]), rfl⟩⟩
    have HYes : Hid (i1 = b.length → ∀ W, Fr (· = w.heap.size) w3 W → DecP b w (.returned (.tuple #[.agg #[.slice ia0 il0 ic0, .slice ia1 il1 ic1, .slice ia2 il2 ic2, .slice ia3 il3 ic3, .int .i64 x4], .bool true])) W) := hide fun he W hW => by
      have hW3 := hW.size
      refine ⟨hFw3.up hW fun k hk => .inr (by have hk' : k = w.heap.size := hk; omega), .inl ⟨x, [.slice ia0 il0 ic0, .slice ia1 il1 ic1, .slice ia2 il2 ic2, .slice ia3 il3 ic3, .int .i64 x4], hx1, hx2.all (by omega), rfl, ?_⟩⟩
      refine prgG.mono ?_ (prgG.same (w := w1) (fun k hk => ?_) hx4)
      · rintro k ⟨h1, h2⟩
        simp at h1
        exact ⟨by omega, by omega⟩
      · obtain ⟨h1, h2⟩ := hk
        simp at h1
        exact (hW.block k (by omega) (by omega)).trans ((hF3.block k (by simp; omega) (by omega)).trans (Below.heap_alloc _ _ _ h2))
    clear HS HF HR1 HA HFw HAl HAf hF3 hFw3 hx1 hx2 hx3 hx4 c2 c2' HO
    rcases hO3 with ⟨i, c, he, hc3, rfl, hR3⟩ | ⟨rfl, hR3, hE3⟩
    · obtain rfl := Option.some.inj he
      obtain ⟨_, _, c23⟩ := hR3.at
      have v0 := hR3.vars.v0
      have hne : i1 ≠ b.length := fun e => by rw [List.getElem?_eq_none (by omega)] at hc3; cases hc3
      have HE := hide (unhide HNo hne)
      clear hR3 HNo HYes hc3 he
      go_wp2_with fail
      go_quiet (first | (go_at_call 17; exact Calls.quiet_of_same (is_nil pe _)))
      go_wp2
      refine bodyPost_ret (v := .tuple #[.agg zero5.toArray, .bool false]) (by simp [results, Tryd.results10, go_sem, rc0, rc1, rc2, rc3, rc4, zero5]) rfl ?_
      exact unhide HE _ (((((((Fr.refl (· = w.heap.size) w3).drewN nq).setCell (p := ⟨w.heap.size, 0, none⟩) rfl _).setCell (p := ⟨w.heap.size, 1, none⟩) rfl _).setCell (p := ⟨w.heap.size, 2, none⟩) rfl _).setCell (p := ⟨w.heap.size, 3, none⟩) rfl _).setCell (p := ⟨w.heap.size, 4, none⟩) rfl _)
    · obtain ⟨_, hil, q, c23, cq⟩ := hE3 i1 rfl
      have v0 := hR3.vars.v0
      have HE := hide (unhide HYes hil)
      clear hR3 HNo HYes hE3
      go_wp2_with fail
      go_quiet (first | (go_at_call 17; refine Calls.quiet_of_same (is_wrap q pe _ ?_); exact cq))
      go_wp2
      refine bodyPost_ret (v := .tuple #[.agg #[.slice ia0 il0 ic0, .slice ia1 il1 ic1, .slice ia2 il2 ic2, .slice ia3 il3 ic3, .int .i64 x4], .bool true]) (by simp [results, Tryd.results10, go_sem, rc0, rc1, rc2, rc3, rc4]) rfl ?_
      exact unhide HE _ (((((((Fr.refl (· = w.heap.size) w3).drewN nq).setCell (p := ⟨w.heap.size, 0, none⟩) rfl _).setCell (p := ⟨w.heap.size, 1, none⟩) rfl _).setCell (p := ⟨w.heap.size, 2, none⟩) rfl _).setCell (p := ⟨w.heap.size, 3, none⟩) rfl _).setCell (p := ⟨w.heap.size, 4, none⟩) rfl _)
end Go.Proofs.YtfkjjljhabjcjaaDoor
