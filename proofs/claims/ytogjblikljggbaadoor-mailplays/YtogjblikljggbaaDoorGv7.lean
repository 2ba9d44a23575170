/- Alloc. -/
import Derived.Test.YtogjblikljggbaaDoorGv6
namespace Go.Proofs.YtogjblikljggbaaDoor
open Go.RowKit Go.Proofs.YtogjblikljggbaaDoor.Hp
def clearW (wd : Nat → Int) (a r : Nat) : Nat → Int := fun i => if a ≤ i ∧ i < a + r then 0 else wd i
theorem Fr.setCells {K : Nat → Prop} {b : Nat} (hb : K b) : ∀ (vs : List Value) (o : Nat) {a w : World}, Fr K a w → Fr K a (w.setCells b o vs)
  | [], _, _, _, h => h
  | v :: r, o, _, _, h => Fr.setCells hb r (o + 1) (h.setCell (p := ⟨b, o, none⟩) hb v)
theorem Row.clear {w : World} {b m a r : Nat} {f : Nat → Value} {z : Value} (h : Row w b m f) (hr : a + r ≤ m) : Row (w.setCells b a (List.replicate r z)) b m (fun i => if a ≤ i ∧ i < a + r then z else f i) := by
  intro i hi
  refine ⟨?_, by rw [World.frozen?_setCells]; exact (h i hi).2⟩
  by_cases e : a ≤ i ∧ i < a + r
  · dsimp only
    rw [if_pos e]
    have := World.cell?_setCells_in b (List.replicate r z) a w (fun j hj => by rw [List.length_replicate] at hj; rw [(h (a + j) (by omega)).1]; rfl) (i - a) (by rw [List.length_replicate]; omega)
    rw [show a + (i - a) = i by omega] at this
    rw [this]; simp
  · dsimp only
    rw [if_neg e, World.cell?_setCells_out b _ a w ⟨b, i, none⟩ (fun _ _ => by rw [List.length_replicate]; dsimp only; omega)]
    exact (h i hi).1
theorem At.clear {w : World} {B : HB} {n : Nat} {A : Nat → Kd} {wd : Nat → Int} {a r : Nat} (h : At w B n (hrOf A wd)) (hr : a + r ≤ 64 * n) : At (w.setCells B.bw a (List.replicate r (.int .i64 0))) B n (hrOf A (clearW wd a r)) := by
  refine At.setW (R := hrOf A wd) h (Fr.setCells (K := (· = B.bw)) rfl _ _ (Fr.refl _ w)) ((h.wo.clear hr).ext fun i _ => ?_)
  show (if a ≤ i ∧ i < a + r then _ else _) = Value.int .i64 (clearW wd a r i)
  unfold clearW
  split <;> rfl
/-- clear, as one step of a region that draws. -/
theorem step_clear {ops : Array Oper} {o : Oper} {a : Act} {w : World} {K : Act → World → Prop} {Q : Exit → Act → World → Prop} {E : Prop}
    (hg : o.guard = none) (s : Operand) (hop : o.op = Op.call { callee := Callee.builtin Builtin.clear, args := #[s], argTypes := #[28] })
    (b off r c : Nat) (hs : a.eval s = .slice (some ⟨b, off, none⟩) r c) (hr : 0 < r) (hc : ∀ j, j < r → (w.cell? ⟨b, off + j, none⟩).isSome = true) (hf : ∀ j, j < r → w.frozen? ⟨b, off + j, none⟩ = false)
    (hK : K (a.put o.dst (.tuple #[])) (w.setCells b off (List.replicate r (.int .i64 0)))) :
    if Region.wanted o (yielded ops a.tmps) = true then Oper.wp Tryd.prog o a w K Q else E := by
  have hw : Region.wanted o (yielded ops a.tmps) = true := by simp [Region.wanted, hg]
  rw [if_pos hw]
  have hrun := Lib.run_clear_slice (P := Tryd.prog) w 28 3 o.type (.int .i64 0) Tryd.underlying28 Tryd.zeroValue3 rfl rfl b off r c hr hc hf
  unfold Oper.wp
  simp [execOp, hop, resolve, invoke, builtin, hs, hrun, Result.andThen]
  exact hK
def AllocP (B : HB) (n : Nat) (A : Nat → Kd) (wd : Nat → Int) (m : Int) (w : World) (e : Ending) (w' : World) : Prop :=
  Fr B.mem w w' ∧ ((∃ a A', 1 ≤ m ∧ m ≤ 16448 ∧ Goes n A m.toNat a A' ∧ e = .returned (.tuple #[.int .i64 ((a : Nat) : Int), .bool true]) ∧ At w' B n (hrOf A' (clearW wd a (roomOfM m.toNat)))) ∨ ((m < 1 ∨ 16448 < m ∨ NoPlace n A m.toNat) ∧ e = .returned (.tuple #[.int .i64 0, .bool false]) ∧ At w' B n (hrOf A wd)))
theorem roomOfM_pos (m : Nat) : 0 < roomOfM m := by
  unfold roomOfM
  split
  · exact Nat.pow_pos (by decide)
  · omega
set_option maxHeartbeats 2000000 in
theorem Alloc_any (B : HB) (n : Nat) (A : Nat → Kd) (wd : Nat → Int) (m : Int) (w : World) (h : At w B n (hrOf A wd)) (hI : Inv n A) (hV : Vars w) (h0 : ¬ B.mem 0) (h00 : ¬ B.mem 1) :
    Calls Tryd.prog 31 #[B.ptr, .int .i64 m] w fun e w' => AllocP B n A wd m w e w' := by
  by_cases hm : 1 ≤ m ∧ m ≤ 16448
  · obtain ⟨x, rfl⟩ : ∃ x : Nat, m = (x : Int) := ⟨m.toNat, by omega⟩
    have hx : x ≤ 16448 := by omega
    have HC := hide (place_any B n A wd x w h hI hV hx h0 h00)
    have hx1 : 1 ≤ x := by omega
    have HI := hide hI
    clear h hV h0 h00 hm hI
    unfold HB.ptr at *
    go_enter Tryd.func31, Tryd.ntmps31
    go_wp2_with fail
    refine (unhide HC).mono ?_
    rintro e w1 ⟨hF, ⟨a, A', hg, rfl, hA⟩ | ⟨hn, rfl, hA⟩⟩
    · have hI' := hg.inv (unhide HI) hx
      have hrm := room_goes (unhide HI) hg
      have hra : roomN A' a = roomOfM x := by rw [hrm.2 a, if_pos rfl]
      have hpos := roomOfM_pos x
      have hin := room_in hI' (x := a) (by rw [hra]; omega)
      rw [hra] at hin
      have HR := hide (fun w' (q : Fr (fun _ => False) w1 w') => Room_any B n (hrOf A' wd) (a : Int) w' (hA.quiet q) (fine_of wd hI'))
      have hrr : roomR n (hrOf A' wd) (a : Int) = roomOfM x := by
        rw [roomR_I wd hI', roomI, if_pos (by omega)]; simpa using hra
      rw [hrr] at HR
      have hh := hA.hi
      have c0 := hA.c0
      have HA := hide hA
      have HG := hide hg
      have HF := hide hF
      clear hg hA hF hI' hrm hra hrr
      have h64 : a + roomOfM x ≤ 64 * n := hin.2.1
      generalize hroom : roomOfM x = r at *
      have HRR := hide hroom
      clear hroom
      unfold HB.ptr at *
      have ha1 : (a : Int) ≤ (a : Int) + (r : Int) := by omega
      have ha2 : (a : Int) + (r : Int) ≤ ((64 * n : Nat) : Int) := by omega
      have ha3 : (a : Int) + (r : Int) ≤ 64 * (n : Int) := by omega
      have ha4 : ¬ 64 * n = a := by omega
      have hwr : IntKind.i64.wrap ((a : Int) + (r : Int)) = (a : Int) + (r : Int) := by rw [Go.IntKind.wrap_i64]; omega
      have ha5 : ((a : Int) + (r : Int)).toNat = a + r := by omega
      go_wp2
      go_region_law (first | (refine step_clear rfl (.tmp 32) rfl B.bw a r (64 * n - a) (by simp [Act.eval, Act.put]) hpos (fun j hj => by rw [(unhide HA2).cw (a + j) (by omega)]; rfl) (fun j hj => (unhide HA2).fw (a + j) (by omega)) ?_) | (go_simp; go_at_call 42; refine (unhide HR _ (by first | exact (Fr.refl _ _).drew | exact Fr.refl _ _)).mono ?_; rintro e w2 ⟨rfl, hq⟩; have hA2 := ((unhide HA).quiet ((Fr.refl _ _).drew)).quiet hq; have c02 := hA2.c0; have HA2 := hide hA2; clear hA2))
      all_goals (try go_wp2)
      all_goals (go_ret2; exact ⟨(unhide HF).trans (Fr.setCells (.inr (.inl rfl)) _ _ ((Fr.drew (Fr.refl _ _)).trans hq.toMem)), .inl ⟨a, A', by omega, by omega, unhide HG, rfl, by rw [show ((x : Int)).toNat = x from rfl, unhide HRR]; exact (unhide HA2).clear h64⟩⟩)
    · have H1 : Hid (AllocP B n A wd x w (.returned (.tuple #[.int .i64 0, .bool false])) w1) := hide ⟨hF, .inr ⟨.inr (.inr (by simpa using hn)), rfl, hA⟩⟩
      clear hn hA hF
      go_wp2_with fail
      go_ret2
      exact unhide H1
  · have H1 : Hid (AllocP B n A wd m w (.returned (.tuple #[.int .i64 0, .bool false])) w) := hide ⟨Fr.refl _ _, .inr ⟨by omega, rfl, h⟩⟩
    clear h hI hV h0 h00
    unfold HB.ptr at *
    rcases (show m < 1 ∨ 16448 < m by omega) with h1 | h1
    · go_enter Tryd.func31, Tryd.ntmps31
      go_wp2
      all_goals (go_ret2; exact unhide H1)
    · go_enter Tryd.func31, Tryd.ntmps31
      go_wp2
      all_goals (go_ret2; exact unhide H1)
end Go.Proofs.YtogjblikljggbaaDoor
