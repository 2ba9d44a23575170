/- open, place, item, Count, Closed, Close. -/
import Derived.Test.YtogjblikljggbaaDoorM1
namespace Go.Proofs.YtogjblikljggbaaDoor
open Go.RowKit Go.Proofs.YtogjblikljggbaaDoor.Hp
variable {w0 w w' w1 w2 : World} {B : HB} {n p : Nat} {A A' : Nat → Kd} {wd wd' : Nat → Int} {hv hv1 hv2 : Value} {held : List Int} {cnt : Nat} {a P b cl : Nat} {r : Bool} {l : List Int}
abbrev chO (x0 x1 x2 : Int) : Obj := .cells #[.int .i64 x0, .int .i64 x1, .int .i64 x2] 56
/-- A struct of three numbers in a block of its own. -/
def ChC (W : World) (N : Nat) (x0 x1 x2 : Int) : Prop := Row W N 3 (fun i => .int .i64 (if i = 0 then x0 else if i = 1 then x1 else x2))
variable {N : Nat} {x0 x1 x2 : Int}
theorem ChC.new (W : World) (x0 x1 x2 : Int) : ChC (W.alloc (chO x0 x1 x2)) W.heap.size x0 x1 x2 := by
  intro i hi
  refine ⟨?_, World.frozen?_alloc_at _ _ _ _ rfl⟩
  rw [World.cell?_alloc_at _ _ _ _ rfl]
  rcases (show i = 0 ∨ i = 1 ∨ i = 2 by omega) with rfl | rfl | rfl <;> rfl
theorem ChC.cells (h : ChC w N x0 x1 x2) : (w.cell? ⟨N, 0, none⟩ = some (.int .i64 x0) ∧ w.cell? ⟨N, 1, none⟩ = some (.int .i64 x1) ∧ w.cell? ⟨N, 2, none⟩ = some (.int .i64 x2)) ∧ w.frozen? ⟨N, 0, none⟩ = false ∧ w.frozen? ⟨N, 1, none⟩ = false ∧ w.frozen? ⟨N, 2, none⟩ = false :=
  ⟨⟨(h 0 (by omega)).1, (h 1 (by omega)).1, (h 2 (by omega)).1⟩, (h 0 (by omega)).2, (h 1 (by omega)).2, (h 2 (by omega)).2⟩
theorem ChC.set0 (h : ChC w N x0 x1 x2) (v : Int) : ChC (w.setCell ⟨N, 0, none⟩ (.int .i64 v)) N v x1 x2 := (Row.set h 0 _ (by omega)).ext fun i hi => by
  rcases (show i = 0 ∨ i = 1 ∨ i = 2 by omega) with rfl | rfl | rfl <;> rfl
theorem ChC.set1 (h : ChC w N x0 x1 x2) (v : Int) : ChC (w.setCell ⟨N, 1, none⟩ (.int .i64 v)) N x0 v x2 := (Row.set h 1 _ (by omega)).ext fun i hi => by
  rcases (show i = 0 ∨ i = 1 ∨ i = 2 by omega) with rfl | rfl | rfl <;> rfl
theorem ChC.set2 (h : ChC w N x0 x1 x2) (v : Int) : ChC (w.setCell ⟨N, 2, none⟩ (.int .i64 v)) N x0 x1 v := (Row.set h 2 _ (by omega)).ext fun i hi => by
  rcases (show i = 0 ∨ i = 1 ∨ i = 2 by omega) with rfl | rfl | rfl <;> rfl
theorem ChC.quiet (h : ChC w N x0 x1 x2) (k : Fr (fun _ => False) w w') : ChC w' N x0 x1 x2 := Row.fr h k id
theorem ChC.to (h : ChC w N x0 x1 x2) (k : To B p w hv w' hv1) (hn : ¬ SpK B p hv N) : ChC w' N x0 x1 x2 := Row.fr h k.fr hn
theorem Get_at (h : Sp w B n p A wd hv held cnt) (z k v : Int) (e : getI A wd z k = v) : ∀ W, Fr (fun _ => False) w W → Calls Tryd.prog 17 #[.pointer (some ⟨p, 0, none⟩), .int .i64 z, .int .i64 k] W fun e w' => e = .returned (.int .i64 v) ∧ Fr (fun _ => False) W w' := by
  subst e
  exact fun W hF => Get_any (h.quiet hF) z k
theorem Head_at (h : Sp w B n p A wd hv held cnt) (z s : Int) (e : sizI A wd z = s) : ∀ W, Fr (fun _ => False) w W → Calls Tryd.prog 39 #[.pointer (some ⟨p, 0, none⟩), .int .i64 z] W fun e w' => ∃ k m : Int, e = .returned (.tuple #[.int .i64 k, .int .i64 s, .int .i64 m]) ∧ Fr (fun _ => False) W w' := by
  subst e
  exact fun W hF => (Head_any (h.quiet hF) z).mono fun _ _ x => ⟨_, _, x.1, x.2⟩
set_option maxRecDepth 100000 in
set_option maxHeartbeats 2000000 in
theorem open_ch (h : Sp w B n p A wd hv held cnt) (hc : ChAt A wd a P r cl b l) :
    Calls Tryd.prog 25 #[.pointer (some ⟨p, 0, none⟩), .int .i64 a] w fun e w' => e = .returned (.agg #[.int .i64 b, .int .i64 l.length, .int .i64 P]) ∧ Fr (fun _ => False) w w' := by
  have HG1 := hide (Get_at h a 1 _ hc.get.2.1)
  have HG2 := hide (Get_at h a 2 _ hc.get.2.2.1)
  have HG3 := hide (Get_at h a 3 _ hc.get.2.2.2)
  have HH := hide (Head_at h a _ hc.siz)
  have hcn := hc.cnt
  have hle := hc.le
  generalize l.length = N at *
  have HA := hide (ChC.new w 0 0 0)
  have HF0 := hide ((Fr.refl (fun _ => False) w).alloc (chO 0 0 0))
  clear h hc
  have q1 : ¬ (N : Int) < 0 := by omega
  have q2 : ¬ (P : Int) < N := by omega
  obtain ⟨s, hs⟩ : ∃ s : Int, s = 4 + (P : Int) := ⟨_, rfl⟩
  rw [← hs] at HH
  have q3 : s - 4 = P := by omega
  have q4 : (P : Int) < 9223372036854775808 := by omega
  have q5 : -9223372036854775808 ≤ (P : Int) := by omega
  clear hcn hle hs
  generalize (P : Int) = x2 at *
  generalize (N : Int) = x1 at *
  generalize (b : Int) = x0 at *
  go_enter Tryd.func25, Tryd.ntmps25
  go_wp2_with fail
  refine (unhide HG1 _ (unhide HF0)).mono ?_
  rintro e w1 ⟨rfl, hF1⟩
  have HC1 := hide ((unhide HA).quiet hF1)
  have HF1 := hide ((unhide HF0).trans hF1)
  clear hF1 HA HF0 HG1
  generalize hN : w.heap.size = M at *
  have HN := hide hN
  clear hN
  go_wp2_with fail
  refine (unhide HG2 _ (unhide HF1)).mono ?_
  rintro e w2 ⟨rfl, hF2⟩
  have HC2 := hide ((unhide HC1).quiet hF2)
  have HF2 := hide ((unhide HF1).trans hF2)
  clear hF2 HG2
  go_wp2_with fail
  refine (unhide HG3 _ (unhide HF2)).mono ?_
  rintro e w3 ⟨rfl, hF3⟩
  have HC3 := hide ((unhide HC2).quiet hF3)
  have HC4 := hide ((unhide HC3).quiet ((Fr.refl (fun _ => False) w3).alloc (chO x0 x1 x2)))
  have HD4 := hide (ChC.new w3 x0 x1 x2)
  have HF4 := hide (((unhide HF2).trans hF3).alloc (chO x0 x1 x2))
  clear hF3 HG3
  go_wp2_with fail
  refine (unhide HH _ (unhide HF4)).mono ?_
  rintro e w5 ⟨k5, m5, rfl, hF5⟩
  have HC5 := hide ((unhide HC4).quiet hF5)
  have HD5 := hide ((unhide HD4).quiet hF5)
  have hle : w.heap.size ≤ M := by rw [unhide HN]; exact Nat.le_refl _
  have HF5 := hide (((((unhide HF4).trans hF5).setNew (q := ⟨M, 0, none⟩) hle (.int .i64 x0)).setNew (q := ⟨M, 1, none⟩) hle (.int .i64 x1)).setNew (q := ⟨M, 2, none⟩) hle (.int .i64 x2))
  clear hF5 HH HD4 HC4 HF4 hle
  generalize w3.heap.size = M2 at *
  have cc := (unhide HC5).cells
  have dd := (unhide HD5).cells
  go_wp2
  exact bodyPost_ret (v := .agg #[.int .i64 x0, .int .i64 x1, .int .i64 x2]) (by simp [results, Tryd.results25, go_sem, *]) rfl ⟨rfl, unhide HF5⟩
set_option maxRecDepth 100000 in
set_option maxHeartbeats 2000000 in
theorem open_nil (h : Sp w B n p A wd hv held cnt) :
    Calls Tryd.prog 25 #[.pointer (some ⟨p, 0, none⟩), .int .i64 0] w fun e w' => e = .returned (.agg #[.int .i64 0, .int .i64 0, .int .i64 0]) ∧ Fr (fun _ => False) w w' := by
  have HG1 := hide (Get_at h 0 1 _ (get_nil h.inv 1))
  have HG2 := hide (Get_at h 0 2 _ (get_nil h.inv 2))
  have HG3 := hide (Get_at h 0 3 _ (get_nil h.inv 3))
  have HH := hide (Head_at h 0 _ (siz_nil h.inv))
  have HA := hide (ChC.new w 0 0 0)
  have HF0 := hide ((Fr.refl (fun _ => False) w).alloc (chO 0 0 0))
  clear h
  go_enter Tryd.func25, Tryd.ntmps25
  go_wp2_with fail
  refine (unhide HG1 _ (unhide HF0)).mono ?_
  rintro e w1 ⟨rfl, hF1⟩
  have HC1 := hide ((unhide HA).quiet hF1)
  have HF1 := hide ((unhide HF0).trans hF1)
  clear hF1 HA HF0 HG1
  generalize hN : w.heap.size = M at *
  have HN := hide hN
  clear hN
  go_wp2_with fail
  refine (unhide HG2 _ (unhide HF1)).mono ?_
  rintro e w2 ⟨rfl, hF2⟩
  have HC2 := hide ((unhide HC1).quiet hF2)
  have HF2 := hide ((unhide HF1).trans hF2)
  clear hF2 HG2
  go_wp2_with fail
  refine (unhide HG3 _ (unhide HF2)).mono ?_
  rintro e w3 ⟨rfl, hF3⟩
  have HC3 := hide ((unhide HC2).quiet hF3)
  have HC4 := hide ((unhide HC3).quiet ((Fr.refl (fun _ => False) w3).alloc (chO 0 0 0)))
  have HD4 := hide (ChC.new w3 0 0 0)
  have HF4 := hide (((unhide HF2).trans hF3).alloc (chO 0 0 0))
  clear hF3 HG3
  go_wp2_with fail
  refine (unhide HH _ (unhide HF4)).mono ?_
  rintro e w5 ⟨k5, m5, rfl, hF5⟩
  have HC5 := hide ((unhide HC4).quiet hF5)
  have HD5 := hide ((unhide HD4).quiet hF5)
  have hle : w.heap.size ≤ M := by rw [unhide HN]; exact Nat.le_refl _
  have HF5 := hide (((((unhide HF4).trans hF5).setNew (q := ⟨M, 0, none⟩) hle (.int .i64 0)).setNew (q := ⟨M, 1, none⟩) hle (.int .i64 0)).setNew (q := ⟨M, 2, none⟩) hle (.int .i64 0))
  clear hF5 HH HD4 HC4 HF4 hle
  generalize w3.heap.size = M2 at *
  have cc := (unhide HC5).cells
  have dd := (unhide HD5).cells
  go_wp2
  exact bodyPost_ret (v := .agg #[.int .i64 0, .int .i64 0, .int .i64 0]) (by simp [results, Tryd.results25, go_sem, *]) rfl ⟨rfl, unhide HF5⟩
end Go.Proofs.YtogjblikljggbaaDoor
