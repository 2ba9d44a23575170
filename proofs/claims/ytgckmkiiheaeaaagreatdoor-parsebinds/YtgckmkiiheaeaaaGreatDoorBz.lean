import Derived.Test.YtgckmkiiheaeaaaGreatDoorLeaf
import Derived.Test.YtgckmkiiheaeaaaGreatDoorSpec2
import Derived.Test.YtgckmkiiheaeaaaGreatDoorState
import Derived.Test.YtgckmkiiheaeaaaGreatDoorRows
import Derived.Deep.Slices
import Derived.ProofKit
import Derived.SizedLaws
import Derived.Deep.RegionHeld2
import Derived.Deep.LoopGhost
import Derived.Deep.AppendLies
import Derived.Laws.MakeOwn
import Derived.Test.YtgckmkiiheaeaaaGreatDoorParP
import Derived.Test.YtgckmkiiheaeaaaGreatDoorQe
import Derived.Test.YtgckmkiiheaeaaaGreatDoorQg
set_option linter.unusedVariables false
set_option linter.unusedSimpArgs false
namespace Go.Proofs.YtgckmkiiheaeaaaGreatDoor
open Go.RowKit Go.Proofs.YtgckmkiiheaeaaaGreatDoor.Lx Go.ChangeShapes Go.WideShapes Go.Deep
inductive Tr
 | mk (kd : Int) (tx : ByteArray) (nm ps : Int) (ty : ByteArray) (rf : Int) (kids : List Tr)
instance : Inhabited Tr := ⟨.mk 0 ⟨#[]⟩ 0 0 ⟨#[]⟩ 0 []⟩
section
variable {H : Type} {enc : TypeId × Value → H} {w : World} {spare : Nat → Bool} {held : Bool}
end
end Go.Proofs.YtgckmkiiheaeaaaGreatDoor
namespace Go.Proofs.YtgckmkiiheaeaaaGreatDoor
open Go.RowKit Go.Proofs.YtgckmkiiheaeaaaGreatDoor.Lx
theorem ba2 {a b : World} (h : Below a.heap.size a b) (o : Obj) : Below a.heap.size a (b.alloc o) := h.alloc h.size o
end Go.Proofs.YtgckmkiiheaeaaaGreatDoor
namespace Go.Proofs.YtgckmkiiheaeaaaGreatDoor
open Go.RowKit Go.Proofs.YtgckmkiiheaeaaaGreatDoor.Lx
theorem b_ownsRow {w w' : World} {base e size n : Nat} {v : Value} {xs : List Value} (h : w.ownsRow base e size v n xs) (hb : ∀ g, v.ownBlock = some g → w'.heap[g]? = w.heap[g]?) : w'.ownsRow base e size v n xs := by
 refine ⟨h.1, ?_⟩
 rcases h.2 with h2 | ⟨g, cap, cur, rfl, h3, h4, h5⟩
 ·exact .inl h2
 ·exact .inr ⟨g, cap, cur, rfl, h3, (hb g rfl).trans h4, h5⟩
theorem b_parts {i : Option TypeInfo} {z : Option Value} {s b : Nat} (h : i.map (fun i => (i.zero, i.size, i.bytes)) = some (z, s, b)) : ∃ j, i = some j ∧ j.zero = z ∧ j.size = s ∧ j.bytes = b := by
 obtain ⟨j, h1, h2⟩ := Option.map_eq_some_iff.1 h
 simp only [Prod.mk.injEq] at h2
 exact ⟨j, h1, h2.1, h2.2.1, h2.2.2⟩
end Go.Proofs.YtgckmkiiheaeaaaGreatDoor
set_option linter.unusedVariables false
set_option linter.unusedSimpArgs false
namespace Go.Proofs.YtgckmkiiheaeaaaGreatDoor
open Go.RowKit Go.Proofs.YtgckmkiiheaeaaaGreatDoor.Lx
end Go.Proofs.YtgckmkiiheaeaaaGreatDoor
namespace Go.Proofs.YtgckmkiiheaeaaaGreatDoor
open Go.RowKit Go.Proofs.YtgckmkiiheaeaaaGreatDoor.Lx
end Go.Proofs.YtgckmkiiheaeaaaGreatDoor
namespace Go.Proofs.YtgckmkiiheaeaaaGreatDoor
open Go.RowKit Go.Proofs.YtgckmkiiheaeaaaGreatDoor.Lx
end Go.Proofs.YtgckmkiiheaeaaaGreatDoor
namespace Go.Proofs.YtgckmkiiheaeaaaGreatDoor.Px
open Go.Proofs.YtgckmkiiheaeaaaGreatDoor.Lx
inductive Ex
 | leaf (x : List UInt8)
 | par (o : List UInt8) (l r : Ex)
def trE : Ex → Tree
 | .leaf x => .mk 40 x 0 0 []
 | .par o l r => .mk 42 o 0 0 [trE l, trE r]
abbrev Rw := List (List UInt8 × Ex)
def climb : Nat → Int → Tree → Rw → Tree × Rw
 | 0, _, u, r => (u, r)
 | _ + 1, _, u, [] => (u, [])
 | f + 1, l, u, (o, v) :: r => if l ≤ strength o then climb f l (.mk 42 o 0 0 [u, (climb f (strength o + 1) (trE v) r).1]) (climb f (strength o + 1) (trE v) r).2 else (u, (o, v) :: r)
def pass (l : Int) : Ex → Rw → Ex × Rw
 | u, [] => (u, [])
 | u, (o, v) :: r => if strength o = l then pass l (.par o u v) r else (u, (o, (pass l v r).1) :: (pass l v r).2)
def passR (l : Int) : Rw → Rw
 | [] => []
 | (o, v) :: r => (o, (pass l v r).1) :: (pass l v r).2
def AllLe (l : Int) (r : Rw) : Prop := ∀ x ∈ r, strength x.1 ≤ l
def HeadLt (l : Int) : Rw → Prop
 | [] => True
 | (o, _) :: _ => strength o < l
theorem climb_nil (f : Nat) (l : Int) (u : Tree) : climb f l u [] = (u, []) := by cases f <;> rfl
theorem climb_stop {f : Nat} {l : Int} {u : Tree} {r : Rw} (h : HeadLt l r) : climb f l u r = (u, r) := by
 cases f with
 | zero => rfl
 | succ f =>
   cases r with
   | nil => rfl
   | cons x r => obtain ⟨o, v⟩ := x; rw [climb, if_neg (by have : strength o < l := h; omega)]
theorem climb_suf : ∀ (f : Nat) (l : Int) (u : Tree) (r : Rw), (climb f l u r).2 <:+ r := by
 intro f
 induction f with
 | zero => intro l u r; exact List.suffix_refl r
 | succ f ih =>
   intro l u r
   cases r with
   | nil => exact List.suffix_refl _
   | cons x r =>
     obtain ⟨o, v⟩ := x
     rw [climb]
     split
     ·exact ((ih _ _ _).trans (ih _ _ _)).trans (List.suffix_cons _ _)
     ·exact List.suffix_refl _
theorem climb_head : ∀ (f : Nat) (l : Int) (u : Tree) (r : Rw), r.length ≤ f → HeadLt l (climb f l u r).2 := by
 intro f
 induction f with
 | zero => intro l u r h; have : r = [] := by simpa using h
           subst this; trivial
 | succ f ih =>
   intro l u r h
   cases r with
   | nil => trivial
   | cons x r =>
     obtain ⟨o, v⟩ := x
     rw [climb]
     split
     ·refine ih _ _ _ ?_
      have := (climb_suf f (strength o + 1) (trE v) r).length_le
      simp only [List.length_cons] at h
      omega
     ·show strength o < l; omega
theorem AllLe.suf {l : Int} {r s : Rw} (h : AllLe l r) (hs : s <:+ r) : AllLe l s := fun x hx => h x (hs.subset hx)
theorem pass_len (l : Int) : ∀ (r : Rw) (u : Ex), (pass l u r).2.length ≤ r.length := by
 intro r
 induction r with
 | nil => intro u; simp [pass]
 | cons x r ih =>
   intro u
   obtain ⟨o, v⟩ := x
   rw [pass]
   split
   ·have := ih (.par o u v); simp only [List.length_cons]; omega
   ·have := ih v; simp only [List.length_cons]; omega
theorem pass_climb (l : Int) : ∀ (n : Nat),
 (∀ (u : Ex) (r : Rw) (c : Int) (f g : Nat), r.length ≤ n → r.length ≤ f → r.length ≤ g → AllLe l r → c ≤ l → climb g c (trE (pass l u r).1) (pass l u r).2 = ((climb f c (trE u) r).1, passR l (climb f c (trE u) r).2)) ∧
 (∀ (t : Tree) (r : Rw) (c : Int) (f g : Nat), r.length ≤ n → r.length ≤ f → r.length ≤ g → AllLe l r → HeadLt l r → c ≤ l → climb g c t (passR l r) = ((climb f c t r).1, passR l (climb f c t r).2)) := by
 intro n
 induction n with
 | zero =>
   constructor
   ·intro u r c f g h _ _ _ _
    have : r = [] := by simpa using h
    subst this
    simp [pass, climb_nil, passR]
   ·intro t r c f g h _ _ _ _ _
    have : r = [] := by simpa using h
    subst this
    simp [climb_nil, passR]
 | succ n ih =>
   have M : ∀ (t : Tree) (r : Rw) (c : Int) (f g : Nat), r.length ≤ n + 1 → r.length ≤ f → r.length ≤ g → AllLe l r → HeadLt l r → c ≤ l → climb g c t (passR l r) = ((climb f c t r).1, passR l (climb f c t r).2) := by
    intro t r c f g hn hf hg ha hh hc
    cases r with
    | nil => simp [climb_nil, passR]
    | cons x r =>
      obtain ⟨o, v⟩ := x
      simp only [List.length_cons] at hn hf hg
      obtain ⟨f, rfl⟩ : ∃ f', f = f' + 1 := ⟨f - 1, by omega⟩
      obtain ⟨g, rfl⟩ : ∃ g', g = g' + 1 := ⟨g - 1, by omega⟩
      have ho : strength o < l := hh
      have ha' : AllLe l r := fun x hx => ha x (List.mem_cons_of_mem _ hx)
      simp only [passR, climb]
      by_cases hs : c ≤ strength o
      ·rw [if_pos hs, if_pos hs]
       have h1 := ih.1 v r (strength o + 1) f g (by omega) (by omega) (by omega) ha' (by omega)
       rw [h1]
       have hsf := climb_suf f (strength o + 1) (trE v) r
       have hl := hsf.length_le
       have hd := climb_head f (strength o + 1) (trE v) r (by omega)
       refine ih.2 _ _ c f g (by omega) (by omega) (by omega) (ha'.suf hsf) ?_ hc
       cases hq : (climb f (strength o + 1) (trE v) r).2 with
       | nil => trivial
       | cons y s =>
         obtain ⟨o', v'⟩ := y
         rw [hq] at hd
         have : strength o' < strength o + 1 := hd
         show strength o' < l
         omega
      ·rw [if_neg hs, if_neg hs]
       try rfl
   refine ⟨?_, M⟩
   intro u r c f g hn hf hg ha hc
   cases r with
   | nil => simp [pass, climb_nil, passR]
   | cons x r =>
     obtain ⟨o, v⟩ := x
     have ha' : AllLe l r := fun x hx => ha x (List.mem_cons_of_mem _ hx)
     by_cases ho : strength o = l
     ·simp only [List.length_cons] at hn hf hg
      obtain ⟨f, rfl⟩ : ∃ f', f = f' + 1 := ⟨f - 1, by omega⟩
      rw [pass, if_pos ho, climb, if_pos (by omega)]
      have hst : climb f (strength o + 1) (trE v) r = (trE v, r) := by
       refine climb_stop ?_
       cases r with
       | nil => trivial
       | cons y s =>
         obtain ⟨o', v'⟩ := y
         have : strength o' ≤ l := ha' _ (List.mem_cons_self ..)
         show strength o' < _
         omega
      rw [hst]
      exact ih.1 (.par o u v) r c f g (by omega) (by omega) (by omega) ha' hc
     ·have hlt : strength o < l := by
       have : strength o ≤ l := ha _ (List.mem_cons_self ..)
       omega
      rw [pass, if_neg ho]
      exact M (trE u) ((o, v) :: r) c f g hn hf hg ha hlt hc
theorem pass_le (l : Int) : ∀ (r : Rw) (u : Ex), AllLe l r → AllLe (l - 1) (pass l u r).2 := by
 intro r
 induction r with
 | nil => intro u _ x hx; simp [pass] at hx
 | cons x r ih =>
   intro u ha
   obtain ⟨o, v⟩ := x
   have ha' : AllLe l r := fun x hx => ha x (List.mem_cons_of_mem _ hx)
   rw [pass]
   split
   ·exact ih _ ha'
   ·intro y hy
    rcases List.mem_cons.1 hy with rfl | hy
    ·have : strength o ≤ l := ha _ (List.mem_cons_self ..)
     show strength o ≤ l - 1
     omega
    ·exact ih v ha' y hy
theorem pass_ge (l : Int) : ∀ (r : Rw) (u : Ex), (∀ x ∈ r, 1 ≤ strength x.1) → ∀ x ∈ (pass l u r).2, 1 ≤ strength x.1 := by
 intro r
 induction r with
 | nil => intro u _ x hx; simp [pass] at hx
 | cons x r ih =>
   intro u ha
   obtain ⟨o, v⟩ := x
   have ha' : ∀ x ∈ r, 1 ≤ strength x.1 := fun x hx => ha x (List.mem_cons_of_mem _ hx)
   rw [pass]
   split
   ·exact ih _ ha'
   ·intro y hy
    rcases List.mem_cons.1 hy with rfl | hy
    ·exact ha (o, v) (List.mem_cons_self ..)
    ·exact ih v ha' y hy
def bind5 (u : Ex) (r : Rw) : Ex × Rw :=
 let p5 := pass 5 u r
 let p4 := pass 4 p5.1 p5.2
 let p3 := pass 3 p4.1 p4.2
 let p2 := pass 2 p3.1 p3.2
 pass 1 p2.1 p2.2
theorem strength_le (o : List UInt8) : strength o ≤ 5 := by
 unfold strength
 repeat' split
 all_goals omega
theorem climb_end {f : Nat} {u : Tree} {r : Rw} (hf : r.length ≤ f) (h1 : ∀ x ∈ r, 1 ≤ strength x.1) : (climb f 1 u r).2 = [] := by
 have hs := climb_suf f 1 u r
 have hd := climb_head f 1 u r hf
 cases hq : (climb f 1 u r).2 with
 | nil => rfl
 | cons y s =>
   obtain ⟨o, v⟩ := y
   rw [hq] at hd hs
   have h2 : strength o < 1 := hd
   have h3 : 1 ≤ strength o := h1 (o, v) (hs.subset (List.mem_cons_self ..))
   omega
theorem binds (u : Ex) (r : Rw) (f : Nat) (hf : r.length ≤ f) (h1 : ∀ x ∈ r, 1 ≤ strength x.1) : bind5 u r = ((bind5 u r).1, []) ∧ (climb f 1 (trE u) r).1 = trE (bind5 u r).1 := by
 have a5 : AllLe 5 r := fun x _ => strength_le _
 have s5 := (pass_climb 5 r.length).1 u r 1 f f (Nat.le_refl _) hf hf a5 (by omega)
 have l5 := pass_len 5 r u
 have a4 := pass_le 5 r u a5
 have g4 := pass_ge 5 r u h1
 have e5 := climb_end (u := trE u) hf h1
 rw [e5] at s5
 generalize hp5 : pass 5 u r = p5 at s5 l5 a4 g4
 have s4 := (pass_climb 4 p5.2.length).1 p5.1 p5.2 1 f f (Nat.le_refl _) (by omega) (by omega) a4 (by omega)
 have l4 := pass_len 4 p5.2 p5.1
 have a3 := pass_le 4 p5.2 p5.1 a4
 have g3 := pass_ge 4 p5.2 p5.1 g4
 rw [climb_end (by omega) g4] at s4
 generalize hp4 : pass 4 p5.1 p5.2 = p4 at s4 l4 a3 g3
 have s3 := (pass_climb 3 p4.2.length).1 p4.1 p4.2 1 f f (Nat.le_refl _) (by omega) (by omega) a3 (by omega)
 have l3 := pass_len 3 p4.2 p4.1
 have a2 := pass_le 3 p4.2 p4.1 a3
 have g2 := pass_ge 3 p4.2 p4.1 g3
 rw [climb_end (by omega) g3] at s3
 generalize hp3 : pass 3 p4.1 p4.2 = p3 at s3 l3 a2 g2
 have s2 := (pass_climb 2 p3.2.length).1 p3.1 p3.2 1 f f (Nat.le_refl _) (by omega) (by omega) a2 (by omega)
 have l2 := pass_len 2 p3.2 p3.1
 have a1 := pass_le 2 p3.2 p3.1 a2
 have g1 := pass_ge 2 p3.2 p3.1 g2
 rw [climb_end (by omega) g2] at s2
 generalize hp2 : pass 2 p3.1 p3.2 = p2 at s2 l2 a1 g1
 have s1 := (pass_climb 1 p2.2.length).1 p2.1 p2.2 1 f f (Nat.le_refl _) (by omega) (by omega) a1 (by omega)
 have a0 := pass_le 1 p2.2 p2.1 a1
 have g0 := pass_ge 1 p2.2 p2.1 g1
 have hb : bind5 u r = pass 1 p2.1 p2.2 := by unfold bind5; simp only [hp5, hp4, hp3, hp2]
 rw [climb_end (by omega) g1] at s1
 generalize hp1 : pass 1 p2.1 p2.2 = p1 at s1 a0 g0 hb
 have h0 : p1.2 = [] := by
  cases hq : p1.2 with
  | nil => rfl
  | cons y s =>
    have h2 := a0 y (by rw [hq]; exact List.mem_cons_self ..)
    have h3 := g0 y (by rw [hq]; exact List.mem_cons_self ..)
    omega
 rw [hb]
 refine ⟨by rw [← h0], ?_⟩
 rw [h0, climb_nil] at s1
 have e1 := congrArg Prod.fst s1
 have e2 := congrArg Prod.fst s2
 have e3 := congrArg Prod.fst s3
 have e4 := congrArg Prod.fst s4
 have e5' := congrArg Prod.fst s5
 simp only at e1 e2 e3 e4 e5'
 rw [← e5', ← e4, ← e3, ← e2, ← e1]
end Go.Proofs.YtgckmkiiheaeaaaGreatDoor.Px
namespace Go.Proofs.YtgckmkiiheaeaaaGreatDoor.Px
open Go.Proofs.YtgckmkiiheaeaaaGreatDoor.Lx
def er : Tree → Tree
 | .mk a b c _ l => .mk a b c 0 (l.map er)
theorem er_mk (a : Int) (b : List UInt8) (c p : Int) (l : List Tree) : er (.mk a b c p l) = .mk a b c 0 (l.map er) := by rw [er]
def Gets (ts : List Tok) (j : Job) (h : Bool) (k : Nat) (r : R) : Prop := ∃ N, ∀ n, N ≤ n → run ts n j h k = r
theorem gets_of {ts : List Tok} {j : Job} {h : Bool} {k : Nat} {r : R} (N : Nat) (H : ∀ n, N ≤ n → step ts (run ts n) j h k = r) : Gets ts j h k r :=
 ⟨N + 1, fun n hn => by obtain ⟨m, rfl⟩ : ∃ m, n = m + 1 := ⟨n - 1, by omega⟩
                        exact H m (by omega)⟩
section
variable {ts : List Tok} {h : Bool} {k k2 k3 : Nat}
theorem g_op {least : Int} {t : Tree} {s : Int} {r : R} (h1 : Gets ts .unary h k (.ok [t] s k2)) (h2 : Gets ts (.opOf t least) h k2 r) : Gets ts (.op least) h k r := by
 obtain ⟨N, h1⟩ := h1
 obtain ⟨M, h2⟩ := h2
 refine gets_of (N + M) fun n hn => ?_
 show (run ts n .unary h k).bind1 _ = r
 rw [h1 n (by omega)]
 exact h2 n (by omega)
theorem g_expr {r : R} (h1 : Gets ts (.op 1) h k r) : Gets ts .expr h k r := by
 obtain ⟨N, h1⟩ := h1
 exact gets_of N fun n hn => h1 n hn
theorem g_stop {least : Int} {left : Tree} (h1 : strength (sign ts k) < least) : Gets ts (.opOf left least) h k (.ok [left] 0 k) :=
 gets_of 0 fun n _ => by show (if _ then _ else _) = _; rw [if_neg (by omega)]
theorem g_go {least : Int} {left q : Tree} {s : Int} {r : R} (h0 : least ≤ strength (sign ts k)) (h1 : Gets ts (.op (strength (tok ts k).text + 1)) h (k + 1) (.ok [q] s k2)) (h2 : Gets ts (.opOf (nd 42 (tok ts k).text (tok ts k).pos [left, q]) least) h k2 r) : Gets ts (.opOf left least) h k r := by
 obtain ⟨N, h1⟩ := h1
 obtain ⟨M, h2⟩ := h2
 refine gets_of (N + M) fun n hn => ?_
 show (if _ then (run ts n _ h (k + 1)).bind1 _ else _) = _
 rw [if_pos h0, h1 n (by omega)]
 exact h2 n (by omega)
def Ends (ts : List Tok) (k : Nat) : Prop := isS ts k [[40]] = false ∧ isS ts k [[91]] = false ∧ isS ts k [[46]] = false
theorem g_more {n : Tree} {s : Int} (h1 : Ends ts k) : Gets ts (.primMore n s) h k (.ok [n] s k) :=
 gets_of 0 fun m _ => by
  show fPrimMore ts (run ts m) n s h k = _
  unfold fPrimMore
  rw [if_neg (by simp [h1.1]), if_neg (by simp [h1.2.1]), if_neg (by simp [h1.2.2])]
theorem g_prim {t : Tree} {s : Int} (h1 : Gets ts .operand h k (.ok [t] s k2)) (h2 : Ends ts k2) : Gets ts .primary h k (.ok [t] s k2) := by
 obtain ⟨N, h1⟩ := h1
 obtain ⟨M, h2⟩ := g_more (n := t) (s := s) (h := h) h2
 refine gets_of (N + M) fun n hn => ?_
 show (run ts n .operand h k).bind1 _ = _
 rw [h1 n (by omega)]
 exact h2 n (by omega)
theorem g_unary {t : Tree} {s : Int} (h0 : isS ts k [[45], [33], [60, 45]] = false) (h1 : Gets ts .operand h k (.ok [t] s k2)) (h2 : Ends ts k2) : Gets ts .unary h k (.ok [t] 0 k2) := by
 obtain ⟨N, h1⟩ := g_prim h1 h2
 have h3 : Gets ts .shaped h k (.ok [t] s k2) := gets_of N fun n hn => by
  show fShaped ts (run ts n) h k = _
  unfold fShaped
  rw [if_neg (by simp [h0])]
  exact h1 n hn
 obtain ⟨M, h3⟩ := h3
 refine gets_of M fun n hn => ?_
 show (run ts n .shaped h k).bind1 _ = _
 rw [h3 n hn]
 rfl
theorem g_name (h1 : (tok ts k).kind = 1) : Gets ts .operand h k (.ok [nd 40 (tok ts k).text (tok ts k).pos []] 3 (k + 1)) :=
 gets_of 0 fun n _ => by
  show fOperand ts (run ts n) h k = _
  unfold fOperand
  rw [if_neg (by omega), if_neg (by omega), if_pos h1]
theorem g_paren {t : Tree} {s : Int} (h0 : (tok ts k).kind = 5) (h1 : isS ts k [[40]] = true) (h2 : Gets ts .expr false (k + 1) (.ok [t] s k2)) (h3 : isS ts k2 [[41]] = true) : Gets ts .operand h k (.ok [t] 2 (k2 + 1)) := by
 obtain ⟨N, h2⟩ := h2
 have h4 : Gets ts .markOperand h k (.ok [t] 0 (k2 + 1)) := gets_of N fun n hn => by
  show fMarkOperand ts (run ts n) h k = _
  unfold fMarkOperand
  rw [if_pos h1, h2 n hn]
  simp only [R.bind1, want, h3, if_true]
 obtain ⟨M, h4⟩ := h4
 refine gets_of M fun n hn => ?_
 show fOperand ts (run ts n) h k = _
 unfold fOperand
 rw [if_neg (by omega), if_neg (by omega), if_neg (by omega), if_neg (by omega), h4 n hn]
 rfl
end
def toksE : Ex → List (Int × List UInt8)
 | .leaf x => [(1, x)]
 | .par o l r => (5, [40]) :: (toksE l ++ (5, o) :: (toksE r ++ [(5, [41])]))
def toksR : Rw → List (Int × List UInt8)
 | [] => []
 | (o, v) :: r => (5, o) :: (toksE v ++ toksR r)
def At (ts : List Tok) (k : Nat) (l : List (Int × List UInt8)) : Prop := ∀ i (h : i < l.length), (tok ts (k + i)).kind = l[i].1 ∧ (tok ts (k + i)).text = l[i].2
theorem At.app {ts : List Tok} {k : Nat} {a b : List (Int × List UInt8)} (h : At ts k (a ++ b)) : At ts k a ∧ At ts (k + a.length) b := by
 constructor
 ·intro i hi
  have := h i (by rw [List.length_append]; omega)
  rw [List.getElem_append_left hi] at this
  exact this
 ·intro i hi
  have := h (a.length + i) (by rw [List.length_append]; omega)
  rw [List.getElem_append_right (by omega)] at this
  simp only [Nat.add_sub_cancel_left] at this
  rw [Nat.add_assoc]
  exact this
theorem At.cons {ts : List Tok} {k : Nat} {x : Int × List UInt8} {b : List (Int × List UInt8)} (h : At ts k (x :: b)) : ((tok ts k).kind = x.1 ∧ (tok ts k).text = x.2) ∧ At ts (k + 1) b := by
 have := (At.app (a := [x]) (b := b) h)
 refine ⟨?_, this.2⟩
 have h0 := this.1 0 (by simp)
 simpa using h0
theorem sign5 {ts : List Tok} {k : Nat} {o : List UInt8} (h : (tok ts k).kind = 5 ∧ (tok ts k).text = o) : sign ts k = o := by
 unfold sign
 rw [if_pos (.inr h.1), h.2]
theorem isS5 {ts : List Tok} {k : Nat} {o : List UInt8} {l : List (List UInt8)} (h : (tok ts k).kind = 5 ∧ (tok ts k).text = o) : isS ts k l = (!o.isEmpty && l.contains o) := by
 unfold isS
 rw [sign5 h]
def isOp (o : List UInt8) : Prop := 1 ≤ strength o
theorem op_ends {ts : List Tok} {k : Nat} {o : List UInt8} (h : (tok ts k).kind = 5 ∧ (tok ts k).text = o) (ho : isOp o) : Ends ts k := by
 refine ⟨?_, ?_, ?_⟩ <;> rw [isS5 h] <;> (rw [Bool.and_eq_false_iff]; right; simp only [List.contains_cons, List.contains_nil, Bool.or_false, beq_eq_false_iff_ne]; rintro rfl; exact absurd ho (by unfold isOp; decide))
theorem shut_ends {ts : List Tok} {k : Nat} (h : (tok ts k).kind = 5 ∧ (tok ts k).text = [41]) : Ends ts k := by
 refine ⟨?_, ?_, ?_⟩ <;> rw [isS5 h] <;> rfl
theorem lead_name {ts : List Tok} {k : Nat} (h : (tok ts k).kind = 1) (l : List (List UInt8)) : isS ts k l = false := by
 unfold isS sign
 rw [if_neg (by omega)]
 rfl
def okE : Ex → Prop
 | .leaf _ => True
 | .par o l r => isOp o ∧ okE l ∧ okE r
theorem unit_gets {ts : List Tok} : ∀ (u : Ex) (h : Bool) (k : Nat), okE u → At ts k (toksE u) → Ends ts (k + (toksE u).length) → ∃ t, er t = trE u ∧ Gets ts .unary h k (.ok [t] 0 (k + (toksE u).length)) := by
 intro u
 induction u with
 | leaf x =>
   intro h k _ ha he
   have h0 := ha 0 (by simp [toksE])
   simp only [toksE, List.getElem_cons_zero, Nat.add_zero] at h0
   refine ⟨nd 40 (tok ts k).text (tok ts k).pos [], ?_, g_unary (lead_name h0.1 _) (g_name h0.1) he⟩
   rw [h0.2]
   simp [nd, er_mk, trE]
 | par o l r ihl ihr =>
   intro h k hok ha he
   obtain ⟨ho, hl, hr⟩ := hok
   simp only [toksE] at ha
   obtain ⟨a0, ha⟩ := ha.cons
   obtain ⟨al, ha⟩ := ha.app
   obtain ⟨ao, ha⟩ := ha.cons
   obtain ⟨ar, ha⟩ := ha.app
   obtain ⟨az, _⟩ := ha.cons
   simp only at a0 ao az
   obtain ⟨tl, el, gl⟩ := ihl false (k + 1) hl al (op_ends ao ho)
   obtain ⟨tr, er', gr⟩ := ihr false _ hr ar (shut_ends az)
   have s1 : strength (sign ts (k + 1 + (toksE l).length)) = strength o := by rw [sign5 ao]
   have sz : strength (sign ts (k + 1 + (toksE l).length + 1 + (toksE r).length)) = 0 := by rw [sign5 az]; decide
   have g1 : Gets ts (.op (strength (tok ts (k + 1 + (toksE l).length)).text + 1)) false (k + 1 + (toksE l).length + 1) (.ok [tr] 0 (k + 1 + (toksE l).length + 1 + (toksE r).length)) :=
    g_op gr (g_stop (by rw [sz, ao.2]; have : 1 ≤ strength o := ho; omega))
   have g2 := g_expr (g_op gl (g_go (left := tl) (least := 1) (by rw [s1]; exact ho) g1 (g_stop (by rw [sz]; omega))))
   have e : k + (toksE (.par o l r)).length = k + 1 + (toksE l).length + 1 + (toksE r).length + 1 := by
    simp only [toksE, List.length_cons, List.length_append, List.length_nil]; omega
   rw [e] at he ⊢
   refine ⟨_, ?_, g_unary ?_ (g_paren a0.1 ?_ g2 ?_) he⟩
   ·rw [ao.2]
    simp [nd, er_mk, trE, el, er']
   ·rw [isS5 a0]; rfl
   ·rw [isS5 a0]; rfl
   ·rw [isS5 az]; rfl
theorem row_gets {ts : List Tok} (h : Bool) : ∀ (f : Nat) (least : Int) (t : Tree) (r : Rw) (k : Nat), r.length ≤ f → (∀ x ∈ r, isOp x.1 ∧ okE x.2) → 1 ≤ least → At ts k (toksR r) → Ends ts (k + (toksR r).length) → strength (sign ts (k + (toksR r).length)) = 0 →
 ∃ t' d, er t' = (climb f least (er t) r).1 ∧ toksR r = d ++ toksR (climb f least (er t) r).2 ∧ Gets ts (.opOf t least) h k (.ok [t'] 0 (k + d.length)) := by
 intro f
 induction f with
 | zero =>
   intro least t r k hf _ hl _ _ hz
   have : r = [] := by simpa using hf
   subst this
   refine ⟨t, [], rfl, rfl, ?_⟩
   simp only [toksR, List.length_nil, Nat.add_zero] at hz ⊢
   exact g_stop (by omega)
 | succ f ih =>
   intro least t r k hf hok hl ha he hz
   cases r with
   | nil =>
     refine ⟨t, [], rfl, rfl, ?_⟩
     simp only [toksR, List.length_nil, Nat.add_zero] at hz ⊢
     exact g_stop (by omega)
   | cons x r =>
     obtain ⟨o, v⟩ := x
     have ho := (hok (o, v) (List.mem_cons_self ..)).1
     have hv := (hok (o, v) (List.mem_cons_self ..)).2
     have hok' : ∀ x ∈ r, isOp x.1 ∧ okE x.2 := fun x hx => hok x (List.mem_cons_of_mem _ hx)
     have ha0 := ha
     simp only [toksR] at ha
     obtain ⟨ao, ha⟩ := ha.cons
     obtain ⟨av, ar⟩ := ha.app
     simp only at ao
     simp only [List.length_cons] at hf
     have e : k + (toksR ((o, v) :: r)).length = k + 1 + (toksE v).length + (toksR r).length := by
      simp only [toksR, List.length_cons, List.length_append]; omega
     rw [e] at he hz
     rw [climb]
     by_cases hs : least ≤ strength o
     ·rw [if_pos hs]
      have hev : Ends ts (k + 1 + (toksE v).length) := by
       cases r with
       | nil => simpa [toksR] using he
       | cons y s =>
         obtain ⟨o', v'⟩ := y
         exact op_ends (At.cons ar).1 (hok' (o', v') (List.mem_cons_self ..)).1
      obtain ⟨tv, ev, gv⟩ := unit_gets v h (k + 1) hv av hev
      obtain ⟨q, d, eq, ed, gq⟩ := ih (strength o + 1) tv r _ (by omega) hok' (by omega) ar he hz
      rw [ev] at eq ed
      have hsf := climb_suf f (strength o + 1) (trE v) r
      generalize climb f (strength o + 1) (trE v) r = p at eq ed hsf
      have hlp := hsf.length_le
      have ad : At ts (k + 1 + (toksE v).length + d.length) (toksR p.2) := by
       rw [ed] at ar
       exact ar.app.2
      have ld : (toksR r).length = d.length + (toksR p.2).length := by rw [ed, List.length_append]
      have e2 : k + 1 + (toksE v).length + d.length + (toksR p.2).length = k + 1 + (toksE v).length + (toksR r).length := by omega
      obtain ⟨t', d', et, ed', gt⟩ := ih least (nd 42 (tok ts k).text (tok ts k).pos [t, q]) p.2 _ (by omega) (fun x hx => hok' x (hsf.subset hx)) hl ad (by rw [e2]; exact he) (by rw [e2]; exact hz)
      have en : er (nd 42 (tok ts k).text (tok ts k).pos [t, q]) = .mk 42 o 0 0 [er t, p.1] := by
       rw [ao.2]; simp [nd, er_mk, eq]
      rw [en] at et ed'
      refine ⟨t', (5, o) :: (toksE v ++ (d ++ d')), et, ?_, ?_⟩
      ·rw [toksR, ed, ed']
       simp
      ·have gg := g_go (left := t) (by rw [sign5 ao]; exact hs) (by rw [ao.2]; exact g_op gv gq) gt
       have e3 : k + ((5, o) :: (toksE v ++ (d ++ d'))).length = k + 1 + (toksE v).length + d.length + d'.length := by
        simp only [List.length_cons, List.length_append]; omega
       rw [e3]
       exact gg
     ·rw [if_neg hs]
      refine ⟨t, [], rfl, rfl, ?_⟩
      simp only [List.length_nil, Nat.add_zero]
      exact g_stop (by rw [sign5 ao]; omega)
theorem expr_gets {ts : List Tok} (h : Bool) (u : Ex) (r : Rw) (k : Nat) (hu : okE u) (hr : ∀ x ∈ r, isOp x.1 ∧ okE x.2) (ha : At ts k (toksE u ++ toksR r)) (he : Ends ts (k + (toksE u ++ toksR r).length)) (hz : strength (sign ts (k + (toksE u ++ toksR r).length)) = 0) :
 ∃ t, er t = trE (bind5 u r).1 ∧ Gets ts .expr h k (.ok [t] 0 (k + (toksE u ++ toksR r).length)) := by
 obtain ⟨au, ar⟩ := ha.app
 rw [List.length_append, ← Nat.add_assoc] at he hz ⊢
 have heu : Ends ts (k + (toksE u).length) := by
  cases r with
  | nil => simpa [toksR] using he
  | cons y s =>
    obtain ⟨o', v'⟩ := y
    exact op_ends (At.cons ar).1 (hr (o', v') (List.mem_cons_self ..)).1
 obtain ⟨tu, eu, gu⟩ := unit_gets u h k hu au heu
 obtain ⟨t, d, et, ed, gt⟩ := row_gets h r.length 1 tu r _ (Nat.le_refl _) hr (by omega) ar he hz
 have h1 : ∀ x ∈ r, 1 ≤ strength x.1 := fun x hx => (hr x hx).1
 rw [eu, (binds u r r.length (Nat.le_refl _) h1).2] at et
 rw [eu, climb_end (Nat.le_refl _) h1] at ed
 have : d = toksR r := by simpa [toksR] using ed.symm
 subst this
 exact ⟨t, et, g_expr (g_op gu gt)⟩
end Go.Proofs.YtgckmkiiheaeaaaGreatDoor.Px
set_option linter.unusedVariables false
set_option linter.unusedSimpArgs false
set_option maxRecDepth 100000
namespace Go.Proofs.YtgckmkiiheaeaaaGreatDoor.Lx
def endD (last : Option Tok) (k : Int) : List Tok :=
 match last with
 | some t => if tokEnds t.kind t.text then [⟨5, [59], 1, k⟩] else []
 | none => []
theorem endD_eq (ts : List Tok) (k : Int) : endT ts k = ts ++ endD ts.getLast? k := by
 unfold endT endD
 cases ts.getLast? with
 | none => simp
 | some t => simp only; split <;> simp
def partD (d : List UInt8) (k : Nat) (last : Option Tok) : Sum Nat (Nat × List Tok) :=
 match d with
 | [] => .inl 0
 | c :: _ =>
   if c = 32 ∨ c = 9 then .inr (1, [])
   else if c = 10 then .inr (1, endD last k)
   else if d.take 2 == [47, 47] then .inr ((d.takeWhile notNl).length, [])
   else if isLet c = true then (if 24 < (d.takeWhile isNam).length then .inl k else .inr ((d.takeWhile isNam).length, [⟨nmK (d.takeWhile isNam), d.takeWhile isNam, 0, k⟩]))
   else if isDig c = true then (match numF d 0 [] with | .inl p => .inl (k + p) | .inr q => .inr (q.1, q.2.map fun t => { t with pos := k }))
   else if c = 34 then (match textF d 0 [] with | .inl p => .inl (k + p) | .inr q => .inr (q.1, q.2.map fun t => { t with pos := k }))
   else if mLen d = 0 then .inl k else .inr (mLen d, [⟨5, d.take (mLen d), 0, k⟩])
def scanD : Nat → List UInt8 → Nat → Option Tok → Sum Nat (List Tok)
 | 0, _, _, _ => .inr []
 | f + 1, d, k, last =>
   match d with
   | [] => .inr []
   | _ :: _ =>
     match partD d k last with
     | .inl p => .inl p
     | .inr (a, ns) =>
       match scanD f (d.drop a) (k + a) (ns.getLast?.or last) with
       | .inl p => .inl p
       | .inr r => .inr (ns ++ r)
theorem tw_take (p : UInt8 → Bool) : ∀ d : List UInt8, d.take (d.takeWhile p).length = d.takeWhile p
 | [] => rfl
 | c :: r => by
   by_cases h : p c = true
   ·simp [h, tw_take p r]
   ·simp [h]
theorem re_D (p : UInt8 → Bool) (l : List UInt8) (k : Nat) : runEnd p l k = k + ((l.drop k).takeWhile p).length := rfl
theorem sub_D (l : List UInt8) (k n : Nat) : sub l k (k + n) = (l.drop k).take n := by unfold sub; rw [Nat.add_sub_cancel_left]
theorem letAt_D (l : List UInt8) (k n : Nat) : letAt l (k + n) = letAt (l.drop k) n := by unfold letAt; rw [List.getElem?_drop]
def upD (k : Nat) (ts : List Tok) : Sum Nat (Nat × List Tok) → Sum Nat (Nat × List Tok)
 | .inl p => .inl p
 | .inr q => .inr (k + q.1, ts ++ q.2)
theorem num_D (l : List UInt8) (k : Nat) (ts : List Tok) : numF l k ts = upD k ts (match numF (l.drop k) 0 [] with | .inl p => .inl (k + p) | .inr q => .inr (q.1, q.2.map fun t => { t with pos := k })) := by
 unfold numF
 have e0 : runEnd isDig (l.drop k) 0 = 0 + ((l.drop k).takeWhile isDig).length := rfl
 rw [re_D, e0, sub_D, sub_D, letAt_D, letAt_D, List.drop_zero]
 generalize ((l.drop k).takeWhile isDig).length = n
 split
 ·rfl
 ·rw [Nat.zero_add]
  split <;> rfl
theorem text_D (l : List UInt8) (k : Nat) (ts : List Tok) : textF l k ts = upD k ts (match textF (l.drop k) 0 [] with | .inl p => .inl (k + p) | .inr q => .inr (q.1, q.2.map fun t => { t with pos := k })) := by
 unfold textF
 rw [List.drop_drop]
 generalize txt (l.drop (k + (0 + 1))) = x
 obtain ⟨m, n⟩ := x
 cases m with
 | none => simp only [upD]; congr 1; omega
 | some m =>
   simp only
   split
   ·rfl
   ·simp only [upD, List.nil_append, List.map_cons, List.map_nil]; congr 2; omega
theorem part_D (l : List UInt8) (k : Nat) (ts : List Tok) (hk : k < l.length) : partF l k ts = upD k ts (partD (l.drop k) k ts.getLast?) := by
 have hd : l.drop k = l[k] :: l.drop (k + 1) := List.drop_eq_getElem_cons hk
 have hc : l[k]? = some l[k] := List.getElem?_eq_getElem hk
 unfold partF partD
 rw [hc]
 generalize hl : l[k] = c at *
 rw [hd]
 simp only
 rw [← hd]
 by_cases h1 : c = 32 ∨ c = 9
 ·rw [if_pos h1, if_pos h1]; simp [upD]
 rw [if_neg h1, if_neg h1]
 by_cases h2 : c = 10
 ·rw [if_pos h2, if_pos h2, endD_eq]; rfl
 rw [if_neg h2, if_neg h2]
 have e : cmt l k = ((l.drop k).take 2 == [47, 47]) := rfl
 rw [e]
 by_cases h3 : ((l.drop k).take 2 == [47, 47]) = true
 ·rw [if_pos h3, if_pos h3, re_D]; simp [upD]
 rw [if_neg h3, if_neg h3]
 by_cases h4 : isLet c = true
 ·rw [if_pos h4, if_pos h4]
  unfold nameF
  rw [re_D, sub_D, tw_take, Nat.add_sub_cancel_left]
  split <;> rfl
 rw [if_neg h4, if_neg h4]
 by_cases h5 : isDig c = true
 ·rw [if_pos h5, if_pos h5]; exact num_D l k ts
 rw [if_neg h5, if_neg h5]
 by_cases h6 : c = 34
 ·rw [if_pos h6, if_pos h6]; exact text_D l k ts
 rw [if_neg h6, if_neg h6]
 unfold markF
 rw [sub_D]
 split <;> rfl
theorem last_app (ts ns : List Tok) : (ts ++ ns).getLast? = ns.getLast?.or ts.getLast? := by
 rw [List.getLast?_append]
theorem scan_D : ∀ (f : Nat) (l : List UInt8) (k : Nat) (ts : List Tok), scanF f l k ts = match scanD f (l.drop k) k ts.getLast? with | .inl p => .inl p | .inr r => .inr (ts ++ r)
 | 0, l, k, ts => by simp [scanF, scanD]
 | f + 1, l, k, ts => by
   unfold scanF scanD
   by_cases hk : k < l.length
   ·rw [if_pos hk, part_D l k ts hk]
    have hd : l.drop k = l[k] :: l.drop (k + 1) := List.drop_eq_getElem_cons hk
    rw [hd]
    simp only
    rw [← hd]
    cases hp : partD (l.drop k) k ts.getLast? with
    | inl p => rfl
    | inr q =>
      obtain ⟨a, ns⟩ := q
      simp only [upD]
      rw [scan_D f l (k + a) (ts ++ ns), List.drop_drop, last_app]
      cases scanD f (l.drop (k + a)) (k + a) (ns.getLast?.or ts.getLast?) with
      | inl p => rfl
      | inr r => simp
   ·rw [if_neg hk, List.drop_eq_nil_of_le (by omega)]
    simp
def lexD (l : List UInt8) : List Tok × Int × Int :=
 if 8192 < l.length then ([], 1, 8192)
 else match scanD (l.length + 1) l 0 none with
  | .inl p => ([], 2, (p : Int))
  | .inr ts =>
    match deepF 0 (allP ts l.length) with
    | some a => ([], 3, a)
    | none => (allP ts l.length, 0, 0)
theorem lex_D (l : List UInt8) : lexR l = lexD l := by
 unfold lexR lexD scanAll
 rw [scan_D, List.drop_zero, List.getLast?_nil, Nat.sub_zero]
 cases scanD (l.length + 1) l 0 none with
 | inl p => rfl
 | inr r => rfl
end Go.Proofs.YtgckmkiiheaeaaaGreatDoor.Lx
namespace Go.Proofs.YtgckmkiiheaeaaaGreatDoor.Px
open Go.Proofs.YtgckmkiiheaeaaaGreatDoor.Lx
def Mo (r r' : R) : Prop := r ≠ .out → r' = r
theorem mo_refl {r : R} : Mo r r := fun _ => rfl
theorem mo_ite {c : Prop} [Decidable c] {a b a' b' : R} (h1 : Mo a a') (h2 : Mo b b') : Mo (if c then a else b) (if c then a' else b') := by
 by_cases h : c
 ·rw [if_pos h, if_pos h]; exact h1
 ·rw [if_neg h, if_neg h]; exact h2
theorem mo_want {ts : List Tok} {k : Nat} {s : List UInt8} {f f' : Tok → Nat → R} (h : Mo (f (tok ts k) (k + 1)) (f' (tok ts k) (k + 1))) : Mo (want ts k s f) (want ts k s f') := mo_ite h mo_refl
theorem mo_name {ts : List Tok} {k : Nat} {f f' : Tok → Nat → R} (h : Mo (f (tok ts k) (k + 1)) (f' (tok ts k) (k + 1))) : Mo (wantName ts k f) (wantName ts k f') := mo_ite h mo_refl
theorem mo_bind {r r' : R} {f f' : List Tree → Int → Nat → R} (h : Mo r r') (g : ∀ l s k, Mo (f l s k) (f' l s k)) : Mo (r.bind f) (r'.bind f') := by
 cases r with
 | out => exact fun h => absurd rfl h
 | bad p => rw [h (by simp)]; exact mo_refl
 | ok l s k => rw [h (by simp)]; exact g l s k
theorem mo_bind1 {r r' : R} {f f' : Tree → Int → Nat → R} (h : Mo r r') (g : ∀ t s k, Mo (f t s k) (f' t s k)) : Mo (r.bind1 f) (r'.bind1 f') := by
 cases r with
 | out => exact fun h => absurd rfl h
 | bad p => rw [h (by simp)]; exact mo_refl
 | ok l s k =>
   rw [h (by simp)]
   match l with
   | [] => exact mo_refl
   | [t] => exact g t s k
   | _ :: _ :: _ => exact mo_refl
set_option maxHeartbeats 4000000 in
theorem step_mono (ts : List Tok) (rec rec' : Job → Bool → Nat → R) (ih : ∀ j h k, Mo (rec j h k) (rec' j h k)) (j : Job) (h : Bool) (k : Nat) : Mo (step ts rec j h k) (step ts rec' j h k) := by
 cases j
 all_goals
  simp only [step, fWtype, fResult, fNamed, fListed, fListMore, fFunction, fBlock, fStmts, fStmt, fVarStmt, fReturnStmt, fCallStmt, fLabelled, fSimple, fActing, fIfStmt, fBreakable, fForStmt, forTail2, forTail, fForHead, fForLead, fSwitchStmt, fSelectStmt, fClauses, fClausesMore, fClause, fCaseMore, fClauseBlock, fComm, fCommHead, fOp, fOpOf, fUnary, fShaped, fPrimary, fPrimMore, fBr3, fBr2, fBracketed, fOperand, fWordOperand, fBuiltin, fMakeArgs, fNewArgs, fMarkOperand, fBraced, fBracedMore, fInitial, fDecl, fTypeDecl, fFieldsMore, fFileMore, jump, behind]
  repeat' (first
   | exact ih _ _ _
   | exact mo_refl
   | refine mo_want ?_
   | refine mo_name ?_
   | refine mo_ite ?_ ?_
   | (refine mo_bind1 (ih _ _ _) ?_; intro _ _ _)
   | (refine mo_bind (ih _ _ _) ?_; intro _ _ _))
theorem run_mono (ts : List Tok) : ∀ (n d : Nat) (j : Job) (h : Bool) (k : Nat), Mo (run ts n j h k) (run ts (n + d) j h k)
 | 0, _, _, _, _ => fun h => absurd rfl h
 | n + 1, d, j, h, k => by
   rw [Nat.succ_add]
   exact step_mono ts (run ts n) (run ts (n + d)) (run_mono ts n d) j h k
def kt (t : Tok) : Int × List UInt8 := (t.kind, t.text)
inductive Sc : List UInt8 → List (Int × List UInt8) → Prop
 | nil : Sc [] []
 | part {d : List UInt8} {a : Nat} {nk ks : List (Int × List UInt8)} (h1 : ∀ k last, ∃ ns : List Tok, partD d k last = .inr (a, ns) ∧ ns.map kt = nk) (h2 : 0 < a) (h3 : d ≠ []) (h4 : Sc (d.drop a) ks) : Sc d (nk ++ ks)
theorem Sc.scans {d : List UInt8} {ks : List (Int × List UInt8)} (h : Sc d ks) : ∀ (f k : Nat) (last : Option Tok), d.length ≤ f → ∃ ts, scanD f d k last = .inr ts ∧ ts.map kt = ks := by
 induction h with
 | nil => intro f k last _; exact ⟨[], by cases f <;> rfl, rfl⟩
 | part h1 h2 h3 h4 ih =>
   rename_i d a nk ks
   intro f k last hf
   cases d with
   | nil => exact absurd rfl h3
   | cons c d =>
     obtain ⟨f, rfl⟩ : ∃ g, f = g + 1 := ⟨f - 1, by simp only [List.length_cons] at hf; omega⟩
     obtain ⟨ns, e1, e2⟩ := h1 k last
     obtain ⟨ts, e3, e4⟩ := ih f (k + a) (ns.getLast?.or last) (by rw [List.length_drop]; omega)
     refine ⟨ns ++ ts, ?_, by rw [List.map_append, e2, e4]⟩
     rw [scanD, e1]
     simp only
     rw [e3]
theorem partD_cons (c : UInt8) (d : List UInt8) (k : Nat) (last : Option Tok) : partD (c :: d) k last = (if c = 32 ∨ c = 9 then .inr (1, []) else if c = 10 then .inr (1, endD last k)
 else if (c :: d).take 2 == [47, 47] then .inr (((c :: d).takeWhile notNl).length, [])
 else if isLet c = true then (if 24 < ((c :: d).takeWhile isNam).length then .inl k else .inr (((c :: d).takeWhile isNam).length, [⟨nmK ((c :: d).takeWhile isNam), (c :: d).takeWhile isNam, 0, k⟩]))
 else if isDig c = true then (match numF (c :: d) 0 [] with | .inl p => .inl (k + p) | .inr q => .inr (q.1, q.2.map fun t => { t with pos := k }))
 else if c = 34 then (match textF (c :: d) 0 [] with | .inl p => .inl (k + p) | .inr q => .inr (q.1, q.2.map fun t => { t with pos := k }))
 else if mLen (c :: d) = 0 then .inl k else .inr (mLen (c :: d), [⟨5, (c :: d).take (mLen (c :: d)), 0, k⟩])) := rfl
theorem part_mark {c : UInt8} {d : List UInt8} {n : Nat} (h0 : ¬ (c = 32 ∨ c = 9) ∧ c ≠ 10 ∧ isLet c = false ∧ isDig c = false ∧ c ≠ 34) (h1 : ((c :: d).take 2 == [47, 47]) = false) (h2 : mLen (c :: d) = n + 1) (k : Nat) (last : Option Tok) : partD (c :: d) k last = .inr (n + 1, [⟨5, (c :: d).take (n + 1), 0, k⟩]) := by
 rw [partD_cons, if_neg h0.1, if_neg h0.2.1, if_neg (by rw [h1]; simp), if_neg (by rw [h0.2.2.1]; simp), if_neg (by rw [h0.2.2.2.1]; simp), if_neg h0.2.2.2.2, h2, if_neg (by omega)]
theorem sc_space {r : List UInt8} {ks : List (Int × List UInt8)} (h : Sc r ks) : Sc (32 :: r) ks := by
 have := Sc.part (d := 32 :: r) (a := 1) (nk := []) (ks := ks) (fun k last => ⟨[], rfl, rfl⟩) (by omega) (by simp) (by simpa using h)
 simpa using this
def NoNam : List UInt8 → Prop
 | [] => True
 | c :: _ => isNam c = false
theorem tw_name {x r : List UInt8} (hx : ∀ c ∈ x, isNam c = true) (hr : NoNam r) : (x ++ r).takeWhile isNam = x := by
 induction x with
 | nil =>
   cases r with
   | nil => rfl
   | cons c r => have : isNam c = false := hr; simp [this]
 | cons c x ih =>
   rw [List.cons_append, List.takeWhile_cons, if_pos (hx c (List.mem_cons_self ..)), ih fun c hc => hx c (List.mem_cons_of_mem _ hc)]
theorem sc_name {c : UInt8} {x r : List UInt8} {ks : List (Int × List UInt8)} (hc : isLet c = true) (h0 : c ≠ 32 ∧ c ≠ 9 ∧ c ≠ 10 ∧ c ≠ 47) (hx : ∀ d ∈ c :: x, isNam d = true) (hl : (c :: x).length ≤ 24) (hr : NoNam r) (h : Sc r ks) : Sc (c :: x ++ r) ((nmK (c :: x), c :: x) :: ks) := by
 have tw := tw_name hx hr
 refine Sc.part (d := c :: x ++ r) (a := (c :: x).length) (nk := [(nmK (c :: x), c :: x)]) (ks := ks) (fun k last => ⟨[⟨nmK (c :: x), c :: x, 0, k⟩], ?_, rfl⟩) (by simp) (by simp) (by rw [List.drop_left]; exact h)
 show partD (c :: (x ++ r)) k last = _
 have e : c :: (x ++ r) = c :: x ++ r := rfl
 have h2 : ((c :: (x ++ r)).take 2 == [47, 47]) = false := by
  rw [beq_eq_false_iff_ne]
  intro h2
  cases hq : x ++ r with
  | nil => rw [hq] at h2; simp at h2
  | cons y s => rw [hq] at h2; simp at h2; exact h0.2.2.2 h2.1
 rw [partD_cons, if_neg (by rintro (h | h); exact h0.1 h; exact h0.2.1 h), if_neg h0.2.2.1, if_neg (by rw [h2]; simp), if_pos hc, e, tw, if_neg (by omega)]
theorem sc_mark {o r : List UInt8} {ks : List (Int × List UInt8)} (ho : o ≠ []) (hc : ∀ k last, partD (o ++ r) k last = .inr (o.length, [⟨5, o, 0, k⟩])) (h : Sc r ks) : Sc (o ++ r) ((5, o) :: ks) := by
 cases o with
 | nil => exact absurd rfl ho
 | cons c o => exact Sc.part (d := c :: o ++ r) (a := (c :: o).length) (nk := [(5, c :: o)]) (ks := ks) (fun k last => ⟨[⟨5, c :: o, 0, k⟩], hc k last, rfl⟩) (by simp) (by simp) (by rw [List.drop_left]; exact h)
def ops13 : List (List UInt8) := [[124, 124], [38, 38], [61, 61], [33, 61], [60], [60, 61], [62], [62, 61], [43], [45], [42], [47], [37]]
def LetOpen : List UInt8 → Prop
 | [] => False
 | c :: _ => isLet c = true ∨ c = 40
theorem pr_let (a c : UInt8) (h : isLet c = true ∨ c = 40) : isPr [a, c] = false := by
 have h1 : ∀ b ∈ ([61, 38, 124, 45, 43] : List UInt8), c ≠ b := by
  intro b hb
  rintro rfl
  rcases h with h | h
  ·revert h
   simp only [List.mem_cons, List.not_mem_nil, or_false] at hb
   rcases hb with rfl | rfl | rfl | rfl | rfl <;> decide
  ·simp only [List.mem_cons, List.not_mem_nil, or_false] at hb
   rcases hb with rfl | rfl | rfl | rfl | rfl <;> cases h
 have h61 := h1 61 (by decide)
 have h38 := h1 38 (by decide)
 have h124 := h1 124 (by decide)
 have h45 := h1 45 (by decide)
 have h43 := h1 43 (by decide)
 simp [isPr, pairList, h61, h38, h124, h45, h43]
theorem mLen_one {a c : UInt8} {r : List UInt8} (hm : mTab a.toNat = 2) (hp : isPr [a, c] = false) (h : a ≠ 124) : mLen (a :: c :: r) = 1 := by
 show (if mTab a.toNat = 2 then (if isPr [a, c] then 2 else if a = 124 then 0 else 1) else if mTab a.toNat = 1 then 1 else 0) = 1
 rw [if_pos hm, hp, if_neg (by simp), if_neg h]
theorem sc_op {o r : List UInt8} {ks : List (Int × List UInt8)} (ho : o ∈ ops13) (hr : LetOpen r) (h : Sc r ks) : Sc (o ++ r) ((5, o) :: ks) := by
 cases r with
 | nil => exact hr.elim
 | cons c r =>
   have hp := fun a => pr_let a c hr
   have h47 : c ≠ 47 := by rintro rfl; rcases hr with h | h; exact absurd h (by decide); cases h
   refine sc_mark (by rintro rfl; simp [ops13] at ho) (fun k last => ?_) h
   simp only [ops13, List.mem_cons, List.not_mem_nil, or_false] at ho
   rcases ho with rfl | rfl | rfl | rfl | rfl | rfl | rfl | rfl | rfl | rfl | rfl | rfl | rfl
   all_goals simp only [List.cons_append, List.nil_append]
   all_goals refine part_mark ⟨by decide, by decide, by decide, by decide, by decide⟩ ?_ ?_ k last
   all_goals first | rfl | (simp [h47]; done) | exact mLen_one rfl (hp _) (by decide)
theorem sc_one {c : UInt8} {r : List UInt8} {ks : List (Int × List UInt8)} (hc : c = 40 ∨ c = 41 ∨ c = 123 ∨ c = 125) (h : Sc r ks) : Sc (c :: r) ((5, [c]) :: ks) := by
 refine sc_mark (o := [c]) (by simp) (fun k last => ?_) h
 rcases hc with rfl | rfl | rfl | rfl
 all_goals refine part_mark ⟨by decide, by decide, by decide, by decide, by decide⟩ ?_ rfl k last
 all_goals (cases r <;> simp)
def strE : Ex → List UInt8
 | .leaf x => x
 | .par o l r => [40] ++ strE l ++ o ++ strE r ++ [41]
def strR : Rw → List UInt8
 | [] => []
 | (o, v) :: r => o ++ (strE v ++ strR r)
def okX (x : List UInt8) : Prop := x = [97] ∨ ∃ i : Nat, x = [98, UInt8.ofNat (97 + i % 26)]
def okU : Ex → Prop
 | .leaf x => okX x
 | .par o l r => o ∈ ops13 ∧ okU l ∧ okU r
theorem ops_is : ∀ o ∈ ops13, isOp o := by
 intro o ho
 simp only [ops13, List.mem_cons, List.not_mem_nil, or_false] at ho
 rcases ho with rfl | rfl | rfl | rfl | rfl | rfl | rfl | rfl | rfl | rfl | rfl | rfl | rfl
 all_goals (show 1 ≤ strength _; decide)
theorem okU.ok : ∀ {u : Ex}, okU u → okE u := by
 intro u
 induction u with
 | leaf x => intro _; trivial
 | par o l r ihl ihr => exact fun h => ⟨ops_is o h.1, ihl h.2.1, ihr h.2.2⟩
theorem name26 (i : Nat) : isNam (UInt8.ofNat (97 + i % 26)) = true ∧ nmK [98, UInt8.ofNat (97 + i % 26)] = 1 := by
 have h : ∀ j, j < 26 → (isNam (UInt8.ofNat (97 + j)) = true ∧ nmK [98, UInt8.ofNat (97 + j)] = 1) := by decide
 exact h _ (Nat.mod_lt _ (by omega))
theorem sc_leaf {x r : List UInt8} {ks : List (Int × List UInt8)} (hx : okX x) (hr : NoNam r) (h : Sc r ks) : Sc (x ++ r) ((1, x) :: ks) := by
 rcases hx with rfl | ⟨i, rfl⟩
 ·exact sc_name (c := 97) (x := []) (by decide) (by decide) (by decide) (by decide) hr h
 ·have h26 := name26 i
  have := sc_name (c := 98) (x := [UInt8.ofNat (97 + i % 26)]) (by decide) (by decide) (by
   intro d hd
   simp only [List.mem_cons, List.not_mem_nil, or_false] at hd
   rcases hd with rfl | rfl
   ·decide
   ·exact h26.1) (by simp) hr h
  rw [h26.2] at this
  exact this
theorem op_nonam {o r : List UInt8} (ho : o ∈ ops13) : NoNam (o ++ r) := by
 simp only [ops13, List.mem_cons, List.not_mem_nil, or_false] at ho
 rcases ho with rfl | rfl | rfl | rfl | rfl | rfl | rfl | rfl | rfl | rfl | rfl | rfl | rfl
 all_goals (show isNam _ = false; decide)
theorem unit_head {u : Ex} (h : okU u) (r : List UInt8) : LetOpen (strE u ++ r) := by
 cases u with
 | leaf x =>
   rcases h with rfl | ⟨i, rfl⟩
   ·exact .inl (by decide)
   ·exact .inl (by decide)
 | par o l q => exact .inr rfl
theorem sc_E : ∀ (u : Ex) (r : List UInt8) (ks : List (Int × List UInt8)), okU u → NoNam r → Sc r ks → Sc (strE u ++ r) (toksE u ++ ks) := by
 intro u
 induction u with
 | leaf x => intro r ks hu hr h; exact sc_leaf hu hr h
 | par o l q ihl ihq =>
   intro r ks hu hr h
   obtain ⟨ho, hl, hq⟩ := hu
   have h1 := sc_one (c := 41) (.inr (.inl rfl)) h
   have h2 := ihq (41 :: r) _ hq (by show isNam 41 = false; decide) h1
   have h3 := sc_op ho (unit_head hq _) h2
   have h4 := ihl _ _ hl (op_nonam ho) h3
   have h5 := sc_one (c := 40) (.inl rfl) h4
   have e1 : strE (.par o l q) ++ r = 40 :: (strE l ++ (o ++ (strE q ++ 41 :: r))) := by simp [strE]
   have e2 : toksE (.par o l q) ++ ks = (5, [40]) :: (toksE l ++ (5, o) :: (toksE q ++ (5, [41]) :: ks)) := by simp [toksE]
   rw [e1, e2]
   exact h5
def okRw (r : Rw) : Prop := ∀ x ∈ r, x.1 ∈ ops13 ∧ okU x.2
theorem row_nonam {r : Rw} (h : okRw r) {q : List UInt8} (hq : NoNam q) : NoNam (strR r ++ q) := by
 cases r with
 | nil => exact hq
 | cons x r =>
   obtain ⟨o, v⟩ := x
   rw [strR, List.append_assoc]
   exact op_nonam (h (o, v) (List.mem_cons_self ..)).1
theorem sc_R : ∀ (r : Rw) (q : List UInt8) (ks : List (Int × List UInt8)), okRw r → NoNam q → Sc q ks → Sc (strR r ++ q) (toksR r ++ ks) := by
 intro r
 induction r with
 | nil => intro q ks _ _ h; exact h
 | cons x r ih =>
   intro q ks hr hq h
   obtain ⟨o, v⟩ := x
   have hv := hr (o, v) (List.mem_cons_self ..)
   have hr' : okRw r := fun x hx => hr x (List.mem_cons_of_mem _ hx)
   have h1 := ih q ks hr' hq h
   have h2 := sc_E v _ _ hv.2 (row_nonam hr' hq) h1
   have h3 := sc_op hv.1 (unit_head hv.2 _) h2
   have e1 : strR ((o, v) :: r) ++ q = o ++ (strE v ++ (strR r ++ q)) := by simp [strR]
   have e2 : toksR ((o, v) :: r) ++ ks = (5, o) :: (toksE v ++ (toksR r ++ ks)) := by simp [toksR]
   rw [e1, e2]
   exact h3
def srcB (u : Ex) (r : Rw) : List UInt8 := [102, 117, 110, 99, 32, 102, 40, 41, 32, 123, 32, 120, 32, 61, 32] ++ (strE u ++ (strR r ++ [32, 125]))
def headB : List (Int × List UInt8) := [(4, [102, 117, 110, 99]), (1, [102]), (5, [40]), (5, [41]), (5, [123]), (1, [120]), (5, [61])]
theorem sc_src (u : Ex) (r : Rw) (hu : okU u) (hr : okRw r) : Sc (srcB u r) (headB ++ (toksE u ++ (toksR r ++ [(5, [125])]))) := by
 have h0 : Sc [32, 125] [(5, [125])] := sc_space (sc_one (.inr (.inr (.inr rfl))) .nil)
 have h1 := sc_R r _ _ hr (by show isNam 32 = false; decide) h0
 have h2 := sc_E u _ _ hu (row_nonam hr (by show isNam 32 = false; decide)) h1
 unfold srcB
 generalize strE u ++ (strR r ++ [32, 125]) = q at h2 ⊢
 generalize toksE u ++ (toksR r ++ [(5, [125])]) = ks at h2 ⊢
 have h3 : Sc (61 :: 32 :: q) ((5, [61]) :: ks) := sc_mark (o := [61]) (r := 32 :: q) (by simp) (fun k last => part_mark ⟨by decide, by decide, by decide, by decide, by decide⟩ (by simp) (mLen_one rfl (by decide) (by decide)) k last) (sc_space h2)
 have h4 := sc_name (c := 120) (x := []) (r := 32 :: 61 :: 32 :: q) (by decide) (by decide) (by decide) (by decide) (by show isNam 32 = false; decide) (sc_space h3)
 have h6 := sc_one (c := 41) (.inr (.inl rfl)) (sc_space (sc_one (c := 123) (.inr (.inr (.inl rfl))) (sc_space h4)))
 have h7 := sc_one (c := 40) (.inl rfl) h6
 have h8 := sc_name (c := 102) (x := []) (by decide) (by decide) (by decide) (by decide) (by show isNam 40 = false; decide) h7
 have h9 := sc_name (c := 102) (x := [117, 110, 99]) (by decide) (by decide) (by decide) (by decide) (by show isNam 32 = false; decide) (sc_space h8)
 rw [show nmK [102, 117, 110, 99] = 4 by decide, show nmK [102] = 1 by decide, show nmK [120] = 1 by decide] at h9
 exact h9
def oaK (o : Int) (x : Int × List UInt8) : Int := if x.1 = 5 then (if opens x.2 = true then o + 1 else if closes x.2 = true then max (o - 1) 0 else o) else o
def dkK : Int → List (Int × List UInt8) → Bool
 | _, [] => true
 | o, x :: r => !(decide (x.1 = 5 ∧ 40 < oaK o x)) && dkK (oaK o x) r
theorem deep_dk : ∀ (ts : List Tok) (o : Int), dkK o (ts.map kt) = true → deepF o ts = none := by
 intro ts
 induction ts with
 | nil => intro o _; rfl
 | cons t r ih =>
   intro o h
   simp only [List.map_cons, dkK, Bool.and_eq_true, Bool.not_eq_true', decide_eq_false_iff_not] at h
   rw [deepF, if_neg (show ¬ (t.kind = 5 ∧ 40 < openAft o t) from h.1)]
   exact ih _ h.2
def aftK (o : Int) (l : List (Int × List UInt8)) : Int := l.foldl oaK o
theorem dk_app : ∀ (a b : List (Int × List UInt8)) (o : Int), dkK o (a ++ b) = (dkK o a && dkK (aftK o a) b) := by
 intro a
 induction a with
 | nil => intro b o; simp [dkK, aftK]
 | cons x a ih => intro b o; simp [dkK, ih, aftK, Bool.and_assoc]
def depE : Ex → Nat
 | .leaf _ => 0
 | .par _ l r => 1 + max (depE l) (depE r)
theorem op_oa {o : List UInt8} (h : o ∈ ops13) (z : Int) : oaK z (5, o) = z := by
 simp only [ops13, List.mem_cons, List.not_mem_nil, or_false] at h
 rcases h with rfl | rfl | rfl | rfl | rfl | rfl | rfl | rfl | rfl | rfl | rfl | rfl | rfl
 all_goals rfl
theorem unit_dk : ∀ (u : Ex) (z : Int), okU u → 0 ≤ z → z + depE u ≤ 40 → dkK z (toksE u) = true ∧ aftK z (toksE u) = z := by
 intro u
 induction u with
 | leaf x => intro z _ _ _; simp [toksE, dkK, aftK, oaK]
 | par o l r ihl ihr =>
   intro z hu hz hd
   simp only [depE] at hd
   obtain ⟨ho, hl, hr⟩ := hu
   have h1 := ihl (z + 1) hl (by omega) (by omega)
   have h2 := ihr (z + 1) hr (by omega) (by omega)
   have e40 : oaK z (5, [40]) = z + 1 := rfl
   have e41 : oaK (z + 1) (5, [41]) = z := by show max (z + 1 - 1) 0 = z; omega
   constructor
   ·simp only [toksE, dkK, dk_app, e40, h1.1, h1.2, op_oa ho, h2.1, h2.2, e41]
    simp
    omega
   ·simp only [toksE, aftK, List.foldl_cons, List.foldl_append, List.foldl_nil, e40]
    have a1 : List.foldl oaK (z + 1) (toksE l) = z + 1 := h1.2
    have a2 : List.foldl oaK (z + 1) (toksE r) = z + 1 := h2.2
    rw [a1, op_oa ho, a2, e41]
theorem row_dk : ∀ (r : Rw) (z : Int), okRw r → 0 ≤ z → (∀ x ∈ r, z + depE x.2 ≤ 40) → z ≤ 40 → dkK z (toksR r) = true ∧ aftK z (toksR r) = z := by
 intro r
 induction r with
 | nil => intro z _ _ _ _; exact ⟨rfl, rfl⟩
 | cons x r ih =>
   intro z hr hz hd h40
   obtain ⟨o, v⟩ := x
   have hv := hr (o, v) (List.mem_cons_self ..)
   have h1 := unit_dk v z hv.2 hz (hd (o, v) (List.mem_cons_self ..))
   have h2 := ih z (fun x hx => hr x (List.mem_cons_of_mem _ hx)) hz (fun x hx => hd x (List.mem_cons_of_mem _ hx)) h40
   constructor
   ·simp only [toksR, dkK, dk_app, op_oa hv.1, h1.1, h1.2, h2.1]
    simp
    omega
   ·simp only [toksR, aftK, List.foldl_cons, List.foldl_append, op_oa hv.1]
    have a1 : List.foldl oaK z (toksE v) = z := h1.2
    rw [a1]
    exact h2.2
theorem endT_brace {ts : List Tok} (hg : (ts.map kt).getLast? = some (5, [125])) (n : Int) : endT ts n = ts ++ [⟨5, [59], 1, n⟩] := by
 rw [endD_eq]
 rw [List.getLast?_map] at hg
 cases hq : ts.getLast? with
 | none => rw [hq] at hg; simp at hg
 | some t =>
   rw [hq] at hg
   simp only [Option.map_some, Option.some.injEq, kt, Prod.mk.injEq] at hg
   unfold endD
   simp only
   rw [hg.1, hg.2, if_pos (by decide)]
theorem lex_src (u : Ex) (r : Rw) (hu : okU u) (hr : okRw r) (hd : depE u ≤ 38) (hdr : ∀ x ∈ r, depE x.2 ≤ 38) (hl : (srcB u r).length ≤ 8192) :
 (lexR (srcB u r)).2.1 = 0 ∧ At (lexR (srcB u r)).1 0 (headB ++ (toksE u ++ (toksR r ++ [(5, [125])])) ++ [(5, [59]), (6, [])]) ∧ (lexR (srcB u r)).1.length = (headB ++ (toksE u ++ (toksR r ++ [(5, [125])]))).length + 2 := by
 obtain ⟨ts, e1, e2⟩ := (sc_src u r hu hr).scans ((srcB u r).length + 1) 0 none (by omega)
 generalize srcB u r = S at e1 hl ⊢
 have hlast : endT ts S.length = ts ++ [⟨5, [59], 1, (S.length : Int)⟩] := endT_brace (by rw [e2, ← List.append_assoc, ← List.append_assoc]; exact List.getLast?_concat) _
 have hall : allP ts S.length = ts ++ [⟨5, [59], 1, (S.length : Int)⟩, ⟨6, [], 0, (S.length : Int)⟩] := by
  unfold allP
  rw [hlast]
  simp
 have hmap : (allP ts S.length).map kt = headB ++ (toksE u ++ (toksR r ++ [(5, [125])])) ++ [(5, [59]), (6, [])] := by
  rw [hall, List.map_append, e2]
  simp only [List.map_cons, List.map_nil, kt]
 have hdeep : deepF 0 (allP ts S.length) = none := by
  refine deep_dk _ _ ?_
  rw [hmap]
  have a1 := unit_dk u 1 hu (by omega) (by omega)
  have a2 := row_dk r 1 hr (by omega) (fun x hx => by have := hdr x hx; omega) (by omega)
  rw [dk_app, dk_app, dk_app, dk_app]
  have a0 : dkK 0 headB = true := by decide
  have b0 : aftK 0 headB = 1 := by decide
  rw [a0, b0, a1.1, a1.2, a2.1, a2.2]
  have b1 : aftK 0 (headB ++ (toksE u ++ (toksR r ++ [(5, [125])]))) = 0 := by
   unfold aftK
   rw [List.foldl_append, List.foldl_append, List.foldl_append]
   have c0 : List.foldl oaK 0 headB = 1 := b0
   have c1 : List.foldl oaK 1 (toksE u) = 1 := a1.2
   have c2 : List.foldl oaK 1 (toksR r) = 1 := a2.2
   rw [c0, c1, c2]
   rfl
  rw [b1]
  simp [dkK, oaK, aftK, opens, closes]
 have hlex : lexR S = (allP ts S.length, 0, 0) := by
  rw [lex_D]
  unfold lexD
  rw [if_neg (by omega), e1]
  simp only [hdeep]
 rw [hlex]
 refine ⟨rfl, ?_, ?_⟩
 ·intro i hi
  have hlen : i < (allP ts S.length).length := by
   have := congrArg List.length hmap
   rw [List.length_map] at this
   omega
  have hg : ((allP ts S.length).map kt)[i]? = some ((headB ++ (toksE u ++ (toksR r ++ [(5, [125])])) ++ [(5, [59]), (6, [])])[i]) := by
   rw [hmap, List.getElem?_eq_getElem hi]
  rw [List.getElem?_map, List.getElem?_eq_getElem hlen] at hg
  simp only [Option.map_some, Option.some.injEq, kt] at hg
  rw [← hg, Nat.zero_add]
  simp [tok, List.getD, List.getElem?_eq_getElem hlen]
 ·have := congrArg List.length hmap
  rw [List.length_map, List.length_append] at this
  simpa using this
end Go.Proofs.YtgckmkiiheaeaaaGreatDoor.Px
set_option linter.unusedVariables false
set_option linter.unusedSimpArgs false
namespace Go.Proofs.YtgckmkiiheaeaaaGreatDoor.Px
open Go.Proofs.YtgckmkiiheaeaaaGreatDoor.Lx
def declB (t : Tree) : Tree := .mk 4 [102] 0 0 [.mk 6 [] 0 0 [], .mk 8 [] 0 0 [], .mk 16 [] 0 0 [.mk 19 [61] 0 0 [.mk 40 [120] 0 0 [], t]]]
theorem bind1_ok {t : Tree} {s : Int} {k : Nat} {f : Tree → Int → Nat → R} : (R.ok [t] s k).bind1 f = f t s k := rfl
theorem bind_ok {l : List Tree} {s : Int} {k : Nat} {f : List Tree → Int → Nat → R} : (R.ok l s k).bind f = f l s k := rfl
theorem want5 {ts : List Tok} {k : Nat} {o : List UInt8} {f : Tok → Nat → R} (h : (tok ts k).kind = 5 ∧ (tok ts k).text = o) (ho : o ≠ []) : want ts k o f = f (tok ts k) (k + 1) := by
 unfold want
 rw [if_pos]
 rw [isS5 h]
 cases o with
 | nil => exact absurd rfl ho
 | cons c o => simp
theorem file_gets {ts : List Tok} {k : Nat} {t : Tree} (hh : At ts 0 headB) (hx : Gets ts .expr false 7 (.ok [t] 0 k)) (ht : At ts k [(5, [125]), (5, [59]), (6, [])]) : ∃ d, er d = declB (er t) ∧ Gets ts (.fileMore []) false 0 (.ok [nd 1 [] 0 [d]] 0 (k + 2)) := by
 obtain ⟨a0, hh⟩ := hh.cons
 obtain ⟨a1, hh⟩ := hh.cons
 obtain ⟨a2, hh⟩ := hh.cons
 obtain ⟨a3, hh⟩ := hh.cons
 obtain ⟨a4, hh⟩ := hh.cons
 obtain ⟨a5, hh⟩ := hh.cons
 obtain ⟨a6, hh⟩ := hh.cons
 obtain ⟨z0, ht⟩ := ht.cons
 obtain ⟨z1, ht⟩ := ht.cons
 obtain ⟨z2, ht⟩ := ht.cons
 simp only [Nat.zero_add, Nat.reduceAdd] at a0 a1 a2 a3 a4 a5 a6 z0 z1 z2
 have e6 : Ends ts 6 := by refine ⟨?_, ?_, ?_⟩ <;> rw [isS5 a6] <;> rfl
 have g1 : Gets ts .shaped false 5 (.ok [nd 40 (tok ts 5).text (tok ts 5).pos []] 3 6) := by
  obtain ⟨N, h⟩ := g_prim (g_name (h := false) a5.1) e6
  exact gets_of N fun n hn => by
   show fShaped ts (run ts n) false 5 = _
   unfold fShaped
   rw [if_neg (by rw [lead_name a5.1]; simp)]
   exact h n hn
 have g2 : Gets ts (.acting (nd 40 (tok ts 5).text (tok ts 5).pos []) 3) false 6 (.ok [nd 19 (tok ts 6).text (tok ts 6).pos [nd 40 (tok ts 5).text (tok ts 5).pos [], t]] 1 k) := by
  obtain ⟨N, h⟩ := hx
  refine gets_of N fun n hn => ?_
  show fActing ts (run ts n) _ 3 false 6 = _
  unfold fActing
  rw [if_neg (by rw [isS5 a6]; decide), if_pos (by rw [isS5 a6]; decide), h n hn]
  rfl
 have g3 : Gets ts .simple false 5 (.ok [nd 19 (tok ts 6).text (tok ts 6).pos [nd 40 (tok ts 5).text (tok ts 5).pos [], t]] 0 k) := by
  obtain ⟨N, h⟩ := g1
  obtain ⟨M, h'⟩ := g2
  refine gets_of (N + M) fun n hn => ?_
  show fSimple ts (run ts n) false 5 = _
  unfold fSimple
  rw [if_neg (by rw [lead_name a5.1]; simp), h n (by omega), bind1_ok, h' n (by omega), bind_ok, if_pos rfl]
 have s5 : sign ts 5 = [] := by unfold sign; rw [if_neg (by omega)]
 have g4 : Gets ts .stmt false 5 (.ok [nd 19 (tok ts 6).text (tok ts 6).pos [nd 40 (tok ts 5).text (tok ts 5).pos [], t]] 0 k) := by
  obtain ⟨N, h⟩ := g3
  refine gets_of N fun n hn => ?_
  show fStmt ts (run ts n) false 5 = _
  unfold fStmt
  have hl : labels ts 5 = false := by unfold labels; rw [a6.2]; simp
  rw [s5, hl]
  simpa using h n hn
 have b5 : behind ts 5 = false := by unfold behind; exact lead_name a5.1 _
 have g5 : Gets ts (.stmts []) false 5 (.ok [nd 19 (tok ts 6).text (tok ts 6).pos [nd 40 (tok ts 5).text (tok ts 5).pos [], t]] 0 k) := by
  obtain ⟨N, h⟩ := g4
  refine gets_of N fun n hn => ?_
  show fStmts ts (run ts n) [] false 5 = _
  unfold fStmts
  rw [if_neg (by rw [b5]; simp), h n hn, bind1_ok, if_neg (by rw [isS5 z0]; decide)]
  rfl
 have g6 : Gets ts .block false 4 (.ok [nd 16 [] (tok ts 4).pos [nd 19 (tok ts 6).text (tok ts 6).pos [nd 40 (tok ts 5).text (tok ts 5).pos [], t]]] 0 (k + 1)) := by
  obtain ⟨N, h⟩ := g5
  refine gets_of N fun n hn => ?_
  show fBlock ts (run ts n) false 4 = _
  unfold fBlock
  rw [want5 a4 (by simp), h n hn, bind_ok, want5 z0 (by simp)]
 have g7 : Gets ts (.listed .named) false 3 (.ok [] 0 4) := gets_of 0 fun n _ => by
  show fListed ts (run ts n) .named false 3 = _
  unfold fListed
  rw [if_pos (by rw [isS5 a3]; decide)]
 have g8 : Gets ts .result false 4 (.ok [none8] 0 4) := gets_of 0 fun n _ => by
  show fResult ts (run ts n) false 4 = _
  unfold fResult
  rw [if_neg (by rw [isS5 a4]; decide)]
 have g9 : Gets ts .function false 2 (.ok [nd 6 [] (tok ts 2).pos [], none8, nd 16 [] (tok ts 4).pos [nd 19 (tok ts 6).text (tok ts 6).pos [nd 40 (tok ts 5).text (tok ts 5).pos [], t]]] 0 (k + 1)) := by
  obtain ⟨N, h⟩ := g6
  obtain ⟨M, h'⟩ := g7
  obtain ⟨L, h''⟩ := g8
  refine gets_of (N + M + L) fun n hn => ?_
  show fFunction ts (run ts n) false 2 = _
  unfold fFunction
  rw [want5 a2 (by simp), h' n (by omega), bind_ok, h'' n (by omega), bind1_ok, h n (by omega), bind1_ok]
 have s0 : sign ts 0 = [102, 117, 110, 99] := by unfold sign; rw [if_pos (.inl a0.1), a0.2]
 have ga : Gets ts .decl false 0 (.ok [nd 4 (tok ts 1).text (tok ts 0).pos [nd 6 [] (tok ts 2).pos [], none8, nd 16 [] (tok ts 4).pos [nd 19 (tok ts 6).text (tok ts 6).pos [nd 40 (tok ts 5).text (tok ts 5).pos [], t]]]] 0 (k + 1)) := by
  obtain ⟨N, h⟩ := g9
  refine gets_of N fun n hn => ?_
  show fDecl ts (run ts n) false 0 = _
  unfold fDecl
  rw [s0, if_neg (by decide), if_neg (by decide), if_pos rfl]
  unfold wantName
  rw [if_pos a1.1]
  show (run ts n .function false 2).bind _ = _
  rw [h n hn]
  rfl
 refine ⟨nd 4 (tok ts 1).text (tok ts 0).pos [nd 6 [] (tok ts 2).pos [], none8, nd 16 [] (tok ts 4).pos [nd 19 (tok ts 6).text (tok ts 6).pos [nd 40 (tok ts 5).text (tok ts 5).pos [], t]]], ?_, ?_⟩
 rotate_left
 ·obtain ⟨N, h⟩ := ga
  refine gets_of (N + 1) fun n hn => ?_
  obtain ⟨m, rfl⟩ : ∃ m, n = m + 1 := ⟨n - 1, by omega⟩
  show fFileMore ts (run ts (m + 1)) [] false 0 = _
  unfold fFileMore
  rw [if_neg (by omega), h (m + 1) (by omega), bind1_ok, want5 z1 (by simp)]
  show fFileMore ts (run ts m) _ false (k + 1 + 1) = _
  unfold fFileMore
  rw [if_pos z2.1]
  rfl
 ·rw [a1.2, a6.2, a5.2]
  simp [nd, none8, er_mk, declB]
theorem src_tree (u : Ex) (r : Rw) (hu : okU u) (hr : okRw r) (hd : depE u ≤ 38) (hdr : ∀ x ∈ r, depE x.2 ≤ 38) (hl : (srcB u r).length ≤ 8192) :
 (lexR (srcB u r)).2.1 = 0 ∧ ∃ d k, er d = declB (trE (bind5 u r).1) ∧ runF (lexR (srcB u r)).1 = .ok [nd 1 [] 0 [d]] 0 k := by
 obtain ⟨h0, ha, _⟩ := lex_src u r hu hr hd hdr hl
 refine ⟨h0, ?_⟩
 generalize (lexR (srcB u r)).1 = ts at ha
 have e : headB ++ (toksE u ++ (toksR r ++ [(5, [125])])) ++ [(5, [59]), (6, [])] = headB ++ ((toksE u ++ toksR r) ++ [(5, [125]), (5, [59]), (6, [])]) := by simp
 rw [e] at ha
 obtain ⟨hh, ha⟩ := ha.app
 obtain ⟨hx, ht⟩ := ha.app
 simp only [Nat.zero_add, show headB.length = 7 from rfl] at hx ht
 have z0 := ht.cons.1
 simp only at z0
 obtain ⟨t, et, gt⟩ := expr_gets false u r 7 hu.ok (fun x hx => ⟨ops_is _ (hr x hx).1, (hr x hx).2.ok⟩) hx (by refine ⟨?_, ?_, ?_⟩ <;> rw [isS5 z0] <;> rfl) (by rw [sign5 z0]; decide)
 obtain ⟨d, ed, N, gd⟩ := file_gets hh gt ht
 refine ⟨d, 7 + (toksE u ++ toksR r).length + 2, by rw [ed, et], ?_⟩
 have hlive := file_live ts false
 have hm := run_mono ts (64 * ts.length + 64 + 1) N (.fileMore []) false 0 hlive
 rw [gd _ (by omega)] at hm
 exact hm.symm
end Go.Proofs.YtgckmkiiheaeaaaGreatDoor.Px
namespace Go.Proofs.YtgckmkiiheaeaaaGreatDoor
open Go.Proofs.YtgckmkiiheaeaaaGreatDoor.Lx Go.Proofs.YtgckmkiiheaeaaaGreatDoor.Px
def opK (k : Nat) : List UInt8 := ops13.getD k []
theorem opK_len (k : Nat) : (opK k).length ≤ 2 := by
 unfold opK
 rcases Nat.lt_or_ge k 13 with h | h
 ·match k, h with
  | 0, _ | 1, _ | 2, _ | 3, _ | 4, _ | 5, _ | 6, _ | 7, _ | 8, _ | 9, _ | 10, _ | 11, _ | 12, _ => decide
 ·rw [List.getD_eq_getElem?_getD, List.getElem?_eq_none (by simpa [ops13] using h)]
  simp
theorem opK_mem {k : Nat} (h : k < 13) : opK k ∈ ops13 := by
 match k, h with
 | 0, _ | 1, _ | 2, _ | 3, _ | 4, _ | 5, _ | 6, _ | 7, _ | 8, _ | 9, _ | 10, _ | 11, _ | 12, _ => simp [opK, ops13]
abbrev Rk := List (Nat × Ex)
def rwK (r : Rk) : Rw := r.map fun x => (opK x.1, x.2)
theorem rwK_cons (k : Nat) (v : Ex) (r : Rk) : rwK ((k, v) :: r) = (opK k, v) :: rwK r := rfl
def glue : List (Ex × Nat) → Ex × Rw → Ex × Rw
 | [], p => p
 | (a, k) :: A, p => (a, (opK k, (glue A p).1) :: (glue A p).2)
theorem glue_snoc : ∀ (A : List (Ex × Nat)) (a : Ex) (k : Nat) (p : Ex × Rw), glue (A ++ [(a, k)]) p = glue A (a, (opK k, p.1) :: p.2)
 | [], a, k, p => rfl
 | (b, m) :: A, a, k, p => by rw [List.cons_append, glue, glue, glue_snoc A a k p]
def toR : List (Ex × Nat) → Ex → Ex × Rk
 | [], u => (u, [])
 | (a, k) :: A, u => (a, (k, (toR A u).1) :: (toR A u).2)
theorem toR_us : ∀ (A : List (Ex × Nat)) (u : Ex), A.map (·.1) ++ [u] = (toR A u).1 :: (toR A u).2.map (·.2)
 | [], u => rfl
 | (a, k) :: A, u => by rw [List.map_cons, List.cons_append, toR_us A u]; rfl
theorem toR_ks : ∀ (A : List (Ex × Nat)) (u : Ex), A.map (·.2) = (toR A u).2.map (·.1)
 | [], u => rfl
 | (a, k) :: A, u => by rw [List.map_cons, toR_ks A u]; rfl
theorem toR_len : ∀ (A : List (Ex × Nat)) (u : Ex), (toR A u).2.length = A.length
 | [], u => rfl
 | (a, k) :: A, u => by rw [toR, List.length_cons, toR_len A u, List.length_cons]
theorem toR_glue : ∀ (A : List (Ex × Nat)) (u : Ex), glue A (u, []) = ((toR A u).1, rwK (toR A u).2)
 | [], u => rfl
 | (a, k) :: A, u => by rw [glue, toR_glue A u]; rfl
def opsE : Ex → Nat
 | .leaf _ => 0
 | .par _ l r => opsE l + opsE r + 1
theorem dep_ops : ∀ u : Ex, depE u ≤ opsE u
 | .leaf _ => Nat.le_refl _
 | .par o l r => by
   have h1 := dep_ops l
   have h2 := dep_ops r
   rw [depE, opsE]
   omega
theorem ops_two {o : List UInt8} (h : o ∈ ops13) : o.length ≤ 2 := by
 simp only [ops13, List.mem_cons, List.not_mem_nil, or_false] at h
 rcases h with rfl | rfl | rfl | rfl | rfl | rfl | rfl | rfl | rfl | rfl | rfl | rfl | rfl <;> decide
theorem len_ops : ∀ u : Ex, okU u → (strE u).length ≤ 2 + 6 * opsE u
 | .leaf x, h => by
   rcases h with rfl | ⟨i, rfl⟩ <;> simp [strE, opsE]
 | .par o l r, h => by
   have h1 := len_ops l h.2.1
   have h2 := len_ops r h.2.2
   have h3 := ops_two h.1
   simp only [strE, opsE, List.length_append, List.length_cons, List.length_nil]
   omega
def wtA : List (Ex × Nat) → Nat
 | [] => 0
 | (a, _) :: A => opsE a + 1 + wtA A
def wtR : Rk → Nat
 | [] => 0
 | (_, v) :: r => opsE v + 1 + wtR r
theorem wtA_snoc : ∀ (A : List (Ex × Nat)) (a : Ex) (k : Nat), wtA (A ++ [(a, k)]) = wtA A + opsE a + 1
 | [], a, k => by simp [wtA]
 | (b, m) :: A, a, k => by rw [List.cons_append, wtA, wtA, wtA_snoc A a k]; omega
theorem toR_wt : ∀ (A : List (Ex × Nat)) (u : Ex), opsE (toR A u).1 + wtR (toR A u).2 = wtA A + opsE u
 | [], u => by simp [toR, wtA, wtR]
 | (a, k) :: A, u => by
   have := toR_wt A u
   simp only [toR, wtA, wtR]
   omega
def OkA (A : List (Ex × Nat)) : Prop := ∀ x ∈ A, okU x.1 ∧ x.2 < 13
def OkK (r : Rk) : Prop := ∀ x ∈ r, x.1 < 13 ∧ okU x.2
theorem OkK.rw {r : Rk} (h : OkK r) : okRw (rwK r) := fun x hx => by
 obtain ⟨y, hy, rfl⟩ := List.mem_map.1 hx
 exact ⟨opK_mem (h y hy).1, (h y hy).2⟩
theorem toR_ok : ∀ (A : List (Ex × Nat)) (u : Ex), OkA A → okU u → okU (toR A u).1 ∧ OkK (toR A u).2
 | [], u, _, hu => ⟨hu, fun x hx => by simp [toR] at hx⟩
 | (a, k) :: A, u, h, hu => by
   have h1 := toR_ok A u (fun x hx => h x (List.mem_cons_of_mem _ hx)) hu
   have h2 := h (a, k) (List.mem_cons_self ..)
   refine ⟨h2.1, fun x hx => ?_⟩
   rcases List.mem_cons.1 hx with rfl | hx
   ·exact ⟨h2.2, h1.1⟩
   ·exact h1.2 x hx
def passes : Nat → Ex → Rw → Ex × Rw
 | 0, u, r => (u, r)
 | l + 1, u, r => passes l (pass ((l : Int) + 1) u r).1 (pass ((l : Int) + 1) u r).2
theorem passes5 (u : Ex) (r : Rw) : passes 5 u r = bind5 u r := rfl
structure Mid (l : Nat) (T : Ex × Rw) (A : List (Ex × Nat)) (u : Ex) (R : Rk) : Prop where
 eq : glue A (pass (l : Int) u (rwK R)) = T
 a : OkA A
 ou : okU u
 r : OkK R
 wt : wtA A + opsE u + wtR R ≤ 30
theorem Mid.skip {l : Nat} {T : Ex × Rw} {A : List (Ex × Nat)} {u v : Ex} {k : Nat} {R : Rk} (h : Mid l T A u ((k, v) :: R)) (hk : strength (opK k) ≠ (l : Int)) : Mid l T (A ++ [(u, k)]) v R := by
 refine ⟨?_, fun x hx => ?_, (h.r (k, v) (List.mem_cons_self ..)).2, fun x hx => h.r x (List.mem_cons_of_mem _ hx), ?_⟩
 ·rw [glue_snoc, ← h.eq, rwK_cons, pass, if_neg hk]
 ·rcases List.mem_append.1 hx with hx | hx
  ·exact h.a x hx
  ·rw [List.mem_singleton.1 hx]
   exact ⟨h.ou, (h.r (k, v) (List.mem_cons_self ..)).1⟩
 ·have := h.wt
  rw [wtA_snoc]
  rw [wtR] at this
  omega
theorem Mid.join {l : Nat} {T : Ex × Rw} {A : List (Ex × Nat)} {u v : Ex} {k : Nat} {R : Rk} (h : Mid l T A u ((k, v) :: R)) (hk : strength (opK k) = (l : Int)) : Mid l T A (.par (opK k) u v) R := by
 have hv := h.r (k, v) (List.mem_cons_self ..)
 refine ⟨?_, h.a, ⟨opK_mem hv.1, h.ou, hv.2⟩, fun x hx => h.r x (List.mem_cons_of_mem _ hx), ?_⟩
 ·rw [← h.eq, rwK_cons, pass, if_pos hk]
 ·have := h.wt
  simp only [opsE]
  rw [wtR] at this
  omega
structure Out (l : Nat) (T : Ex × Rw) (u : Ex) (R : Rk) : Prop where
 eq : passes l u (rwK R) = T
 ou : okU u
 r : OkK R
 wt : opsE u + wtR R ≤ 30
theorem Out.mid {l : Nat} {T : Ex × Rw} {u : Ex} {R : Rk} (h : Out l T u R) (n : Nat) : Mid n (pass (n : Int) u (rwK R)) [] u R :=
 ⟨rfl, fun x hx => by simp at hx, h.ou, h.r, by have := h.wt; simp only [wtA]; omega⟩
theorem Mid.out {l : Nat} {T : Ex × Rw} {u0 u : Ex} {R : Rk} {A : List (Ex × Nat)} (h : Out (l + 1) T u0 R) (m : Mid (l + 1) (pass ((l + 1 : Nat) : Int) u0 (rwK R)) A u []) : Out l T (toR A u).1 (toR A u).2 := by
 have h1 := m.eq
 rw [show rwK [] = [] from rfl, pass, toR_glue] at h1
 have h2 := h.eq
 rw [passes, show (l : Int) + 1 = ((l + 1 : Nat) : Int) by simp, ← h1] at h2
 have h3 := toR_ok A u m.a m.ou
 refine ⟨h2, h3.1, h3.2, ?_⟩
 have h4 := toR_wt A u
 have h5 := m.wt
 simp only [wtR] at h5
 omega
theorem wtR_len : ∀ r : Rk, r.length ≤ wtR r
 | [] => Nat.le_refl _
 | (k, v) :: r => by
   have := wtR_len r
   simp only [wtR, List.length_cons]
   omega
theorem wtA_len : ∀ r : List (Ex × Nat), r.length ≤ wtA r
 | [] => Nat.le_refl _
 | (v, k) :: r => by
   have := wtA_len r
   simp only [wtA, List.length_cons]
   omega
end Go.Proofs.YtgckmkiiheaeaaaGreatDoor
set_option linter.unusedVariables false
set_option linter.unusedSimpArgs false
set_option maxRecDepth 100000
namespace Go.Proofs.YtgckmkiiheaeaaaGreatDoor.Jj
open Go.RowKit Go.Proofs.YtgckmkiiheaeaaaGreatDoor Go.Proofs.YtgckmkiiheaeaaaGreatDoor.Lx Go.Proofs.YtgckmkiiheaeaaaGreatDoor.Px
def KidsAt (w : World) (kv : Value) (l : List Tree) : Prop := ∃ cs, w.ownsRow 0 24 7 kv l.length cs ∧ CellsS w l (fun b => b < w.heap.size) cs
theorem KidsAt.of {w : World} {lo hi : Nat} {kv : Value} {l : List Tree} (h : RowI w lo hi kv l) (hh : hi ≤ w.heap.size) : KidsAt w kv l := by
 obtain ⟨cs, h1, h2, h3⟩ := h
 exact ⟨cs, own_low (Nat.zero_le _) h1, cells_frame h3 _ (fun b hb => ⟨by omega, rfl⟩)⟩
theorem KidsAt.grown {w w' : World} {kv : Value} {l : List Tree} (h : KidsAt w kv l) (hg : w.grownBy w' none) : KidsAt w' kv l := by
 obtain ⟨cs, h1, h3⟩ := h
 have hz := hg.size
 exact ⟨cs, ownsRow_blk h1 (fun g hq => hg.block g (h1.lt g hq).2 (by simp)), cells_frame h3 _ (fun b hb => ⟨by omega, hg.block b hb (by simp)⟩)⟩
theorem cells_at {w : World} {S : Nat → Prop} : ∀ {l : List Tree} {cs : List Value} (h : CellsS w l S cs) (i : Nat) (kd : Int) (tx : List UInt8) (nm ps : Int) (ks : List Tree), l[i]? = some (.mk kd tx nm ps ks) →
 ∃ kv kc, w.ownsRow 0 24 7 kv ks.length kc ∧ (∀ g, kv.ownBlock = some g → S g) ∧ CellsS w ks (fun b => S b ∧ some b ≠ kv.ownBlock) kc ∧ ∀ j, j < 7 → cs[i * 7 + j]? = (nodeC kd tx nm ps kv)[j]? := by
 intro l cs h
 induction h with
 | nil S => intro i kd tx nm ps ks e; simp at e
 | @cons S kd0 nm0 ps0 tx0 kids0 l0 kv0 ks0 r0 h1 h2 h3 h4 _ ih4 =>
   intro i kd tx nm ps ks e
   cases i with
   | zero =>
     simp at e
     obtain ⟨rfl, rfl, rfl, rfl, rfl⟩ := e
     refine ⟨kv0, ks0, h1, h2, h3, fun j hj => ?_⟩
     rw [Nat.zero_mul, Nat.zero_add, List.getElem?_append_left (by simp [nodeC]; omega)]
   | succ i =>
     simp at e
     obtain ⟨kv, kc, g1, g2, g3, g4⟩ := ih4 i kd tx nm ps ks e
     refine ⟨kv, kc, g1, g2, g3, fun j hj => ?_⟩
     rw [List.getElem?_append_right (by simp [nodeC]; omega)]
     have : (i + 1) * 7 + j - (nodeC kd0 tx0 nm0 ps0 kv0).length = i * 7 + j := by simp [nodeC]; omega
     rw [this]
     exact g4 j hj
theorem KidsAt.kid {w : World} {kv : Value} {l : List Tree} (h : KidsAt w kv l) (i : Nat) (kd : Int) (tx : List UInt8) (nm ps : Int) (ks : List Tree) (e : l[i]? = some (.mk kd tx nm ps ks)) :
 ∃ g cap ao2 cp2, kv = .slice (some ⟨g, 0, none⟩) l.length cap ∧ l.length ≤ cap ∧ cap ≤ maxLen ∧ g < w.heap.size ∧ KidsAt w (.slice ao2 ks.length cp2) ks ∧ ∀ j, j < 7 → w.cell? ⟨g, i * 7 + j, none⟩ = (nodeC kd tx nm ps (.slice ao2 ks.length cp2))[j]? := by
 obtain ⟨cs, h1, h3⟩ := h
 have hi : i < l.length := by
  apply Decidable.byContradiction
  intro hn
  rw [List.getElem?_eq_none (by omega)] at e
  cases e
 obtain ⟨kv2, kc, g1, g2, g3, g4⟩ := cells_at h3 i kd tx nm ps ks e
 have hform : ∃ ao2 cp2, kv2 = .slice ao2 ks.length cp2 := by
  rcases g1.2 with hx | ⟨g2, cap2, cur2, e2, _⟩
  ·exact ⟨none, 0, by rw [hx.1, hx.2]⟩
  ·exact ⟨_, _, e2⟩
 obtain ⟨ao2, cp2, rfl⟩ := hform
 obtain ⟨hlen, hn | ⟨g, cap, cur, e1, hlo, hb, hle, hcap, hsz, htk⟩⟩ := h1
 ·exfalso; have := hn.2; omega
 refine ⟨g, cap, ao2, cp2, e1, hle, hcap, blk_lt hb, ⟨kc, g1, cells_frame g3 _ (fun b hb => ⟨hb.1, rfl⟩)⟩, fun j hj => ?_⟩
 rw [blk_cell hb, ← g4 j hj, ← htk, List.getElem?_take_of_lt (by omega)]
 simp
theorem KidsAt.few {w : World} {kv : Value} {l : List Tree} (h : KidsAt w kv l) : l.length ≤ maxLen := by
 obtain ⟨cs, h1, h3⟩ := h
 obtain ⟨hlen, hn | ⟨g, cap, cur, e1, hlo, hb, hle, hcap, hsz, htk⟩⟩ := h1
 ·have := hn.2; omega
 ·omega
theorem kid_size {kd : Int} {tx : List UInt8} {nm ps : Int} {kids : List Tree} {i : Nat} {t : Tree} {n : Nat} (h : SizeOf.sizeOf (Px.Tree.mk kd tx nm ps kids) ≤ n + 1) (e : kids[i]? = some t) : SizeOf.sizeOf t ≤ n := by
 have hm : t ∈ kids := List.mem_of_getElem? e
 have := List.sizeOf_lt_of_mem hm
 simp only [Px.Tree.mk.sizeOf_spec] at h
 omega
set_option maxHeartbeats 4000000 in
theorem same_w : ∀ (n : Nat) (kd : Int) (tx : List UInt8) (nm ps : Int) (kids : List Tree), SizeOf.sizeOf (Px.Tree.mk kd tx nm ps kids) ≤ n → ∀ (w : World) (ao ao' : Option Addr) (cp cp' : Nat), KidsAt w (.slice ao kids.length cp) kids → KidsAt w (.slice ao' kids.length cp') kids →
 Calls Tryz.prog 11 #[.agg #[.int .i64 kd, .string ⟨tx.toArray⟩, .int .i64 nm, .int .i64 ps, .string ⟨#[]⟩, .int .i64 0, .slice ao kids.length cp], .agg #[.int .i64 kd, .string ⟨tx.toArray⟩, .int .i64 nm, .int .i64 ps, .string ⟨#[]⟩, .int .i64 0, .slice ao' kids.length cp']] w fun e w' => e = .returned (.bool true) ∧ w.grownBy w' none := by
 intro n
 induction n with
 | zero => intro kd tx nm ps kids h; exfalso; simp at h
 | succ n ih =>
   intro kd tx nm ps kids hsz w ao ao' cp cp' K1 K2
   have hfew := K1.few
   unfold maxLen at hfew
   have HI := hide ih
   have HS := hide hsz
   have HK1 := hide K1
   have HK2 := hide K2
   clear ih hsz K1 K2
   go_enter Tryz.func11, Tryz.ntmps11
   go_wp2
   go_loopg [5] (kids.length + 1) (fun g v5 wr => ∃ j : Nat, g = kids.length + 1 - j ∧ j ≤ kids.length ∧ v5 = .int .i64 j ∧ w.grownBy wr none ∧ BL wr w.heap.size (.cells #[.int .i64 kd, .string ⟨tx.toArray⟩, .int .i64 nm, .int .i64 ps, .string ⟨#[]⟩, .int .i64 0, .slice ao kids.length cp] 24) ∧ BL wr (w.heap.size + 1) (.cells #[.int .i64 kd, .string ⟨tx.toArray⟩, .int .i64 nm, .int .i64 ps, .string ⟨#[]⟩, .int .i64 0, .slice ao' kids.length cp'] 24))
   case atStart => exact ⟨0, by omega, by omega, rfl, by (repeat (first | with_reducible assumption | with_reducible exact grown_refl _ _ | with_reducible refine grown_drew ?_ | with_reducible refine grown_alloc ?_ _)), by (repeat (first | with_reducible assumption | with_reducible refine BL.drew ?_ | (with_reducible refine BL.new ?_; (first | omega | (simp <;> omega))) | with_reducible refine BL.alloc ?_ _)), by (repeat (first | with_reducible assumption | with_reducible refine BL.drew ?_ | (with_reducible refine BL.new ?_; (first | omega | (simp <;> omega))) | with_reducible refine BL.alloc ?_ _))⟩
   case round =>
    obtain ⟨j, rfl, hj, rfl, hgr, b0, b1⟩ := hrel
    have zc0 := b0.cell
    have zc1 := b1.cell
    have hl1 := b1.lt
    by_cases hlt : j < kids.length
    ·have hltz : (j : Int) < kids.length := by omega
     obtain ⟨kd2, tx2, nm2, ps2, ks2, ek⟩ : ∃ a b c d e, kids[j]? = some (Px.Tree.mk a b c d e) := by
      rw [List.getElem?_eq_getElem hlt]; cases kids[j] with | mk a b c d e => exact ⟨a, b, c, d, e, rfl⟩
     obtain ⟨g, cap, ao2, cp2, e1, q1, q2, q3, Q, qc⟩ := ((unhide HK1).grown hgr).kid j _ _ _ _ _ ek
     obtain ⟨g', cap', ao2', cp2', e1', q1', q2', q3', Q', qc'⟩ := ((unhide HK2).grown hgr).kid j _ _ _ _ _ ek
     have a0 := qc 0 (by omega)
     have a1 := qc 1 (by omega)
     have a2 := qc 2 (by omega)
     have a3 := qc 3 (by omega)
     have a4 := qc 4 (by omega)
     have a5 := qc 5 (by omega)
     have a6 := qc 6 (by omega)
     have c0 := qc' 0 (by omega)
     have c1 := qc' 1 (by omega)
     have c2 := qc' 2 (by omega)
     have c3 := qc' 3 (by omega)
     have c4 := qc' 4 (by omega)
     have c5 := qc' 5 (by omega)
     have c6 := qc' 6 (by omega)
     simp only [nodeC, List.getElem?_cons_zero, List.getElem?_cons_succ, Nat.add_zero] at a0 a1 a2 a3 a4 a5 a6 c0 c1 c2 c3 c4 c5 c6
     cases e1
     cases e1'
     clear qc qc'
     have Q0 := hide Q
     have Q1 := hide Q'
     have EK := hide ek
     clear Q Q' ek
     have hgr0 := grown_refl wr none
     have x0 : wr.cell? ⟨w.heap.size, 6, none⟩ = some (.slice (some ⟨g, 0, none⟩) kids.length cp) := zc0 6
     have x1 : wr.cell? ⟨w.heap.size + 1, 6, none⟩ = some (.slice (some ⟨g', 0, none⟩) kids.length cp') := zc1 6
     have hl0 := b0.lt
     go_wp2
     unfold maxLen at q2 q2'
     go_region_law (go_simp; go_at_call 11; refine (unhide HI kd2 tx2 nm2 ps2 ks2 (kid_size (unhide HS) (unhide EK)) _ ao2 ao2' cp2 cp2' ((unhide Q0).grown (by with_reducible repeat (first | assumption | exact grown_refl _ _ | refine grown_drew ?_))) ((unhide Q1).grown (by with_reducible repeat (first | assumption | exact grown_refl _ _ | refine grown_drew ?_)))).mono ?_; rintro e w2 ⟨rfl, hg2⟩; have hw2 := grown_trans (b := _) (show wr.grownBy _ none by with_reducible repeat (first | assumption | exact grown_refl _ _ | refine grown_drew ?_)) hg2)
     all_goals
      have G2 := grown_trans hgr hw2
      have d0 := BL.quiet b0 hw2
      have d1 := BL.quiet b1 hw2
      go_wp2
      go_roundg (kids.length + 1 - (j + 1))
      case measure => omega
      case rel => exact ⟨j + 1, rfl, by omega, by go_num, by (repeat (first | with_reducible assumption | with_reducible exact grown_refl _ _ | with_reducible refine grown_drew ?_ | with_reducible refine grown_alloc ?_ _)), by (repeat (first | with_reducible assumption | with_reducible refine BL.drew ?_)), by (repeat (first | with_reducible assumption | with_reducible refine BL.drew ?_))⟩
    ·have hltz : ¬ (j : Int) < kids.length := by omega
     go_wp2
     exact bodyPost_ret (v := .bool true) (by simp [results, Tryz.results11, go_sem]) rfl ⟨rfl, by (repeat (first | with_reducible assumption | with_reducible exact grown_refl _ _ | with_reducible refine grown_drew ?_ | with_reducible refine grown_alloc ?_ _))⟩
open Go.RowKit Go.Proofs.YtgckmkiiheaeaaaGreatDoor.Lx Go.Proofs.YtgckmkiiheaeaaaGreatDoor.Px
theorem Ag.quiet {lo hi : Nat} {a b c : World} (h : Ag lo hi a b) (k : b.grownBy c none) (hz : hi ≤ b.heap.size) : Ag lo hi a c := fun x h1 h2 => (k.block x (by omega) (by simp)).trans (h x h1 h2)
def small : Px.Tree → Bool
 | .mk _ _ _ _ l => decide (l.length ≤ 1000000) && (l.map small).all id
theorem small_mk {a : Int} {b : List UInt8} {c d : Int} {l : List Tree} (h : small (.mk a b c d l) = true) : l.length ≤ 1000000 ∧ ∀ t ∈ l, small t = true := by
 rw [small] at h
 simp only [Bool.and_eq_true, decide_eq_true_eq, List.all_eq_true] at h
 exact ⟨h.1, fun t ht => h.2 _ (List.mem_map.2 ⟨t, ht, rfl⟩)⟩
theorem take_one {l : List Tree} {j : Nat} {t : Tree} (h : l[j]? = some t) : (l.take (j + 1)).map er = (l.take j).map er ++ [er t] := by
 have hj : j < l.length := by
  apply Decidable.byContradiction
  intro hn
  rw [List.getElem?_eq_none (by omega)] at h
  cases h
 rw [List.getElem?_eq_getElem hj] at h
 cases h
 rw [List.take_succ_eq_append_getElem hj, List.map_append]; rfl
set_option maxHeartbeats 4000000 in
theorem bare_w : ∀ (n : Nat) (kd : Int) (tx : List UInt8) (nm ps : Int) (kids : List Tree), SizeOf.sizeOf (Px.Tree.mk kd tx nm ps kids) ≤ n → small (.mk kd tx nm ps kids) = true → ∀ (w : World) (ao : Option Addr) (cp : Nat), KidsAt w (.slice ao kids.length cp) kids →
 Calls Tryz.prog 12 #[.agg #[.int .i64 kd, .string ⟨tx.toArray⟩, .int .i64 nm, .int .i64 ps, .string ⟨#[]⟩, .int .i64 0, .slice ao kids.length cp]] w fun e w' => w.grownBy w' none ∧ ∃ ao2 cp2, e = .returned (.agg #[.int .i64 kd, .string ⟨tx.toArray⟩, .int .i64 nm, .int .i64 0, .string ⟨#[]⟩, .int .i64 0, .slice ao2 (kids.map er).length cp2]) ∧ RowI w' w.heap.size w'.heap.size (.slice ao2 (kids.map er).length cp2) (kids.map er) := by
 intro n
 induction n with
 | zero => intro kd tx nm ps kids h; exfalso; simp at h
 | succ n ih =>
   intro kd tx nm ps kids hsz hsm w ao cp K1
   have hfew := (small_mk hsm).1
   have HI := hide ih
   have HS := hide hsz
   have HM := hide (small_mk hsm).2
   have HK1 := hide K1
   clear ih hsz K1 hsm
   go_enter Tryz.func12, Tryz.ntmps12
   go_wp2
   go_loopg [4] (kids.length + 1) (fun g v4 wr => ∃ (j : Nat) (acc : List Tree) (ao0 : Option Addr) (cp0 : Nat), g = kids.length + 1 - j ∧ j ≤ kids.length ∧ v4 = .int .i64 j ∧ acc = (kids.take j).map er ∧ acc.length = j ∧ w.grownBy wr none ∧ BL wr w.heap.size (.cells #[.int .i64 kd, .string ⟨tx.toArray⟩, .int .i64 nm, .int .i64 ps, .string ⟨#[]⟩, .int .i64 0, .slice ao kids.length cp] 24) ∧ BL wr (w.heap.size + 1) nd0 ∧ BL wr (w.heap.size + 2) (.cells #[.int .i64 kd, .string ⟨tx.toArray⟩, .int .i64 nm, .int .i64 0, .string ⟨#[]⟩, .int .i64 0, .slice ao0 acc.length cp0] 24) ∧ RowI wr (w.heap.size + 3) wr.heap.size (.slice ao0 acc.length cp0) acc)
   case atStart => exact ⟨0, [], none, 0, by omega, by omega, rfl, by simp, rfl, by (repeat (first | with_reducible assumption | with_reducible exact grown_refl _ _ | with_reducible refine grown_drew ?_ | with_reducible refine grown_alloc ?_ _ | (with_reducible refine grown_set ?_ _ (by first | (left; omega) | (left; simp <;> omega))))), by (repeat (first | with_reducible assumption | with_reducible refine BL.drew ?_ | (with_reducible refine BL.new ?_; (first | omega | (simp <;> omega))) | with_reducible refine BL.alloc ?_ _ | (with_reducible refine BL.set ?_ _ ?_; rotate_left; (first | omega | (simp <;> omega))))), by (repeat (first | with_reducible assumption | with_reducible refine BL.drew ?_ | (with_reducible refine BL.new ?_; (first | omega | (simp <;> omega))) | with_reducible refine BL.alloc ?_ _ | (with_reducible refine BL.set ?_ _ ?_; rotate_left; (first | omega | (simp <;> omega))))), (by simp only [List.length_nil]; (repeat (first | with_reducible assumption | with_reducible refine BL.drew ?_ | (with_reducible refine BL.new ?_; (first | omega | (simp <;> omega))) | with_reducible refine BL.alloc ?_ _ | (with_reducible refine BL.set ?_ _ ?_; rotate_left; (first | omega | (simp <;> omega)))))), RowI.nil _ _ _⟩
   case round =>
    obtain ⟨j, acc, ao0, cp0, rfl, hj, rfl, hacc, hal, hgr, b0, b1, b2, row0⟩ := hrel
    have HAL := hide hal
    have hal2 : acc.length ≤ kids.length := by omega
    have HACC := hide hacc
    clear hal hacc
    have zc0 := b0.cell
    have zc2 := b2.cell
    have zc1 := b1.cell
    have fz1 := b1.frozen
    have fz2 := b2.frozen
    have hl2 := b2.lt
    by_cases hlt : j < kids.length
    ·have hltz : (j : Int) < kids.length := by omega
     obtain ⟨kd2, tx2, nm2, ps2, ks2, ek⟩ : ∃ a b c d e, kids[j]? = some (Px.Tree.mk a b c d e) := by
      rw [List.getElem?_eq_getElem hlt]; cases kids[j] with | mk a b c d e => exact ⟨a, b, c, d, e, rfl⟩
     obtain ⟨g, cap, ao2, cp2, e1, q1, q2, q3, Q, qc⟩ := ((unhide HK1).grown hgr).kid j _ _ _ _ _ ek
     have a0 := qc 0 (by omega)
     have a1 := qc 1 (by omega)
     have a2 := qc 2 (by omega)
     have a3 := qc 3 (by omega)
     have a4 := qc 4 (by omega)
     have a5 := qc 5 (by omega)
     have a6 := qc 6 (by omega)
     simp only [nodeC, List.getElem?_cons_zero, List.getElem?_cons_succ, Nat.add_zero] at a0 a1 a2 a3 a4 a5 a6
     cases e1
     clear qc
     have Q0 := hide Q
     have EK := hide ek
     have hsm2 := unhide HM _ (List.mem_of_getElem? ek)
     obtain ⟨kb, hkb⟩ : ∃ kb, kb = ks2.map er := ⟨_, rfl⟩
     have HC : Hid (∀ X, KidsAt X (.slice ao2 ks2.length cp2) ks2 → Calls Tryz.prog 12 #[.agg #[.int .i64 kd2, .string ⟨tx2.toArray⟩, .int .i64 nm2, .int .i64 ps2, .string ⟨#[]⟩, .int .i64 0, .slice ao2 ks2.length cp2]] X fun e w' => X.grownBy w' none ∧ ∃ ao3 cp3, e = .returned (.agg #[.int .i64 kd2, .string ⟨tx2.toArray⟩, .int .i64 nm2, .int .i64 0, .string ⟨#[]⟩, .int .i64 0, .slice ao3 kb.length cp3]) ∧ RowI w' X.heap.size w'.heap.size (.slice ao3 kb.length cp3) kb) := by
      subst hkb
      exact fun X K => unhide HI kd2 tx2 nm2 ps2 ks2 (kid_size (unhide HS) ek) hsm2 X ao2 cp2 K
     have HKB := hide hkb
     clear Q ek hsm2 hkb
     unfold maxLen at q2
     go_wp2
     go_region_law (first | (refine step_app rfl (.tmp 20) (.tmp 27) rfl (lo := w.heap.size + 3) (hi := wr.heap.size) (ao := ao0) (cp := cp0) (l := acc) (t := .mk kd2 tx2 nm2 0 kb) (A := lo2) (B := w2.heap.size) (g0 := w2.heap.size) (cur := #[.int .i64 kd2, .string ⟨tx2.toArray⟩, .int .i64 nm2, .int .i64 0, .string ⟨#[]⟩, .int .i64 0, .slice ao3 kb.length cp3]) (by simp [Act.eval]) (RowI.ag row0 (aw2 aw0 (by omega)) (Nat.le_refl _) (Nat.le_refl _)) (by simp [Act.eval]) (bw0 (by omega)) ((Nd.mk (kd := kd2) (tx := tx2) (nm := nm2) (ps := 0) row2).ag (aw2 aw0 (by simp <;> omega))) rfl one7 (by omega) (by simp <;> omega) (by simp <;> omega) (by omega) (by simp <;> omega) (by omega) ?_; intro g3 cp4 w3 hrw3 hgA hat3 hgl3; have hob := row0.own; have hz3 := hgA.size; (try simp at hz3); (try simp at hat3); have G3 : w.grownBy w3 none := grown_own (gw2 (by go_wf)) hgA (fun x hx => by have := hob x hx; omega); have bl0_3 := BL.own (bw2 bl0_2) hgA (fun e => by have := hob _ e.symm; omega); have bl1_3 := BL.own (bw2 bl1_2) hgA (fun e => by have := hob _ e.symm; omega); have bl2_3 := BL.own (bw2 bl2_2) hgA (fun e => by have := hob _ e.symm; omega); have zc2_3 := bl2_3.cell; have fz2_3 := bl2_3.frozen; have hl2_3 := bl2_3.lt) | (go_simp; go_at_call 12; (refine (unhide HC _ ((unhide Q0).grown (by (repeat (first | with_reducible assumption | with_reducible exact grown_refl _ _ | with_reducible refine grown_drew ?_ | with_reducible refine grown_alloc ?_ _ | (with_reducible refine grown_set ?_ _ (by first | (left; omega) | (left; simp <;> omega)))))))).mono ?_; rintro e w2 ⟨hg, ao3, cp3, rfl, hrow⟩; have hz2 := hg.size; (try simp at hz2); have G2 : w.grownBy w2 none := grown_trans (by (repeat (first | with_reducible assumption | with_reducible exact grown_refl _ _ | with_reducible refine grown_drew ?_ | with_reducible refine grown_alloc ?_ _ | (with_reducible refine grown_set ?_ _ (by first | (left; omega) | (left; simp <;> omega)))))) hg; replace row0 := RowI.ag row0 (Ag.quiet (by (repeat (first | with_reducible exact Ag.refl _ _ _ | with_reducible refine Ag.drew ?_))) hg (by first | omega | (simp <;> omega))) (Nat.le_refl _) (Nat.le_refl _); have bl0_2 := BL.quiet (show BL _ w.heap.size (.cells #[.int .i64 kd, .string ⟨tx.toArray⟩, .int .i64 nm, .int .i64 ps, .string ⟨#[]⟩, .int .i64 0, .slice (some ⟨g, 0, none⟩) kids.length cp] 24) by (repeat (first | with_reducible assumption | with_reducible refine BL.drew ?_ | (with_reducible refine BL.new ?_; (first | omega | (simp <;> omega))) | with_reducible refine BL.alloc ?_ _ | (with_reducible refine BL.set ?_ _ ?_; rotate_left; (first | omega | (simp <;> omega)))))) hg; have bl1_2 := BL.quiet (show BL _ (w.heap.size + 1) nd0 by (repeat (first | with_reducible assumption | with_reducible refine BL.drew ?_ | (with_reducible refine BL.new ?_; (first | omega | (simp <;> omega))) | with_reducible refine BL.alloc ?_ _ | (with_reducible refine BL.set ?_ _ ?_; rotate_left; (first | omega | (simp <;> omega)))))) hg; have bl2_2 := BL.quiet (show BL _ (w.heap.size + 2) (.cells #[.int .i64 kd, .string ⟨tx.toArray⟩, .int .i64 nm, .int .i64 0, .string ⟨#[]⟩, .int .i64 0, .slice ao0 acc.length cp0] 24) by (repeat (first | with_reducible assumption | with_reducible refine BL.drew ?_ | (with_reducible refine BL.new ?_; (first | omega | (simp <;> omega))) | with_reducible refine BL.alloc ?_ _ | (with_reducible refine BL.set ?_ _ ?_; rotate_left; (first | omega | (simp <;> omega)))))) hg; have zc2_2 := bl2_2.cell; have fz2_2 := bl2_2.frozen; have hl2_2 := bl2_2.lt; obtain ⟨lo2, hlo2, row2⟩ := hrow.named; (try simp at hlo2))))
     all_goals
      have hlen : (acc ++ [(.mk kd2 tx2 nm2 0 kb : Px.Tree)]).length = acc.length + 1 := by simp
      have rowz : RowI (w3.setCell ⟨w.heap.size + 2, 6, none⟩ (.slice (some ⟨g3, 0, none⟩) (acc.length + 1) cp4)) (w.heap.size + 3) w3.heap.size (.slice (some ⟨g3, 0, none⟩) (acc.length + 1) cp4) (acc ++ [(.mk kd2 tx2 nm2 0 kb : Px.Tree)]) := RowI.wide (hrw3 _ (by simp) (Ag.one (aw3 aw0 (by simp <;> omega))) (aw3 aw0 (by simp <;> omega)) (aw3 aw0 (by simp <;> omega))) (Nat.le_refl _) (by simp)
      have hx1 : acc ++ [(.mk kd2 tx2 nm2 0 kb : Px.Tree)] = (kids.take (j + 1)).map er := by rw [take_one (unhide EK), er_mk, ← unhide HKB, ← unhide HACC]
      have hx2 : (acc ++ [(.mk kd2 tx2 nm2 0 kb : Px.Tree)]).length = j + 1 := by rw [hlen, unhide HAL]
      have H1 := hide hx1
      have H2 := hide hx2
      clear hx1 hx2
      go_wp2
      go_roundg (kids.length + 1 - (j + 1))
      case measure => omega
      case rel =>
       refine ⟨j + 1, acc ++ [(.mk kd2 tx2 nm2 0 kb : Px.Tree)], some ⟨g3, 0, none⟩, cp4, rfl, by omega, by go_num, unhide H1, unhide H2, by (repeat (first | with_reducible assumption | with_reducible exact grown_refl _ _ | with_reducible refine grown_drew ?_ | with_reducible refine grown_alloc ?_ _ | (with_reducible refine grown_set ?_ _ (by first | (left; omega) | (left; simp <;> omega))))), by (repeat (first | with_reducible assumption | with_reducible refine BL.drew ?_ | (with_reducible refine BL.new ?_; (first | omega | (simp <;> omega))) | with_reducible refine BL.alloc ?_ _ | (with_reducible refine BL.set ?_ _ ?_; rotate_left; (first | omega | (simp <;> omega))))), by (repeat (first | with_reducible assumption | with_reducible refine BL.drew ?_ | (with_reducible refine BL.new ?_; (first | omega | (simp <;> omega))) | with_reducible refine BL.alloc ?_ _ | (with_reducible refine BL.set ?_ _ ?_; rotate_left; (first | omega | (simp <;> omega))))), ?_, ?_⟩
       ·rw [hlen]
        apply BL.put2 bl2_3; rfl
       ·rw [hlen]
        exact RowI.wide rowz (Nat.le_refl _) (by simp)
    ·have hltz : ¬ (j : Int) < kids.length := by omega
     have hjn : j = kids.length := by omega
     have hfin := hide (show acc = kids.map er by rw [unhide HACC, hjn, List.take_length])
     have hle := hide (show kids.length = acc.length by rw [unhide HAL]; exact hjn.symm)
     go_wp2
     refine bodyPost_ret (v := .agg #[.int .i64 kd, .string ⟨tx.toArray⟩, .int .i64 nm, .int .i64 0, .string ⟨#[]⟩, .int .i64 0, .slice ao0 acc.length cp0]) (by simp [results, Tryz.results12, go_sem, *]) rfl ⟨by (repeat (first | with_reducible assumption | with_reducible exact grown_refl _ _ | with_reducible refine grown_drew ?_ | with_reducible refine grown_alloc ?_ _ | (with_reducible refine grown_set ?_ _ (by first | (left; omega) | (left; simp <;> omega))))), ao0, cp0, by rw [unhide hle], ?_⟩
     rw [← unhide hfin, unhide hle]
     exact RowI.ag row0 (by (repeat (first | with_reducible exact Ag.refl _ _ _ | with_reducible refine Ag.drew ?_ | with_reducible refine Ag.alloc ?_ _ (by first | (simp <;> omega) | omega) | with_reducible refine Ag.set ?_ _ (by first | (left; simp <;> omega) | (left; omega))))) (by omega) (by simp)
def Good (l : List UInt8) (kids : List Tree) : Prop := (lexR l).2.1 = 0 ∧ ∃ s k', runF (lexR l).1 = .ok [nd 1 [] 0 kids] s k'
theorem Parse_good (s : ByteArray) (kids : List Tree) (w : World) (hv : Vars w) (hg : Good s.toList kids) : Calls Tryz.prog 15 #[.string s] w fun e w' => Below w.heap.size w w' ∧ ∃ ao cp, e = .returned (.tuple #[.agg #[.int .i64 1, .string ⟨#[]⟩, .int .i64 0, .int .i64 0, .string ⟨#[]⟩, .int .i64 0, .slice ao kids.length cp], .agg #[.int .i64 0, .int .i64 0]]) ∧ KidsAt w' (.slice ao kids.length cp) kids := by
 refine (Parse_any s w hv).mono ?_
 rintro e w' ⟨hb, hp⟩
 obtain ⟨h0, s, k', hr⟩ := hg
 refine ⟨hb, ?_⟩
 rcases hp with ⟨h, rfl⟩ | ⟨h, kd, tx, nm, ps, kids2, s2, k2, ao, cp, hr2, rfl, hrow⟩ | ⟨h, p, hr2, rfl⟩
 ·exact absurd h0 h
 ·rw [hr] at hr2
  simp only [nd, R.ok.injEq, List.cons.injEq, Px.Tree.mk.injEq, and_true] at hr2
  obtain ⟨⟨rfl, rfl, rfl, rfl, rfl⟩, _, _⟩ := hr2
  exact ⟨ao, cp, rfl, KidsAt.of hrow (Nat.le_refl _)⟩
 ·rw [hr] at hr2; cases hr2
end Go.Proofs.YtgckmkiiheaeaaaGreatDoor.Jj
