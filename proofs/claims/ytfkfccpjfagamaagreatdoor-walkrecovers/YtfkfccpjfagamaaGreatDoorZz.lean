import Derived.Test.YtfkfccpjfagamaaGreatDoorZy
set_option linter.all false
namespace Ex
open Go Go.MapKept
noncomputable section
/-- Nothing in it speaks of memory. -/
def flatB (v : V) : Bool := V.rec (motive := fun _ => Bool) (fun _ => true) (fun _ _ => true) (fun _ => true) true (fun _ _ => false) true (fun _ _ _ _ => false) (fun _ _ _ _ => false) true (fun _ => false) true (fun _ _ _ _ _ => false) (fun _ => false) false true (fun _ _ x => x) (fun _ x => x) (fun _ x => x) true (fun _ _ x y => bif x then y else false) v
def pkS (args a v : V) (ih : Option V) : Option V := bif V.beq args a then some v else ih
def pkV (l : List (V × V)) (args : V) (d : Option V) : Option V := List.rec d (fun p _ ih => pkS args p.1 p.2 ih) l
def pkG (f g : Nat) (a ih : Option V) : Option V := bif Nat.beq f g then a else ih
/-- Calls that are known, one by one, in groups by the function; else what orc says. -/
def orcGrp (tab : List (Nat × List (V × V))) (orc : Nat → V → Option V) (f : Nat) (args : V) : Option V := List.rec (orc f args) (fun p _ ih => pkG f p.1 (pkV p.2 args (orc f args)) ih) tab
def isV (v : V) (x : O E) : Bool := match x with | .ok (.ret u _ _) => V.beq v u | _ => false
def hE : H := hOf [] 10
end
def locE : Nat → Option Loc := fun n => if n ≤ 9 then some ⟨n, 0, 0⟩ else none
theorem hE_get [Base] (b : K) : hE.get b = none := by
  rw [key_of b]; exact hOf_get 10 [] _
theorem startE (P : Program) (W : World) : letI : Base := ⟨W⟩; HR P (rhoOf locE) hE W ∧ Gl (rhoOf locE) := by
  letI : Base := ⟨W⟩
  refine ⟨hr_of (fun n o h => (by cases h)) (fun n m o q l l' h1 => (by cases h1)) (fun n hn => ?_) ⟨Nat.le_refl _, fun _ _ => rfl, fun k hw => ?_⟩, fun g hg => ⟨0, by rw [rhoOf_key]; exact if_pos (show g ≤ 9 from hg)⟩⟩
  · exact if_neg (by omega)
  · obtain ⟨b, o, l, h1, h2, _⟩ := hw
    have h1' : hE.get b = some o := h1
    rw [hE_get] at h1'; cases h1'
theorem DV.flat {ρ σ : Rho} {v : V} {x : Value} (h : DV ρ v x) : flatB v = true → DV σ v x := by
  induction h with
  | bool b => exact fun _ => .bool b
  | int k n => exact fun _ => .int k n
  | str s => exact fun _ => .str s
  | nilp => exact fun _ => .nilp
  | ptr o h => exact fun e => nomatch (show false = true from e)
  | nils => exact fun _ => .nils
  | sl o n c h => exact fun e => nomatch (show false = true from e)
  | slu o n d h hd => exact fun e => nomatch (show false = true from e)
  | nilmap => exact fun _ => .nilmap
  | map h => exact fun e => nomatch (show false = true from e)
  | nilfn => exact fun _ => .nilfn
  | fn f hx hy => exact fun e => nomatch (show false = true from e)
  | yld h => exact fun e => nomatch (show false = true from e)
  | sle a c => exact fun e => nomatch (show false = true from e)
  | nili => exact fun _ => .nili
  | iface t h ih => exact fun e => .iface t (ih e)
  | agg h ho ih => exact fun e => .agg (ih e) ho
  | tup h ih => exact fun e => .tup (ih e)
  | nil => exact fun _ => .nil
  | @cons v l x xs h hl ih1 ih2 =>
    intro e
    have e' : (bif flatB v then flatB l else false) = true := e
    cases q : flatB v with
    | false => rw [q] at e'; cases e'
    | true => rw [q] at e'; exact .cons (ih1 q) (ih2 e')
/-- A call on plain values comes to this plain value, from any world. -/
def Known (P : Program) (f : Nat) (args v : V) : Prop := ∀ (ρ : Rho) (w : World) (xs : List Value), DV ρ args (LV xs) →
  Calls P f xs.toArray w fun e w' => (∃ x, e = .returned x ∧ DV ρ v x) ∧ RowKit.Below w.heap.size w w'
theorem look_ok [Base] {P : Program} {orc : Nat → V → Option V} (ho : OrcV P orc) {f : Nat} {args v : V} : ∀ {l : List (V × V)}, (∀ p ∈ l, Known P f p.1 p.2) → pkV l args (orc f args) = some v → ∀ (ρ : Rho) (h : H) (w : World) (xs : List Value), HR P ρ h w → DV ρ args (LV xs) →
  Calls P f xs.toArray w fun e w' => (∃ x, e = .returned x ∧ DV ρ v x) ∧ RowKit.Below w.heap.size w w'
  | [], _, e, ρ, h, w, xs, hr, ha => ho f args v e ρ h w xs hr ha
  | p :: r, ht, e, ρ, h, w, xs, hr, ha => by
    have e' : (bif V.beq args p.1 then some p.2 else pkV r args (orc f args)) = some v := e
    cases q2 : V.beq args p.1 with
    | false => rw [q2] at e'; exact look_ok ho (fun q hq => ht q (List.mem_cons_of_mem _ hq)) e' ρ h w xs hr ha
    | true =>
      rw [q2] at e'
      have e2 : p.2 = v := by
        have : some p.2 = some v := e'
        injection this
      have h2 := V.beq_eq q2
      subst h2; subst e2
      exact ht p List.mem_cons_self ρ w xs ha
theorem orcGrp_ok [Base] {P : Program} {orc : Nat → V → Option V} (ho : OrcV P orc) : ∀ {tab : List (Nat × List (V × V))}, (∀ p ∈ tab, ∀ q ∈ p.2, Known P p.1 q.1 q.2) → OrcV P (orcGrp tab orc)
  | [], _ => ho
  | p :: r, ht => by
    intro f args v e ρ h w xs hr ha
    have ih := orcGrp_ok ho (tab := r) fun q hq => ht q (List.mem_cons_of_mem _ hq)
    have e' : (bif Nat.beq f p.1 then pkV p.2 args (orc f args) else orcGrp r orc f args) = some v := e
    cases q : Nat.beq f p.1 with
    | false => rw [q] at e'; exact ih f args v e' ρ h w xs hr ha
    | true =>
      rw [q] at e'
      have h1 := beq_eq q
      subst h1
      exact look_ok ho (ht p List.mem_cons_self) e' ρ h w xs hr ha
theorem isV_ok [Base] {v : V} {x : O E} (h : isV v x = true) : ∃ h1 rc, x = .ok (.ret v h1 rc) := by
  unfold isV at h
  split at h
  · rename_i u h1 rc
    rw [V.beq_eq h]; exact ⟨h1, rc, rfl⟩
  · cases h
/-- Out of a closed run. -/
theorem known_of {P : Program} (ng : NG P) (ex : ∀ [Base], ExtOk P) (wf : WfP P) {m : Nat} (hp : RegsOkM P m) {orc : Nat → V → Option V} (ho : ∀ [Base], OrcV P orc) {n f : Nat} {args v : V} (e : isV v ((callY P orc m n).c none f args hE) = true) (h1 : flatB args = true) (h2 : flatB v = true) : Known P f args v := by
  intro ρ w xs ha
  letI : Base := ⟨w⟩
  obtain ⟨hr, gl⟩ := startE P w
  obtain ⟨h1', rc, e1⟩ := isV_ok e
  refine ((callY_ok ng ex wf hp ho n).1.1 f args hE _ e1 (rhoOf locE) xs w gl hr (ha.flat h1)).mono fun en w' k => ?_
  obtain ⟨σ, _, st, x, rfl, hx⟩ := k
  refine ⟨⟨x, rfl, hx.flat h2⟩, st.os, st.tape, st.output, st.size, fun k hk => st.kept k hk fun hw => ?_⟩
  obtain ⟨b, o, l, hb, ho, _⟩ := hw
  have hb' : hE.get b = some o := hb
  rw [hE_get] at hb'; cases hb'
end Ex
