import Derived.Test.YtfkfccpjfagamaaGreatDoorZh
set_option linter.all false
namespace Ex
open Go Go.MapKept
noncomputable section
-- the functions of the mask m are run with their regions looked at each time
def inM (m f : Nat) : Bool := Nat.beq (Nat.mod (Nat.shiftRight m f) 2) 1
def callXM (P : Program) (m : Nat) (ih : Call) (pn : Option (Option V)) (f : Nat) (args : V) (h : H) : O E := bif inM m f then callS P ih pn f args h else callXS P ih pn f args h
-- calls whose answers are known, without a run
def callYS (P : Program) (orc : Nat → V → Option V) (m : Nat) (ih : Call) (pn : Option (Option V)) (f : Nat) (args : V) (h : H) : O E := match pn with
  | none => (match orc f args with | some v => .ok (.ret v h false) | none => callXM P m ih none f args h)
  | some p => callXM P m ih (some p) f args h
def callYT (P : Program) (orc : Nat → V → Option V) (m : Nat) (ih : Call) : Call := ⟨fun pn f args h => callYS P orc m ih pn f args h, fun b args h => roundS P ih b args h⟩
def callY (P : Program) (orc : Nat → V → Option V) (m n : Nat) : Call := Nat.rec (motive := fun _ => Call) call0 (fun _ ih => callYT P orc m ih) n
def RegsOkM (P : Program) (m : Nat) : Prop := ∀ (f : Nat) (fn : Func) (b : Code), inM m f = false → P.funcs[f]? = some fn → fn.body = some b → codeRegs b = true
theorem callXM_eq {P : Program} {m : Nat} (hp : RegsOkM P m) (ih : Call) (pn : Option (Option V)) (f : Nat) (args : V) (h : H) : callXM P m ih pn f args h = callS P ih pn f args h := by
  unfold callXM
  cases hm : inM m f with
  | true => rfl
  | false =>
    show callXS P ih pn f args h = callS P ih pn f args h
    unfold callXS callS
    rw [show farG 100000 P.funcs.toList f = P.funcs[f]? by rw [farG_eq]; simp]
    cases hf : P.funcs[f]? with
    | none => rfl
    | some fn =>
      cases hb : fn.body with
      | none => simp only [hb]
      | some b =>
        simp only [hb]
        rw [evX_eq _ b (hp f fn b hm hf hb)]
def regOneM (m i : Nat) (fn : Func) : Bool := bif inM m i then true else match fn.body with | some b => codeRegs b | none => true
def regsML (m : Nat) (l : List Func) : Nat → Bool := List.rec (motive := fun _ => Nat → Bool) (fun _ => true) (fun fn _ ih i => bif regOneM m i fn then ih (Nat.succ i) else false) l
def regsM (P : Program) (m : Nat) : Bool := regsML m P.funcs.toList 0
theorem regsML_at (m : Nat) : ∀ (l : List Func) (i : Nat), regsML m l i = true → ∀ (k : Nat) (fn : Func), l[k]? = some fn → regOneM m (i + k) fn = true
  | [], _, _, _, _, e => by simp at e
  | a :: l, i, h, k, fn, e => by
    obtain ⟨h1, h2⟩ := andB (show (bif regOneM m i a then regsML m l (Nat.succ i) else false) = true from h)
    cases k with
    | zero => simp at e; subst e; exact h1
    | succ k =>
      have := regsML_at m l (i + 1) h2 k fn (by simpa using e)
      rw [show i + 1 + k = i + (k + 1) by omega] at this
      exact this
theorem regsM_of {P : Program} {m : Nat} (h : regsM P m = true) : RegsOkM P m := fun f fn b hm hf hb => by
  have := regsML_at m P.funcs.toList 0 h f fn (by simpa using hf)
  rw [Nat.zero_add] at this
  unfold regOneM at this
  rw [hm, hb] at this
  exact this
/-- Is the one text a beginning of the other? -/
def preS (a : Nat) (ih : List Nat → Bool) (l : List Nat) : Bool := match l with | [] => false | b :: s => bif Nat.beq (Nat.mod a 256) (Nat.mod b 256) then ih s else false
def preN (t : List Nat) : List Nat → Bool := List.rec (motive := fun _ => List Nat → Bool) (fun _ => true) (fun a _ ih l => preS a ih l) t
def hitN (t : List Nat) (l : List Nat) : Bool := List.rec (preN t []) (fun a r ih => bif preN t (a :: r) then true else ih) l
/-- Does a word stand in such a list? -/
def inN (s l : List Nat) : Bool := bif isNilL s then false else hitN (32 :: appL s (32 :: [])) l
def shortN (s : List Nat) : Bool := Nat.ble (lenL s) 1000
def orcIn2 (s : List Nat) (r : V) : Option V := match r with
  | .cons y t => (match y with
    | .str l => bif isNilV t then bif shortN s then bif shortN l then some (.bool (inN s l)) else none else none else none
    | _ => none)
  | _ => none
def orcIn (args : V) : Option V := match args with
  | .cons x r => (match x with | .str s => orcIn2 s r | _ => none)
  | _ => none
/-- fa: a call without arguments that answers true; fi: is a word in a list? -/
def orcW (fa fi : Nat) (f : Nat) (args : V) : Option V := bif Nat.beq f fi then orcIn args else bif Nat.beq f fa then (bif isNilV args then some (.bool true) else none) else none
end
section
variable [Base] {P : Program}
def OrcV (P : Program) (orc : Nat → V → Option V) : Prop := ∀ f args v, orc f args = some v → ∀ (ρ : Rho) (h : H) (w : World) (xs : List Value), HR P ρ h w → DV ρ args (LV xs) →
  Calls P f xs.toArray w fun e w' => (∃ x, e = .returned x ∧ DV ρ v x) ∧ RowKit.Below w.heap.size w w'
theorem callY_ok (ng : NG P) (ex : ExtOk P) (wf : WfP P) {m : Nat} (hp : RegsOkM P m) {orc : Nat → V → Option V} (ho : OrcV P orc) : ∀ n, CallB P (callY P orc m n) ∧ CallD P (callY P orc m n)
  | 0 => ⟨⟨fun _ _ _ _ e => (by cases (show O.no 136 = .ok _ from e)), fun _ _ _ _ e => (by cases (show O.no 136 = .ok _ from e))⟩, fun _ _ _ _ _ e => (by cases (show O.no 136 = .ok _ from e))⟩
  | n+1 => by
    obtain ⟨I1, I2⟩ := callY_ok ng ex wf hp ho n
    obtain ⟨⟨J1, J3⟩, J2⟩ := callT_ok ng ex wf I1 I2 (draw_ok ng ex I1)
    refine ⟨⟨fun f args h e he ρ xs w hg hr ha => ?_, J3⟩, fun pn f args h e he => ?_⟩
    · have he' : (match orc f args with | some v => (O.ok (E.ret v h false) : O E) | none => callXM P m (callY P orc m n) none f args h) = .ok e := he
      cases q : orc f args with
      | none =>
        rw [q] at he'
        have he2 : callXM P m (callY P orc m n) none f args h = .ok e := he'
        rw [callXM_eq hp] at he2
        exact J1 f args h e he2 ρ xs w hg hr ha
      | some v =>
        rw [q] at he'
        rw [← okinj (show O.ok (E.ret v h false) = .ok e from he')]
        refine (ho f args v q ρ h w xs hr ha).mono fun en w' k => ?_
        obtain ⟨⟨x, rfl, hx⟩, hb⟩ := k
        exact ⟨ρ, hr.below hb, St.below hb, x, rfl, hx⟩
    · have he2 : callXM P m (callY P orc m n) (some pn) f args h = .ok e := he
      rw [callXM_eq hp] at he2
      exact J2 pn f args h e he2
theorem exec_orcV (ng : NG P) (ex : ExtOk P) (wf : WfP P) {m : Nat} (hp : RegsOkM P m) {orc : Nat → V → Option V} (ho : OrcV P orc) {n f : Nat} {args : V} {h : H} (e : isT ((callY P orc m n).c none f args h) = true) {ρ : Rho} {xs : List Value} {w : World} (hg : Gl ρ) (hr : HR P ρ h w) (ha : DV ρ args (LV xs)) (hro : ∀ b o, h.get b = some o → o.rw = false) :
    Calls P f xs.toArray w fun en w' => en = .returned (.bool true) ∧ RowKit.Below w.heap.size w w' := by
  obtain ⟨h1, rc, e1⟩ := isT_ok e
  refine ((callY_ok ng ex wf hp ho n).1.1 f args h _ e1 ρ xs w hg hr ha).mono fun en w' k => ?_
  obtain ⟨σ, _, st, x, rfl, hx⟩ := k
  cases hx
  exact ⟨rfl, st.os, st.tape, st.output, st.size, fun k hk => st.kept k hk fun hw => by
    obtain ⟨b, o, l, hb, ho, _⟩ := hw
    rw [hro b o hb] at ho; cases ho⟩
/-- What is known: the anchor, and words in lists. -/
theorem orcW_ok {fa fi : Nat} (h1 : fa ≠ fi → ∀ (ρ : Rho) (h : H) (w : World), HR P ρ h w → Calls P fa #[] w fun e w' => e = .returned (.bool true) ∧ RowKit.Below w.heap.size w w')
    (h2 : ∀ (s l : List Nat), s.length ≤ 1000 → l.length ≤ 1000 → ∀ (w : World), Calls P fi #[.string (bs s), .string (bs l)] w fun e w' => e = .returned (.bool (inN s l)) ∧ w = w') : OrcV P (orcW fa fi) := by
  intro f args v e ρ h w xs hr ha
  unfold orcW at e
  have short : ∀ {s : List Nat}, shortN s = true → s.length ≤ 1000 := fun {s} k => by
    have hl := lenL_eq s
    have := ble_le (show Nat.ble (lenL s) 1000 = true from k)
    omega
  cases q : Nat.beq f fi with
  | true =>
    rw [q] at e
    have := beq_eq q
    subst this
    have e' : orcIn args = some v := e
    unfold orcIn at e'
    split at e'
    · rename_i x r
      split at e'
      · rename_i s
        unfold orcIn2 at e'
        split at e'
        · rename_i y t
          split at e'
          · rename_i l
            cases q1 : isNilV t with
            | false => rw [q1] at e'; cases e'
            | true =>
              rw [q1] at e'
              have e2 : (bif shortN s then bif shortN l then some (V.bool (inN s l)) else none else none) = some v := e'
              cases q2 : shortN s with
              | false => rw [q2] at e2; cases e2
              | true =>
                rw [q2] at e2
                have e3 : (bif shortN l then some (V.bool (inN s l)) else none) = some v := e2
                cases q3 : shortN l with
                | false => rw [q3] at e3; cases e3
                | true =>
                  rw [q3] at e3
                  have e4 : v = .bool (inN s l) := by
                    have : some (V.bool (inN s l)) = some v := e3
                    injection this with this; exact this.symm
                  have ht : t = .nil := by cases t <;> first | rfl | cases q1
                  subst ht; subst e4
                  obtain ⟨y1, ys, rfl, hy, hys⟩ := ha.cons_inv
                  obtain ⟨z1, rfl, hz⟩ := one_inv hys
                  cases hy; cases hz
                  refine (h2 s l (short q2) (short q3) w).mono fun en w' k => ?_
                  obtain ⟨rfl, rfl⟩ := k
                  exact ⟨⟨_, rfl, .bool _⟩, RowKit.Below.refl _ _⟩
          · cases e'
        · cases e'
      · cases e'
    · cases e'
  | false =>
    rw [q] at e
    have e0 : (bif Nat.beq f fa then (bif isNilV args then some (V.bool true) else none) else none) = some v := e
    cases q2 : Nat.beq f fa with
    | false => rw [q2] at e0; cases e0
    | true =>
      rw [q2] at e0
      have := beq_eq q2
      subst this
      have e1 : (bif isNilV args then some (V.bool true) else none) = some v := e0
      cases q3 : isNilV args with
      | false => rw [q3] at e1; cases e1
      | true =>
        rw [q3] at e1
        have hn : args = .nil := by cases args <;> first | rfl | cases q3
        subst hn
        have e4 : v = .bool true := by
          have : some (V.bool true) = some v := e1
          injection this with this; exact this.symm
        subst e4
        rw [ha.nil_inv]
        refine (h1 (fun z => by subst z; rw [Nat.beq_refl] at q; cases q) ρ h w hr).mono fun en w' k => ?_
        obtain ⟨rfl, hb⟩ := k
        exact ⟨⟨_, rfl, .bool true⟩, hb⟩
end
end Ex
